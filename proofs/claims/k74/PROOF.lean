import PyProof.Rows.All
import Wide.All
import OpenK.AllK
import Wide.FinOn
import PyProof.EqAt
import PyProof.EqKinds
import PyProof.TupleCall
import PyProof.StrBlockH
import PyProof.StrWalks
import PyProof.StrCalls
import PyProof.SetRoads
import PyProof.DictRoadsH
import Lean
import PySem.Challenge.RW_foreseehall_k74_players_refused
open List (mem_append_right mem_append_left getElem?_eq_getElem length_set append_assoc mem_cons_of_mem length_map getElem?_map mem_cons_self getD_eq_getElem?_getD mem_of_getElem? getElem?_set_ne size_toArray getElem?_set_self length_append set_set map_cons getElem?_append_right getElem?_append_left nodup_nil mem_cons not_mem_nil lookup_cons map_map flatten_cons append_nil all_eq_true nil_append length_filter_le length_cons replicate_succ length_singleton contains_iff_mem any_eq_true length_take getElem_mem perm_append_comm getElem?_eq_none exists_mem_of_ne_nil take_of_length_le getElem?_replicate drop_eq_getElem_cons getElem?_cons_succ filterMap_cons of_mem_zip foldl_cons getElem?_toArray drop_eq_nil_of_le ext_getElem? mem_range mem_map filter_cons getElem?_range drop_of_length_le)
set_option Elab.async false
set_option linter.all false
set_option maxRecDepth 100000
set_option maxHeartbeats 4000000
set_option maxRecDepth 10000
abbrev Fg:=PySem.W.Frag
theorem KG {α:Type _} {a:α} (s:List α) {t:List α} (h:a∈t):a∈s++t:=List.mem_append_right s h
theorem KH {α:Type _} {a:α} {s:List α} (t:List α) (h:a∈s):a∈s++t:=List.mem_append_left t h
theorem KI {α:Type _} {a:α} {s t:List α} (h:a∈s++t):a∈s\/a∈t:=List.mem_append.mp h
theorem KJ {α:Type _} {a b:α} {t:List α} (h:a∈b::t):a=b\/a∈t:=List.mem_cons.mp h
theorem KL {α:Type _} {l:List α} {i:Nat} (h:i<l.length):l[i]?=some l[i]:=List.getElem?_eq_getElem h
theorem KM {α:Type _} {l:List α} {i:Nat} {a:α}:l.getD i a=l[i]?.getD a:=List.getD_eq_getElem?_getD
theorem KN {α:Type _} (y:α) {a:α} {l:List α} (h:a∈l):a∈y::l:=List.mem_cons_of_mem y h
abbrev KO {α:Type _} {a b:List α}:=(List.nodup_append (l₁:=a) (l₂:=b)).mp
abbrev KP {α:Type _} {a:α} {l:List α} {i:Nat}:=(List.getElem?_eq_some_iff (l:=l) (i:=i) (a:=a)).mp
abbrev KR:=@PySem.wpAny_bind
abbrev KS:=@PySem.wpAny_pure
abbrev KU:=@PySem.Heap.get?_push_of_some
abbrev KW:=@Nat.le_refl
abbrev KY:=PySem.PyData
namespace L2
open PySem PySem.Spec PyProof.Rows
abbrev kY:=Sum Int Str
def yj:kY->Value->Bool
 | .inl k,v=>Value.isInt k v
 | .inr x,v=>Value.isStrOf x v
def IQ (w:World):kY->Int
 | .inl k=>hashInt k
 | .inr x=>hashStr w x
theorem vd:∀{k:kY} {v:Value},yj k v=true->(∃i t,k=Sum.inl i/\v=Value.int i t)\/(∃x t,k=Sum.inr x/\v=Value.str x t)
 | .inl i,v,h=>by
  obtain ⟨t,e⟩:=Value.isInt_shape (k:=i) (v:=v) h
  exact .inl ⟨i,t,rfl,e⟩
 | .inr x,v,h=>by
  obtain ⟨t,e⟩:=Value.isStrOf_shape (x:=x) (v:=v) h
  exact .inr ⟨x,t,rfl,e⟩
theorem AM (a b:Int):decide ((Sum.inl a:kY)=Sum.inl b)=(a==b):=by
 by_cases e:a=b
 ·subst e;simp
 ·have h:¬(Sum.inl a:kY)=Sum.inl b:=fun q=>e (Sum.inl.inj q)
  rw [decide_eq_false h];exact (beq_eq_false_iff_ne.mpr e).symm
theorem AJ (a b:Str):decide ((Sum.inr a:kY)=Sum.inr b)=decide (a=b):=by
 by_cases e:a=b
 ·subst e;simp
 ·have h:¬(Sum.inr a:kY)=Sum.inr b:=fun q=>e (Sum.inr.inj q)
  rw [decide_eq_false h,decide_eq_false e]
theorem AL (a:Int) (b:Str):decide ((Sum.inl a:kY)=Sum.inr b)=false:=decide_eq_false (fun q=>nomatch q)
theorem AK (a:Str) (b:Int):decide ((Sum.inr a:kY)=Sum.inl b)=false:=decide_eq_false (fun q=>nomatch q)
def GT (prog:Program) (w:World):PySem.KeyKind prog w kY where
 is:=yj
 hash:=IQ w
 inj:=fun v a b ha hb=>by
  rcases vd ha with ⟨i,t,rfl,rfl⟩ | ⟨x,t,rfl,rfl⟩
  ·rcases vd hb with ⟨j,u,rfl,e⟩ | ⟨y,u,rfl,e⟩
   ·injection e with e1 _;rw [e1]
   ·exact nomatch e
  ·rcases vd hb with ⟨j,u,rfl,e⟩ | ⟨y,u,rfl,e⟩
   ·exact nomatch e
   ·injection e with e1 _;rw [e1]
 byValue:=fun k v h=>by
  rcases vd h with ⟨i,t,rfl,rfl⟩ | ⟨x,t,rfl,rfl⟩<;>rfl
 pyHash:=fun hv h=>by
  rcases vd hv with ⟨i,t,rfl,rfl⟩ | ⟨x,t,rfl,rfl⟩
  ·exact wpAny_pyHash_int h
  ·exact wpAny_pyHash_str h
 eqBool:=fun hu hv h=>by
  rcases vd hu with ⟨i,t,rfl,rfl⟩ | ⟨x,t,rfl,rfl⟩
  ·rcases vd hv with ⟨j,u,rfl,rfl⟩ | ⟨y,u,rfl,rfl⟩
   ·rw [AM] at h;exact wpAny_eqBool_int h
   ·rw [AL] at h;exact SeqAt.EqAt.int_str i t y u _ _ _ _ h
  ·rcases vd hv with ⟨j,u,rfl,rfl⟩ | ⟨y,u,rfl,rfl⟩
   ·rw [AK] at h;exact SeqAt.EqAt.str_int x t j u _ _ _ _ h
   ·rw [AJ] at h;exact wpAny_eqBool_str h
 «strs»:=fun k x t v h=>by
  rcases vd h with ⟨i,u,rfl,e⟩ | ⟨y,u,rfl,e⟩
  ·exact nomatch e
  ·injection e with e1 _
   subst e1
   cases v<;>rfl
inductive V where
 | non | bl (b:Bool) | int (i:Int) | str (x:Str) | byt (b:Array UInt8) | flt (b:UInt64) | ref (a:Addr) | ty (n:String)
 deriving DecidableEq
def RelV:V->Value->Prop
 | .non,u=>u=Value.none
 | .bl b,u=>u=Value.bool b
 | .int i,u=>∃t,u=Value.int i t
 | .str x,u=>∃t,u=Value.str x t
 | .byt b,u=>∃t,u=Value.bytes b t
 | .flt b,u=>∃t,u=Value.float b t
 | .ref a,u=>u=Value.ref a
 | .ty n,u=>u=Value.type n
abbrev Vals:List V->List Value->Prop:=Paired RelV
theorem Vals.length {xs:List V} {us:List Value} (r:Vals xs us):xs.length=us.length:=Paired.length r
theorem Vals.get:∀{xs:List V} {us:List Value} {i:Nat} {x:V},Vals xs us->xs[i]?=some x->∃u,us[i]?=some u/\RelV x u
 | _,_,_,_,.nil,e=>by simp at e
 | _,_,0,_,.cons r _,e=>by simp at e;subst e;exact ⟨_,rfl,r⟩
 | _,_,i+1,x,.cons _ t,e=>by
  obtain ⟨u,h1,h2⟩:=Vals.get (i:=i) (x:=x) t (by simpa using e)
  exact ⟨u,by simpa using h1,h2⟩
theorem Vals.set {x:V} {u:Value} (r:RelV x u):∀{xs:List V} {us:List Value} (i:Nat),Vals xs us->Vals (xs.set i x) (us.set i u)
 | _,_,_,.nil=>.nil
 | _,_,0,.cons _ t=>.cons r t
 | _,_,i+1,.cons q t=>.cons q (Vals.set r i t)
theorem Vals.append:∀{xs ys:List V} {us ws:List Value},Vals xs us->Vals ys ws->Vals (xs++ys) (us++ws)
 | _,_,_,_,.nil,s=>s
 | _,_,_,_,.cons r t,s=>.cons r (Vals.append t s)
theorem Vals.take:∀{xs:List V} {us:List Value} (n:Nat),Vals xs us->Vals (xs.take n) (us.take n)
 | _,_,0,_=>.nil
 | _,_,_+1,.nil=>.nil
 | _,_,n+1,.cons r t=>.cons r (Vals.take n t)
theorem Vals.drop:∀{xs:List V} {us:List Value} (n:Nat),Vals xs us->Vals (xs.drop n) (us.drop n)
 | _,_,0,r=>r
 | _,_,_+1,.nil=>.nil
 | _,_,n+1,.cons _ t=>Vals.drop n t
def Ea:Option V->Option Value->Prop
 | some v,some u=>RelV v u
 | none,none=>True
 | _,_=>False
def KV {κ:Type}:List (κ×V)->List (κ×Value)->Prop:=Paired fun (p:κ×V) (q:κ×Value)=>p.1=q.1/\RelV p.2 q.2
def kV:kY->V
 | .inl i=>.int i
 | .inr x=>.str x
inductive HO where
 | lst (xs:List V)
 | tup (xs:List V)
 | dK (kvs:List (kY×V)) | dT (kvs:List (List kY×V))
 | set (S:Int->Bool) (n:Nat)
 | ins (C dx:Addr) (fs:List (Str×V))
 | own (x:Addr)
 | xd (fs:List (Str×V))
 | met (f x:Addr)
 | rng (lo hi:Int)
 | frz (o:Obj) (u:HO)
 | tbl (ps:Array Value)
 | ext (φ:Heap->Prop)
abbrev Hp:=Addr->Option HO
def bZ (H:Hp) (a:Addr) (o:HO):Hp:=fun b=>if b=a then some o else H b
theorem gr {H:Hp} {a:Addr} {o:HO}:bZ H a o a=some o:=by unfold bZ;rw [if_pos rfl]
theorem eZ {H:Hp} {a b:Addr} {o:HO} (h:b≠a):bZ H a o b=H b:=by unfold bZ;rw [if_neg h]
theorem rC {H:Hp} {a b:Addr} {o:HO} (h:H a=some o) (h':H b=none):a≠b:=by
 intro e;subst e;rw [h] at h';cases h'
section
variable (P:Program) (w:World)
def ObjOk (H:Hp) (h:Heap) (a:Addr):HO->Prop
 | .lst xs=>xs.length<=sizeLine/\∃(its:List Value) (n:Nat),Vals xs its/\h.get? a=some { cls:=.type "list",data:=.seq its.toArray n }
 | .tup xs=>xs.length<=sizeLine/\∃its:List Value,Vals xs its/\IsTup h a its.toArray
 | .dK kvs=>kvs.length<=sizeLine/\(a==sysModules)=false/\∃vs,KV kvs vs/\h.DictOf (GT P w) a vs
 | .dT kvs=>kvs.length<=sizeLine/\(a==sysModules)=false/\∃xs:List (List kY×Addr×Value),
   Paired (fun (p:List kY×V) (q:List kY×Addr×Value)=>p.1=q.1/\H q.2.1=some (.tup (p.1.map kV))/\RelV p.2 q.2.2) kvs xs /\
   ∃o es ep,h.get? a=some o/\o.ExactDict/\o.data=.dict es ep/\es.toList=xs.map (entryOfKey (tupleKind (GT P w)))/\(xs.map (·.1)).Nodup
 | .set S n=>h.SetOf (intKind P w) a S n
 | .ins C dx fs=>H dx=some (.own a)/\fs.length<=1000/\dx≠a/\h.get? a=some (PySem.W.instObj C dx) /\
   ∃mA,h.Ns1 dx mA/\(∀f,Ea (fs.lookup f) (mA f))/\PySem.Within mA (fs.map (·.1))
 | .own _=>∃o,h.get? a=some o
 | .xd fs=>∃mA,h.Ns1 a mA/\∀f,Ea (fs.lookup f) (mA f)
 | .rng lo hi=>∃t u v,h.get? a=some { cls:=.type "range",data:=.fields #[.int lo t,.int hi u,.int 1 v] }
 | .frz o u=>h.get? a=some o/\ObjOk H h a u
 | .tbl ps=>h.get? a=some { cls:=.none,data:=.fields ps }
 | .met f x=>h.get? a=some (PySem.W.methodObj (.ref f) (.ref x))
 | .ext φ=>φ h/\(∃o,h.get? a=some o)/\∀h1 h2:Heap,φ h1->(∀o,h1.get? a=some o->h2.get? a=some o)->φ h2
def HOk (H:Hp) (h:Heap):Prop:=∀a o,H a=some o->ObjOk P w H h a o
end
section
variable {P:Program} {w:World} {H H':Hp} {h h':Heap} {a:Addr} {o:HO}
theorem ObjOk.lt (x:ObjOk P w H h a o):a<h.objs.size:=by
 cases o with
 | lst xs=>obtain ⟨_,_,_,_,e⟩:=x;exact Heap.lt_size e
 | tup xs=>obtain ⟨_,_,_,p⟩:=x;exact p.lt
 | dK kvs=>obtain ⟨_,_,_,_,o,_,_,e,_⟩:=x;exact Heap.lt_size e
 | dT kvs=>obtain ⟨_,_,_,_,o,_,_,e,_⟩:=x;exact Heap.lt_size e
 | set S n=>obtain ⟨o,_,_,_,e,_⟩:=x;exact Heap.lt_size e
 | ins C dx fs=>obtain ⟨_,_,_,e,_⟩:=x;exact Heap.lt_size e
 | own y=>obtain ⟨_,e⟩:=x;exact Heap.lt_size e
 | xd fs=>obtain ⟨_,⟨_,_,_,e,_⟩,_⟩:=x;exact Heap.lt_size e
 | rng lo hi=>obtain ⟨_,_,_,e⟩:=x;exact Heap.lt_size e
 | frz ob u=>obtain ⟨e,_⟩:=x;exact Heap.lt_size e
 | tbl ps=>exact Heap.lt_size (show h.get? a=some _ from x)
 | met f y=>exact Heap.lt_size (show h.get? a=some _ from x)
 | ext φ=>obtain ⟨_,⟨_,e⟩,_⟩:=x;exact Heap.lt_size e
theorem Paired.mapP {α β:Type} {F G:α->β->Prop}:∀{l₁:List α} {l₂:List β},Paired F l₁ l₂->(∀a b,F a b->G a b)->Paired G l₁ l₂
 | _,_,.nil,_=>.nil
 | _,_,.cons r t,f=>.cons (f _ _ r) (Paired.mapP t f)
theorem ObjOk.stay (x:ObjOk P w H h a o) (k:∀b u,(b=a\/H b=some (.own a))->h.get? b=some u->h'.get? b=some u)
  (ho:∀b,H b=some (.own a)->H' b=some (.own a)) (ht:∀b xs,H b=some (.tup xs)->H' b=some (.tup xs)):ObjOk P w H' h' a o:=by
 induction o with
 | lst xs=>obtain ⟨z,its,n,r,e⟩:=x;exact ⟨z,its,n,r,k _ _ (.inl rfl) e⟩
 | tup xs=>obtain ⟨z,its,r,ob,e,c⟩:=x;exact ⟨z,its,r,ob,k _ _ (.inl rfl) e,c⟩
 | dK kvs=>obtain ⟨z,y,vs,r,ob,es,ep,e,c⟩:=x;exact ⟨z,y,vs,r,ob,es,ep,k _ _ (.inl rfl) e,c⟩
 | dT kvs=>
  obtain ⟨z,y,xs,r,ob,es,ep,e,c⟩:=x;exact ⟨z,y,xs,Paired.mapP r fun p q z=>⟨z.1,ht _ _ z.2.1,z.2.2⟩,ob,es,ep,k _ _ (.inl rfl) e,c⟩
 | set S n=>obtain ⟨ob,es,ep,t,e,c⟩:=x;exact ⟨ob,es,ep,t,k _ _ (.inl rfl) e,c⟩
 | ins C dx fs=>
  obtain ⟨d,z,ne,e,mA,⟨od,es,ep,e2,c⟩,r⟩:=x;exact ⟨ho _ d,z,ne,k _ _ (.inl rfl) e,mA,⟨od,es,ep,k _ _ (.inr d) e2,c⟩,r⟩
 | own y=>obtain ⟨ob,e⟩:=x;exact ⟨ob,k _ _ (.inl rfl) e⟩
 | xd fs=>obtain ⟨mA,⟨od,es,ep,e,c⟩,r⟩:=x;exact ⟨mA,⟨od,es,ep,k _ _ (.inl rfl) e,c⟩,r⟩
 | rng lo hi=>obtain ⟨t,u,v,e⟩:=x;exact ⟨t,u,v,k _ _ (.inl rfl) e⟩
 | frz ob u ih=>obtain ⟨e,q⟩:=x;exact ⟨k _ _ (.inl rfl) e,ih q⟩
 | tbl ps=>
  have e:h.get? a=some { cls:=.none,data:=.fields ps }:=x
  show h'.get? a=some { cls:=.none,data:=.fields ps }
  exact k a _ (.inl rfl) e
 | met f y=>
  have e:h.get? a=some (PySem.W.methodObj (.ref f) (.ref y)):=x
  show h'.get? a=some (PySem.W.methodObj (.ref f) (.ref y))
  exact k a _ (.inl rfl) e
 | ext φ=>obtain ⟨p,⟨o,e⟩,st⟩:=x;exact ⟨st _ _ p fun o q=>k _ _ (.inl rfl) q,⟨o,k _ _ (.inl rfl) e⟩,st⟩
theorem HOk.lt (x:HOk P w H h) (e:H a=some o):a<h.objs.size:=(x a o e).lt
theorem HOk.fresh (x:HOk P w H h) (e:h.objs.size<=a):H a=none:=by
 cases q:H a with
 | none=>rfl
 | some u=>exact absurd (Nat.lt_of_lt_of_le (x.lt q) e) (Nat.lt_irrefl _)
theorem HOk.kept (x:HOk P w H h) (k:∀b u,h.get? b=some u->h'.get? b=some u):HOk P w H h':=fun a o e=>
 (x a o e).stay (fun b u _ q=>k b u q) (fun _ q=>q) fun _ _ q=>q
theorem HOk.laid (x:HOk P w H h) (k:∀b u,h.get? b=some u->h'.get? b=some u) (hp:h.objs.size<=a) (new:ObjOk P w (bZ H a o) h' a o):HOk P w (bZ H a o) h':=fun b u e=>by
 have hn:=x.fresh hp
 by_cases hb:b=a
 ·subst hb;rw [gr] at e;cases e;exact new
 ·rw [eZ hb] at e
  exact (x b u e).stay (fun c v _ q=>k c v q) (fun c q=>by rw [eZ (rC q hn)];exact q) fun c xs q=>by rw [eZ (rC q hn)];exact q
end
def Rd (H:Hp) (a:Addr) (u:HO):Prop:=H a=some u\/∃o,H a=some (.frz o u)
theorem Rd.ok {P:Program} {w:World} {H:Hp} {h:Heap} {a:Addr} {u:HO} (r:Rd H a u) (x:HOk P w H h):ObjOk P w H h a u:=by
 rcases r with r | ⟨o,r⟩
 ·exact x a u r
 ·obtain ⟨_,q⟩:=x a _ r
  exact q
def Gf:Option HO->Prop
 | some (.lst _)=>True
 | some (.dK _)=>True
 | some (.dT _)=>True
 | some (.set _ _)=>True
 | some (.ins _ _ _)=>True
 | some (.ext _)=>True
 | _=>False
section
variable {P:Program} {w:World} {H:Hp} {h h':Heap} {x e:Addr} {o':HO}
theorem HOk.write (ok:HOk P w H h) (mu:Gf (H x)) (he:e=x\/H e=some (.own x)) (k:∀b u,b≠e->h.get? b=some u->h'.get? b=some u) (heo:∃u,h'.get? e=some u)
  (new:ObjOk P w (bZ H x o') h' x o'):HOk P w (bZ H x o') h':=fun b u q=>by
 have nown:∀c y,H c=some (.own y)->c≠x:=fun c y r z=>by subst z;rw [r] at mu;exact mu
 have ntup:∀c xs,H c=some (.tup xs)->c≠x:=fun c xs r z=>by subst z;rw [r] at mu;exact mu
 by_cases hb:b=x
 ·subst hb;rw [gr] at q;cases q;exact new
 ·rw [eZ hb] at q
  by_cases hbe:b=e
  ·have q':H b=some (.own x):=by
    rcases he with z | z
    ·exact absurd (hbe.trans z) hb
    ·rw [hbe];exact z
   rw [q] at q';cases q'
   obtain ⟨v,hv⟩:=heo;exact ⟨v,by rw [hbe];exact hv⟩
  ·refine (ok b u q).stay (fun c v hc r=>k c v ?_ r) (fun c r=>by rw [eZ (nown c b r)];exact r) fun c xs r=>by rw [eZ (ntup c xs r)];exact r
   rcases hc with rfl | hc
   ·exact hbe
   ·rintro rfl
    rcases he with z | z
    ·exact nown c b hc z
    ·rw [hc] at z;cases z;exact hb rfl
end
structure Un (fs ex:List Addr) (H H':Hp) (h h':Heap):Prop where
 keep:∀b o,h.get? b=some o->H b=none->b∉fs->b∉ex->h'.get? b=some o
 slot:∀b o,h.get? b=some o->H b=none->b∈fs->b∉ex->∃sl,h'.get? b=some { o with slots:=sl }
 free:∀b o,h.get? b=some o->H b=none->b∉ex->H' b=none
 there:∀b o,h.get? b=some o->b∉ex->∃o',h'.get? b=some o'
 tups:∀b xs,H b=some (.tup xs)->H' b=some (.tup xs)
 frzs:∀b o u,H b=some (.frz o u)->H' b=some (.frz o u)
 tbls:∀b ps,H b=some (.tbl ps)->∃more,H' b=some (.tbl (ps++more))
section
variable {fs fs' ex ex':List Addr} {H H1 H2:Hp} {h h1 h2 h':Heap} {a x e:Addr} {o:HO}
theorem Un.any (u:Un fs ex H H1 h h1) {b:Addr} {ob:Obj} (q:h.get? b=some ob) (n:H b=none) (hx:b∉ex):∃sl,h1.get? b=some { ob with slots:=sl }:=by
 by_cases hb:b∈fs
 ·exact u.slot b ob q n hb hx
 ·exact ⟨ob.slots,u.keep b ob q n hb hx⟩
theorem Un.kept (k:∀b u,h.get? b=some u->h'.get? b=some u):Un fs ex H H h h':=
 ⟨fun b ob q _ _ _=>k b ob q,fun b ob q _ _ _=>⟨ob.slots,k b ob q⟩,fun _ _ _ n _=>n,fun b ob q _=>⟨ob,k b ob q⟩,fun _ _ q=>q,fun _ _ _ q=>q,fun _ ps q=>⟨#[],by rw [q];simp⟩⟩
theorem Un.refl:Un fs ex H H h h:=Un.kept fun _ _ q=>q
theorem Un.laid (k:∀b u,h.get? b=some u->h'.get? b=some u) (hp:h.objs.size<=a) (hn:H a=none):Un fs ex H (bZ H a o) h h' where
 keep:=fun b u q _ _ _=>k b u q
 slot:=fun b u q _ _ _=>⟨u.slots,k b u q⟩
 free:=fun b u q n _=>by rw [eZ (Nat.ne_of_lt (Nat.lt_of_lt_of_le (Heap.lt_size q) hp))];exact n
 there:=fun b u q _=>⟨u,k b u q⟩
 tups:=fun b xs q=>by rw [eZ (rC q hn)];exact q
 frzs:=fun b u xs q=>by rw [eZ (rC q hn)];exact q
 tbls:=fun b ps q=>⟨#[],by rw [eZ (rC q hn),q];simp⟩
theorem Un.write (mu:Gf (H x)) (he:e=x\/H e=some (.own x)) (k:∀b u,b≠e->h.get? b=some u->h'.get? b=some u) (heo:∃u,h'.get? e=some u):Un fs ex H (bZ H x o) h h':=by
 have hx:∀b,H b=none->b≠x:=fun b n z=>by subst z;rw [n] at mu;exact mu
 have hb:∀b,H b=none->b≠e:=fun b n z=>by
  subst z;rcases he with r | r
  ·exact hx b n r
  ·rw [n] at r;cases r
 have hm:∀b u,H b=some u->¬Gf (some u)->b≠x:=fun b u q nm z=>by subst z;rw [q] at mu;exact nm mu
 refine ⟨fun b u q n _ _=>k b u (hb b n) q,fun b u q n _ _=>⟨u.slots,k b u (hb b n) q⟩,fun b u q n _=>by rw [eZ (hx b n)];exact n,fun b u q _=>?_,
  fun b xs q=>by rw [eZ (hm b _ q fun z=>z)];exact q,fun b u xs q=>by rw [eZ (hm b _ q fun z=>z)];exact q,fun b ps q=>⟨#[],by rw [eZ (hm b _ q fun z=>z),q];simp⟩⟩
 by_cases hbe:b=e
 ·subst hbe;exact heo
 ·exact ⟨u,k b u hbe q⟩
end
def FG (h:Heap) (H:Hp):List Addr:=(List.range h.objs.size).filter fun a=>(H a).isSome
def kI (h:Heap) (H:Hp):Heap:=PySem.W.hideAll h (FG h H)
theorem qi (h:Heap) (H:Hp):(kI h H).objs.size=h.objs.size:=PySem.W.hideAll_size _ _
theorem uj {h:Heap} {H:Hp} {b:Addr} {o:Obj} (e:h.get? b=some o) (n:H b=none):(kI h H).get? b=some o:=
 PySem.W.hideAll_get _ e fun hm=>by
  have q:(H b).isSome=true:=(List.mem_filter.mp hm).2
  rw [n] at q;simp at q
theorem wm {h:Heap} {H:Hp} {b:Addr} {o:Obj} (e:(kI h H).get? b=some o):h.get? b=some o/\H b=none:=by
 have e':h.get? b=some o:=PySem.W.of_hideAll (FG h H) e
 refine ⟨e',?_⟩
 cases q:H b with
 | none=>rfl
 | some x=>
  have hm:b∈FG h H:=List.mem_filter.mpr ⟨List.mem_range.mpr (Heap.lt_size e'),by simp [q]⟩
  have z:(kI h H).get? b=none:=PySem.W.hideAll_none (FG h H) hm
  rw [z] at e;cases e
def xq (g h:Heap) (L:Addr):List (Addr×Obj):=(List.range h.objs.size).filterMap fun a=>if a=L\/(g.get? a).isSome=true then none else (h.get? a).map fun o=>(a,o)
def b7 (g h:Heap) (L d:Addr):List (Addr×Obj):=(xq g h L).filter fun p=>decide (p.1≠d)
structure Mod (K:Fg) (mg:Str->Option Value) (base:Heap):Prop where
 kin:K.In base
 glob:base.Ns mainGlobals mg
 blt:∃mb,base.Ns builtinsNs mb/\∀x:Str,x ≠ "__name__"->mb x=bootBuiltins x
 nolimit:base.NoLimit
structure Cx where
 prog:Program
 w:World
 K:Fg
 mg:Str->Option Value
 base:Heap
 A:Around
 N:List Str
 s₀:Shared
 H₀:Hp
 env:Env
 outer:List Env
 stack:List Env
 ex:List Addr
 fn:Str->Bool
 calm:Bool
 pn:List (Addr×Obj)
 xe:Value->Shared->Prop
def gz (l:List Env):List Addr:=l.filterMap (·.frame)
abbrev Cx.fs (X:Cx):List Addr:=gz X.outer
def BA (sc:Scope) (x:Str):Prop:=sc.names.lookup x=some .local\/sc.names.lookup x=some .cell\/sc.names.lookup x=some .free
def Loc (sc:Scope) (x:Str):Prop:=sc.names.lookup x=some .local\/sc.names.lookup x=some .cell
def Look (env:Env) (h:Heap) (m:Str->Option Value) (x:Str) (u:Value):Prop:=
 (env.kindOf x=some .local/\m x=some u)\/((env.kindOf x=some .cell\/env.kindOf x=some .free)/\∃c,env.cells.lookup x=some c/\h.IsCell c (some u))
structure Cx.Ok (X:Cx):Prop where
 mod:Mod X.K X.mg X.base
 kind:X.env.scope.kind=.function
 glob:X.env.globals=mainGlobals
 blt:X.env.builtins=builtinsNs
 above:X.s₀.heap.objs.size<=X.env.locals
 inj:∀x y c,X.env.cells.lookup x=some c->X.env.cells.lookup y=some c->x=y
 has:∀x,(X.env.kindOf x=some .cell\/X.env.kindOf x=some .free)->∃c,X.env.cells.lookup x=some c
 cab:∀x c,X.fn x=true->X.env.cells.lookup x=some c->X.s₀.heap.objs.size<=c
 hd:X.calm=true->X.A.handled=none
 frames:X.A.frames=some X.stack
 stk:X.stack=X.outer\/(X.stack=X.env::X.outer/\X.env.frame=some X.env.locals)
 exf:∀b∈X.ex,b≠X.env.locals/\∀x c,X.env.cells.lookup x=some c->c≠b
 bs:∀b o,X.base.get? b=some o->X.s₀.heap.get? b=some o/\X.H₀ b=none
 bsz:X.base.objs.size<=X.s₀.heap.objs.size
 noex:∀b o,X.base.get? b=some o->b∉X.ex
 exfs:∀b∈X.ex,b∉X.fs
 funs:X.s₀.heap.FunFrames X.base X.outer
 frf:∀b∈X.fs,X.H₀ b=none
structure Inv (X:Cx) (pins:List (Addr×Obj)) (σ:List (Option V)) (H:Hp) (s:Shared):Prop where
 ok:X.Ok
 os:s.os=X.s₀.os
 bare:AllBare s.gens
 base:Un X.fs X.ex X.H₀ H X.s₀.heap s.heap
 loc:∃m,s.heap.Ns X.env.locals m/\∀(i:Nat) (x:Str) (v:V),X.N[i]?=some x->σ[i]?=some (some v)->BA X.env.scope x->∃u,RelV v u/\Look X.env s.heap m x u
 cell:∀x c,X.env.cells.lookup x=some c->∃v,s.heap.IsCell c v
 free:H X.env.locals=none
 freeC:∀x c,X.env.cells.lookup x=some c->H c=none
 pin:∀p∈X.pn++pins,s.heap.get? p.1=some p.2/\H p.1=none/\p.1≠X.env.locals/\p.1∉X.fs/\∀v,p.2.data≠.cell v
 hok:HOk X.prog X.w H s.heap
 len:σ.length=X.N.length
section
variable {X:Cx} {pins:List (Addr×Obj)} {σ:List (Option V)} {H H':Hp} {s:Shared} {h':Heap}
theorem Cx.Ok.nofr (ok:X.Ok) {b:Addr} {o:Obj} (e:X.base.get? b=some o):b∉X.fs:=fun hb=>by
 have:=(ok.funs.mem hb).1
 rw [e] at this;cases this
theorem Inv.bs (I:Inv X pins σ H s):∀b o,X.base.get? b=some o->s.heap.get? b=some o/\H b=none:=fun b o e=>
 ⟨I.base.keep b o (I.ok.bs b o e).1 (I.ok.bs b o e).2 (I.ok.nofr e) (I.ok.noex b o e),I.base.free b o (I.ok.bs b o e).1 (I.ok.bs b o e).2 (I.ok.noex b o e)⟩
theorem Inv.bk (I:Inv X pins σ H s):∀b o,X.base.get? b=some o->s.heap.get? b=some o:=fun b o e=>(I.bs b o e).1
theorem Inv.mod (I:Inv X pins σ H s):Mod X.K X.mg X.base:=I.ok.mod
theorem Inv.kIn (I:Inv X pins σ H s):X.K.In s.heap:=I.ok.mod.kin.keeps I.bk
theorem Inv.lt (I:Inv X pins σ H s):X.env.locals<s.heap.objs.size:=let ⟨_,hn,_⟩:=I.loc;hn.lt
theorem Inv.sz (I:Inv X pins σ H s):X.s₀.heap.objs.size<=s.heap.objs.size:=Nat.le_trans I.ok.above (Nat.le_of_lt I.lt)
theorem Inv.nofs (I:Inv X pins σ H s) {a:Addr} (h:s.heap.objs.size<=a):a∉X.fs:=fun hb=>by
 obtain ⟨_,o,ho,_⟩:=I.ok.funs.mem hb;exact absurd (Nat.lt_of_lt_of_le (Heap.lt_size ho) (Nat.le_trans I.sz h)) (Nat.lt_irrefl _)
theorem Inv.cne (I:Inv X pins σ H s):∀x c,X.env.cells.lookup x=some c->c≠X.env.locals:=fun x c e z=>by
 obtain ⟨v,o,ho,hd⟩:=I.cell x c e;obtain ⟨m,⟨o',es,ep,ho',hd',_⟩,_⟩:=I.loc;rw [z,ho'] at ho;cases ho;rw [hd'] at hd;cases hd
theorem Inv.funs (I:Inv X pins σ H s):s.heap.FunFrames X.base X.outer:=by
 have all:∀(l:List Env),(∀b∈gz l,b∈X.fs)->X.s₀.heap.FunFrames X.base l->s.heap.FunFrames X.base l:=by
  intro l;induction l with
  | nil=>intro _ _;trivial
  | cons env r ih=>
   intro hs hl;obtain ⟨hk,⟨L,o,hf,hn,ho,hd⟩,hr⟩:=hl;have hL:L∈X.fs:=hs L (by unfold gz;rw [filterMap_cons,hf];exact mem_cons_self)
   obtain ⟨sl,e⟩:=I.base.slot L o ho (I.ok.frf L hL) hL fun z=>I.ok.exfs L z hL
   exact ⟨hk,⟨L,_,hf,hn,e,hd⟩,ih (fun b hb=>hs b (by unfold gz;rw [filterMap_cons,hf];exact KN _ hb)) hr⟩
 exact all X.outer (fun _ hb=>hb) I.ok.funs
theorem Inv.stack (I:Inv X pins σ H s):s.heap.FunFrames X.base X.stack:=by
 rcases I.ok.stk with e | ⟨e,hf⟩
 ·rw [e];exact I.funs
 ·rw [e]
  obtain ⟨m,hn,_⟩:=I.loc;refine .cons (by rw [I.ok.kind];decide) hf hn ?_ I.funs
  exact Heap.get?_none_of_le (Nat.le_trans I.ok.bsz I.ok.above)
theorem Inv.stkSub (I:Inv X pins σ H s):∀b∈gz X.stack,b∈X.env.locals::X.fs:=fun b hb=>by
 rcases I.ok.stk with e | ⟨e,hf⟩
 ·rw [e] at hb;exact KN _ hb
 ·rw [e] at hb
  unfold gz at hb;rw [filterMap_cons,hf] at hb;exact hb
theorem Inv.stkFree (I:Inv X pins σ H s):∀b∈gz X.stack,H b=none:=fun b hb=>by
 rcases KJ (I.stkSub b hb) with e | hb
 ·rw [e];exact I.free
 ·obtain ⟨_,o,ho,_⟩:=I.ok.funs.mem hb
  exact I.base.free b o ho (I.ok.frf b hb) fun z=>I.ok.exfs b z hb
theorem Inv.step {g':Array GenState} {t':Nat} {d':Drawn} {ch:List Addr} (I:Inv X pins σ H s)
  (hch:∀b∈ch,(b∈X.ex\/X.s₀.heap.objs.size<=b)/\b≠X.env.locals/\(∀x c,X.env.cells.lookup x=some c->c≠b)/\∀p∈X.pn++pins,p.1≠b)
  (keep:∀b o,b≠X.env.locals->b∉X.fs->b∉ch->s.heap.get? b=some o->H b=none->h'.get? b=some o)
  (slot:∀b o,b≠X.env.locals->b∈X.fs->b∉ch->s.heap.get? b=some o->H b=none->∃sl,h'.get? b=some { o with slots:=sl }) (free:∀b o,b∉ch->s.heap.get? b=some o->H b=none->H' b=none)
  (there:∀b o,b∉ch->s.heap.get? b=some o->∃o',h'.get? b=some o')
  (tups:∀b xs,H b=some (.tup xs)->H' b=some (.tup xs)) (frzs:∀b o u,H b=some (.frz o u)->H' b=some (.frz o u)) (tbls:∀b ps,H b=some (.tbl ps)->∃more,H' b=some (.tbl (ps++more)))
  (ns:∀m,s.heap.Ns X.env.locals m->h'.Ns X.env.locals m) (hok:HOk X.prog X.w H' h') (hg:AllBare g') :
  Inv X pins σ H' { s with heap:=h',gens:=g',drawn:=d',toks:=t' }:=by
 have neL:∀b o,X.s₀.heap.get? b=some o->b≠X.env.locals:=fun b o e=>Nat.ne_of_lt (Nat.lt_of_lt_of_le (Heap.lt_size e) I.ok.above)
 have neC:∀b o,X.s₀.heap.get? b=some o->b∉X.ex->b∉ch:=fun b o e hx hb=>by
  rcases (hch b hb).1 with z | z
  ·exact hx z
  ·exact absurd (Nat.lt_of_lt_of_le (Heap.lt_size e) z) (Nat.lt_irrefl _)
 have cellK:∀x c,X.env.cells.lookup x=some c->∀v,s.heap.IsCell c v->h'.IsCell c v:=fun x c e v ⟨o,ho,hd⟩=>by
  have nch:c∉ch:=fun z=>(hch c z).2.2.1 x c e rfl
  by_cases hc:c∈X.fs
  ·obtain ⟨sl,q⟩:=slot c o (I.cne x c e) hc nch ho (I.freeC x c e)
   exact ⟨_,q,hd⟩
  ·exact ⟨o,keep c o (I.cne x c e) hc nch ho (I.freeC x c e),hd⟩
 refine ⟨I.ok,I.os,hg,⟨fun b o e n hb hx=>?_,fun b o e n hb hx=>?_,fun b o e n hx=>?_,fun b o e hx=>?_,fun b xs e=>tups b xs (I.base.tups b xs e),fun b o xs e=>frzs b o xs (I.base.frzs b o xs e),fun b ps e=>?_⟩,?_,fun x c e=>?_,?_,fun x c e=>?_,fun p hp=>?_,hok,I.len⟩
 ·exact keep b o (neL b o e) hb (neC b o e hx) (I.base.keep b o e n hb hx) (I.base.free b o e n hx)
 ·obtain ⟨sl,e1⟩:=I.base.slot b o e n hb hx
  obtain ⟨sl',e2⟩:=slot b _ (neL b o e) hb (neC b o e hx) e1 (I.base.free b o e n hx);exact ⟨sl',e2⟩
 ·obtain ⟨o',e1⟩:=I.base.there b o e hx
  exact free b o' (neC b o e hx) e1 (I.base.free b o e n hx)
 ·obtain ⟨o',e1⟩:=I.base.there b o e hx
  exact there b o' (neC b o e hx) e1
 ·obtain ⟨m1,e1⟩:=I.base.tbls b ps e
  obtain ⟨m2,e2⟩:=tbls b _ e1;exact ⟨m1++m2,by rw [e2,Array.append_assoc]⟩
 ·obtain ⟨m,hn,hl⟩:=I.loc
  refine ⟨m,ns m hn,fun i x v e1 e2 e3=>?_⟩
  obtain ⟨u,r,l⟩:=hl i x v e1 e2 e3;refine ⟨u,r,?_⟩
  rcases l with l | ⟨k,c,e,z⟩
  ·exact .inl l
  ·exact .inr ⟨k,c,e,cellK x c e _ z⟩
 ·obtain ⟨v,z⟩:=I.cell x c e
  exact ⟨v,cellK x c e v z⟩
 ·obtain ⟨m,⟨o,_,_,ho,_⟩,_⟩:=I.loc
  exact free _ o (fun z=>(hch _ z).2.1 rfl) ho I.free
 ·obtain ⟨v,o,ho,hd⟩:=I.cell x c e
  exact free c o (fun z=>(hch c z).2.2.1 x c e rfl) ho (I.freeC x c e)
 ·obtain ⟨e,n,ne,nf,d⟩:=I.pin p hp
  have nch:p.1∉ch:=fun z=>(hch p.1 z).2.2.2 p hp rfl
  exact ⟨keep p.1 p.2 ne nf nch e n,free p.1 p.2 nch e n,ne,nf,d⟩
theorem Inv.un {t':Nat} (I:Inv X pins σ H s) (u:Un X.fs [] H H' s.heap h') (hok:HOk X.prog X.w H' h'):Inv X pins σ H' { s with heap:=h',toks:=t' }:=by
 obtain ⟨m,⟨o,es,ep,ho,r⟩,_⟩:=id I.loc;obtain ⟨sl,hL⟩:=u.any ho I.free (by simp)
 exact I.step (g':=s.gens) (d':=s.drawn) (ch:=[]) (fun _ z=>nomatch z) (fun b o _ hb _ e n=>u.keep b o e n hb (by simp)) (fun b o _ hb _ e n=>u.slot b o e n hb (by simp)) (fun b o _ e n=>u.free b o e n (by simp)) (fun b o _ e=>u.there b o e (by simp)) u.tups u.frzs u.tbls (fun m' hm=>by
  obtain ⟨o',es',ep',ho',r'⟩:=hm;rw [ho] at ho';cases ho'
  exact ⟨_,es',ep',hL,r'⟩) hok I.bare
theorem Inv.call {g':Array GenState} {t':Nat} {d':Drawn} {ch:List Addr} (I:Inv X pins σ H s) (u:Un (gz X.stack) ch H H' s.heap h') (hok:HOk X.prog X.w H' h') (hg:AllBare g')
  (hch:∀b∈ch,(b∈X.ex\/X.s₀.heap.objs.size<=b)/\b≠X.env.locals/\(∀x c,X.env.cells.lookup x=some c->c≠b)/\∀p∈X.pn++pins,p.1≠b) :
  Inv X pins σ H' { s with heap:=h',gens:=g',drawn:=d',toks:=t' }:=by
 obtain ⟨m,⟨o,es,ep,ho,r⟩,_⟩:=id I.loc;obtain ⟨sl,hL⟩:=u.any ho I.free fun z=>(hch _ z).2.1 rfl
 exact I.step (ch:=ch) hch (fun b o hL hb hc e n=>u.keep b o e n (fun z=>(KJ (I.stkSub b z)).elim hL hb) hc) (fun b o _ _ hc e n=>u.any e n hc) (fun b o hc e n=>u.free b o e n hc) (fun b o hc e=>u.there b o e hc) u.tups u.frzs u.tbls (fun m' hm=>by
  obtain ⟨o',es',ep',ho',r'⟩:=hm;rw [ho] at ho';cases ho'
  exact ⟨_,es',ep',hL,r'⟩) hok hg
theorem Inv.turned {t':Nat} {it:Addr} (I:Inv X pins σ H s) (k:∀b o,b≠it->s.heap.get? b=some o->h'.get? b=some o) (hn:H it=none) (hL:it≠X.env.locals)
  (h1:it∈X.ex\/X.s₀.heap.objs.size<=it) (h2:∀x c,X.env.cells.lookup x=some c->c≠it) (h3:∀p∈X.pn++pins,p.1≠it):Inv X pins σ H { s with heap:=h',toks:=t' }:=by
 have nit:∀b u,H b=some u->b≠it:=fun b u e z=>by rw [z,hn] at e;cases e
 refine I.step (g':=s.gens) (d':=s.drawn) (ch:=[it]) (fun b hb=>?_) (fun b o _ _ hc e _=>k b o (fun z=>hc (by simp [z])) e) (fun b o _ _ hc e _=>⟨o.slots,k b o (fun z=>hc (by simp [z])) e⟩) (fun _ _ _ _ n=>n)
  (fun b o hc e=>⟨o,k b o (fun z=>hc (by simp [z])) e⟩) (fun _ _ e=>e) (fun _ _ _ e=>e) (fun b ps e=>⟨#[],by rw [e];simp⟩) (fun m hm=>?_) (fun b u e=>?_) I.bare
 ·have e:b=it:=by simpa using hb
  subst e;exact ⟨h1,hL,h2,h3⟩
 ·obtain ⟨o,es,ep,ho,r⟩:=hm
  exact ⟨o,es,ep,k _ o (Ne.symm hL) ho,r⟩
 ·refine (I.hok b u e).stay (fun c v hc q=>k c v ?_ q) (fun _ q=>q) fun _ _ q=>q
  rcases hc with z | z
  ·rw [z];exact nit b u e
  ·exact nit c _ z
theorem Inv.tok (I:Inv X pins σ H s) (t:Nat):Inv X pins σ H { s with toks:=t }:=I.un (h':=s.heap) (t':=t) Un.refl I.hok
theorem Inv.kept {t':Nat} (I:Inv X pins σ H s) (k:∀b u,s.heap.get? b=some u->h'.get? b=some u):Inv X pins σ H { s with heap:=h',toks:=t' }:=I.un (Un.kept k) (I.hok.kept k)
theorem Inv.laid {a:Addr} {o:HO} {t':Nat} (I:Inv X pins σ H s) (k:∀b u,s.heap.get? b=some u->h'.get? b=some u) (hp:s.heap.objs.size<=a) (new:ObjOk X.prog X.w (bZ H a o) h' a o) :
  Inv X pins σ (bZ H a o) { s with heap:=h',toks:=t' }:=I.un (Un.laid k hp (I.hok.fresh hp)) (I.hok.laid k hp new)
theorem Inv.write {x e:Addr} {o:HO} {t':Nat} (I:Inv X pins σ H s) (mu:Gf (H x)) (he:e=x\/H e=some (.own x)) (k:∀b u,b≠e->s.heap.get? b=some u->h'.get? b=some u) (heo:∃u,h'.get? e=some u)
  (new:ObjOk X.prog X.w (bZ H x o) h' x o):Inv X pins σ (bZ H x o) { s with heap:=h',toks:=t' }:=I.un (Un.write mu he k heo) (I.hok.write mu he k heo new)
theorem Inv.weak {σ':List (Option V)} (I:Inv X pins σ H s) (hl:σ'.length=σ.length) (w:∀(i:Nat) v,σ'[i]?=some (some v)->σ[i]?=some (some v)):Inv X pins σ' H s:=
 ⟨I.ok,I.os,I.bare,I.base,let ⟨m,hn,hl'⟩:=I.loc;⟨m,hn,fun i x v e1 e2 e3=>hl' i x v e1 (w i v e2) e3⟩,I.cell,I.free,I.freeC,I.pin,I.hok,hl.trans I.len⟩
theorem Inv.pins_of {pins':List (Addr×Obj)} (I:Inv X pins σ H s) (h:∀p∈pins',s.heap.get? p.1=some p.2/\H p.1=none/\p.1≠X.env.locals/\p.1∉X.fs/\∀v,p.2.data≠.cell v):Inv X pins' σ H s:=
 ⟨I.ok,I.os,I.bare,I.base,I.loc,I.cell,I.free,I.freeC,fun p hp=>(KI hp).elim (fun z=>I.pin p (KH _ z)) (h p),I.hok,I.len⟩
theorem GO {N:List Str} (hN:N.Nodup) {i j:Nat} {x:Str} (a:N[i]?=some x) (b:N[j]?=some x):i=j:=by
 obtain ⟨h1,e1⟩:=KP a
 obtain ⟨h2,e2⟩:=KP b
 exact (List.getElem_inj hN).mp (e1.trans e2.symm)
theorem jN {M:Model} {A:Around} {E:Value->Shared->Prop} {i:Nat} {x:Str} {v:V} {u:Value} {Q:Unit->Shared->Prop} (I:Inv X pins σ H s) (hN:X.N.Nodup) (hi:X.N[i]?=some x) (hx:Loc X.env.scope x) (r:RelV v u)
  (h:∀s',Inv X pins (σ.set i (some v)) H s'->(∃a,Heap.SameBut a s.heap s'.heap/\(a=X.env.locals\/X.env.cells.lookup x=some a))->Q () s') (hf:X.fn x=true\/X.env.scope.names.lookup x=some .local:=by first | exact .inl rfl | exact .inr rfl | assumption):wpAny M A (storeName X.env x u) Q E s:=by
 obtain ⟨m,hn,hl⟩:=id I.loc;have hcls:(X.env.scope.kind==.class||(X.env.scope.kind==.module&&X.env.locals != X.env.globals))=false:=by rw [I.ok.kind];rfl
 have hiσ:i<σ.length:=by rw [I.len];exact (KP hi).1
 have cne:=I.cne
 have tracked:∀{a:Addr} {h':Heap},(∃o,s.heap.get? a=some o/\H a=none)->Heap.SameBut a s.heap h'->HOk X.prog X.w H h':=fun {a h'} ha hs b ob e=>by
  obtain ⟨_,_,hfree⟩:=ha;refine (I.hok b ob e).stay (fun c w' hc q=>(hs.2 c ?_).trans q) (fun _ q=>q) fun _ _ q=>q
  rintro rfl
  rcases hc with rfl | hc
  ·rw [hfree] at e;cases e
  ·rw [hfree] at hc;cases hc
 rcases hx with hk | hk
 ·refine wpAny_storeName_local hk hn (fun h' hn' hs=>?_) hcls
  obtain ⟨oL,_,_,hoL,_⟩:=id hn;refine h _ ⟨I.ok,I.os,I.bare,⟨fun b o e n hb hx=>?_,fun b o e n hb hx=>?_,I.base.free,fun b o e hx=>?_,I.base.tups,I.base.frzs,I.base.tbls⟩,⟨_,hn',fun j y v' e1 e2 e3=>?_⟩,fun y c e=>?_,I.free,I.freeC,fun p hp=>?_,tracked ⟨oL,hoL,I.free⟩ hs,by simpa using I.len⟩ ⟨_,hs,.inl rfl⟩
  ·exact (hs.2 b (Nat.ne_of_lt (Nat.lt_of_lt_of_le (Heap.lt_size e) I.ok.above))).trans (I.base.keep b o e n hb hx)
  ·obtain ⟨sl,e1⟩:=I.base.slot b o e n hb hx
   exact ⟨sl,(hs.2 b (Nat.ne_of_lt (Nat.lt_of_lt_of_le (Heap.lt_size e) I.ok.above))).trans e1⟩
  ·obtain ⟨o',e1⟩:=I.base.there b o e hx
   exact ⟨o',(hs.2 b (Nat.ne_of_lt (Nat.lt_of_lt_of_le (Heap.lt_size e) I.ok.above))).trans e1⟩
  ·by_cases hj:j=i
   ·subst hj
    rw [hi] at e1;cases e1;rw [getElem?_set_self hiσ] at e2
    cases e2;exact ⟨u,r,.inl ⟨hk,by simp⟩⟩
   ·rw [getElem?_set_ne (Ne.symm hj)] at e2
    obtain ⟨u',r',q⟩:=hl j y v' e1 e2 e3
    refine ⟨u',r',?_⟩
    rcases q with ⟨k,e⟩ | ⟨k,c,e,z⟩
    ·refine .inl ⟨k,?_⟩
     have:y≠x:=fun e=>hj (GO hN e1 (e▸hi))
     simp [this,e]
    ·exact .inr ⟨k,c,e,z.sameBut hs (cne y c e)⟩
  ·obtain ⟨w',z⟩:=I.cell y c e
   exact ⟨w',z.sameBut hs (cne y c e)⟩
  ·obtain ⟨e,n,ne,nf,d⟩:=I.pin p hp
   exact ⟨(hs.2 p.1 ne).trans e,n,ne,nf,d⟩
 ·have hfn:X.fn x=true:=by
   rcases hf with z | z
   ·exact z
   ·rw [z] at hk;cases hk
  obtain ⟨c,hc⟩:=I.ok.has x (.inl hk);obtain ⟨w',z⟩:=I.cell x c hc;refine wpAny_storeName_cell I.ok.kind hk hc z (fun h' hc' hs=>?_)
  obtain ⟨oc,hoc,hocd⟩:=id z;refine h { s with heap:=h' } ⟨I.ok,I.os,I.bare,⟨fun b o e n hb hx=>?_,fun b o e n hb hx=>?_,I.base.free,fun b o e hx=>?_,I.base.tups,I.base.frzs,I.base.tbls⟩,⟨m,hn.sameBut hs (Ne.symm (cne x c hc)),fun j y v' e1 e2 e3=>?_⟩,fun y c' e=>?_,I.free,I.freeC,fun p hp=>?_,tracked ⟨oc,hoc,I.freeC x c hc⟩ hs,by simpa using I.len⟩ ⟨c,hs,.inr hc⟩
  ·exact (hs.2 b (Nat.ne_of_lt (Nat.lt_of_lt_of_le (Heap.lt_size e) (I.ok.cab x c hfn hc)))).trans (I.base.keep b o e n hb hx)
  ·obtain ⟨sl,e1⟩:=I.base.slot b o e n hb hx
   exact ⟨sl,(hs.2 b (Nat.ne_of_lt (Nat.lt_of_lt_of_le (Heap.lt_size e) (I.ok.cab x c hfn hc)))).trans e1⟩
  ·obtain ⟨o',e1⟩:=I.base.there b o e hx
   exact ⟨o',(hs.2 b (Nat.ne_of_lt (Nat.lt_of_lt_of_le (Heap.lt_size e) (I.ok.cab x c hfn hc)))).trans e1⟩
  ·by_cases hj:j=i
   ·subst hj
    rw [hi] at e1;cases e1;rw [getElem?_set_self hiσ] at e2
    cases e2;exact ⟨u,r,.inr ⟨.inl hk,c,hc,hc'⟩⟩
   ·rw [getElem?_set_ne (Ne.symm hj)] at e2
    obtain ⟨u',r',q⟩:=hl j y v' e1 e2 e3
    refine ⟨u',r',?_⟩
    rcases q with q | ⟨k,c',e,z'⟩
    ·exact .inl q
    ·refine .inr ⟨k,c',e,z'.sameBut hs ?_⟩
     rintro rfl
     exact hj (GO hN e1 (I.ok.inj _ _ _ e hc▸hi))
  ·by_cases hcc:c'=c
   ·subst hcc;exact ⟨_,hc'⟩
   ·obtain ⟨w2,z2⟩:=I.cell y c' e
    exact ⟨w2,z2.sameBut hs hcc⟩
  ·obtain ⟨e,n,ne,nf,d⟩:=I.pin p hp
   refine ⟨(hs.2 p.1 ?_).trans e,n,ne,nf,d⟩
   intro q;rw [q,hoc] at e;have q':oc=p.2:=Option.some.inj e
   exact d w' (by rw [<-q'];exact hocd)
theorem ET {M:Model} {A:Around} {E:Value->Shared->Prop} {i:Nat} {x:Str} {v:V} {u:Value} {Q:Unit->Shared->Prop} (I:Inv X pins σ H s) (hN:X.N.Nodup) (hi:X.N[i]?=some x) (hx:Loc X.env.scope x) (r:RelV v u)
  (h:∀s',Inv X pins (σ.set i (some v)) H s'->Q () s') (hf:X.fn x=true\/X.env.scope.names.lookup x=some .local:=by first | exact .inl rfl | exact .inr rfl | assumption):wpAny M A (storeName X.env x u) Q E s:=
 jN I hN hi hx r (fun s' I' _=>h s' I') hf
theorem Inv.call' {s':Shared} {ch:List Addr} (I:Inv X pins σ H s) (ho:s'.os=s.os) (u:Un (gz X.stack) ch H H' s.heap s'.heap) (hok:HOk X.prog X.w H' s'.heap) (hg:AllBare s'.gens)
  (hch:∀b∈ch,(b∈X.ex\/X.s₀.heap.objs.size<=b)/\b≠X.env.locals/\(∀x c,X.env.cells.lookup x=some c->c≠b)/\∀p∈X.pn++pins,p.1≠b):Inv X pins σ H' s':=by
 obtain ⟨h',g',d',t',o'⟩:=s'
 have e:o'=s.os:=ho
 subst e;exact I.call (g':=g') (t':=t') (d':=d') u hok hg hch
end
abbrev XK:=Value->Option Addr->Hp->Prop
abbrev St:=List (Option V)
abbrev VK:=V->Hp->Prop
abbrev TE:=St->Hp->VK->Prop
abbrev TT:=St->Hp->(Bool->Hp->Prop)->Prop
abbrev TA:=St->Hp->(List V->Hp->Prop)->Prop
structure d9 where
 nx:St->Hp->Prop
 rt:VK
 bk:St->Hp->Prop:=fun _ _=>False
 ct:St->Hp->Prop:=fun _ _=>False
abbrev TS:=d9->St->Hp->Prop
def EP (X:Cx) (pins:List (Addr×Obj)) (σ:St) (Q:VK) (u:Value) (s':Shared):Prop:=∃v H',Inv X pins σ H' s'/\RelV v u/\Q v H'
def TP (X:Cx) (pins:List (Addr×Obj)) (σ:St) (Q:Bool->Hp->Prop) (b:Bool) (s':Shared):Prop:=∃H',Inv X pins σ H' s'/\Q b H'
def AP (X:Cx) (pins:List (Addr×Obj)) (σ:St) (Q:List V->Hp->Prop) (us:List Value) (s':Shared):Prop:=∃vs H',Inv X pins σ H' s'/\Vals vs us/\Q vs H'
def SP (X:Cx) (pins:List (Addr×Obj)) (D:d9) (f:Flow) (s':Shared):Prop:=
 match f with
 | .next=>∃σ' H',Inv X pins σ' H' s'/\D.nx σ' H'
 | .brk=>∃σ' H',Inv X pins σ' H' s'/\D.bk σ' H'
 | .cont=>∃σ' H',Inv X pins σ' H' s'/\D.ct σ' H'
 | .ret u=>∃v σ' H',Inv X pins σ' H' s'/\RelV v u/\D.rt v H'
def PE (X:Cx) (e:Expr) (t:TE):Prop:=
 ∀(pins:List (Addr×Obj)) (s:Shared) (σ:St) (H:Hp) (Q:VK),Inv X pins σ H s->t σ H Q->wpAny (model X.prog X.w) X.A (eval e X.env) (EP X pins σ Q) X.xe s
def PT (X:Cx) (e:Expr) (t:TT):Prop:=
 ∀(pins:List (Addr×Obj)) (s:Shared) (σ:St) (H:Hp) (Q:Bool->Hp->Prop),Inv X pins σ H s->t σ H Q->wpAny (model X.prog X.w) X.A (isTrue e X.env (eval e X.env)) (TP X pins σ Q) X.xe s
def PW (X:Cx) (e:Expr) (t:TT):Prop:=
 ∀(whole:Sem Value) (pins:List (Addr×Obj)) (s:Shared) (σ:St) (H:Hp) (Q:Bool->Hp->Prop),Inv X pins σ H s->t σ H Q->wpAny (model X.prog X.w) X.A (isTrue e X.env whole) (TP X pins σ Q) X.xe s
theorem PW.pt {X:Cx} {e:Expr} {t:TT} (h:PW X e t):PT X e t:=h _
def PA (X:Cx) (es:List Expr) (t:TA):Prop:=
 ∀(pos:Pos) (pins:List (Addr×Obj)) (s:Shared) (σ:St) (H:Hp) (Q:List V->Hp->Prop),Inv X pins σ H s->t σ H Q->wpAny (model X.prog X.w) X.A (spliced (backTo pos (starEach es X.env))) (AP X pins σ Q) X.xe s
def PS (X:Cx) (st:Stmt) (t:TS):Prop:=
 ∀(pins:List (Addr×Obj)) (s:Shared) (σ:St) (H:Hp) (D:d9),Inv X pins σ H s->t D σ H->wpAny (model X.prog X.w) X.A (exec st X.env) (SP X pins D) X.xe s
def PSs (X:Cx) (st:List Stmt) (t:TS):Prop:=
 ∀(pins:List (Addr×Obj)) (s:Shared) (σ:St) (H:Hp) (D:d9),Inv X pins σ H s->t D σ H->wpAny (model X.prog X.w) X.A (execs st X.env) (SP X pins D) X.xe s
theorem bM {α:Type} {t:Sem α} {Q Q':α->Shared->Prop} {M:Model} {A:Around} {E:Value->Shared->Prop} {s:Shared} (h:wpAny M A t Q E s) (hQ:∀a s,Q a s->Q' a s):wpAny M A t Q' E s:=wpAny_mono h hQ fun _ _ x=>x
section
variable {X:Cx}
def fS (i:Nat):TE:=fun σ H Q=>∃v,σ[i]?=some (some v)/\Q v H
def tC (v:V):TE:=fun _ H Q=>Q v H
theorem qR {i:Nat} {x:Str} {pos:Pos} (hN:X.N[i]?=some x) (hv:BA X.env.scope x) (hd:(x==("__debug__":Str))=false:=by decide) (hcd:(x==("__classdict__":Str))=false:=by decide):PE X (.Name x pos) (fS i):=by
 intro pins s σ H Q I h;obtain ⟨v,e,h⟩:=h;obtain ⟨m,hn,hl⟩:=I.loc;obtain ⟨u,r,l⟩:=hl i x v hN e hv;have fin:EP X pins σ Q u s:=⟨v,H,I,r,h⟩
 rcases l with ⟨hk,hm⟩ | ⟨hk,c,hc,hcell⟩
 ·exact wpAny_Name (wpAny_loadName_local I.ok.kind hk hn hm fin) hd
 ·rcases hk with hk | hk
  ·exact wpAny_Name (wpAny_loadName_cell I.ok.kind hk hc hcell fin) hd
  ·exact wpAny_Name (wpAny_loadName_free I.ok.kind hk hc hcell fin hcd) hd
theorem Ao {i j pos}:PE X (.Constant (.int i) j pos) (tC (.int i)):=fun _ _ _ H _ I h=>wpAny_Constant_int ⟨.int i,H,I.tok _,⟨_,rfl⟩,h⟩
theorem tw {b j pos}:PE X (.Constant (.bool b) j pos) (tC (.bl b)):=fun _ _ _ H _ I h=>Constant_bool ⟨.bl b,H,I,rfl,h⟩
theorem An {j pos}:PE X (.Constant .none j pos) (tC .non):=fun _ _ _ H _ I h=>Constant_none ⟨.non,H,I,rfl,h⟩
theorem tf {x j pos}:PE X (.Constant (.str x) j pos) (tC (.str x)):=fun _ _ _ H _ I h=>Calls.Constant_str ⟨.str x,H,I.tok _,⟨_,rfl⟩,h⟩
def Gl (X:Cx) (x:Str):Prop:=X.env.kindOf x=some .globalImplicit
theorem Cv {E:Value->Shared->Prop} {pins:List (Addr×Obj)} {s:Shared} {σ:St} {H:Hp} {x:Str} {u:Value} {pos:Pos} {Q:Value->Shared->Prop} (I:Inv X pins σ H s) (hg:Gl X x) (hm:X.mg x=some u) (h:Q u s)
  (hd:(x==("__debug__":Str))=false:=by decide):wpAny (model X.prog X.w) X.A (eval (.Name x pos) X.env) Q E s:=
 Calls.Name_function_global I.ok.kind hg (Calls.loadGlobal_global (by rw [I.ok.glob];exact I.mod.glob.keeps I.bk) hm h) hd
theorem u4 {E:Value->Shared->Prop} {pins:List (Addr×Obj)} {s:Shared} {σ:St} {H:Hp} {x:Str} {u:Value} {pos:Pos} {Q:Value->Shared->Prop} (I:Inv X pins σ H s) (hg:Gl X x) (hm:X.mg x=none) (hv:bootBuiltins x=some u) (h:Q u s)
  (hn:x ≠ "__name__":=by decide) (hd:(x==("__debug__":Str))=false:=by decide):wpAny (model X.prog X.w) X.A (eval (.Name x pos) X.env) Q E s:=by
 obtain ⟨mb,h1,h2⟩:=I.mod.blt;exact Calls.Name_function_global I.ok.kind hg (Calls.loadGlobal_builtin (by rw [I.ok.glob];exact I.mod.glob.keeps I.bk) hm (by rw [I.ok.blt];exact h1.keeps I.bk) ((h2 x hn).trans hv) h) hd
theorem oN {x:Str} {v:V} {u:Value} {pos:Pos} (hg:Gl X x) (hm:X.mg x=some u) (r:RelV v u) (hd:(x==("__debug__":Str))=false:=by decide):PE X (.Name x pos) (tC v):=
 fun _ _ _ H _ I h=>Cv I hg hm ⟨v,H,I,r,h⟩ hd
theorem wb {x:Str} {v:V} {u:Value} {pos:Pos} (hg:Gl X x) (hm:X.mg x=none) (hv:bootBuiltins x=some u) (r:RelV v u) (hn:x ≠ "__name__":=by decide) (hd:(x==("__debug__":Str))=false:=by decide):PE X (.Name x pos) (tC v):=
 fun _ _ _ H _ I h=>u4 I hg hm hv ⟨v,H,I,r,h⟩ hn hd
variable {a b:Expr} {ta tb:TE} {pos:Pos}
variable {tA tB':TT} {b7:List Expr}
def C7 (t u:TT):TT:=fun σ H Q=>t σ H fun c H1=>if c=true then u σ H1 Q else Q false H1
def JC (t u:TT):TT:=fun σ H Q=>t σ H fun c H1=>if c=true then Q true H1 else u σ H1 Q
def C2 (t:TT):TT:=fun σ H Q=>t σ H fun c H1=>Q (!c) H1
theorem vX (ha:PT X a tA):PW X (.BoolOp .And [a] pos) tA:=by
 intro wh pins s σ H Q I h;refine isTrue_and (bM (ha pins s σ H Q I h) fun c s1 e=>?_)
 cases c with
 | true=>exact isTrue_and_nil e
 | false=>exact e
theorem sR (ha:PT X a tA):PW X (.BoolOp .Or [a] pos) tA:=by
 intro wh pins s σ H Q I h;refine isTrue_or (bM (ha pins s σ H Q I h) fun c s1 e=>?_)
 cases c with
 | false=>exact isTrue_or_nil e
 | true=>exact e
theorem Ac (ha:PT X a tA) (hb:PW X (.BoolOp .And (b::b7) pos) tB'):PW X (.BoolOp .And (a::b::b7) pos) (C7 tA tB'):=by
 intro wh pins s σ H Q I h;refine isTrue_and (bM (ha pins s σ H _ I h) fun c s1 ⟨H1,I1,q1⟩=>?_)
 cases c with
 | true=>exact hb wh pins s1 σ H1 Q I1 q1
 | false=>exact ⟨H1,I1,q1⟩
theorem yd (ha:PT X a tA) (hb:PW X (.BoolOp .Or (b::b7) pos) tB'):PW X (.BoolOp .Or (a::b::b7) pos) (JC tA tB'):=by
 intro wh pins s σ H Q I h;refine isTrue_or (bM (ha pins s σ H _ I h) fun c s1 ⟨H1,I1,q1⟩=>?_)
 cases c with
 | true=>exact ⟨H1,I1,q1⟩
 | false=>exact hb wh pins s1 σ H1 Q I1 q1
theorem sU (ha:PT X a tA):PT X (.UnaryOp .Not a pos) (C2 tA):=by
 intro pins s σ H Q I h;exact isTrue_not (ha pins s σ H (fun c H1=>Q (!c) H1) I h)
def xZ (ta tb:TE):TE:=fun σ H Q=>ta σ H fun x H1=>∃c,x=.bl c/\if c=true then tb σ H1 Q else Q (.bl false) H1
def C1 (ta tb:TE):TE:=fun σ H Q=>ta σ H fun x H1=>∃c,x=.bl c/\if c=true then Q (.bl true) H1 else tb σ H1 Q
theorem pe_one {op} {t:TE} (h:PE X a t):PE X (.BoolOp op [a] pos) t:=fun pins s σ H Q I hw=>BoolOp_one (h pins s σ H Q I hw)
theorem Aq (ha:PE X a ta) (hb:PE X (.BoolOp .And (b::b7) pos) tb):PE X (.BoolOp .And (a::b::b7) pos) (xZ ta tb):=by
 intro pins s σ H Q I h;refine BoolOp_and (bM (ha pins s σ H _ I h) fun v s1 ⟨x,H1,I1,r1,q1⟩=>?_)
 obtain ⟨c,rfl,q1⟩:=q1
 cases r1;refine wpAny_truthy_bool ?_
 cases c with
 | true=>exact hb pins s1 σ H1 Q I1 q1
 | false=>exact ⟨.bl false,H1,I1,rfl,q1⟩
theorem Dp (ha:PE X a ta) (hb:PE X (.BoolOp .Or (b::b7) pos) tb):PE X (.BoolOp .Or (a::b::b7) pos) (C1 ta tb):=by
 intro pins s σ H Q I h;refine BoolOp_or (bM (ha pins s σ H _ I h) fun v s1 ⟨x,H1,I1,r1,q1⟩=>?_)
 obtain ⟨c,rfl,q1⟩:=q1
 cases r1;refine wpAny_truthy_bool ?_
 cases c with
 | false=>exact hb pins s1 σ H1 Q I1 q1
 | true=>exact ⟨.bl true,H1,I1,rfl,q1⟩
def JE (t:TT) (ta tb:TE):TE:=fun σ H Q=>t σ H fun c H1=>if c=true then ta σ H1 Q else tb σ H1 Q
theorem tq {c:Expr} (hc:PT X c tA) (ha:PE X a ta) (hb:PE X b tb):PE X (.IfExp c a b pos) (JE tA ta tb):=by
 intro pins s σ H Q I h;refine wpAny_IfExp (bM (hc pins s σ H _ I h) fun d s1 ⟨H1,I1,q1⟩=>?_)
 cases d with
 | true=>exact ha pins s1 σ H1 Q I1 q1
 | false=>exact hb pins s1 σ H1 Q I1 q1
end
def SqL (K:Fg) (H:Hp) (a:Addr) (xs:List V):Prop:=
 Rd H a (.lst xs) \/
  ∃(o:Obj) (its:Array Value) (n:Nat),K.lookup a=some o/\o.cls=.type "list"/\o.dict=none/\o.data=.seq its n/\its.size<=sizeLine/\Vals xs its.toList
def SqT (K:Fg) (H:Hp) (a:Addr) (xs:List V):Prop:=
 Rd H a (.tup xs) \/
  ∃(o:Obj) (its:Array Value) (n:Nat),K.lookup a=some o/\o.cls=.type "tuple"/\o.data=.seq its n/\its.size<=sizeLine/\Vals xs its.toList
def Jm:Value->Option V
 | .none=>some .non
 | .bool b=>some (.bl b)
 | .int i _=>some (.int i)
 | .str x _=>some (.str x)
 | .bytes b _=>some (.byt b)
 | .float b _=>some (.flt b)
 | .ref a=>some (.ref a)
 | .type n=>some (.ty n)
 | _=>none
theorem RelV.abs {x:V} {u:Value} (r:RelV x u):Jm u=some x:=by
 cases x with
 | non=>cases r;rfl
 | bl _=>cases r;rfl
 | int _=>obtain ⟨t,rfl⟩:=r;rfl
 | str _=>obtain ⟨t,rfl⟩:=r;rfl
 | byt _=>obtain ⟨t,rfl⟩:=r;rfl
 | flt _=>obtain ⟨t,rfl⟩:=r;rfl
 | ref _=>cases r;rfl
 | ty _=>cases r;rfl
theorem RelV.inj {x y:V} {u:Value} (r:RelV x u) (q:RelV y u):x=y:=Option.some.inj (r.abs.symm.trans q.abs)
theorem Vals.inj:∀{xs ys:List V} {us:List Value},Vals xs us->Vals ys us->xs=ys
 | _,_,_,.nil,.nil=>rfl
 | _,_,_,.cons r t,.cons r' t'=>by rw [r.inj r',Vals.inj t t']
section
variable {X:Cx} {pins:List (Addr×Obj)} {σ:St} {H:Hp} {s:Shared} {a:Addr} {xs ys:List V}
theorem SqL.of {K:Fg} (h:H a=some (.lst xs)):SqL K H a xs:=.inl (.inl h)
theorem SqT.of {K:Fg} (h:H a=some (.tup xs)):SqT K H a xs:=.inl (.inl h)
theorem Inv.list (I:Inv X pins σ H s) (h:SqL X.K H a xs):∃its:List Value,Vals xs its/\PlainL s.heap a its.toArray/\xs.length<=sizeLine:=by
 rcases h with h | ⟨o,its,n,hk,hc,hd,hs,hz,r⟩
 ·obtain ⟨z,its,n,r,e⟩:=h.ok I.hok
  exact ⟨its,r,⟨_,n,e,rfl,rfl,rfl⟩,z⟩
 ·refine ⟨its.toList,r,⟨o,n,I.kIn a o hk,hc,hd,by simpa using hs⟩,?_⟩
  have e:=r.length
  simp only [Array.length_toList] at e
  omega
theorem Inv.tuple (I:Inv X pins σ H s) (h:SqT X.K H a xs):∃its:List Value,Vals xs its/\IsTup s.heap a its.toArray/\xs.length<=sizeLine:=by
 rcases h with h | ⟨o,its,n,hk,hc,hs,hz,r⟩
 ·obtain ⟨z,its,r,p⟩:=h.ok I.hok
  exact ⟨its,r,p,z⟩
 ·refine ⟨its.toList,r,⟨o,I.kIn a o hk,hc,n,by simpa using hs⟩,?_⟩
  have e:=r.length
  simp only [Array.length_toList] at e
  omega
theorem Inv.list_inj (I:Inv X pins σ H s) (h:SqL X.K H a xs) (h':SqL X.K H a ys):xs=ys:=by
 obtain ⟨its,r,⟨o,n,e,_,_,d⟩,_⟩:=I.list h;obtain ⟨its',r',⟨o',n',e',_,_,d'⟩,_⟩:=I.list h'
 rw [e] at e';cases e'
 rw [d] at d';injection d' with d1 _
 have:its=its':=by simpa using congrArg Array.toList d1
 subst this;exact r.inj r'
theorem Inv.tuple_inj (I:Inv X pins σ H s) (h:SqT X.K H a xs) (h':SqT X.K H a ys):xs=ys:=by
 obtain ⟨its,r,⟨o,e,_,n,d⟩,_⟩:=I.tuple h;obtain ⟨its',r',⟨o',e',_,n',d'⟩,_⟩:=I.tuple h'
 rw [e] at e';cases e'
 rw [d] at d';injection d' with d1 _
 have:its=its':=by simpa using congrArg Array.toList d1
 subst this;exact r.inj r'
end
abbrev Cx.wish (X:Cx) (E:Value->Shared->Prop):Cx:={ X with xe:=E }
abbrev Cx.nox (X:Cx):Cx:=X.wish fun _ _=>False
theorem Cx.Ok.wish {X:Cx} (ok:X.Ok) (E:Value->Shared->Prop):(X.wish E).Ok:=
 ⟨ok.mod,ok.kind,ok.glob,ok.blt,ok.above,ok.inj,ok.has,ok.cab,ok.hd,ok.frames,ok.stk,ok.exf,ok.bs,ok.bsz,ok.noex,ok.exfs,ok.funs,ok.frf⟩
theorem Cx.Ok.unwish {X:Cx} {E:Value->Shared->Prop} (ok:(X.wish E).Ok):X.Ok:=
 ⟨ok.mod,ok.kind,ok.glob,ok.blt,ok.above,ok.inj,ok.has,ok.cab,ok.hd,ok.frames,ok.stk,ok.exf,ok.bs,ok.bsz,ok.noex,ok.exfs,ok.funs,ok.frf⟩
section
variable {X:Cx} {pins:List (Addr×Obj)} {σ:St} {H:Hp} {s:Shared} {E:Value->Shared->Prop}
theorem Inv.wish (I:Inv X pins σ H s) (E:Value->Shared->Prop):Inv (X.wish E) pins σ H s:=⟨I.ok.wish E,I.os,I.bare,I.base,I.loc,I.cell,I.free,I.freeC,I.pin,I.hok,I.len⟩
theorem Inv.unwish (I:Inv (X.wish E) pins σ H s):Inv X pins σ H s:=⟨I.ok.unwish,I.os,I.bare,I.base,I.loc,I.cell,I.free,I.freeC,I.pin,I.hok,I.len⟩
theorem SP.unwish {D:d9} {f:Flow} {s':Shared} (h:SP (X.wish E) pins D f s'):SP X pins D f s':=by
 cases f with
 | next=>obtain ⟨σ',H',I,q⟩:=h;exact ⟨σ',H',I.unwish,q⟩
 | brk=>obtain ⟨σ',H',I,q⟩:=h;exact ⟨σ',H',I.unwish,q⟩
 | cont=>obtain ⟨σ',H',I,q⟩:=h;exact ⟨σ',H',I.unwish,q⟩
 | ret u=>obtain ⟨v,σ',H',I,r,q⟩:=h;exact ⟨v,σ',H',I.unwish,r,q⟩
theorem PSs.nox {st:List Stmt} {t:TS} (h:PSs X.nox st t):PSs X st t:=fun pins s σ H D I hw=>
 wpAny_mono (h pins s σ H D (I.wish _) hw) (fun _ _ q=>q.unwish) fun _ _ z=>False.elim z
end
section
variable {X:Cx} {st:Stmt} {b7:List Stmt} {t u:TS} {e:Expr} {te:TE} {pos:Pos}
def rV:TS:=fun D σ H=>D.nx σ H
def zo (t u:TS):TS:=fun D σ H=>t { D with nx:=u D } σ H
theorem GU:PSs X [] rV:=fun _ _ σ H _ I h=>wpAny_execs_nil ⟨σ,H,I,h⟩
theorem lQ (h1:PS X st t) (h2:PSs X b7 u):PSs X (st::b7) (zo t u):=by
 intro pins s σ H D I h;refine wpAny_execs_cons (bM (h1 pins s σ H { D with nx:=u D } I h) fun f s1 q=>?_)
 cases f with
 | next=>
  obtain ⟨σ',H',I',q⟩:=q;exact h2 pins s1 σ' H' D I' q
 | ret v=>exact q
 | brk=>exact q
 | cont=>exact q
theorem GV (h1:PS X st t):PSs X [st] t:=by
 intro pins s σ H D I h;refine wpAny_execs_cons (bM (h1 pins s σ H D I h) fun f s1 q=>?_)
 cases f with
 | next=>exact wpAny_execs_nil q
 | ret v=>exact q
 | brk=>exact q
 | cont=>exact q
theorem Inv.quiet {pins:List (Addr×Obj)} {σ:St} {H:Hp} {s:Shared} (I:Inv X pins σ H s):interactive X.env=false:=by simp [interactive,I.ok.kind]
def rX (te:TE):TS:=fun D σ H=>te σ H fun _ H1=>D.nx σ H1
theorem oH (he:PE X e te) (hs:swapsWith e none pos.line X.env=pure false:=by rfl):PS X (.Expr e pos) (rX te):=by
 intro pins s σ H D I h;exact wpAny_Expr_any (bM (he pins s σ H _ I h) fun v s1 ⟨x,H1,I1,r1,q1⟩=>⟨σ,H1,I1,q1⟩) I.quiet hs
def CZ (te:TE):TS:=fun D σ H=>te σ H D.rt
theorem sX (he:PE X e te):PS X (.Return (some e) pos) (CZ te):=by
 intro pins s σ H D I h;exact wpAny_Return_some (bM (he pins s σ H _ I h) fun v s1 ⟨x,H1,I1,r1,q1⟩=>⟨x,σ,H1,I1,r1,q1⟩)
def zr (c:TT) (t u:TS):TS:=fun D σ H=>c σ H fun b H1=>if b=true then t D σ H1 else u D σ H1
theorem ye {c:Expr} {a b:List Stmt} {tc:TT} (hc:PT X c tc) (ha:PSs X a t) (hb:PSs X b u):PS X (.If c a b pos) (zr tc t u):=by
 intro pins s σ H D I h;refine wpAny_If (bM (hc pins s σ H _ I h) fun d s1 ⟨H1,I1,q1⟩=>?_)
 cases d with
 | true=>exact ha pins s1 σ H1 D I1 q1
 | false=>exact hb pins s1 σ H1 D I1 q1
end
abbrev TG:=V->St->Hp->(St->Hp->Prop)->Prop
abbrev yB:=List V->St->Hp->(St->Hp->Prop)->Prop
def PG (X:Cx) (target:Expr) (t:TG):Prop:=
 ∀(pins:List (Addr×Obj)) (s:Shared) (σ:St) (H:Hp) (v:V) (u:Value) (Q:St->Hp->Prop),Inv X pins σ H s->RelV v u->t v σ H Q ->
  wpAny (model X.prog X.w) X.A (assign target X.env u) (fun _ s'=>∃σ' H',Inv X pins σ' H' s'/\Q σ' H') X.xe s
def Ge (X:Cx) (ts:List Expr) (t:yB):Prop:=
 ∀(pins:List (Addr×Obj)) (s:Shared) (σ:St) (H:Hp) (vs:List V) (us:List Value) (Q:St->Hp->Prop),Inv X pins σ H s->Vals vs us->t vs σ H Q ->
  wpAny (model X.prog X.w) X.A (assignInOrder ((assignEach ts X.env).map (·.2)) us) (fun _ s'=>∃σ' H',Inv X pins σ' H' s'/\Q σ' H') X.xe s
abbrev BC:=V->V->V->Hp->(Hp->Prop)->Prop
def Eb (X:Cx) (t:BC):Prop:=
 ∀(pins:List (Addr×Obj)) (s:Shared) (σ:St) (H:Hp) (o i v:V) (ov iv u:Value) (Q:Hp->Prop),Inv X pins σ H s->RelV o ov->RelV i iv->RelV v u->t o i v H Q ->
  wpAny (model X.prog X.w) X.A (setItem ov iv u) (fun _ s'=>∃H',Inv X pins σ H' s'/\Q H') X.xe s
abbrev Gd:=V->V->Hp->VK->Prop
def Kd (X:Cx) (op:Operator) (t:Gd):Prop:=
 ∀(pins:List (Addr×Obj)) (s:Shared) (σ:St) (H:Hp) (x y:V) (v u:Value) (Q:VK),Inv X pins σ H s->RelV x v->RelV y u->t x y H Q ->
  wpAny (model X.prog X.w) X.A (inplaceOp op v u) (EP X pins σ Q) X.xe s
section
variable {X:Cx} {pos:Pos}
def gName (i:Nat):TG:=fun v σ H Q=>Q (σ.set i (some v)) H
theorem qX {i:Nat} {x:Str} (hN:X.N.Nodup) (hi:X.N[i]?=some x) (hx:Loc X.env.scope x) (hf:X.fn x=true\/X.env.scope.names.lookup x=some .local:=by first | exact .inl rfl | exact .inr rfl | assumption):PG X (.Name x pos) (gName i):=by
 intro pins s σ H v u Q I r h;exact wpAny_assign_Name (ET I hN hi hx r (fun s' I'=>⟨_,H,I',h⟩) hf)
def wU:yB:=fun vs σ H Q=>vs=[]/\Q σ H
def j1 (t:TG) (u:yB):yB:=fun vs σ H Q=>∃v r,vs=v::r/\t v σ H fun σ' H'=>u r σ' H' Q
theorem EJ:Ge X [] wU:=by
 intro pins s σ H vs us Q I r h;obtain ⟨e,h⟩:=h;subst e
 cases r;exact assignInOrder_nil ⟨σ,H,I,h⟩
theorem u9 {e:Expr} {es:List Expr} {t:TG} {u:yB} (h1:PG X e t) (h2:Ge X es u)
  (hs:(assignEach (e::es) X.env).map (·.2)=assign e X.env::(assignEach es X.env).map (·.2):=by rfl):Ge X (e::es) (j1 t u):=by
 intro pins s σ H vs us Q I r h;obtain ⟨v,vr,e1,h⟩:=h;subst e1
 cases r with
 | cons r rr=>
  rw [hs];refine assignInOrder_cons (bM (h1 pins s σ H _ _ _ I r h) fun _ s1 ⟨σ1,H1,I1,q1⟩=>?_)
  exact h2 pins s1 σ1 H1 _ _ Q I1 rr q1
def wR (K:Fg) (n:Nat) (t:yB):TG:=fun v σ H Q=>∃a xs,v=.ref a/\SqT K H a xs/\xs.length=n/\t xs σ H Q
theorem Ey {es:List Expr} {k:Nat} {t:yB} {n:Nat} (hc:X.calm=true) (h:Ge X es t)
  (hn:(assignEach es X.env).length=n:=by rfl) (hst:(assignEach es X.env).findIdx? (·.1)=none:=by rfl):PG X (.Tuple es k pos) (wR X.K n t):=by
 intro pins s σ H v u Q I r hw;obtain ⟨a,xs,e1,hq,hl,hw⟩:=hw;subst e1
 cases r;obtain ⟨its,rv,ht,hz⟩:=I.tuple hq;refine assign_Tuple_tuple (I.ok.hd hc) ht (by simp [hn,<-hl,rv.length]) hst fun h' hx=>?_
 have I1:Inv X pins σ H { s with heap:=h' }:=I.kept (t':=s.toks) fun b o e=>hx b o (Nat.ne_of_lt (Heap.lt_size e)) e
 exact h pins _ σ H xs _ Q I1 (by simpa using rv) hw
def gSub (to ti:TE) (t:BC):TG:=fun v σ H Q=>to σ H fun o H1=>ti σ H1 fun i H2=>t o i v H2 fun H3=>Q σ H3
theorem Ai {o i:Expr} {to ti:TE} {t:BC} (ho:PE X o to) (hi:PE X i ti) (hs:Eb X t)
  (ha:∀v,assign (.Subscript o i pos) X.env v=(do
   let ov <-holding [v] (eval o X.env)
   let iv <-holding [v,ov] (eval i X.env)
   standAt pos
   holding [v,ov,iv] (setItem ov iv v)
   release [v,ov,iv] []):=by intro _;rfl):PG X (.Subscript o i pos) (gSub to ti t):=by
 intro pins s σ H v u Q I r h;rw [ha];refine KR (wpAny_holding (bM (ho pins s σ H _ I h) fun ov s1 ⟨x,H1,I1,r1,q1⟩=>?_))
 refine KR (wpAny_holding (bM (hi pins s1 σ H1 _ I1 q1) fun iv s2 ⟨y,H2,I2,r2,q2⟩=>?_))
 refine KR (wpAny_standAt (KR (wpAny_holding (bM (hs pins s2 σ H2 x y v ov iv u _ I2 r1 r2 r q2) fun _ s3 ⟨H3,I3,q3⟩=>?_))))
 exact wpAny_release ⟨σ,H3,I3,q3⟩
def kl (te:TE) (g:TG):TS:=fun D σ H=>te σ H fun x H1=>g x σ H1 D.nx
theorem sZ {tg e:Expr} {te:TE} {g:TG} (he:PE X e te) (hg:PG X tg g) (hs:swapsWithSole [tg] e pos.line X.env=pure false:=by rfl) (hw:swappedStores [tg] e X.env=pure none:=by rfl)
  (h1:(assignEach [tg] X.env).map (·.2)=[assign tg X.env]:=by rfl):PS X (.Assign [tg] e pos) (kl te g):=by
 intro pins s σ H D I h;refine wpAny_Assign_stores (bM (he pins s σ H _ I h) fun v s1 ⟨x,H1,I1,r1,q1⟩=>?_) hs hw
 rw [h1];exact bM (hg pins s1 σ H1 x v _ I1 r1 q1) fun _ s2 q=>q
theorem Gr {i:Nat} {x:Str} {e:Expr} {te:TE} {pos':Pos} (hN:X.N.Nodup) (hi:X.N[i]?=some x) (hx:Loc X.env.scope x) (he:PE X e te) (hs:swapsWith e (some (.Name x pos')) pos.line X.env=pure false:=by rfl) (hf:X.fn x=true\/X.env.scope.names.lookup x=some .local:=by first | exact .inl rfl | exact .inr rfl | assumption) :
  PS X (.Assign [.Name x pos'] e pos) (kl te (gName i)):=by
 intro pins s σ H D I h;refine wpAny_Assign_Name (bM (he pins s σ H _ I h) fun v s1 ⟨y,H1,I1,r1,q1⟩=>?_) hs
 exact ET I1 hN hi hx r1 (fun s2 I2=>⟨_,H1,I2,q1⟩) hf
def C6 (i:Nat) (te:TE) (ti:Gd):TS:=fun D σ H=>∃x,σ[i]?=some (some x)/\te σ H fun y H1=>ti x y H1 fun z H2=>D.nx (σ.set i (some z)) H2
theorem Af {i:Nat} {x:Str} {e:Expr} {te:TE} {op:Operator} {ti:Gd} {pos':Pos} (hN:X.N.Nodup) (hi:X.N[i]?=some x) (hx:Loc X.env.scope x) (he:PE X e te) (ho:Kd X op ti) (hf:X.fn x=true\/X.env.scope.names.lookup x=some .local:=by first | exact .inl rfl | exact .inr rfl | assumption) :
  PS X (.AugAssign (.Name x pos') op e pos) (C6 i te ti):=by
 intro pins s σ H D I h;obtain ⟨v,e1,h⟩:=h;obtain ⟨m,hn,hl⟩:=I.loc;have vis:BA X.env.scope x:=by rcases hx with k | k;exact .inl k;exact .inr (.inl k)
 obtain ⟨u,r,l⟩:=hl i x v hi e1 vis;refine wpAny_AugAssign_Name ?_
 have go:wpAny (model X.prog X.w) X.A (eval e X.env) (fun w s₂=>wpAny (model X.prog X.w) X.A (inplaceOp op u w) (fun r s₃=>wpAny (model X.prog X.w) X.A (storeName X.env x r) (fun _=>SP X pins D .next) X.xe s₃) X.xe s₂) X.xe s:=by
  refine bM (he pins s σ H _ I h) fun w s1 ⟨y,H1,I1,r1,q1⟩=>?_
  refine bM (ho pins s1 σ H1 v y u w _ I1 r r1 q1) fun z s2 ⟨zv,H2,I2,r2,q2⟩=>?_
  exact ET I2 hN hi hx r2 (fun s3 I3=>⟨_,H2,I3,q2⟩) hf
 rcases l with ⟨hk,hm⟩ | ⟨hk,c,hc,hcell⟩
 ·exact wpAny_loadName_local I.ok.kind hk hn hm go
 ·rcases hk with hk | hk
  ·exact wpAny_loadName_cell I.ok.kind hk hc hcell go
  ·rcases hx with k | k
   ·have:X.env.scope.names.lookup x=some .free:=hk
    rw [k] at this;cases this
   ·have:X.env.scope.names.lookup x=some .free:=hk
    rw [k] at this;cases this
def J0 (f:Int->Int->Int):Gd:=fun x y H Q=>∃i j,x=.int i/\y=.int j/\Q (.int (f i j)) H
theorem AS:Kd X .Add (J0 fun i j=>i+j):=by
 intro pins s σ H x y v u Q I r1 r2 h;obtain ⟨i,j,e1,e2,q⟩:=h;subst e1;subst e2;obtain ⟨t,rfl⟩:=r1;obtain ⟨t',rfl⟩:=r2;exact iadd_int ⟨.int _,H,I.tok _,⟨_,rfl⟩,q⟩
end
section
variable {X:Cx} {pos:Pos}
def rT (c:TT) (tb:TS):TS:=fun D σ H=>∃W:Nat->St->Hp->Prop,(∃m,W m σ H)/\∀m σ H,W m σ H ->
 c σ H fun b H1=>if b=true then ∃N:St->Hp->Prop,(∀σ' H',N σ' H'->∃m',m'<m/\W m' σ' H')/\tb { D with nx:=N,ct:=N,bk:=D.nx } σ H1 else D.nx σ H1
theorem sW {c:Expr} {body:List Stmt} {tc:TT} {tb:TS} (hp:PassesOwn (model X.prog X.w) X.A X.env X.xe) (hc:PT X c tc) (hb:PSs X body tb):PS X (.While c body [] pos) (rT tc tb):=by
 intro pins s σ H D I h;obtain ⟨W,⟨m0,w0⟩,turn⟩:=h;refine wpAny_While (codeAny_whileLoop (fun n s'=>∃σ' H',Inv X pins σ' H' s'/\W n σ' H') ?_ m0 ⟨σ,H,I,w0⟩)
 rintro n s1 ⟨σ1,H1,I1,w1⟩
 refine wpAny_passesOwn hp (bM (hc pins s1 σ1 H1 _ I1 (turn n σ1 H1 w1)) fun b s2 ⟨H2,I2,q2⟩=>?_)
 cases b with
 | true=>
  obtain ⟨N,hN,q2⟩:=q2;rw [if_pos rfl];refine wpAny_passesOwn hp (bM (hb pins s2 σ1 H2 _ I2 q2) fun f s3 q3=>?_)
  cases f with
  | next=>
   obtain ⟨σ3,H3,I3,n3⟩:=q3;obtain ⟨m',hm,w3⟩:=hN σ3 H3 n3;exact ⟨m',hm,σ3,H3,I3,w3⟩
  | cont=>
   obtain ⟨σ3,H3,I3,n3⟩:=q3;obtain ⟨m',hm,w3⟩:=hN σ3 H3 n3;exact ⟨m',hm,σ3,H3,I3,w3⟩
  | brk=>exact q3
  | ret v=>exact q3
 | false=>
  rw [if_neg Bool.false_ne_true];exact wpAny_execs_nil ⟨σ1,H2,I2,q2⟩
end
structure It where
 go:Nat->Hp->Prop
 yld:Nat->Hp->V->Hp->Prop
 stop:Nat->Hp->Prop
def jH (X:Cx) (pins:List (Addr×Obj)) (H:Hp) (b:Addr):Prop:=
 H b=none/\b≠X.env.locals/\b∉X.fs/\(b∈X.ex\/X.s₀.heap.objs.size<=b)/\(∀x c,X.env.cells.lookup x=some c->c≠b)/\∀p∈X.pn++pins,p.1≠b
theorem Inv.fpOk {X:Cx} {pins:List (Addr×Obj)} {σ:St} {H H':Hp} {s:Shared} {b:Addr} (I:Inv X pins σ H s) (hb:s.heap.objs.size<=b) (hn:H' b=none):jH X pins H' b:=by
 refine ⟨hn,Nat.ne_of_gt (Nat.lt_of_lt_of_le I.lt hb),I.nofs hb,.inr (Nat.le_trans I.sz hb),fun x c e z=>?_,fun p hp z=>?_⟩
 ·obtain ⟨v,q⟩:=I.cell x c e
  exact absurd (Nat.lt_of_lt_of_le q.lt (by rw [z];exact hb)) (Nat.lt_irrefl _)
 ·exact absurd (Nat.lt_of_lt_of_le (Heap.lt_size (I.pin p hp).1) (by rw [z];exact hb)) (Nat.lt_irrefl _)
structure nT (P:Program) (w:World) (K:Fg) (tg:Expr) (J:It) (fp:List Addr) (it:Addr) (tn:Nat->Heap->Prop):Prop where
 mem:it∈fp
 obj:∀i h,tn i h->∀b∈fp,∃o,h.get? b=some o/\∀v,o.data≠.cell v
 keep:∀i h h',tn i h->(∀b∈fp,∀o,h.get? b=some o->h'.get? b=some o)->tn i h'
 item:∀(X:Cx),X.prog=P->X.w=w->X.K=K->X.calm=true->∀(i:Nat) (pins:List (Addr×Obj)) (s:Shared) (σ:St) (H:Hp) (E:Value->Shared->Prop),Inv X pins σ H s->(∀b∈fp,jH X pins H b)->tn i s.heap->J.go i H ->
  wpAny (model P w) X.A (pyNext (.ref it)) (fun r s1=>∃u,r=some u /\
   wpAny (model P w) X.A (letOwnedTupleGo tg (.ref it) u) (fun _ s2=>∃x H',Inv X pins σ H' s2/\RelV x u/\J.yld i H x H'/\tn (i+1) s2.heap/\∀b∈fp,H' b=none) E s1) E s
 done:∀(X:Cx),X.prog=P->X.w=w->X.K=K->X.calm=true->∀(i:Nat) (pins:List (Addr×Obj)) (s:Shared) (σ:St) (H:Hp) (E:Value->Shared->Prop),Inv X pins σ H s->(∀b∈fp,jH X pins H b)->tn i s.heap->J.stop i H ->
  wpAny (model P w) X.A (pyNext (.ref it)) (fun r s1=>r=none/\Inv X pins σ H s1) E s
 self:∀(A:Around) (i:Nat) (s:Shared) (Q:Value->Shared->Prop) (E:Value->Shared->Prop),tn i s.heap->Q (.ref it) s->wpAny (model P w) A (pyIter (.ref it)) Q E s
abbrev TI:=St->Hp->(It->Hp->Prop)->Prop
def Ke (X:Cx) (pins:List (Addr×Obj)) (σ:St) (tg:Expr) (R:It->Hp->Prop) (itv:Value) (s2:Shared):Prop:=
 ∃(it:Addr) (fp:List Addr) (tn:Nat->Heap->Prop) (J:It) (H':Hp),itv=.ref it/\Inv X pins σ H' s2/\nT X.prog X.w X.K tg J fp it tn/\tn 0 s2.heap/\(∀b∈fp,jH X pins H' b)/\R J H'
def PI (X:Cx) (tg iter:Expr) (wi:TI):Prop:=
 ∀(pins:List (Addr×Obj)) (s:Shared) (σ:St) (H:Hp) (R:It->Hp->Prop),Inv X pins σ H s->wi σ H R ->
  wpAny (model X.prog X.w) X.A (eval iter X.env) (fun v s1=>wpAny (model X.prog X.w) X.A (pyIter v) (Ke X pins σ tg R) X.xe s1) X.xe s
theorem oZ {M:Model} {A:Around} {E:Value->Shared->Prop} {s:Shared} {tg:Expr} {it:Addr} {u:Value} {o:Obj} {n:String} {vs:Array Value} {Q:Unit->Shared->Prop} (ho:s.heap.get? it=some o) (hc:o.cls=.type n) (hd:o.data=.fields vs)
  (hn:["enumerate", "zip", "dict_itemiterator", "dict_reverseitemiterator", "odict_iterator", "itertools.zip_longest", "itertools.pairwise"].contains n=false) (hQ:Q () s):wpAny M A (letOwnedTupleGo tg (.ref it) u) Q E s:=by
 unfold letOwnedTupleGo
 cases tg<;>first
  | exact KS hQ
  | (cases u<;>first
      | exact KS hQ
      | (refine KR (wpAny_load ho ?_)
         rw [hc,hd];show wpAny M A (if (["enumerate", "zip", "dict_itemiterator", "dict_reverseitemiterator", "odict_iterator", "itertools.zip_longest", "itertools.pairwise"].contains n&&vs[0]?==some (rawInt _))=true then _ else _) Q E s
         rw [if_neg (by intro h;rw [hn,Bool.false_and] at h;cases h)]
         exact KS hQ))
def Gk (K:Fg) (a:Addr):It:=
 ⟨fun i H=>∃xs x,SqL K H a xs/\xs[i]?=some x,fun i H x H'=>H'=H/\∀xs,SqL K H a xs->xs[i]?=some x,fun i H=>∃xs,SqL K H a xs/\xs.length<=i⟩
def Gi (K:Fg) (a:Addr):It:=
 ⟨fun i H=>∃xs x,SqT K H a xs/\xs[i]?=some x,fun i H x H'=>H'=H/\∀xs,SqT K H a xs->xs[i]?=some x,fun i H=>∃xs,SqT K H a xs/\xs.length<=i⟩
def BE (lo:Int) (n:Nat):It:=⟨fun i _=>i<n,fun i H x H'=>H'=H/\x=.int (lo+i),fun i _=>n<=i⟩
theorem pE {P:Program} {w:World} {K:Fg} {tg:Expr} (a it:Addr):nT P w K tg (Gk K a) [it] it (fun i h=>h.IsListIter it a i) where
 mem:=by simp
 obj:=fun i h st b hb=>by
  have e:b=it:=by simpa using hb
  subst e;obtain ⟨o,e,c,d⟩:=st;exact ⟨o,e,fun v z=>by rw [d] at z;cases z⟩
 keep:=fun i h h' st k=>st.at fun o e=>k it (by simp) o e
 item:=by
  intro X hP hw hK hc i pins s σ H E I hf st hg;subst hP hw hK;obtain ⟨xs,x,hq,hx⟩:=hg;obtain ⟨its,rv,p,hz⟩:=I.list hq;obtain ⟨u,hu,ru⟩:=rv.get hx;obtain ⟨f0,f1,f2,f3,f4,f5⟩:=hf it (by simp)
  refine wpAny_pyNext_list_item st p.isList (x:=u) (by simpa using hu) fun h' st' sb=>?_
  have I1:Inv X pins σ H { s with heap:=h' }:=I.turned (t':=s.toks) (fun b o hb e=>(sb.2 b hb).trans e) f0 f1 f3 f4 f5
  obtain ⟨o,e,c,d⟩:=id st'
  exact ⟨u,rfl,oZ (s:={ s with heap:=h' }) e c d (by decide) ⟨x,H,I1,ru,⟨rfl,fun ys hy=>by rw [I.list_inj hy hq];exact hx⟩,st',fun b hb=>(hf b hb).1⟩⟩
 done:=by
  intro X hP hw hK hc i pins s σ H E I hf st hg;subst hP hw hK;obtain ⟨xs,hq,hx⟩:=hg;obtain ⟨its,rv,p,hz⟩:=I.list hq;obtain ⟨f0,f1,f2,f3,f4,f5⟩:=hf it (by simp)
  have hl:=rv.length
  exact wpAny_pyNext_list_end (I.ok.hd hc) st p.isList (by simp;omega) fun h' eb=>⟨rfl,I.turned (t':=s.toks) (fun b o hb e=>eb b o hb e) f0 f1 f3 f4 f5⟩
 self:=fun _ _ _ _ _ st h=>wpAny_pyIter_listiter st h
theorem m9 {P:Program} {w:World} {K:Fg} {tg:Expr} (a it:Addr):nT P w K tg (Gi K a) [it] it (fun i h=>h.IsTupleIter it a i) where
 mem:=by simp
 obj:=fun i h st b hb=>by
  have e:b=it:=by simpa using hb
  subst e;obtain ⟨o,e,c,d⟩:=st;exact ⟨o,e,fun v z=>by rw [d] at z;cases z⟩
 keep:=fun i h h' st k=>st.at fun o e=>k it (by simp) o e
 item:=by
  intro X hP hw hK hc i pins s σ H E I hf st hg;subst hP hw hK;obtain ⟨xs,x,hq,hx⟩:=hg;obtain ⟨its,rv,p,hz⟩:=I.tuple hq;obtain ⟨u,hu,ru⟩:=rv.get hx;obtain ⟨f0,f1,f2,f3,f4,f5⟩:=hf it (by simp)
  refine wpAny_pyNext_tuple_item st (show s.heap.IsTuple a its.toArray from p) (x:=u) (by simpa using hu) fun h' st' sb=>?_
  have I1:Inv X pins σ H { s with heap:=h' }:=I.turned (t':=s.toks) (fun b o hb e=>(sb.2 b hb).trans e) f0 f1 f3 f4 f5
  obtain ⟨o,e,c,d⟩:=id st'
  exact ⟨u,rfl,oZ (s:={ s with heap:=h' }) e c d (by decide) ⟨x,H,I1,ru,⟨rfl,fun ys hy=>by rw [I.tuple_inj hy hq];exact hx⟩,st',fun b hb=>(hf b hb).1⟩⟩
 done:=by
  intro X hP hw hK hc i pins s σ H E I hf st hg;subst hP hw hK;obtain ⟨xs,hq,hx⟩:=hg;obtain ⟨its,rv,p,hz⟩:=I.tuple hq;obtain ⟨f0,f1,f2,f3,f4,f5⟩:=hf it (by simp)
  have hl:=rv.length
  exact wpAny_pyNext_tuple_end (I.ok.hd hc) st (show s.heap.IsTuple a its.toArray from p) (by simp;omega) fun h' eb=>⟨rfl,I.turned (t':=s.toks) (fun b o hb e=>eb b o hb e) f0 f1 f3 f4 f5⟩
 self:=fun _ _ _ _ _ st h=>wpAny_pyIter_tupleiter st h
theorem nc {P:Program} {w:World} {K:Fg} {tg:Expr} (it:Addr) (lo:Int) (n:Nat):nT P w K tg (BE lo n) [it] it (fun i h=>IsRangeIter h it (lo+(i:Nat)*1) ((n:Int)-(i:Nat)) 1) where
 mem:=by simp
 obj:=fun i h st b hb=>by
  have e:b=it:=by simpa using hb
  subst e;exact ⟨_,st,fun v z=>by
   have z':Data.fields _=Data.cell v:=z
   cases z'⟩
 keep:=fun i h h' st k=>k it (by simp) _ st
 item:=by
  intro X hP hw hK hc i pins s σ H E I hf st hg;subst hP hw hK;obtain ⟨f0,f1,f2,f3,f4,f5⟩:=hf it (by simp)
  have W:=Walks.range (prog:=X.prog) (w:=X.w) (I.ok.hd hc) it lo 1 n
  refine W.item i s _ _ hg st fun v h' tk hv st' kk=>?_
  obtain ⟨t,rfl⟩:=hv;have I1:Inv X pins σ H { s with heap:=h',toks:=tk }:=I.turned (fun b o hb e=>kk b o (by simpa using hb) e) f0 f1 f3 f4 f5
  refine ⟨_,rfl,oZ (s:={ s with heap:=h',toks:=tk }) (n := "range_iterator") st' rfl rfl (by decide) ⟨.int (lo+i),H,I1,⟨t,?_⟩,⟨rfl,rfl⟩,st',fun b hb=>(hf b hb).1⟩⟩
  rw [Int.mul_one]
 done:=by
  intro X hP hw hK hc i pins s σ H E I hf st hg;subst hP hw hK;obtain ⟨f0,f1,f2,f3,f4,f5⟩:=hf it (by simp)
  exact wpAny_pyNext_range_end (I.ok.hd hc) st (by have:n<=i:=hg;omega) fun h' eb=>⟨rfl,I.turned (t':=s.toks) (fun b o hb e=>eb b o hb e) f0 f1 f3 f4 f5⟩
 self:=fun _ _ _ _ _ st h=>wpAny_pyIter_rangeiter st h
section
variable {X:Cx} {tg:Expr}
def yp (K:Fg) (tl:TE):TI:=fun σ H R=>tl σ H fun x H1=>∃a,x=.ref a/\(∃xs,SqL K H1 a xs)/\R (Gk K a) H1
def DI (K:Fg) (tl:TE):TI:=fun σ H R=>tl σ H fun x H1=>∃a,x=.ref a/\(∃xs,SqT K H1 a xs)/\R (Gi K a) H1
theorem v9 {l:Expr} {tl:TE} (hl:PE X l tl):PI X tg l (yp X.K tl):=by
 intro pins s σ H R I h;refine bM (hl pins s σ H _ I h) fun v s1 ⟨x,H1,I1,r1,q1⟩=>?_
 obtain ⟨a,e,⟨xs,hq⟩,q⟩:=q1;subst e
 cases r1;obtain ⟨its,rv,p,hz⟩:=I1.list hq;refine wpAny_pyIter_list p.isList ?_
 refine ⟨s1.heap.objs.size,[s1.heap.objs.size],_,_,H1,rfl,I1.kept (t':=s1.toks) fun b o e=>KU _ e,pE a _,⟨_,Heap.get?_push_size _ rfl,rfl,rfl⟩,fun b hb=>?_,q⟩
 have e:b=s1.heap.objs.size:=by simpa using hb
 subst e;exact I1.fpOk (KW _) (I1.hok.fresh (KW _))
theorem Ah {l:Expr} {tl:TE} (hl:PE X l tl):PI X tg l (DI X.K tl):=by
 intro pins s σ H R I h;refine bM (hl pins s σ H _ I h) fun v s1 ⟨x,H1,I1,r1,q1⟩=>?_
 obtain ⟨a,e,⟨xs,hq⟩,q⟩:=q1;subst e
 cases r1;obtain ⟨its,rv,p,hz⟩:=I1.tuple hq;refine wpAny_pyIter_tuple (show s1.heap.IsTuple a its.toArray from p) ?_
 refine ⟨s1.heap.objs.size,[s1.heap.objs.size],_,_,H1,rfl,I1.kept (t':=s1.toks) fun b o e=>KU _ e,m9 a _,⟨_,Heap.get?_push_size _ rfl,rfl,rfl⟩,fun b hb=>?_,q⟩
 have e:b=s1.heap.objs.size:=by simpa using hb
 subst e;exact I1.fpOk (KW _) (I1.hok.fresh (KW _))
theorem lK {pins:List (Addr×Obj)} {σ:St} {H:Hp} {s:Shared} {R:It->Hp->Prop} {E:Value->Shared->Prop} {lo hi:Int} {t u v:Tok} {tk:Nat} (I:Inv X pins σ H s) (h1:-(2 ^ 62)<=lo) (h2:lo<2 ^ 62) (h3:-(2 ^ 62)<=hi) (h4:hi<2 ^ 62)
  (q:R (BE lo (hi-lo).toNat) H):wpAny (model X.prog X.w) X.A (pyIter (.ref s.heap.objs.size)) (Ke X pins σ tg R) E { s with heap:=s.heap.push { cls:=.type "range",data:=.fields #[.int lo t,.int hi u,.int 1 v] },toks:=tk }:=by
 refine wpAny_pyIter_range (IsRange.new ..) (small_one h1 h2 h3 h4) ?_
 have I1:Inv X pins σ H { s with heap:=s.heap.push { cls:=.type "range",data:=.fields #[.int lo t,.int hi u,.int 1 v] },toks:=tk }:=I.kept fun b o e=>KU _ e
 refine ⟨(s.heap.push { cls:=.type "range",data:=.fields #[.int lo t,.int hi u,.int 1 v] }).objs.size,[(s.heap.push { cls:=.type "range",data:=.fields #[.int lo t,.int hi u,.int 1 v] }).objs.size],_,_,H,rfl,
  I1.kept (t':=tk) fun b o e=>KU _ e,nc _ lo (hi-lo).toNat,?_,fun b hb=>?_,q⟩
 ·have e1:lo+((0:Nat):Int)*1=lo:=by simp
  have e2:(((hi-lo).toNat:Nat):Int)-((0:Nat):Int)=Builtin.Range.rangeSize lo hi 1:=by rw [rangeSize_one];split<;>omega
  show IsRangeIter _ _ (lo+((0:Nat):Int)*1) ((((hi-lo).toNat:Nat):Int)-((0:Nat):Int)) 1
  rw [e1,e2];exact Heap.get?_push_size _ rfl
 ·have e:b=(s.heap.push { cls:=.type "range",data:=.fields #[.int lo t,.int hi u,.int 1 v] }).objs.size:=by simpa using hb
  subst e;exact I1.fpOk (KW _) (I1.hok.fresh (KW _))
def yn (ta:TA):TI:=fun σ H R=>ta σ H fun vs H1=>∃j:Int,vs=[.int j]/\-(2 ^ 62)<=j/\j<2 ^ 62/\R (BE 0 j.toNat) H1
def ym (ta:TA):TI:=fun σ H R=>ta σ H fun vs H1=>∃i j:Int,vs=[.int i,.int j]/\(-(2 ^ 62)<=i/\i<2 ^ 62/\-(2 ^ 62)<=j/\j<2 ^ 62)/\R (BE i (j-i).toNat) H1
theorem pU {a:Expr} {ta:TA} {p pos:Pos} (hg:Gl X "range") (hm:X.mg "range"=none) (ha:PA X [a] ta) (hs:starEach [a] X.env=[(false,eval a X.env)]:=by rfl):PI X tg (.Call (.Name "range" p) [a] [] pos) (yn ta):=by
 intro pins s σ H R I h;refine Call_ (u4 I hg hm boot_range (PyProof.Rows.callWith_type1 (bM (ha pos pins s σ H _ I h) fun us s1 ⟨vs,H1,I1,r1,q1⟩=>?_) hs rfl))
 obtain ⟨j,e,q1,q2,q⟩:=q1;subst e
 cases r1 with
 | cons r rr=>
  cases rr;obtain ⟨t,rfl⟩:=r;exact call_range_1 (lK I1 (by omega) (by omega) q1 q2 (by simpa using q))
theorem pT {a b:Expr} {ta:TA} {p pos:Pos} (hg:Gl X "range") (hm:X.mg "range"=none) (ha:PA X [a,b] ta) (hs:starEach [a,b] X.env=[(false,eval a X.env),(false,eval b X.env)]:=by rfl) (hs2:starEach [b] X.env=[(false,eval b X.env)]:=by rfl) :
  PI X tg (.Call (.Name "range" p) [a,b] [] pos) (ym ta):=by
 intro pins s σ H R I h;refine Call_ (u4 I hg hm boot_range (PyProof.Rows.callWith_type1 (bM (ha pos pins s σ H _ I h) fun us s1 ⟨vs,H1,I1,r1,q1⟩=>?_) (by rw [hs,hs2]) (by rw [hs2];rfl)))
 obtain ⟨i,j,e,⟨q1,q2,q3,q4⟩,q⟩:=q1;subst e
 cases r1 with
 | cons r rr=>
  cases rr with
  | cons r' rr=>
   cases rr;obtain ⟨t,rfl⟩:=r;obtain ⟨t',rfl⟩:=r'
   exact call_range_2 (lK I1 q1 q2 q3 q4 q)
def C4 (wi:TI) (g:TG) (tb:TS):TS:=fun D σ H=>wi σ H fun J H1=>∃W:Nat->Nat->St->Hp->Prop,(∃m,W 0 m σ H1)/\∀i m σ H,W i m σ H ->
 (J.stop i H/\D.nx σ H)\/(J.go i H/\∃N:St->Hp->Prop,(∀σ' H',N σ' H'->∃m',m'<m/\W (i+1) m' σ' H')/\∀x H',J.yld i H x H'->g x σ H' fun σ2 H2=>tb { D with nx:=N,ct:=N,bk:=D.nx } σ2 H2)
def Co (fp:List Addr) (h:Heap):List (Addr×Obj):=fp.filterMap fun b=>(h.get? b).map fun o=>(b,o)
theorem Fi {fp:List Addr} {h:Heap} {b:Addr} {o:Obj} (hb:b∈fp) (e:h.get? b=some o):(b,o)∈Co fp h:=List.mem_filterMap.mpr ⟨b,hb,by rw [e];rfl⟩
theorem p7 {fp:List Addr} {h:Heap} {p:Addr×Obj} (hp:p∈Co fp h):p.1∈fp/\h.get? p.1=some p.2:=by
 obtain ⟨b,hb,e⟩:=List.mem_filterMap.mp hp
 cases q:h.get? b with
 | none=>rw [q] at e;cases e
 | some o=>
  rw [q] at e;have e':(b,o)=p:=Option.some.inj e
  subst e'
  exact ⟨hb,q⟩
theorem Inv.pinned {pins:List (Addr×Obj)} {σ:St} {H:Hp} {s:Shared} {fp:List Addr} (I:Inv X pins σ H s) (hf:∀b∈fp,jH X pins H b) (ho:∀b∈fp,∃o,s.heap.get? b=some o/\∀v,o.data≠.cell v):Inv X (pins++Co fp s.heap) σ H s:=
 I.pins_of fun p hp=>(KI hp).elim (fun z=>I.pin p (KG _ z)) fun z=>by
  obtain ⟨hb,e⟩:=p7 z;obtain ⟨f0,f1,f2,_⟩:=hf p.1 hb;obtain ⟨o,e',d⟩:=ho p.1 hb;rw [e] at e';cases e'
  exact ⟨e,f0,f1,f2,d⟩
theorem Inv.unpinned {pins pl:List (Addr×Obj)} {σ:St} {H:Hp} {s:Shared} (I:Inv X (pins++pl) σ H s):Inv X pins σ H s:=I.pins_of fun p hp=>I.pin p (KG _ (KH _ hp))
theorem Ae {iter:Expr} {body:List Stmt} {wi:TI} {g:TG} {tb:TS} {pos:Pos} (hp:PassesOwn (model X.prog X.w) X.A X.env X.xe) (hc:X.calm=true) (hi:PI X tg iter wi) (hg:PG X tg g) (hb:PSs X body tb)
  (hs:∀x,foldedSetIterable iter X.env x=pure x:=by intro _;rfl):PS X (.For tg iter body [] pos) (C4 wi g tb):=by
 intro pins s σ H D I h;refine wpAny_For (bM (hi pins s σ H _ I h) fun v s1 h1=>bM h1 fun itv s2 h2=>?_) hs
 obtain ⟨it,fp,tn,J,H2,e,I2,T,st2,f2,W,⟨m0,w0⟩,turn⟩:=h2;subst e;have stat:∀{H':Hp},(∀b∈fp,H' b=none)->∀b∈fp,jH X pins H' b:=fun hn b hb=>⟨hn b hb,(f2 b hb).2⟩
 refine codeAny_forLoop_any (fun n s'=>∃i σ' H',Inv X pins σ' H' s'/\tn i s'.heap/\(∀b∈fp,H' b=none)/\W i n σ' H') ?_ m0 ⟨0,σ,H2,I2,st2,fun b hb=>(f2 b hb).1,w0⟩
 rintro n s3 ⟨i,σ3,H3,I3,st3,fr3,w3⟩
 rcases turn i n σ3 H3 w3 with ⟨stop,qn⟩ | ⟨go,N,hN,step⟩
 ·refine wpAny_passesOwn hp (bM (T.done X rfl rfl rfl hc i pins s3 σ3 H3 X.xe I3 (stat fr3) st3 stop) fun r s4 ⟨hr,I4⟩=>?_)
  subst hr;exact wpAny_execs_nil ⟨σ3,H3,I4,qn⟩
 ·refine wpAny_passesOwn hp (bM (T.item X rfl rfl rfl hc i pins s3 σ3 H3 X.xe I3 (stat fr3) st3 go) fun r s4 ⟨u,hr,h4⟩=>?_)
  subst hr;refine wpAny_passesOwn hp (bM h4 fun _ s5 ⟨x,H5,I5,r5,y5,st5,fr5⟩=>?_)
  have I5':=I5.pinned (stat fr5) (T.obj _ _ st5)
  refine wpAny_passesOwn hp (bM (hg _ s5 σ3 H5 x u _ I5' r5 (step x H5 y5)) fun _ s6 ⟨σ6,H6,I6,q6⟩=>?_)
  refine wpAny_passesOwn hp (bM (hb _ s6 σ6 H6 _ I6 q6) fun f s7 q7=>?_)
  have again:∀{σ7:St} {H7:Hp},Inv X (pins++Co fp s5.heap) σ7 H7 s7->N σ7 H7->∃m,m<n/\∃i σ' H',Inv X pins σ' H' s7/\tn i s7.heap/\(∀b∈fp,H' b=none)/\W i m σ' H':=fun {σ7 H7} I7 n7=>by
   obtain ⟨m',hm,w7⟩:=hN σ7 H7 n7;refine ⟨m',hm,i+1,σ7,H7,I7.unpinned,T.keep _ _ _ st5 fun b hb o e=>(I7.pin (b,o) (KG _ (KG _ (Fi hb e)))).1,fun b hb=>?_,w7⟩
   obtain ⟨o,e,d⟩:=T.obj _ _ st5 b hb;exact (I7.pin (b,o) (KG _ (KG _ (Fi hb e)))).2.1
  cases f with
  | next=>obtain ⟨σ7,H7,I7,n7⟩:=q7;exact again I7 n7
  | cont=>obtain ⟨σ7,H7,I7,n7⟩:=q7;exact again I7 n7
  | brk=>obtain ⟨σ7,H7,I7,q7⟩:=q7;exact ⟨σ7,H7,I7.unpinned,q7⟩
  | ret v=>obtain ⟨x7,σ7,H7,I7,r7,q7⟩:=q7;exact ⟨x7,σ7,H7,I7.unpinned,r7,q7⟩
end
abbrev R2:=V->V->Hp->VK->Prop
def OpR (X:Cx) (f:Value->Value->Sem Value) (r:R2):Prop:=
 ∀(pins:List (Addr×Obj)) (s:Shared) (σ:St) (H:Hp) (x y:V) (v u:Value) (Q:VK),Inv X pins σ H s->RelV x v->RelV y u->r x y H Q ->
  wpAny (model X.prog X.w) X.A (f v u) (EP X pins σ Q) X.xe s
def J9 (X:Cx) (f:Value->Sem Value) (r:V->Hp->VK->Prop):Prop:=
 ∀(pins:List (Addr×Obj)) (s:Shared) (σ:St) (H:Hp) (x:V) (v:Value) (Q:VK),Inv X pins σ H s->RelV x v->r x H Q ->
  wpAny (model X.prog X.w) X.A (f v) (EP X pins σ Q) X.xe s
def CallR (X:Cx) (f:Value) (r:List V->Hp->VK->Prop):Prop:=
 ∀(pins:List (Addr×Obj)) (s:Shared) (σ:St) (H:Hp) (xs:List V) (us:List Value) (Q:VK),Inv X pins σ H s->Vals xs us->r xs H Q ->
  wpAny (model X.prog X.w) X.A (call f us) (EP X pins σ Q) X.xe s
def Jn (X:Cx) (r:V->Hp->(Bool->Hp->Prop)->Prop):Prop:=
 ∀(pins:List (Addr×Obj)) (s:Shared) (σ:St) (H:Hp) (x:V) (v:Value) (Q:Bool->Hp->Prop),Inv X pins σ H s->RelV x v->r x H Q ->
  wpAny (model X.prog X.w) X.A (truthy v) (TP X pins σ Q) X.xe s
def vo (r:R2) (ta tb:TE):TE:=fun σ H Q=>ta σ H fun x H1=>tb σ H1 fun y H2=>r x y H2 Q
def JB (r:V->Hp->VK->Prop) (ta:TE):TE:=fun σ H Q=>ta σ H fun x H1=>r x H1 Q
def rI (C:Int->Int->Prop) (g:Int->Int->V):R2:=fun x y H Q=>∃i j,x=.int i/\y=.int j/\C i j/\Q (g i j) H
def oE (g:Int->Int->V):R2:=fun x y H Q=>∃i j,x=.int i/\y=.int j/\Q (g i j) H
section
variable {X:Cx} {a b c:Expr} {ta tb tc:TE} {pos:Pos}
theorem By (ha:PE X a ta) (hb:PE X b tb) {pins:List (Addr×Obj)} {s:Shared} {σ:St} {H:Hp} {R:V->V->Hp->Prop} (I:Inv X pins σ H s)
  (h:ta σ H fun x H1=>tb σ H1 fun y H2=>R x y H2) {Q:Value->Shared->Prop} {f:Value->Value->Sem Value}
  (hf:∀v u s2 x y H2,Inv X pins σ H2 s2->RelV x v->RelV y u->R x y H2->wpAny (model X.prog X.w) X.A (f v u) Q X.xe s2) :
  wpAny (model X.prog X.w) X.A (eval a X.env) (fun v s₁=>wpAny (model X.prog X.w) X.A (eval b X.env) (fun u s₂=>wpAny (model X.prog X.w) X.A (f v u) Q X.xe s₂) X.xe s₁) X.xe s:=by
 refine bM (ha pins s σ H _ I h) fun v s1 ⟨x,H1,I1,r1,q1⟩=>?_
 refine bM (hb pins s1 σ H1 _ I1 q1) fun u s2 ⟨y,H2,I2,r2,q2⟩=>?_
 exact hf v u s2 x y H2 I2 r1 r2 q2
theorem fU {op:Operator} {r:R2} (ho:OpR X (binaryOp op) r) (ha:PE X a ta) (hb:PE X b tb):PE X (.BinOp a op b pos) (vo r ta tb):=by
 intro pins s σ H Q I h;exact wpAny_BinOp (By ha hb I h fun v u s2 x y H2 I2 rx ry q=>ho pins s2 σ H2 x y v u Q I2 rx ry q)
theorem Do {op:UnaryOp} {r:V->Hp->VK->Prop} (ho:J9 X (unaryOp op) r) (ha:PE X a ta):PE X (.UnaryOp op a pos) (JB r ta):=by
 intro pins s σ H Q I h;exact UnaryOp_ (bM (ha pins s σ H _ I h) fun v s1 ⟨x,H1,I1,r1,q1⟩=>ho pins s1 σ H1 x v Q I1 r1 q1)
theorem FV {f:Value->Value->Sem Value} {C:Int->Int->Prop} {g:Int->Int->Int}
  (rule:∀(i j:Int) (t u:Tok) (s:Shared) (Q:Value->Shared->Prop) (E:Value->Shared->Prop),C i j->Q (.int (g i j) s.toks) { s with toks:=s.toks+1 }->wpAny (model X.prog X.w) X.A (f (.int i t) (.int j u)) Q E s) :
  OpR X f (rI C fun i j=>.int (g i j)):=by
 intro pins s σ H x y v u Q I rx ry h;obtain ⟨i,j,rfl,rfl,hc,q⟩:=h;obtain ⟨t,rfl⟩:=rx;obtain ⟨t',rfl⟩:=ry;exact rule i j t t' s _ _ hc ⟨.int (g i j),H,I.tok _,⟨_,rfl⟩,q⟩
theorem Du {f:Value->Value->Sem Value} {g:Int->Int->Int}
  (rule:∀(i j:Int) (t u:Tok) (s:Shared) (Q:Value->Shared->Prop) (E:Value->Shared->Prop),Q (.int (g i j) s.toks) { s with toks:=s.toks+1 }->wpAny (model X.prog X.w) X.A (f (.int i t) (.int j u)) Q E s) :
  OpR X f (oE fun i j=>.int (g i j)):=by
 intro pins s σ H x y v u Q I rx ry h;obtain ⟨i,j,rfl,rfl,q⟩:=h;obtain ⟨t,rfl⟩:=rx;obtain ⟨t',rfl⟩:=ry;exact rule i j t t' s _ _ ⟨.int (g i j),H,I.tok _,⟨_,rfl⟩,q⟩
theorem wg {f:Value->Value->Sem Value} {g:Int->Int->Bool}
  (rule:∀(i j:Int) (t u:Tok) (s:Shared) (Q:Value->Shared->Prop) (E:Value->Shared->Prop),Q (.bool (g i j)) s->wpAny (model X.prog X.w) X.A (f (.int i t) (.int j u)) Q E s) :
  OpR X f (oE fun i j=>.bl (g i j)):=by
 intro pins s σ H x y v u Q I rx ry h;obtain ⟨i,j,rfl,rfl,q⟩:=h;obtain ⟨t,rfl⟩:=rx;obtain ⟨t',rfl⟩:=ry;exact rule i j t t' s _ _ ⟨.bl (g i j),H,I,rfl,q⟩
def Jx (i j:Int):Prop:=0<j/\j<1073741824
def Jw (i j:Int):Prop:=0<=j/\j<=1000000/\i.natAbs<2 ^ 64
def CMul (i j:Int):Prop:=(-(2 ^ 64)<i/\i<2 ^ 64)\/(-(2 ^ 64)<j/\j<2 ^ 64)
theorem CMul.ok {i j:Int} (h:CMul i j):IntMulOk i j:=by
 rcases h with ⟨h1,h2⟩ | ⟨h1,h2⟩
 ·exact .of_left (intBits_le_64 h1 h2)
 ·exact .of_right (intBits_le_64 h1 h2)
theorem AB:OpR X (binaryOp .Add) (oE fun i j=>.int (i+j)):=Du fun _ _ _ _ _ _ _ q=>add_int q
theorem Ar:OpR X (binaryOp .Sub) (oE fun i j=>.int (i-j)):=Du fun _ _ _ _ _ _ _ q=>sub_int q
theorem Aw:OpR X (binaryOp .Mult) (rI CMul fun i j=>.int (i*j)):=FV fun _ _ _ _ _ _ _ hc q=>mul_int q hc.ok
theorem we:OpR X (binaryOp .FloorDiv) (rI Jx fun i j=>.int (i / j)):=FV fun i j _ _ _ _ _ hc q=>by
 have h1:(0:Int)<j:=hc.1
 have h2:j<1073741824:=hc.2
 exact floordiv_int (by omega) (by rw [Int.fdiv_eq_ediv_of_nonneg i (by omega)];exact q) (.inl (PyProof.noPylong_small (by omega)))
theorem Ax:OpR X (binaryOp .Mod) (rI (fun _ j=>0<j) fun i j=>.int (i % j)):=FV fun i j _ _ _ _ _ hc q=>by
 have h1:(0:Int)<j:=hc
 exact mod_int' (by omega) (by rw [Int.fmod_eq_emod_of_nonneg i (by omega)];exact q)
theorem Au:OpR X (binaryOp .Pow) (rI Jw fun i j=>.int (i ^ j.toNat)):=FV fun _ _ _ _ _ _ _ hc q=>pow_int_small hc.1 hc.2.1 hc.2.2 q
end
def scal:V->V->Bool
 | .non,.non=>true | .non,.int _=>true | .int _,.non=>true | .non,.bl _=>true | .bl _,.non=>true | .non,.str _=>true | .str _,.non=>true
 | .int _,.int _=>true | .bl _,.bl _=>true | .str _,.str _=>true | .byt _,.byt _=>true
 | .int _,.str _=>true | .str _,.int _=>true | .bl _,.str _=>true | .str _,.bl _=>true
 | _,_=>false
section
variable {X:Cx} {a b c:Expr} {ta tb tc:TE} {pos:Pos}
theorem Eo {pins:List (Addr×Obj)} {σ:St} {H:Hp} {s:Shared} {Q:VK} {k k':Bool} (I:Inv X pins σ H s) (q:Q (.bl k) H) (e:k=k'):EP X pins σ Q (.bool k') s:=by
 subst e;exact ⟨.bl k,H,I,rfl,q⟩
theorem op_lt:OpR X (compareOp .Lt) (oE fun i j=>.bl (decide (i<j))):=wg fun _ _ _ _ _ _ _ q=>lt_int q
theorem Dr:OpR X (compareOp .LtE) (oE fun i j=>.bl (decide (i<=j))):=wg fun _ _ _ _ _ _ _ q=>le_int q
theorem Dt:OpR X (compareOp .Gt) (oE fun i j=>.bl (decide (j<i))):=wg fun _ _ _ _ _ _ _ q=>gt_int q
theorem op_ge:OpR X (compareOp .GtE) (oE fun i j=>.bl (decide (j<=i))):=wg fun _ _ _ _ _ _ _ q=>ge_int q
theorem pY:OpR X (compareOp .Lt) (fun x y H Q=>∃i j,x=.str i/\y=.str j/\Q (.bl (decide (i.cps.toList<j.cps.toList))) H):=by
 intro pins s σ H x y v u Q I rx ry h;obtain ⟨i,j,rfl,rfl,q⟩:=h;obtain ⟨t,rfl⟩:=rx;obtain ⟨t',rfl⟩:=ry;exact lt_str (Eo I q rfl)
theorem Ay:OpR X (compareOp .Is) (fun x y H Q=>y=.non/\Q (.bl (decide (x=.non))) H):=by
 intro pins s σ H x y v u Q I rx ry h;obtain ⟨rfl,q⟩:=h
 cases ry;refine is_none_gen (Eo I q ?_)
 cases x<;>first
  | (cases rx;rfl)
  | (obtain ⟨t,rfl⟩:=rx;rfl)
theorem wd:OpR X (compareOp .IsNot) (fun x y H Q=>y=.non/\Q (.bl (!decide (x=.non))) H):=by
 intro pins s σ H x y v u Q I rx ry h;obtain ⟨rfl,q⟩:=h
 cases ry;refine isnot_none_gen (Eo I q ?_)
 cases x<;>first
  | (cases rx;rfl)
  | (obtain ⟨t,rfl⟩:=rx;rfl)
theorem OpR.or {f:Value->Value->Sem Value} {r r':R2} (h:OpR X f r) (h':OpR X f r'):OpR X f (fun x y H Q=>r x y H Q\/r' x y H Q):=by
 intro pins s σ H x y v u Q I rx ry q;rcases q with q | q
 ·exact h pins s σ H x y v u Q I rx ry q
 ·exact h' pins s σ H x y v u Q I rx ry q
theorem wa {op:CmpOp} {r:R2} (ho:OpR X (compareOp op) r) (ha:PE X a ta) (hb:PE X b tb) (hm:behindInMarks op b=false):PE X (.Compare a [op] [b] pos) (vo r ta tb):=by
 intro pins s σ H Q I h;exact wpAny_Compare1 (By ha hb I h fun v u s2 x y H2 I2 rx ry q=>ho pins s2 σ H2 x y v u Q I2 rx ry q) hm
def rU (t:TE):TT:=fun σ H Q=>t σ H fun x H'=>∃k,x=.bl k/\Q k H'
theorem v5 {op:CmpOp} {r:R2} (ho:OpR X (compareOp op) r) (ha:PE X a ta) (hb:PE X b tb) (hm:behindInMarks op b=false):PT X (.Compare a [op] [b] pos) (rU (vo r ta tb)):=by
 intro pins s σ H Q I h;refine wpAny_isTrue_Compare1 (bM (ha pins s σ H _ I h) fun v s1 ⟨x,H1,I1,r1,q1⟩=>bM (hb pins s1 σ H1 _ I1 q1) fun u s2 ⟨y,H2,I2,r2,q2⟩=>
  bM (ho pins s2 σ H2 x y v u _ I2 r1 r2 q2) fun c s3 ⟨z,H3,I3,r3,k,e,q3⟩=>?_) hm
 subst e
 cases r3;exact wpAny_truthy_bool ⟨H3,I3,q3⟩
def Gv (r r':R2) (ta tb tc:TE):TE:=fun σ H Q=>ta σ H fun x H1=>tb σ H1 fun y H2=>r x y H2 fun z H3=>∃k,z=.bl k /\
 (if k=true then tc σ H3 fun w' H4=>r' y w' H4 Q else Q (.bl false) H3)
theorem tu {op op':CmpOp} {r r':R2} (ho:OpR X (compareOp op) r) (ho':OpR X (compareOp op') r') (ha:PE X a ta) (hb:PE X b tb) (hc:PE X c tc)
  (hm:lastMarks [op,op'] [b,c]=false:=by with_unfolding_all rfl):PE X (.Compare a [op,op'] [b,c] pos) (Gv r r' ta tb tc):=by
 intro pins s σ H Q I h;refine Compare_chain (bM (ha pins s σ H _ I h) fun v s1 ⟨x,H1,I1,r1,q1⟩=>chain_link (bM (hb pins s1 σ H1 _ I1 q1) fun u s2 ⟨y,H2,I2,r2,q2⟩=>
  bM (ho pins s2 σ H2 x y v u _ I2 r1 r2 q2) fun d s3 ⟨z,H3,I3,r3,k,e,q3⟩=>?_)) hm
 subst e
 cases r3;refine wpAny_truthy_bool ?_
 cases k with
 | false=>exact ite_ff ⟨.bl false,H3,I3,rfl,q3⟩
 | true=>exact ite_tt (chain_last (bM (hc pins s3 σ H3 _ I3 q3) fun w' s4 ⟨z',H4,I4,r4,q4⟩=>ho' pins s4 σ H4 y z' u w' Q I4 r2 r4 q4))
theorem sV {op op':CmpOp} {r r':R2} (ho:OpR X (compareOp op) r) (ho':OpR X (compareOp op') r') (ha:PE X a ta) (hb:PE X b tb) (hc:PE X c tc)
  (hm:lastMarks [op,op'] [b,c]=false:=by with_unfolding_all rfl):PT X (.Compare a [op,op'] [b,c] pos) (rU (Gv r r' ta tb tc)):=by
 intro pins s σ H Q I h;refine isTrue_chain (bM (ha pins s σ H _ I h) fun v s1 ⟨x,H1,I1,r1,q1⟩=>test_link (bM (hb pins s1 σ H1 _ I1 q1) fun u s2 ⟨y,H2,I2,r2,q2⟩=>
  bM (ho pins s2 σ H2 x y v u _ I2 r1 r2 q2) fun d s3 ⟨z,H3,I3,r3,k,e,q3⟩=>?_)) hm
 subst e
 cases r3;refine wpAny_truthy_bool ?_
 cases k with
 | false=>
  obtain ⟨k',e',q'⟩:=q3
  cases e'
  exact ite_ff ⟨H3,I3,q'⟩
 | true=>
  refine ite_tt (test_last (bM (hc pins s3 σ H3 _ I3 q3) fun w' s4 ⟨z',H4,I4,r4,q4⟩=>bM (ho' pins s4 σ H4 y z' u w' _ I4 r2 r4 q4) fun d' s5 ⟨z2,H5,I5,r5,k2,e2,q5⟩=>?_))
  subst e2
  cases r5;exact wpAny_truthy_bool ⟨H5,I5,q5⟩
def BB (K:Fg) (x:V) (H:Hp) (k:Bool):Prop:=
 match x with
 | .non=>k=false
 | .bl b=>k=b
 | .int i=>k=(i != 0)
 | .str y=>y.length<=sizeLine/\k=((y.length:Int) != 0)
 | .byt y=>y.size<=sizeLine/\k=((y.size:Int) != 0)
 | .ref p=>(∃xs,SqL K H p xs/\k=!xs.isEmpty)\/(∃xs,SqT K H p xs/\k=!xs.isEmpty)\/∃kvs,H p=some (.dK kvs)/\k=!kvs.isEmpty
 | _=>False
theorem nF {κ:Type} {kvs:List (κ×V)} {vs:List (κ×Value)} (r:KV kvs vs):(!vs.isEmpty)=!kvs.isEmpty:=by
 cases r<;>rfl
theorem iG {xs:List V} {its:List Value} (r:Vals xs its):(!its.toArray.isEmpty)=!xs.isEmpty:=by
 cases r<;>simp
theorem yL:(sizeLine:Nat)<2 ^ 63:=by rw [sizeLine_eq];decide
theorem zm:Jn X (fun x H Q=>∃k,BB X.K x H k/\Q k H):=by
 intro pins s σ H x v Q I rx h;obtain ⟨k,e,q⟩:=h;have hl:=yL
 have hs:sizeLine=16777216:=sizeLine_eq
 cases x with
 | non=>
  cases rx;have e':k=false:=e
  subst e'
  exact truthy_none ⟨H,I,q⟩
 | bl b=>
  cases rx;have e':k=b:=e
  subst e'
  exact wpAny_truthy_bool ⟨H,I,q⟩
 | int i=>
  obtain ⟨t,rfl⟩:=rx;have e':k=(i != 0):=e
  subst e'
  exact PySem.P.truthy_int ⟨H,I,q⟩
 | str y=>
  obtain ⟨t,rfl⟩:=rx;obtain ⟨hy,e'⟩:y.length<=sizeLine/\k=((y.length:Int) != 0):=e
  subst e'
  exact PySem.P.truthy_str (by omega) ⟨H,I.tok _,q⟩
 | byt y=>
  obtain ⟨t,rfl⟩:=rx;obtain ⟨hy,e'⟩:y.size<=sizeLine/\k=((y.size:Int) != 0):=e
  subst e'
  exact PySem.W.truthy_bytes (by omega) ⟨H,I.tok _,q⟩
 | ref p=>
  cases rx;have e':(∃xs,SqL X.K H p xs/\k=!xs.isEmpty)\/(∃xs,SqT X.K H p xs/\k=!xs.isEmpty)\/∃kvs,H p=some (.dK kvs)/\k=!kvs.isEmpty:=e
  rcases e' with ⟨xs,hx,e'⟩ | ⟨xs,hx,e'⟩ | ⟨kvs,hx,e'⟩
  ·subst e'
   obtain ⟨its,r,pl,hz⟩:=I.list hx;have hlen:=r.length
   exact wpAny_truthy_list pl.isList (by simp only [size_toArray];omega) ⟨H,I.tok _,by rw [iG r];exact q⟩
  ·subst e'
   obtain ⟨its,r,pl,hz⟩:=I.tuple hx;have hlen:=r.length
   exact truthy_tuple pl (by simp only [size_toArray];omega) ⟨H,I.tok _,by rw [iG r];exact q⟩
  ·subst e'
   obtain ⟨hz,hS,vs,r,m⟩:kvs.length<=sizeLine/\(p==sysModules)=false/\∃vs,KV kvs vs/\s.heap.DictOf (GT X.prog X.w) p vs:=I.hok p _ hx
   have hlen:kvs.length=vs.length:=Paired.length r
   exact wpAny_truthy_dict hS m (by omega) ⟨H,I.tok _,by rw [nF r];exact q⟩
 | _=>exact (show False from e).elim
theorem lP (ha:PE X a ta) (he:∀whole,isTrue a X.env whole=(do let v <-whole;standAt a.pos;holding [v] (truthy v))) :
  PT X a (fun σ H Q=>ta σ H fun x H'=>∃k,BB X.K x H' k/\Q k H'):=by
 intro pins s σ H Q I h;exact isTrue_plain (bM (ha pins s σ H _ I h) fun v s1 ⟨x,H1,I1,r1,q1⟩=>zm pins s1 σ H1 x v Q I1 r1 q1) (he _)
theorem vals1 {x:V} {us:List Value} (r:Vals [x] us):∃u,us=[u]/\RelV x u:=by
 cases r with
 | cons r1 r2=>cases r2;exact ⟨_,rfl,r1⟩
theorem qH:CallR X (.type "int") (fun xs H Q=>(∃i,xs=[.int i]/\Q (.int i) H)\/∃k,xs=[.bl k]/\Q (.int (if k then 1 else 0)) H):=by
 intro pins s σ H xs us Q I r h;rcases h with ⟨i,rfl,q⟩ | ⟨k,rfl,q⟩
 ·obtain ⟨u,rfl,t,rfl⟩:=vals1 r
  exact call_int_int ⟨.int i,H,I,⟨_,rfl⟩,q⟩
 ·obtain ⟨u,rfl,r1⟩:=vals1 r
  cases r1;exact call_int_bool ⟨.int (if k then 1 else 0),H,I.tok _,⟨_,rfl⟩,q⟩
end
structure Ky (h:Heap) (x dx C:Addr) (mA:Str->Option Value):Prop where
 obj:h.get? x=some (PySem.W.instObj C dx)
 ns:h.Ns1 dx mA
 ne:dx≠x
structure KE (K:Fg) (C:Addr):Prop where
 pg:PySem.W.plainGet K C Str.empty=true
 hd:PySem.W.hasDictIn K C=true
 po:PySem.W.plainOver K C=true
 sa:PySem.W.findIn K (.ref C) "__setattr__"=some (some (.builtin "object.__setattr__"))
structure Con (K:Fg) (C:Addr) (f:Str) (v:V) (u:Value):Prop where
 at_:PySem.W.findIn K (.ref C) f=some (some u)
 rel:RelV v u
 get:PySem.W.specialIn K u "__get__"=some none
 cp:PySem.W.copiedNames.contains f=false
structure KA (K:Fg) (C:Addr) (m:Str) (f:Addr):Prop where
 at_:PySem.W.findIn K (.ref C) m=some (some (.ref f))
 fn:PySem.W.isFn K (.ref f)=true
 kp:PySem.W.keepIn K (.ref f)=true
section
variable {X:Cx} {pins:List (Addr×Obj)} {σ:St} {H:Hp} {s:Shared} {A:Around} {E:Value->Shared->Prop} {Q:Value->Shared->Prop} {c:Value} {b:Bool}
inductive iU (K:Fg) (H:Hp):V->Value->Prop where
 | non:iU K H .non (.type "NoneType")
 | bl (x:Bool):iU K H (.bl x) (.type "bool")
 | int (i:Int):iU K H (.int i) (.type "int")
 | str (x:Str):iU K H (.str x) (.type "str")
 | flt (x:UInt64):iU K H (.flt x) (.type "float")
 | lst {a:Addr} {xs:List V} (e:H a=some (.lst xs)):iU K H (.ref a) (.type "list")
 | frz {a:Addr} {o:Obj} {xs:List V} (e:H a=some (.frz o (.lst xs))):iU K H (.ref a) (.type "list")
 | tup {a:Addr} {xs:List V} (e:H a=some (.tup xs)):iU K H (.ref a) (.type "tuple")
 | dK {a:Addr} {kvs:List (kY×V)} (e:H a=some (.dK kvs)):iU K H (.ref a) (.type "dict")
 | dT {a:Addr} {kvs:List (List kY×V)} (e:H a=some (.dT kvs)):iU K H (.ref a) (.type "dict")
 | ins {a C dx:Addr} {fs:List (Str×V)} (e:H a=some (.ins C dx fs)) (cl:KE K C) (ha:PySem.W.findIn K (.ref C) "__class__"=some (some (.builtin "object.__class__")))
   (hn:PySem.W.specialIn K (.builtin "object.__class__") "__get__"=some (some (.builtin "getset_descriptor.__get__"))) (htk:PySem.W.takesIn K (.builtin "object.__class__")=some true)
   (hm:PySem.W.mroIn K C (.type "object")=some true):iU K H (.ref a) (.ref C)
end
structure Room (k:Nat) (A:Around):Prop where
 hd:A.handled=none
 dp:A.depth+3*k+5<recursionLimit
 un:A.units+16*k+200<cLine
 gd:A.guards=some []
theorem Room.mono {j k:Nat} {A:Around} (r:Room k A) (h:j<=k):Room j A:=⟨r.hd,by have:=r.dp;omega,by have:=r.un;omega,r.gd⟩
theorem Room.deeper {k:Nat} {A:Around} (r:Room (k+1) A) (env:Env):Room k (A.deeper env):=
 ⟨r.hd,by have:=r.dp;show A.depth+1+3*k+5<_;omega,by have:=r.un;show A.units+3+16*k+200<_;omega,r.gd⟩
theorem Room.depth {k:Nat} {A:Around} (r:Room k A):A.depth<recursionLimit:=by have:=r.dp;omega
theorem Room.units {k:Nat} {A:Around} (r:Room k A):A.units+64<cLine:=by have:=r.un;omega
def vq:TA:=fun _ H Q=>Q [] H
def og (ta:TE) (tr:TA):TA:=fun σ H Q=>ta σ H fun x H1=>tr σ H1 fun xs H2=>Q (x::xs) H2
section
variable {X:Cx} {e:Expr} {es:List Expr} {te:TE} {t:TA} {pos:Pos}
theorem BK:PA X [] vq:=fun _ _ _ _ H Q I h=>Calls.spliced_nil ⟨[],H,I,.nil,h⟩
theorem vb (ha:PE X e te) (hr:PA X es t) (hs:starEach (e::es) X.env=(false,eval e X.env)::starEach es X.env:=by rfl):PA X (e::es) (og te t):=by
 intro pos pins s σ H Q I h;rw [hs];show wpAny _ _ (spliced ((false,eval e X.env)::backTo pos (starEach es X.env))) _ _ s
 refine Calls.spliced_cons (bM (ha pins s σ H _ I h) fun u s1 ⟨x,H1,I1,r1,q1⟩=>?_)
 exact bM (hr pos pins s1 σ H1 _ I1 q1) fun us s2 ⟨xs,H2,I2,r2,q2⟩=>⟨x::xs,H2,I2,.cons r1 r2,q2⟩
def CW (t:TA):TE:=fun σ H Q=>t σ H fun xs H1=>xs.length<=sizeLine/\∀p,H1 p=none->Q (.ref p) (bZ H1 p (.tup xs))
def C3 (t:TA):TE:=fun σ H Q=>t σ H fun xs H1=>xs.length<=sizeLine/\∀p,H1 p=none->Q (.ref p) (bZ H1 p (.lst xs))
theorem Am {x1} (h:PA X es t):PE X (.Tuple es x1 pos) (CW t):=by
 intro pins s σ H Q I hq;refine wpAny_Tuple_spliced (bM (h pos pins s σ H _ I hq) fun us s1 ⟨xs,H1,I1,r,z,q⟩=>⟨by rw [<-r.length];exact z,?_⟩)
 have hf:H1 s1.heap.objs.size=none:=I1.hok.fresh (KW _)
 refine ⟨.ref s1.heap.objs.size,bZ H1 s1.heap.objs.size (.tup xs),I1.laid (t':=s1.toks) (fun b u e=>KU _ e) (KW _) ?_,rfl,q _ hf⟩
 exact ⟨z,us,r,⟨_,Heap.get?_push_size _ rfl,rfl,_,rfl⟩⟩
theorem tj (h:PA X es t):PE X (.List es pos) (C3 t):=by
 intro pins s σ H Q I hq;refine wpAny_List_spliced (bM (h pos pins s σ H _ I hq) fun us s1 ⟨xs,H1,I1,r,z,q⟩=>⟨by rw [<-r.length];exact z,?_⟩)
 have hf:H1 s1.heap.objs.size=none:=I1.hok.fresh (KW _)
 refine ⟨.ref s1.heap.objs.size,bZ H1 s1.heap.objs.size (.lst xs),I1.laid (t':=s1.toks) (fun b u e=>KU _ e) (KW _) ?_,rfl,q _ hf⟩
 exact ⟨z,us,0,r,Heap.get?_push_size _ rfl⟩
end
abbrev Sp:=List V->Hp->VK->XK->Prop
abbrev pe:=List Env->Hp->Shared->XK->Value->Shared->Prop
structure qN (P:Program) (w:World) (K:Fg) (mg:Str->Option Value) (base:Heap) (A:Around) (outer:List Env) (s:Shared) (H:Hp):Prop where
 frames:A.frames=some outer
 mod:Mod K mg base
 bs:∀b o,base.get? b=some o->s.heap.get? b=some o/\H b=none
 bsz:base.objs.size<=s.heap.objs.size
 funs:s.heap.FunFrames base outer
 frf:∀b∈gz outer,H b=none
 hok:HOk P w H s.heap
 bare:AllBare s.gens
def CE (outer:List Env) (P:Program) (w:World) (H:Hp) (s:Shared) (Q:VK) (u:Value) (s':Shared):Prop:=
 ∃v H',s'.os=s.os/\AllBare s'.gens/\Un (gz outer) [] H H' s.heap s'.heap/\HOk P w H' s'.heap/\RelV v u/\Q v H'
def CR (CX:pe) (outer:List Env) (P:Program) (w:World) (H:Hp) (s:Shared) (Q:VK) (E:XK) (r:Result) (s':Shared):Prop:=
 match r with
 | .ok (.ret u)=>CE outer P w H s Q u s'
 | .ok _=>False
 | .error e=>CX outer H s E e s'
structure dO (P:Program) (w:World) (K:Fg) (mg:Str->Option Value) (base:Heap) (CX:pe) (k:Nat) (f:Addr) (fd:FuncData) (ps:List Str) (sp:Sp):Prop where
 len:∀vs H Q E,sp vs H Q E->vs.length=ps.length
 run:∀(A:Around) (outer:List Env) (s:Shared) (H:Hp) (args:Args) (us:List Value) (vs:List V) (Q:VK) (E:XK),Room k A->qN P w K mg base A outer s H->BindsTo s fd args (ps.zip us)->Vals vs us->sp vs H Q E ->
  codeAny (model P w) A (.call (.ref f) args) (CR CX outer P w H s Q E) s
section
variable {X:Cx} {pins:List (Addr×Obj)} {σ:St} {H:Hp} {s s':Shared}
theorem Inv.env0 (I:Inv X pins σ H s):qN X.prog X.w X.K X.mg X.base X.A X.stack s H:=
 ⟨I.ok.frames,I.ok.mod,I.bs,Nat.le_trans I.ok.bsz I.sz,I.stack,I.stkFree,I.hok,I.bare⟩
theorem Inv.after {Q:VK} {u:Value} (I:Inv X pins σ H s) (h:CE X.stack X.prog X.w H s Q u s'):EP X pins σ Q u s':=by
 obtain ⟨v,H',os,bare,un,hok,r,q⟩:=h;obtain ⟨hh,g,d,t,os'⟩:=s'
 obtain rfl:os'=s.os:=os
 exact ⟨v,H',I.call (h':=hh) (g':=g) (d':=d) (t':=t) (ch:=[]) un hok bare (fun b z=>absurd z (by simp)),r,q⟩
end
def rZ (sp:Sp) (dvs:List V) (E:XK) (t:TA):TE:=fun σ H Q=>t σ H fun vs H1=>sp (vs++dvs) H1 Q E
def Binds (K:Fg) (fd:FuncData) (ps:List Str) (ds:List Value):Prop:=
 ∀(s:Shared) (us:List Value),K.In s.heap->(us++ds).length=ps.length->BindsTo s fd ⟨us,[]⟩ (ps.zip (us++ds))
theorem Binds.all {K:Fg} {fd:FuncData} {ps:List Str} (h:∀us:List Value,us.length=ps.length->bindArgs fd ⟨us,[]⟩=pure (ps.zip us)):Binds K fd ps []:=fun s us _ hl=>by
 rw [append_nil] at hl ⊢;exact .of_eq (h us hl)
def Em (CX:pe) (X:Cx) (E:XK):Prop:=∀(pins:List (Addr×Obj)) (σ:St) (H:Hp) (s:Shared) (e:Value) (s':Shared),Inv X pins σ H s->CX X.stack H s E e s'->X.xe e s'
section
variable {X:Cx} {CX:pe} {k:Nat} {f C:Addr} {fd:FuncData} {ps:List Str} {sp:Sp} {dvs:List V} {ds:List Value} {E:XK} {x m:Str} {p pos apos:Pos} {e o:Expr} {es:List Expr} {ta:TE} {t:TA}
theorem zD {pins:List (Addr×Obj)} {σ:St} {H:Hp} {s:Shared} {Q:VK} {us:List Value} {vs:List V} (F:dO X.prog X.w X.K X.mg X.base CX k f fd ps sp) (hr:Room k X.A) (hb:Binds X.K fd ps ds) (hd:Vals dvs ds) (hx:Em CX X E)
  (I:Inv X pins σ H s) (r:Vals vs us) (h:sp (vs++dvs) H Q E):wpAny (model X.prog X.w) X.A (call (.ref f) us) (EP X pins σ Q) X.xe s:=by
 have r2:Vals (vs++dvs) (us++ds):=r.append hd
 have hl:(us++ds).length=ps.length:=by rw [<-r2.length];exact F.len _ _ _ _ h
 refine wpAny_call (codeAny_mono (F.run X.A X.stack s H ⟨us,[]⟩ (us++ds) (vs++dvs) Q E hr I.env0 (hb s us I.kIn hl) r2 h) fun r s' hq=>?_)
 cases r with
 | error e=>exact hx pins σ H s e s' I hq
 | ok fl=>
  cases fl with
  | ret u=>exact I.after hq
  | next=>exact False.elim hq
  | brk=>exact False.elim hq
  | cont=>exact False.elim hq
theorem oP (F:dO X.prog X.w X.K X.mg X.base CX k f fd ps sp) (hr:Room k X.A) (hg:Gl X x) (hm:X.mg x=some (.ref f)) (hk:PySem.W.keepIn X.K (.ref f)=true) (hb:Binds X.K fd ps ds) (hd:Vals dvs ds) (hx:Em CX X E)
  (ha:PA X (e::es) t) (hdb:(x==("__debug__":Str))=false:=by decide) (he:starEach (e::es) X.env=(false,eval e X.env)::starEach es X.env:=by rfl) (hpl:(backTo pos (starEach es X.env)).any (·.1)=false:=by rfl) :
  PE X (.Call (.Name x p) (e::es) [] pos) (rZ sp dvs E t):=by
 intro pins s σ H Q I h;refine wpAny_Call_Name_kw (Cv I hg hm ?_ hdb)
 refine PySem.W.callWith_K (h₀:=X.base) I.ok.mod.kin hk (bM (ha pos pins s σ H _ I h) fun us s1 ⟨vs,H1,I1,r,q⟩=>⟨I1.kIn,?_⟩) he hpl
 exact zD F hr hb hd hx I1 r q
structure Mk (K:Fg) (C f:Addr):Prop where
 makes:PySem.W.makesIn K C=true
 init:PySem.W.findIn K (.ref C) "__init__"=some (some (.ref f))
 fn:PySem.W.isFn K (.ref f)=true
 kp:PySem.W.keepIn K (.ref C)=true
end
section
variable {X:Cx} {CX:pe} {k:Nat} {f C:Addr} {fd:FuncData} {ps ks:List Str} {sp:Sp} {E:XK} {x m:Str} {p pos apos kpos:Pos} {e o:Expr} {es:List Expr} {kws:List Keyword} {te ta:TE} {t tk:TA} {nm:Option Str}
structure Jq (K:Fg) (fd:FuncData) (ps ks:List Str) (g:List Value->List Value->List Value) (gV:List V->List V->List V):Prop where
 to:∀(s:Shared) (us ws:List Value),K.In s.heap->(g us ws).length=ps.length->BindsTo s fd ⟨us,ks.zip ws⟩ (ps.zip (g us ws))
 rel:∀{vs:List V} {us:List Value} {zs:List V} {ws:List Value},Vals vs us->Vals zs ws->Vals (gV vs zs) (g us ws)
variable {g:List Value->List Value->List Value} {gV:List V->List V->List V}
end
structure dW (N P:List Str) (sc:Scope):Prop where
 kind:sc.kind=.function
 co:sc.isCoroutine=false
 gen:sc.isGenerator=false
 nd:N.Nodup
 pre:N.take P.length=P
 par:∀x∈P,sc.names.lookup x=some .local\/sc.names.lookup x=some .cell
 nofree:∀y∈sc.names,y.2≠.free
theorem kd {kindOf:Str->Option NameKind} {x:Str}:∀{binds:List (Str×Value)} {m:Str->Option Value},(∀v,(x,v)∉binds)->bindL kindOf binds m x=m x
 | [],_,_=>rfl
 | (n,v)::r,m,h=>by
  unfold bindL;rw [kd fun w hw=>h w (KN _ hw)]
  split
  ·have:x≠n:=by rintro rfl;exact h v mem_cons_self
   simp [this]
  ·rfl
theorem kf {kindOf:Str->Option NameKind} {x:Str}:∀{binds:List (Str×Value)} {m:Str->Option Value},(∀v,(x,v)∉binds)->bindC kindOf binds m x=m x
 | [],_,_=>rfl
 | (n,v)::r,m,h=>by
  unfold bindC;rw [kf fun w hw=>h w (KN _ hw)]
  split
  ·rfl
  ·have:x≠n:=by rintro rfl;exact h v mem_cons_self
   simp [this]
theorem ke {kindOf:Str->Option NameKind} {x:Str} {v:Value}:∀{P:List Str} {vs:List Value} {i:Nat} {m:Str->Option Value},P.Nodup->P[i]?=some x->vs[i]?=some v->kindOf x=some .local ->
  bindL kindOf (P.zip vs) m x=some v
 | [],_,_,_,_,h,_,_=>by simp at h
 | _::_,[],_,_,_,_,h,_=>by simp at h
 | p::P,w::vs,0,m,nd,h1,h2,hk=>by
  simp at h1 h2;subst h1;subst h2;show bindL kindOf ((p,w)::P.zip vs) m p=_
  unfold bindL;rw [kd fun v hv=>(List.nodup_cons.mp nd).1 (of_mem_zip hv).1,if_pos hk]
  simp
 | p::P,w::vs,i+1,m,nd,h1,h2,hk=>by
  show bindL kindOf ((p,w)::P.zip vs) m x=_
  unfold bindL;exact ke (i:=i) (List.nodup_cons.mp nd).2 (by simpa using h1) (by simpa using h2) hk
theorem kg {kindOf:Str->Option NameKind} {x:Str} {v:Value}:∀{P:List Str} {vs:List Value} {i:Nat} {m:Str->Option Value},P.Nodup->P[i]?=some x->vs[i]?=some v->kindOf x≠some .local ->
  bindC kindOf (P.zip vs) m x=some v
 | [],_,_,_,_,h,_,_=>by simp at h
 | _::_,[],_,_,_,_,h,_=>by simp at h
 | p::P,w::vs,0,m,nd,h1,h2,hk=>by
  simp at h1 h2;subst h1;subst h2;show bindC kindOf ((p,w)::P.zip vs) m p=_
  unfold bindC;rw [kf fun v hv=>(List.nodup_cons.mp nd).1 (of_mem_zip hv).1,if_neg hk]
  simp
 | p::P,w::vs,i+1,m,nd,h1,h2,hk=>by
  show bindC kindOf ((p,w)::P.zip vs) m x=_
  unfold bindC;exact kg (i:=i) (List.nodup_cons.mp nd).2 (by simpa using h1) (by simpa using h2) hk
def start (N:List Str) (vs:List V):St:=vs.map some++List.replicate (N.length-vs.length) none
def eX (CX:pe) (P:Program) (w:World) (K:Fg) (mg:Str->Option Value) (base:Heap) (N:List Str) (qual:Str) (scope:Scope) (f:Addr) (cd:Value) (A:Around) (outer:List Env) (s:Shared) (H:Hp) (E:XK):Cx where
 prog:=P
 w:=w
 K:=K
 mg:=mg
 base:=base
 A:=A.deeper (envOfC qual scope s.heap.objs.size f cd)
 N:=N
 s₀:=s
 H₀:=H
 env:=envOfC qual scope s.heap.objs.size f cd
 outer:=outer
 stack:=envOfC qual scope s.heap.objs.size f cd::outer
 ex:=[]
 calm:=true
 fn:=fun _=>true
 pn:=[]
 xe:=fun e s'=>wpAny (model P w) (A.deeper (envOfC qual scope s.heap.objs.size f cd)) (leaving (envOfC qual scope s.heap.objs.size f cd) e) (fun _ s''=>CX outer H s E e s'') (fun e' s''=>CX outer H s E e' s'') s'
theorem mR {sc:Scope} {n:Nat} {x:Str} (h:sc.names.lookup x=some .cell):∃c,(cellsFrom n sc.names []).lookup x=some c:=by
 have q:=PySem.W.cellsFrom_some sc.names n [] (.inl h)
 exact Option.isSome_iff_exists.mp q
theorem j0 {CX:pe} {P:Program} {w:World} {K:Fg} {mg:Str->Option Value} {base:Heap} {N ps:List Str} {qual:Str} {scope:Scope} {f:Addr} {cd:Value} {A:Around} {outer:List Env} {s s1:Shared} {H:Hp} {E:XK} {us:List Value} {vs:List V}
  (S:dW N ps scope) (hd:A.handled=none) (e0:qN P w K mg base A outer s H) (hl:vs.length=ps.length) (r:Vals vs us)
  (x:InCallC s s.heap.objs.size (bindL (envOfC qual scope s.heap.objs.size f cd).kindOf (ps.zip us) fun _=>none) (cellsFrom (s.heap.objs.size+1) scope.names []) (bindC (envOfC qual scope s.heap.objs.size f cd).kindOf (ps.zip us) fun _=>none) s1) :
  Inv (eX CX P w K mg base N qual scope f cd A outer s H E) [] (start N vs) H s1:=by
 have hpl:ps.length<=N.length:=by have:=congrArg List.length S.pre;rw [length_take] at this;omega
 obtain ⟨h1,tk,rfl,hk⟩:=x.done;have noA:∀b:Addr,b∉(eX CX P w K mg base N qual scope f cd A outer s H E).ex:=fun b z=>absurd (show b∈([]:List Addr) from z) (by simp)
 refine ⟨⟨e0.mod,S.kind,rfl,rfl,KW _,fun y z c h1 h2=>?_,fun y hy=>?_,fun y c _ h=>?_,fun _=>hd,Around.frames_deeper e0.frames,.inr ⟨rfl,rfl⟩,fun b z=>absurd z (noA b),e0.bs,e0.bsz,fun b _ _=>noA b,fun b z=>absurd z (noA b),e0.funs,e0.frf⟩,
  rfl,e0.bare,Un.kept hk,⟨_,x.toInCall.ns,fun i y v h1 h2 h3=>?_⟩,fun y c h=>⟨_,x.cell y c h⟩,e0.hok.fresh (KW _),fun y c h=>?_,fun p hp=>absurd (show p∈([]:List (Addr×Obj)) from hp) (by simp),e0.hok.kept hk,?_⟩
 ·exact name_of_addr x.apart (PySem.mem_of_lookup h1) (PySem.mem_of_lookup h2)
 ·have hy:scope.names.lookup y=some .cell\/scope.names.lookup y=some .free:=hy
  rcases hy with hy | hy
  ·exact mR hy
  ·exact absurd rfl (S.nofree _ (PySem.mem_of_lookup hy))
 ·exact Nat.le_of_lt (x.above y c (PySem.mem_of_lookup h))
 ·have hi:i<vs.length:=by
   unfold start at h2;by_cases hi:i<vs.length
   ·exact hi
   ·rw [getElem?_append_right (by simpa using hi)] at h2
    rw [getElem?_replicate] at h2;split at h2<;>cases h2
  have ha:vs[i]?=some v:=by
   unfold start at h2;rw [getElem?_append_left (by simpa using hi),getElem?_map] at h2
   cases e:vs[i]? with
   | none=>rw [e] at h2;cases h2
   | some a=>rw [e] at h2;cases h2;rfl
  obtain ⟨u,hu,rv⟩:=r.get ha;have hp:ps[i]?=some y:=by
   rw [<-S.pre,List.getElem?_take_of_lt (by omega)];exact h1
  have ndP:ps.Nodup:=by rw [<-S.pre];exact S.nd.sublist (List.take_sublist _ _)
  refine ⟨u,rv,?_⟩
  rcases S.par y (mem_of_getElem? hp) with k | k
  ·exact .inl ⟨k,ke ndP hp hu k⟩
  ·obtain ⟨c,e⟩:=mR (n:=s.heap.objs.size+1) k
   refine .inr ⟨.inl k,c,e,?_⟩
   have q:=x.cell y c e
   rw [kg ndP hp hu (by show scope.names.lookup y≠_;rw [k];decide)] at q
   exact q
 ·exact e0.hok.fresh (Nat.le_of_lt (x.above y c (PySem.mem_of_lookup h)))
 ·unfold start
  show _=N.length
  rw [length_append,length_map,List.length_replicate];omega
theorem yv {CX:pe} {P:Program} {w:World} {K:Fg} {mg:Str->Option Value} {base:Heap} {k:Nat} {f:Addr} {name qual:Str} {params:Arguments} {body:List Stmt} {scope:Scope} {dV kV doc pm cdv ct oc:Value} {an od:Option Addr}
  {osl:Array (Option Value)} {N ps:List Str} {sp:Sp} (lk:K.lookup f=some ⟨oc,od,.func (PySem.W.fnOf name qual params body scope dV kV doc pm an cdv ct),osl⟩) (hcd:PySem.W.codeIn K cdv qual=true) (S:dW N ps scope)
  (len:∀vs H Q E,sp vs H Q E->vs.length=ps.length)
  (hbody:∀(A:Around) (outer:List Env) (s:Shared) (H:Hp) (vs:List V) (Q:VK) (E:XK),Room k (A.deeper (envOfC qual scope s.heap.objs.size f cdv))->sp vs H Q E ->
   ∃t,PSs (eX CX P w K mg base N qual scope f cdv A outer s H E) body t/\t { nx:=fun _ H'=>Q .non H',rt:=Q } (start N vs) H) :
  dO P w K mg base CX (k+1) f (PySem.W.fnOf name qual params body scope dV kV doc pm an cdv ct) ps sp:=by
 refine ⟨len,fun A outer s H args us vs Q E hr e0 hb r hsp=>?_⟩
 have hl:=len _ _ _ _ hsp
 have KX:K.In s.heap:=e0.mod.kin.keeps fun b o e=>(e0.bs b o e).1
 have lim:s.heap.NoLimit:=e0.mod.nolimit.keeps fun b o e=>(e0.bs b o e).1
 have hkind:∀y∈ps.zip us,scope.names.lookup y.1=some .local\/(scope.names.lookup y.1=some .cell/\((cellsFrom (s.heap.objs.size+1) scope.names []).lookup y.1).isSome=true):=fun ⟨n,v⟩ hy=>by
  rcases S.par n (of_mem_zip hy).1 with q | q
  ·exact .inl q
  ·exact .inr ⟨q,PySem.W.cellsFrom_some _ _ _ (.inl q)⟩
 refine codeAny_call_function hr.depth (KX _ _ lk) rfl S.co S.gen rfl (PySem.W.codeRec_of KX hcd) (hb _ _ _ _ ?_)
 refine wpAny_newFunctionEnv_cells S.kind hkind fun env he s1 x=>?_
 subst he;refine ⟨lim.keeps x.toInCall.keep,codeAny_func ?_⟩
 obtain ⟨t,ht,hq⟩:=hbody A outer s H vs Q E (hr.deeper _) hsp;have I:Inv (eX CX P w K mg base N qual scope f cdv A outer s H E) [] (start N vs) H s1:=j0 S hr.hd e0 hl r x
 refine wpAny_mono (ht [] s1 (start N vs) H _ I hq) (fun fl s' hs=>?_) fun e s' hs=>hs
 have fin:∀{σ':St} {H':Hp} {v:V} {u:Value},Inv (eX CX P w K mg base N qual scope f cdv A outer s H E) [] σ' H' s'->RelV v u->Q v H'->CE outer P w H s Q u s':=
  fun {σ' H' v u} J rv q=>⟨v,H',J.os,J.bare,J.base,J.hok,rv,q⟩
 cases fl with
 | ret u=>
  obtain ⟨v,σ',H',J,rv,q⟩:=hs;exact fin J rv q
 | next=>
  obtain ⟨σ',H',J,q⟩:=hs;exact fin (v:=V.non) (u:=Value.none) J rfl q
 | brk=>
  obtain ⟨_,_,_,q⟩:=hs;exact False.elim q
 | cont=>
  obtain ⟨_,_,_,q⟩:=hs;exact False.elim q
section
variable {X:Cx} {x:Str} {p pos:Pos} {e:Expr} {es:List Expr} {t:TA} {id T:String} {r:List V->Hp->VK->Prop}
def FJ (r:List V->Hp->VK->Prop) (t:TA):TE:=fun σ H Q=>t σ H fun vs H1=>r vs H1 Q
theorem GP (hc:CallR X (.builtin id) r) (hg:Gl X x) (hm:X.mg x=none) (hv:bootBuiltins x=some (.builtin id)) (ha:PA X (e::es) t) (hn:x ≠ "__name__":=by decide) (hdb:(x==("__debug__":Str))=false:=by decide)
  (he:starEach (e::es) X.env=(false,eval e X.env)::starEach es X.env:=by rfl) (hpl:(backTo pos (starEach es X.env)).any (·.1)=false:=by rfl):PE X (.Call (.Name x p) (e::es) [] pos) (FJ r t):=by
 intro pins s σ H Q I h;refine wpAny_Call_Name_kw (u4 I hg hm hv ?_ hn hdb)
 exact PyProof.Rows.callWith_builtin1 (bM (ha pos pins s σ H _ I h) fun us s1 ⟨vs,H1,I1,r1,q1⟩=>hc pins s1 σ H1 vs us Q I1 r1 q1) he hpl
theorem jQ (hc:CallR X (.type T) r) (hg:Gl X x) (hm:X.mg x=none) (hv:bootBuiltins x=some (.type T)) (ha:PA X (e::es) t) (hn:x ≠ "__name__":=by decide) (hdb:(x==("__debug__":Str))=false:=by decide)
  (he:starEach (e::es) X.env=(false,eval e X.env)::starEach es X.env:=by rfl) (hpl:(backTo pos (starEach es X.env)).any (·.1)=false:=by rfl):PE X (.Call (.Name x p) (e::es) [] pos) (FJ r t):=by
 intro pins s σ H Q I h;refine wpAny_Call_Name_kw (u4 I hg hm hv ?_ hn hdb)
 exact PyProof.Rows.callWith_type1 (bM (ha pos pins s σ H _ I h) fun us s1 ⟨vs,H1,I1,r1,q1⟩=>hc pins s1 σ H1 vs us Q I1 r1 q1) he hpl
end
end L2
namespace HT
open PySem PyProof.Rows
section
open PySem.SeqAt
open PySem.AutoSeq1 (wpAny_loadPart')
open PySem.MeetsSeq PySem.MeetsSeq2 PySem.MeetsSeq3
end
section
variable {prog:Program} {w:World} {A:Around} {E:Value->Shared->Prop} {s:Shared}
def sIx (n d:Nat):Option Int->Nat
 | none=>d
 | some v=>if v<0 then (v+(n:Int)).toNat else min v.toNat n
theorem sIx_none (n d:Nat):sIx n d none=d:=rfl
theorem sIx_nat (n d k:Nat):sIx n d (some (k:Int))=min k n:=by
 show (if (k:Int)<0 then ((k:Int)+(n:Int)).toNat else min (k:Int).toNat n)=min k n
 rw [if_neg (by omega),Int.toNat_natCast]
end
end HT
namespace L2
open PySem PySem.Spec PyProof.Rows
abbrev TO:=St->Hp->(Option Int->Hp->Prop)->Prop
def PO (X:Cx) (e:Option Expr) (t:TO):Prop:=
 ∀(pins:List (Addr×Obj)) (s:Shared) (σ:St) (H:Hp) (Q:Option Int->Hp->Prop),Inv X pins σ H s->t σ H Q ->
  wpAny (model X.prog X.w) X.A (evalPart e X.env) (fun u s'=>∃o H',Inv X pins σ H' s'/\IsPart u o/\Q o H') X.xe s
def vp:TO:=fun _ H Q=>Q none H
def C0 (t:TE):TO:=fun σ H Q=>t σ H fun x H1=>∃i,x=.int i/\Q (some i) H1
section
variable {X:Cx} {e:Expr} {te:TE} {lo hi:Option Expr} {tl th:TO} {pos p2:Pos}
theorem oJ:PO X none vp:=by
 intro pins s σ H Q I h;rw [evalPart_none];exact KS ⟨none,H,I,.none,h⟩
theorem oI (h:PE X e te):PO X (some e) (C0 te):=by
 intro pins s σ H Q I hw;rw [evalPart_some];refine bM (h pins s σ H _ I hw) fun u s1 ⟨x,H1,I1,r1,q1⟩=>?_
 obtain ⟨i,rfl,q⟩:=q1;obtain ⟨t,rfl⟩:=r1;exact ⟨some i,H1,I1,.int i t,q⟩
def Kb (X:Cx) (r:V->Option Int->Option Int->Hp->VK->Prop):Prop:=
 ∀(pins:List (Addr×Obj)) (s:Shared) (σ:St) (H:Hp) (x:V) (v vl vu:Value) (lo hi:Option Int) (sl:Addr) (Q:VK),Inv X pins σ H s->RelV x v->s.heap.IsSliceOf sl vl vu .none->IsPart vl lo->IsPart vu hi->r x lo hi H Q ->
  ∃T id,typeLookup (.type T) "__getitem__"=pure (some (.builtin id))/\s.TypeIs v T/\wpAny (model X.prog X.w) X.A (getItem v (.ref sl)) (EP X pins σ Q) X.xe s
def Kh (r:V->Option Int->Option Int->Hp->VK->Prop) (te:TE) (tl th:TO):TE:=fun σ H Q=>te σ H fun x H1=>tl σ H1 fun l H2=>th σ H2 fun u H3=>r x l u H3 Q
theorem lS {r:V->Option Int->Option Int->Hp->VK->Prop} (hr:Kb X r) (he:PE X e te) (hl:PO X lo tl) (hu:PO X hi th):PE X (.Subscript e (.Slice lo hi none p2) pos) (Kh r te tl th):=by
 intro pins s σ H Q I h;refine Subscript_ (bM (he pins s σ H _ I h) fun v s1 ⟨x,H1,I1,r1,q1⟩=>?_)
 refine wpAny_Slice (bM (hl pins s1 σ H1 _ I1 q1) fun vl s2 ⟨l,H2,I2,pl,q2⟩=>bM (hu pins s2 σ H2 _ I2 q2) fun vu s3 ⟨u,H3,I3,pu,q3⟩=>?_)
 rw [evalPart_none];refine KS ?_
 have I4:Inv X pins σ H3 { s3 with heap:=s3.heap.push { cls:=.type "slice",data:=.fields #[vl,vu,.none] } }:=I3.kept (t':=s3.toks) fun b ob q=>KU _ q
 obtain ⟨T,id,hT,ht,hg⟩:=hr pins { s3 with heap:=s3.heap.push { cls:=.type "slice",data:=.fields #[vl,vu,.none] } } σ H3 x v vl vu l u s3.heap.objs.size Q I4 r1 (Heap.IsSliceOf.new ..) pl pu q3
 show wpAny (model X.prog X.w) X.A (subscriptTail e (.Slice lo hi none p2) v (.ref s3.heap.objs.size)) (EP X pins σ Q) X.xe { s3 with heap:=s3.heap.push { cls:=.type "slice",data:=.fields #[vl,vu,.none] } }
 exact tail_any (ops:=[.ref s3.heap.objs.size,v]) ht hT hg (by with_unfolding_all rfl)
def qD (xs:List V) (lo hi:Option Int):List V:=(xs.drop (HT.sIx xs.length 0 lo)).take (HT.sIx xs.length xs.length hi-HT.sIx xs.length 0 lo)
theorem mL (xs:List V) (lo hi:Option Int):(qD xs lo hi).length<=xs.length:=by
 unfold qD;rw [length_take,List.length_drop];omega
end
def eV (n:Nat) (i:Int):Option Nat:=if 0<=i then (if i<n then some i.toNat else none) else if -(n:Int)<=i then some (i+n).toNat else none
def eY {α:Type} (xs:List α) (i:Int):Option α:=(eV xs.length i).bind fun j=>xs[j]?
theorem oT {n:Nat} {i:Int} {j:Nat} (h:eV n i=some j):seqIndex? i n=some j/\j<n/\-(n:Int)<=i/\i<n:=by
 unfold eV at h;by_cases h0:0<=i
 ·rw [if_pos h0] at h
  by_cases h1:i<n
  ·rw [if_pos h1] at h
   have e:i.toNat=j:=Option.some.inj h
   exact ⟨by rw [seqIndex_of h0 h1,e],by omega,by omega,h1⟩
  ·rw [if_neg h1] at h;cases h
 ·rw [if_neg h0] at h
  by_cases h1:-(n:Int)<=i
  ·rw [if_pos h1] at h
   have e:(i+n).toNat=j:=Option.some.inj h
   exact ⟨by rw [seqIndex_neg (by omega) h1,e],by omega,h1,by omega⟩
  ·rw [if_neg h1] at h;cases h
theorem Gz {α:Type} {xs:List α} {i:Int} {v:α} (h:eY xs i=some v):∃j,seqIndex? i xs.length=some j/\xs[j]?=some v/\j<xs.length/\-(xs.length:Int)<=i/\i<xs.length:=by
 unfold eY at h
 cases e:eV xs.length i with
 | none=>rw [e] at h;cases h
 | some j=>
  rw [e] at h;obtain ⟨h1,h2,h3,h4⟩:=oT e;exact ⟨j,h1,h,h2,h3,h4⟩
def ED (b:Expr):Prop:=∀o i,subscripted b false o i=operate [o,i] (getItem o i)
def IxR (X:Cx) (r:R2):Prop:=
 ∀(value slice:Expr) (pins:List (Addr×Obj)) (s:Shared) (σ:St) (H:Hp) (x y:V) (v u:Value) (Q:VK),Inv X pins σ H s->RelV x v->RelV y u->r x y H Q ->
  subscripted slice false v u=operate [v,u] (getItem v u)->wpAny (model X.prog X.w) X.A (subscriptTail value slice v u) (EP X pins σ Q) X.xe s
def Ee (X:Cx) (id:String) (r:V->List V->Hp->VK->Prop):Prop:=
 ∀(pins:List (Addr×Obj)) (s:Shared) (σ:St) (H:Hp) (x:V) (xs:List V) (v:Value) (us:List Value) (Q:VK),Inv X pins σ H s->RelV x v->Vals xs us->r x xs H Q ->
  wpAny (model X.prog X.w) X.A (call (.builtin id) (v::us)) (EP X pins σ Q) X.xe s
section
variable {X:Cx} {a b:Expr} {ta tb:TE} {pos:Pos}
theorem IxR.or {r r':R2} (h:IxR X r) (h':IxR X r'):IxR X (fun x y H Q=>r x y H Q\/r' x y H Q):=by
 intro value slice pins s σ H x y v u Q I rx ry q hs;rcases q with q | q
 ·exact h value slice pins s σ H x y v u Q I rx ry q hs
 ·exact h' value slice pins s σ H x y v u Q I rx ry q hs
theorem yf {r:R2} (hr:IxR X r) (ha:PE X a ta) (hb:PE X b tb) (hs:ED b):PE X (.Subscript a b pos) (vo r ta tb):=by
 intro pins s σ H Q I h;exact Subscript_ (By ha hb I h fun v u s2 x y H2 I2 rx ry q=>hr a b pins s2 σ H2 x y v u Q I2 rx ry q (hs _ _))
def Dm (K:Fg):R2:=fun x y H Q=>∃p xs i v,x=.ref p/\y=.int i/\SqL K H p xs/\eY xs i=some v/\Q v H
def Dk (K:Fg):R2:=fun x y H Q=>∃p xs i v,x=.ref p/\y=.int i/\SqT K H p xs/\eY xs i=some v/\Q v H
def Dl:R2:=fun x y H Q=>∃z i c,x=.str z/\y=.int i/\z.length<=sizeLine/\eY z.cps.toList i=some c/\Q (.str ⟨#[c]⟩) H
theorem ix_list:IxR X (Dm X.K):=by
 intro value slice pins s σ H x y v u Q I rx ry h hs;obtain ⟨p,xs,i,z,rfl,rfl,hq,he,q⟩:=h
 cases rx;obtain ⟨t,rfl⟩:=ry;obtain ⟨its,r,pl,hz⟩:=I.list hq;obtain ⟨j,h1,h2,h3,h4,h5⟩:=Gz he;obtain ⟨w,ew,rw'⟩:=r.get h2;have hl:=r.length
 have hn:=yL
 have fin:EP X pins σ Q w s:=⟨z,H,I,rw',q⟩
 by_cases h0:0<=i
 ·have hj:i.toNat=j:=by
   rw [seqIndex_of h0 h5] at h1;exact Option.some.inj h1
  exact item_listR pl.isList h0 (by omega) (by rw [hj];simpa using ew) fin hs
 ·have hj:(i+(its.toArray.size:Int)).toNat=j:=by
   rw [seqIndex_neg (by omega) h4] at h1
   rw [size_toArray,<-hl];exact Option.some.inj h1
  exact subscriptTail_builtinR (x:=w) pl.isList.typeIs slot_list_getitem.lookup
   (wpAny_getItem_list_neg (Q:=fun r s'=>r=w/\EP X pins σ Q r s') pl.isList (by omega) (by rw [size_toArray]<;>omega) (by omega) (by rw [hj];simpa using ew) ⟨rfl,fin⟩) hs
theorem ix_tup:IxR X (Dk X.K):=by
 intro value slice pins s σ H x y v u Q I rx ry h hs;obtain ⟨p,xs,i,z,rfl,rfl,hq,he,q⟩:=h
 cases rx;obtain ⟨t,rfl⟩:=ry;obtain ⟨its,r,pl,hz⟩:=I.tuple hq;obtain ⟨j,h1,h2,h3,h4,h5⟩:=Gz he;obtain ⟨w,ew,rw'⟩:=r.get h2;have hl:=r.length
 have hn:=yL
 have fin:EP X pins σ Q w s:=⟨z,H,I,rw',q⟩
 exact subscriptTail_builtinR (x:=w) pl.typeIs slot_tuple_getitem.lookup
  (getItem_tuple (j:=j) (Q:=fun r s'=>r=w/\EP X pins σ Q r s') pl (by omega) (by omega) (by rw [size_toArray,<-hl];exact h1) (by simpa using ew) ⟨rfl,fin⟩) hs
theorem AN:IxR X Dl:=by
 intro value slice pins s σ H x y v u Q I rx ry h hs;obtain ⟨z,i,c,rfl,rfl,hz,he,q⟩:=h;obtain ⟨t,rfl⟩:=rx;obtain ⟨t',rfl⟩:=ry;obtain ⟨j,h1,h2,h3,h4,h5⟩:=Gz he;have hl:z.cps.toList.length=z.length:=by simp [Str.length]
 rw [hl] at h1 h4 h5
 have hn:=yL
 exact tail_any (typeIs_str s z t) slot_str_getitem.lookup (getItem_str (c:=c) (by
  have e1:decide (i < -(2 ^ 63:Int))=false:=decide_eq_false (by omega)
  have e2:decide (i≥2 ^ 63)=false:=decide_eq_false (by omega)
  rw [e1,e2,Bool.or_false]) (by rw [h1];simpa using h2) ⟨.str ⟨#[c]⟩,H,I.tok _,⟨_,rfl⟩,q⟩) hs
def IE (K:Fg):R2:=fun x y H Q=>Dm K x y H Q\/Dk K x y H Q\/Dl x y H Q
theorem tX:IxR X (IE X.K):=ix_list.or (ix_tup.or AN)
theorem nB (its:List Value) (n j:Nat) (u:Value):Obj.mapSeq (·.setIfInBounds j u) { cls:=.type "list",data:=.seq its.toArray n }={ cls:=.type "list",data:=.seq (its.set j u).toArray n }:=by
 simp [Obj.mapSeq]
theorem Inv.lst {pins:List (Addr×Obj)} {σ:St} {H:Hp} {s:Shared} {p:Addr} {xs:List V} (I:Inv X pins σ H s) (h:H p=some (.lst xs)) :
  ∃(its:List Value) (n:Nat),Vals xs its/\s.heap.get? p=some { cls:=.type "list",data:=.seq its.toArray n }/\xs.length<=sizeLine:=by
 obtain ⟨z,its,n,r,e⟩:=I.hok p _ h;exact ⟨its,n,r,e,z⟩
theorem Inv.lstUpd {pins:List (Addr×Obj)} {σ:St} {H:Hp} {s:Shared} {p:Addr} {xs ys:List V} {its its':List Value} {n n':Nat} {f:Obj->Obj} (I:Inv X pins σ H s) (h:H p=some (.lst xs))
  (ho:s.heap.get? p=some { cls:=.type "list",data:=.seq its.toArray n }) (hf:f { cls:=.type "list",data:=.seq its.toArray n }={ cls:=.type "list",data:=.seq its'.toArray n' }) (r:Vals ys its') (hz:ys.length<=sizeLine) (t:Nat) :
  Inv X pins σ (bZ H p (.lst ys)) { s with heap:=s.heap.update p f,toks:=t }:=by
 have e:(s.heap.update p f).get? p=some { cls:=.type "list",data:=.seq its'.toArray n' }:=by
  rw [Heap.get?_update_self f ho (by rw [hf]<;>rfl),hf]
 refine I.write (x:=p) (e:=p) (by rw [h];trivial) (.inl rfl) (fun b u hb q=>(Heap.get?_update_other _ _ (Ne.symm hb)).trans q) ⟨_,e⟩ ?_
 exact ⟨hz,its',n',r,e⟩
def sO:V->V->V->Hp->(Hp->Prop)->Prop:=fun o i v H Q=>∃p xs k j,o=.ref p/\i=.int k/\H p=some (.lst xs)/\eV xs.length k=some j/\Q (bZ H p (.lst (xs.set j v)))
theorem r9:Eb X sO:=by
 intro pins s σ H o i v ov iv u Q I ro ri rv h;obtain ⟨p,xs,k,j,rfl,rfl,hp,hj,q⟩:=h
 cases ro;obtain ⟨t,rfl⟩:=ri;obtain ⟨its,n,r,ho,hz⟩:=I.lst hp;obtain ⟨h1,h2,h3,h4⟩:=oT hj;have hl:=r.length
 have hn:=yL
 have I':Inv X pins σ (bZ H p (.lst (xs.set j v))) { s with heap:=s.heap.update p (Obj.mapSeq (·.setIfInBounds j u)) }:=
  I.lstUpd hp ho (nB its n j u) (r.set rv j) (by rw [length_set];exact hz) s.toks
 by_cases h0:0<=k
 ·have hk:k.toNat=j:=by
   rw [seqIndex_of h0 h4] at h1;exact Option.some.inj h1
  exact PySem.W.ki_setAt ho h0 (by omega) (by rw [size_toArray,<-hl];exact h4) (by rw [hk];exact ⟨_,I',q⟩)
 ·have hk:(k+(its.toArray.size:Int)).toNat=j:=by
   rw [seqIndex_neg (by omega) h3] at h1
   rw [size_toArray,<-hl];exact Option.some.inj h1
  exact PySem.W.ki_setBack ho (by omega) (by rw [size_toArray,<-hl];exact h3) (by omega) (by rw [hk];exact ⟨_,I',q⟩)
theorem kn (lo hi:Option Int) (n:Nat):(sliceBounds lo hi none n).1=((HT.sIx n 0 lo:Nat):Int)/\(sliceBounds lo hi none n).2.1=((HT.sIx n n hi:Nat):Int)/\(sliceBounds lo hi none n).2.2=1:=by
 refine ⟨?_,?_,rfl⟩
 ·cases lo with
  | none=>simp [sliceBounds,HT.sIx]
  | some i=>
   simp only [sliceBounds,HT.sIx,Option.getD_none,show (1:Int)>0 by decide,if_true]
   by_cases h:i<0
   ·simp only [h,if_true]<;>omega
   ·simp only [h,if_false]<;>omega
 ·cases hi with
  | none=>simp [sliceBounds,HT.sIx]
  | some i=>
   simp only [sliceBounds,HT.sIx,Option.getD_none,show (1:Int)>0 by decide,if_true]
   by_cases h:i<0
   ·simp only [h,if_true]<;>omega
   ·simp only [h,if_false]<;>omega
theorem i7 (its:List Value) (lo hi:Option Int):slicePick its.toArray lo hi none=((its.drop (HT.sIx its.length 0 lo)).take (HT.sIx its.length its.length hi-HT.sIx its.length 0 lo)).toArray:=by
 obtain ⟨h1,h2,h3⟩:=kn lo hi its.toArray.size;unfold slicePick;rw [h1,h2,h3];simp only [sliceRange_one,pick_run,size_toArray]<;>rfl
def zW (K:Fg):V->Option Int->Option Int->Hp->VK->Prop:=fun x lo hi H Q=>∃a xs,x=.ref a/\SqL K H a xs/\∀p,H p=none->Q (.ref p) (bZ H p (.lst (qD xs lo hi)))
theorem oh:Kb X (zW X.K):=by
 intro pins s σ H x v vl vu lo hi sl Q I rx hs pl pu h;obtain ⟨a,xs,rfl,hx,q⟩:=h
 cases rx;obtain ⟨its,r,ht,hz⟩:=I.list hx;have hlen:=r.length
 refine ⟨"list",_,slot_list_getitem.lookup,ht.isList.typeIs,?_⟩
 refine wpAny_getItem_list_slice ht.isList hs pl pu .none (by simp) ?_ (by rw [size_toArray]<;>omega)
 rw [i7,<-hlen];refine ⟨.ref s.heap.objs.size,_,I.laid (t':=s.toks) (o:=.lst (qD xs lo hi)) (fun b ob q=>KU _ q) (KW _) ?_,rfl,q _ (I.hok.fresh (KW _))⟩
 exact ⟨Nat.le_trans (mL xs lo hi) hz,_,0,(r.drop (HT.sIx xs.length 0 lo)).take (HT.sIx xs.length xs.length hi-HT.sIx xs.length 0 lo),Heap.get?_push_size _ rfl⟩
theorem call_len_seq:CallR X (.builtin "len") (fun xs H Q=>∃p ys,xs=[.ref p]/\(SqL X.K H p ys\/SqT X.K H p ys)/\Q (.int ys.length) H):=by
 intro pins s σ H xs us Q I r h;obtain ⟨p,ys,rfl,hq,q⟩:=h;obtain ⟨u,rfl,rx⟩:=vals1 r
 cases rx;have hn:=yL
 rcases hq with hq | hq
 ·obtain ⟨its,r',pl,hz⟩:=I.list hq
  have hlen:=r'.length
  exact Calls.call_len_list pl.isList (by simp only [size_toArray]<;>omega) ⟨.int ys.length,H,I.tok _,⟨s.toks+1,by rw [size_toArray,hlen]⟩,q⟩
 ·obtain ⟨its,r',pl,hz⟩:=I.tuple hq
  have hlen:=r'.length
  exact len_tuple pl (by simp only [size_toArray]<;>omega) ⟨.int ys.length,H,I.tok _,⟨s.toks+1,by rw [size_toArray,hlen]⟩,q⟩
theorem kP:CallR X (.builtin "len") (fun xs H Q=>∃z,xs=[.str z]/\z.length<=sizeLine/\Q (.int z.length) H):=by
 intro pins s σ H xs us Q I r h;obtain ⟨z,rfl,hz,q⟩:=h;obtain ⟨u,rfl,t,rfl⟩:=vals1 r;have hn:=yL
 exact len_str (by omega) ⟨.int z.length,H,I.tok _,⟨_,rfl⟩,q⟩
theorem CallR.or {f:Value} {r r':List V->Hp->VK->Prop} (h:CallR X f r) (h':CallR X f r'):CallR X f (fun xs H Q=>r xs H Q\/r' xs H Q):=by
 intro pins s σ H xs us Q I rs q;rcases q with q | q
 ·exact h pins s σ H xs us Q I rs q
 ·exact h' pins s σ H xs us Q I rs q
theorem kO:CallR X (.type "list") (fun xs H Q=>∃p ys,xs=[.ref p]/\(SqL X.K H p ys\/SqT X.K H p ys)/\∀l,H l=none->Q (.ref l) (bZ H l (.lst ys))):=by
 intro pins s σ H xs us Q I r h;obtain ⟨p,ys,rfl,hq,q⟩:=h;obtain ⟨u,rfl,rx⟩:=vals1 r
 cases rx;have fin:∀(its:List Value),Vals ys its->ys.length<=sizeLine->∀(h':Heap) (c':Nat),(∀b o',s.heap.get? b=some o'->h'.get? b=some o') ->
   h'.get? s.heap.objs.size=some { cls:=.type "list",dict:=none,data:=.seq its.toArray c',slots:=#[] }->EP X pins σ Q (.ref s.heap.objs.size) { s with heap:=h' }:=fun its r' hz h' c' kp e=>
  ⟨.ref s.heap.objs.size,_,I.laid (t':=s.toks) kp (KW _) (show ObjOk X.prog X.w _ h' _ (.lst ys) from ⟨hz,its,c',r',e⟩),rfl,q _ (I.hok.fresh (KW _))⟩
 rcases hq with hq | hq
 ·obtain ⟨its,r',pl,hz⟩:=I.list hq
  have hlen:=r'.length
  obtain ⟨o,ho,hc,n,hd⟩:=pl.isList;exact call_list_seq p (.inl rfl) ho hc hd (fun h' c' kp e=>fin its r' hz h' c' kp e) (by simp only [size_toArray]<;>omega)
 ·obtain ⟨its,r',pl,hz⟩:=I.tuple hq
  have hlen:=r'.length
  obtain ⟨o,ho,hc,n,hd⟩:=pl;exact call_list_seq p (.inr rfl) ho hc hd (fun h' c' kp e=>fin its r' hz h' c' kp e) (by simp only [size_toArray]<;>omega)
def HS (K:Fg) (T:String) (x:V) (H:Hp):Prop:=match x with
 | .str _=>T = "str"
 | .int _=>T = "int"
 | .ref p=>(T = "list"/\∃xs,SqL K H p xs)\/(T = "tuple"/\∃o,K.lookup p=some o/\o.cls=.type "tuple"/\o.dict=none) \/
   (T = "dict"/\((∃kvs,H p=some (.dK kvs))\/∃kvs,H p=some (.dT kvs)))\/(T = "set"/\∃S n,H p=some (.set S n))
 | _=>False
theorem zi {pins:List (Addr×Obj)} {σ:St} {H:Hp} {s:Shared} {T:String} {x:V} {v:Value} (I:Inv X pins σ H s) (r:RelV x v) (ty:HS X.K T x H) :
  s.TypeIs v T/\∀a,v=.ref a->∃ob,s.heap.get? a=some ob/\ob.dict=none:=by
 cases x with
 | str z=>
  obtain ⟨t,rfl⟩:=r
  cases (show T = "str" from ty)
  exact ⟨typeIs_str s z t,fun _ e=>nomatch e⟩
 | int i=>
  obtain ⟨t,rfl⟩:=r
  cases (show T = "int" from ty)
  exact ⟨typeIs_int s i t,fun _ e=>nomatch e⟩
 | ref p=>
  cases r;rcases ty with ⟨rfl,xs,hq⟩ | ⟨rfl,o,hk,hc,hd⟩ | ⟨rfl,hk⟩ | ⟨rfl,S,n,hk⟩
  ·obtain ⟨its,_,pl,_⟩:=I.list hq
   refine ⟨pl.isList.typeIs,fun a e=>?_⟩
   cases e;obtain ⟨o,n,e,c,hd,_⟩:=pl;exact ⟨o,e,hd⟩
  ·refine ⟨⟨o,I.kIn p o hk,hc⟩,fun a e=>?_⟩
   cases e;exact ⟨o,I.kIn _ o hk,hd⟩
  ·have z:∃o,s.heap.get? p=some o/\o.ExactDict:=by
    rcases hk with ⟨kvs,hk⟩ | ⟨kvs,hk⟩
    ·obtain ⟨_,_,_,_,o,_,_,e,ex,_⟩:=I.hok p _ hk
     exact ⟨o,e,ex⟩
    ·obtain ⟨_,_,_,_,o,_,_,e,ex,_⟩:=I.hok p _ hk
     exact ⟨o,e,ex⟩
   obtain ⟨o,e,ex⟩:=z;refine ⟨⟨o,e,ex.1⟩,fun a e2=>?_⟩
   cases e2;exact ⟨o,e,ex.2.1⟩
  ·obtain ⟨o,_,_,_,e,ex,_⟩:=I.hok p _ hk
   refine ⟨⟨o,e,ex.1⟩,fun a e2=>?_⟩
   cases e2;exact ⟨o,e,ex.2.1⟩
 | _=>exact False.elim ty
def zt (K:Fg) (T:String) (r:V->List V->Hp->VK->Prop) (to:TE) (t:TA):TE:=fun σ H Q=>to σ H fun x H1=>HS K T x H1/\t σ H1 fun xs H2=>r x xs H2 Q
variable {o e:Expr} {es:List Expr} {to:TE} {t:TA} {name:Str} {apos cpos:Pos} {T id:String} {r:V->List V->Hp->VK->Prop}
theorem jR (pa:PlainAttrs T) (slot:Slot T name id) (hty:typeOf (.builtin id)=pure (.type "method_descriptor")) (hm:Ee X id r) (ho:PE X o to) (ha:PA X (e::es) t)
  (hbase:attributeBase o name X.env (eval o X.env)=eval o X.env:=by rfl)
  (hfew:((backTo cpos (starEach (e::es) X.env)).all (fun x=>!x.1)&&(backToKw cpos (keywordEach [] X.env)).all (fun x=>x.1.isSome)
   && decide ((e::es).length+([]:List Keyword).length+(if ([]:List Keyword).isEmpty then 0 else 1)<30))=true:=by rfl)
  (hline:(apos.endLine==cpos.line)=true:=by rfl) (hs:starEach (e::es) X.env=(false,eval e X.env)::starEach es X.env:=by rfl) (hplain:(backTo cpos (starEach es X.env)).any (·.1)=false:=by rfl) :
  PE X (.Call (.Attribute o name apos) (e::es) [] cpos) (zt X.K T r to t):=by
 intro pins s σ H Q I h;refine wpAny_Call_method_late hbase hfew hline rfl (bM (ho pins s σ H _ I h) fun v s1 ⟨x,H1,I1,r1,ty,q1⟩=>?_)
 obtain ⟨h1,h2⟩:=zi I1 r1 ty;refine ⟨T,id,pa,slot,hty,h1,h2,?_⟩
 have hA:=ha cpos pins s1 σ H1 _ I1 q1
 rw [hs] at hA ⊢;refine Calls.callWith_builtin (by show (false||(backTo cpos (starEach es X.env)).any (·.1))=false;rw [hplain]<;>rfl) (Calls.evalArgs_plain ?_)
 exact bM hA fun us s2 ⟨vs,H2,I2,r2,q2⟩=>hm pins s2 σ H2 x vs v us Q I2 r1 r2 q2
end
def Kz (X:Cx) (id:String) (r:V->List V->Hp->VK->Prop):Prop:=
 ∀(pins:List (Addr×Obj)) (s:Shared) (σ:St) (H:Hp) (x:V) (xs:List V) (v:Value) (us:List Value) (Q:VK),Inv X pins σ H s->RelV x v->Vals xs us->r x xs H Q ->
  wpAny (model X.prog X.w) X.A (call (.builtin id) (v::us)) (EP X pins σ Q) X.xe s
theorem Vals.one:∀{x:V} {us:List Value},Vals [x] us->∃u,us=[u]/\RelV x u
 | _,_,.cons r .nil=>⟨_,rfl,r⟩
theorem Vals.rep {xs:List V} {us:List Value} (h:Vals xs us):∀k:Nat,Vals (List.replicate k xs).flatten (List.replicate k us).flatten
 | 0=>.nil
 | k+1=>by
  rw [replicate_succ,replicate_succ,flatten_cons,flatten_cons];exact Vals.append h (Vals.rep h k)
theorem foldl_rep (its:List Value):∀(k:Nat) (acc:List Value),
  List.foldl (fun x1 x2=>x1++x2) acc.toArray (List.replicate k its.toArray)=(acc++(List.replicate k its).flatten).toArray
 | 0,acc=>by simp
 | k+1,acc=>by
  have e:acc.toArray++its.toArray=(acc++its).toArray:=by simp
  have e2:(acc++its)++(List.replicate k its).flatten=acc++(List.replicate (k+1) its).flatten:=by
   rw [replicate_succ,flatten_cons,append_assoc]
  rw [<-e2,<-foldl_rep its k (acc++its),<-e,replicate_succ,foldl_cons]
section
variable {X:Cx} {pins:List (Addr×Obj)} {σ:St} {H:Hp} {s:Shared} {l b:Addr} {xs ys zs:List V}
theorem Inv.lset {its its':List Value} {n:Nat} {f:Array Value->Array Value} {t':Nat} (I:Inv X pins σ H s) (hH:H l=some (.lst xs))
  (e:s.heap.get? l=some { cls:=.type "list",data:=.seq its.toArray n }) (hf:f its.toArray=its'.toArray) (hv:Vals ys its') (hz:ys.length<=sizeLine) :
  Inv X pins σ (bZ H l (.lst ys)) { s with heap:=s.heap.update l (Obj.mapSeq f),toks:=t' }:=by
 have q:=PySem.IsL.update e f
 rw [hf] at q;refine I.write (x:=l) (e:=l) (by rw [hH];exact trivial) (.inl rfl) (fun b' u hb hu=>(Heap.get?_update_other s.heap (Obj.mapSeq f) (Ne.symm hb)).trans hu) ⟨_,q⟩ ?_
 exact ⟨hz,its',_,hv,q⟩
theorem Inv.lnew {its:List Value} {t':Nat} (I:Inv X pins σ H s) (hv:Vals ys its) (hz:ys.length<=sizeLine) :
  Inv X pins σ (bZ H s.heap.objs.size (.lst ys)) { s with heap:=s.heap.push { cls:=.type "list",data:=.seq its.toArray },toks:=t' }:=
 I.laid (fun _ _ q=>KU _ q) (KW _) ⟨hz,its,0,hv,Heap.get?_push_size _ rfl⟩
theorem Inv.fresh (I:Inv X pins σ H s):H s.heap.objs.size=none:=I.hok.fresh (KW _)
theorem Inv.lstM (I:Inv X pins σ H s) (hH:H l=some (.lst xs)):xs.length<=sizeLine/\∃(its:List Value) (n:Nat),Vals xs its/\xs.length=its.length/\s.heap.get? l=some { cls:=.type "list",data:=.seq its.toArray n }:=by
 obtain ⟨z,its,n,r,e⟩:=I.hok l _ hH;exact ⟨z,its,n,r,r.length,e⟩
theorem tL {n:Nat} (h:n<=sizeLine):Builtin.List.listTooLong n=false:=by
 unfold Builtin.List.listTooLong;exact decide_eq_false (by omega)
end
section
variable {X:Cx}
def oF:V->List V->Hp->VK->Prop:=fun x vs H Q=>∃l xs y,x=.ref l/\vs=[y]/\H l=some (.lst xs)/\xs.length<sizeLine/\Q .non (bZ H l (.lst (xs++[y])))
theorem jW:Kz X "list.append" oF:=by
 intro pins s σ H x vs v us Q I rx rv h;obtain ⟨l,xs,y,rfl,rfl,hH,hz,q⟩:=h
 cases rx;obtain ⟨u,rfl,ru⟩:=rv.one;obtain ⟨z,its,n,r,hl,e⟩:=I.lstM hH;refine call_meets F.slot_list_append ⟨_,e,rfl⟩ F.entry_list_append (F.args_list_append_2 _ _) (PySem.list_append l its.toArray n u (by rw [size_toArray];omega)) ⟨e,?_⟩
 refine ⟨.non,_,I.lset (its':=its++[u]) hH e (by simp) (r.append (.cons ru .nil)) ?_,rfl,q⟩
 rw [length_append,length_singleton];omega
def zX:R2:=fun x y H Q=>∃l k xs,x=.ref l/\y=.int k/\H l=some (.lst xs)/\-(2 ^ 63)<=k/\k<2 ^ 63/\xs.length*k.toNat<=sizeLine /\
 ∀p,H p=none->Q (.ref p) (bZ H p (.lst (List.replicate k.toNat xs).flatten))
theorem GF {α:Type} (xs:List α) (k:Nat):(List.replicate k xs).flatten.length=k*xs.length:=by
 induction k with
 | zero=>simp
 | succ k ih=>rw [replicate_succ,flatten_cons,length_append,ih,Nat.succ_mul,Nat.add_comm]
theorem As:OpR X (binaryOp .Mult) zX:=by
 intro pins s σ H x y v u Q I rx ry h;obtain ⟨l,k,xs,rfl,rfl,hH,h1,h2,hz,q⟩:=h
 cases rx;obtain ⟨t,rfl⟩:=ry;obtain ⟨z,its,n,r,hl,e⟩:=I.lstM hH;have hlen:its.toArray.size*k.toNat<=sizeLine:=by rw [size_toArray,<-hl];exact hz
 have hcap:¬its.toArray.size*k.toNat>(2 ^ 63-1) / 8:=by
  have:(sizeLine:Nat)<=(2 ^ 63-1) / 8:=by decide
  omega
 have hfit:¬(!Builtin.List.listFitsIndex k)=true:=by
  rw [fitsIndex_both h1 h2];exact Bool.false_ne_true
 have hlong:¬Builtin.List.listTooLong (its.toArray.size*k.toNat)=true:=by
  rw [tL hlen];exact Bool.false_ne_true
 have hnew:List.foldl (fun x1 x2=>x1++x2) #[] (List.replicate (if its.toArray.isEmpty=true then 0 else k.toNat) its.toArray)=(List.replicate k.toNat its).flatten.toArray:=by
  have f0:∀m:Nat,List.foldl (fun x1 x2=>x1++x2) #[] (List.replicate m its.toArray)=(List.replicate m its).flatten.toArray:=fun m=>by
   have:=foldl_rep its m []
   rw [nil_append] at this;exact this
  rw [f0]
  cases its with
  | nil=>simp
  | cons a r'=>rw [if_neg (by simp)]
 refine wpAny_binaryOp_repeat_ref (T := "list") (U := "int") (by decide) ⟨_,e,rfl⟩ (fun s'=>typeIs_int s' k t) noFill_list_mul F.fills_int_mul F.slot_int_rmul repeat_list F.slot_int_index.lookup
  (call_meets F.slot_int_rmul (typeIs_int s k t) F.entry_int_rmul (F.args_int_rmul_2 _ _) (int___rmul___int_list k t l its.toArray n)
   ⟨e,rfl,⟨_,e,rfl⟩,call_meets F.slot_list_mul ⟨_,e,rfl⟩ F.entry_list_mul (F.args_list_mul_2 _ _) (AutoListH.list___mul___list_int_3 l its.toArray n k t hfit hcap hlong) ⟨e,?_⟩⟩)
 rw [hnew];exact ⟨.ref _,_,I.lnew (t':=s.toks) (r.rep k.toNat) (by rw [GF,Nat.mul_comm];exact hz),rfl,q _ I.fresh⟩
end
section
variable {prog:Program} {w:World} {A:Around} {E:Value->Shared->Prop} {s:Shared}
set_option maxRecDepth 100000 in
end
end L2
namespace Att
open PySem PySem.W PySem.Calls PyProof.Rows
theorem gW {P:Params} {h:Heap}:∀(ns:List Int) (vs:List Value),WellAll P h vs (ns.map WData.int)->IntsAre vs ns:=by
 intro ns;induction ns with
 | nil=>
  intro vs w;rw [List.map_nil] at w
  cases w;exact .nil
 | cons n ns ih=>
  intro vs w;rw [map_cons] at w
  cases w with
  | cons a b=>
   cases a;exact .cons _ _ (ih _ b)
theorem pH {l:OpenLaw} {n:Nat} (hn:l.most=some n) {P:Params} {h:Heap} {args:List WData} {vals:List Value}
  (hpre:l.row.toRowW.claim.pre args=true) (hwl:WellAll P h vals args) :
  ∃a vs ns,vals=[Value.ref a]/\args=[WData.list (ns.map WData.int)]/\h.get? a=some { cls:=.type "list",data:=.seq vs.toArray }/\IntsAre vs ns/\ns.length<=n:=by
 have hsh:WShape.hasAll [] args [.list .int]=true:=(pre_splitW hpre).1
 have hc:l.pre.holds [] { args:=args }=true:=(pre_splitW hpre).2
 obtain ⟨d,r,rfl,h1,h2⟩:=hasAllW_cons hsh;obtain rfl:=hasAllW_nil h2
 obtain ⟨xs,rfl,h3⟩:=hasW_list h1;obtain ⟨ns,rfl⟩:=items_int h3;have hlen:ns.length<=n:=by
  unfold OpenLaw.pre at hc;have h4:(WTm.not (.lt (.lit (.int (n:Int))) (.len (.arg 0)))).holds [] { args:=[.list (ns.map .int)] }=true:=by
   have h4:=(holds_andW hc).1
   rw [hn] at h4;exact h4
  have h5:=condW_of h4 (w_not (w_lt w_lit (w_len_list (w_arg rfl))))
  rw [length_map] at h5;refine Nat.le_of_not_lt fun q=>?_
  have q':(n:Int)<((ns.length:Nat):Int):=by omega
  first
   | (rw [decide_eq_true q'] at h5;exact absurd h5 (by decide))
   | (simp at h5;omega)
 cases hwl with
 | cons w1 w2=>
  cases w2
  cases w1 with
  | list ho hall=>exact ⟨_,_,ns,rfl,rfl,ho,gW ns _ hall,hlen⟩
theorem pS (l:OpenLaw) (args:List WData):l.row.toRowW.claim.post args (.bool true) args=true:=
 postW_of (r:=l.row.toRowW) (X:=(true==true))
  (show WShape.has [] (.bool true) .bool=true by first | rfl | decide | simp [WShape.has,WShape.arms,WShape.armsAll])
  (show (WTm.eq .res (.lit (.bool true))).value [] { args:=args,res:=some (.bool true),after:=args }=some (.bool (true==true)) from w_eq_bool (w_res rfl) w_lit) rfl
theorem attach_call {l:OpenLaw} {n:Nat} {q:Program} {loose:List Str} {XP:(Str->Option Value)->Heap->Prop} {YP:World->Heap->Prop} {d:DefRec}
  (hn:l.most=some n) (hdf:d.params.defaults=[])
  (call:∀(w:World) (s₀ s₁:Shared) (mg mb:Str->Option Value) (fa:Addr) (o:Obj) (pm cd doc:Value) (a:Addr) (vs:List Value) (ns:List Int),
   Ground q loose [] XP w s₀ mg mb s₁.heap->YP w s₁.heap ->
   s₁.heap.get? fa=some o->o.data=.func (docDef d.name d.params d.body d.scope pm cd doc)->s₁.heap.CodeRec cd d.name->mg d.name=some (.ref fa) ->
   s₁.heap.get? a=some { cls:=.type "list",data:=.seq vs.toArray }->IntsAre vs ns->ns.length<=n->s₁.gens=#[] ->
   codeAny (model l.prog w) callerA (.call (.ref fa) ⟨[.ref a],[]⟩) (fun r s'=>r=.ok (.ret (.bool true))/\OldK s₁.heap s'.heap/\s'.os=s₁.os/\AllBare s'.gens) s₁) :
  WalkO q loose XP YP l.row.toRowW d [] (fun f vs=>PySem.call f vs):=by
 intro w s₀ s₁ mg mb G Y fa o pm cd doc dV kV ho hd hcd hD hmg hg args vals as hpre hlay hrd hwl hlo;obtain rfl:dV=.none:=Dflts.none hD hdf
 obtain rfl:kV=.none:=Dflts.noKw hD
 obtain ⟨a,vs,ns,rfl,rfl,hobj,hints,hlen⟩:=pH hn hpre hwl;refine enter_call (codeAny_mono (call w s₀ s₁ mg mb fa o pm cd doc a vs ns G Y ho (fd_plain hd) hcd hmg hobj hints hlen hg) fun r s' hq=>?_)
 obtain ⟨rfl,h2,h3,h4⟩:=hq;exact ⟨.inl ⟨.bool true,.bool true,[],rfl,fun _=>rfl,.bool true,pS l _,fun _=>⟨List.Pairwise.nil,fun _ hm=>(nomatch hm)⟩⟩,h2,h3,h4⟩
end Att
namespace L2
open PySem PySem.Spec PyProof.Rows
theorem jL:∀{vs:List Value} {ns:List Int},IntsAre vs ns->Vals (ns.map V.int) vs
 | _,_,.nil=>.nil
 | _,_,.cons n t h=>.cons ⟨t,rfl⟩ (jL h)
def BD (H:Hp):Prop:=∀b,H b=none\/∃o xs,H b=some (.frz o (.lst xs))
theorem tU {P:Program} {w:World} {K:Fg} {mg mb:Str->Option Value} {CX:pe} {k:Nat} {fa a:Addr} {fd:FuncData} {x:Str} {sp:Sp} {s₁:Shared} {vs:List Value} {ns:List Int}
  (KX:K.In s₁.heap) (hns:s₁.heap.Ns mainGlobals mg) (hb:s₁.heap.Ns builtinsNs mb) (hbb:∀x:Str,x ≠ "__name__"->mb x=bootBuiltins x) (hlim:s₁.heap.NoLimit) (hg:s₁.gens=#[])
  (ha:s₁.heap.get? a=some { cls:=.type "list",data:=.seq vs.toArray }) (hi:IntsAre vs ns) (hl:ns.length<=sizeLine) (hr:Room k callerA)
  (F:∀base:Heap,K.In base->base.Ns mainGlobals mg->dO P w K mg base CX k fa fd [x] sp) (hbind:∀(s:Shared) (u:Value),BindsTo s fd ⟨[u],[]⟩ [(x,u)])
  (hsp:∀H:Hp,BD H->SqL K H a (ns.map V.int)->sp [.ref a] H (fun v _=>v=.bl true) fun _ _ _=>False)
  (hCX:∀H e s',CX [] H s₁ (fun _ _ _=>False) e s'->False) :
  codeAny (model P w) callerA (.call (.ref fa) ⟨[.ref a],[]⟩) (fun r s'=>r=.ok (.ret (.bool true))/\OldK s₁.heap s'.heap/\s'.os=s₁.os/\AllBare s'.gens) s₁:=by
 have rv:=jL hi
 have lenV:=hi.length
 have core:∀H:Hp,BD H->SqL K H a (ns.map V.int)->HOk P w H s₁.heap->(∀b,H b≠none->b=a)->(H a≠none->K.lookup a=none) ->
   codeAny (model P w) callerA (.call (.ref fa) ⟨[.ref a],[]⟩) (fun r s'=>r=.ok (.ret (.bool true))/\OldK s₁.heap s'.heap/\s'.os=s₁.os/\AllBare s'.gens) s₁:=by
  intro H hO hS hok hA hK;have base_of:∀{b:Addr} {o:Obj},s₁.heap.get? b=some o->H b=none->(kI s₁.heap H).get? b=some o:=fun e n=>uj e n
  have noA:∀{b:Addr} {o:Obj} {es:Array DictEntry} {ep:Nat},s₁.heap.get? b=some o->o.data=.dict es ep->H b=none:=fun {b o es ep} e d=>by
   cases q:H b with
   | none=>rfl
   | some u=>
    have e':b=a:=hA b (by rw [q];simp)
    subst e'
    rw [ha] at e;cases e;have d':Data.seq vs.toArray _=Data.dict es ep:=d
    cases d'
  have nsK:∀{b:Addr} {m:Str->Option Value},s₁.heap.Ns b m->(kI s₁.heap H).Ns b m:=fun {b m} ⟨o,es,ep,e,d,r⟩=>⟨o,es,ep,base_of e (noA e d),d,r⟩
  have hKb:K.In (kI s₁.heap H):=fun b o e=>base_of (KX b o e) (by
   cases q:H b with
   | none=>rfl
   | some u=>
    have e':b=a:=hA b (by rw [q];simp)
    subst e'
    rw [hK (by rw [q];simp)] at e;cases e)
  have hM:Mod K mg (kI s₁.heap H):=⟨hKb,nsK hns,⟨mb,nsK hb,hbb⟩,let ⟨mc,h1,h2⟩:=hlim;⟨mc,nsK h1,h2⟩⟩
  have e0:qN P w K mg (kI s₁.heap H) callerA [] s₁ H:=⟨rfl,hM,fun b o e=>wm e,Nat.le_of_eq (qi _ _),trivial,fun b hb=>absurd (show b∈([]:List Addr) from hb) (by simp),hok,.of_eq hg⟩
  refine codeAny_mono ((F _ hKb (nsK hns)).run callerA [] s₁ H ⟨[.ref a],[]⟩ [.ref a] [.ref a] _ _ hr e0 (hbind s₁ (.ref a)) (.cons rfl .nil) (hsp H hO hS)) fun r s' h=>?_
  cases r with
  | error e=>exact (hCX H e s' h).elim
  | ok fl=>
   cases fl with
   | next=>exact False.elim h
   | brk=>exact False.elim h
   | cont=>exact False.elim h
   | ret u=>
    obtain ⟨v,H',os,bare,un,hok',r',q⟩:=h;have q':v=.bl true:=q
    subst q'
    obtain rfl:u=Value.bool true:=r'
    refine ⟨rfl,OldK.of_keep fun b o e=>?_,os,bare⟩
    cases q:H b with
    | none=>exact un.keep b o e q (by intro z;exact absurd (show b∈([]:List Addr) from z) (by simp)) (by simp)
    | some u=>
     rcases hO b with z | ⟨ob,xs,z⟩
     ·rw [q] at z;cases z
     ·have z2:=un.frzs b ob _ z
      obtain ⟨e1,_⟩:=hok b _ z;obtain ⟨e2,_⟩:=hok' b _ z2
      rw [e] at e1;cases e1;exact e2
 cases hk:K.lookup a with
 | some o=>
  have e:=KX a o hk
  rw [ha] at e
  cases e;refine core (fun _=>none) (fun _=>.inl rfl) (.inr ⟨_,vs.toArray,_,hk,rfl,rfl,rfl,by rw [size_toArray,lenV];exact hl,by simpa using rv⟩) (fun b u z=>by have z':(none:Option HO)=some u:=z;cases z') (fun b z=>absurd rfl z) fun z=>absurd rfl z
 | none=>
  refine core (fun b=>if b=a then some (.frz { cls:=.type "list",data:=.seq vs.toArray } (.lst (ns.map V.int))) else none) (fun b=>?_) (.inl (.inr ⟨{ cls:=.type "list",data:=.seq vs.toArray },if_pos rfl⟩)) (fun b u z=>?_) (fun b z=>?_) fun _=>hk
  ·by_cases hb:b=a
   ·exact .inr ⟨_,_,if_pos hb⟩
   ·exact .inl (if_neg hb)
  ·by_cases hb:b=a
   ·have z':=(if_pos hb).symm.trans z
    cases z'
    subst hb;exact ⟨ha,by rw [length_map];exact hl,vs,_,rv,ha⟩
   ·have z':=(if_neg hb).symm.trans z
    cases z'
  ·by_cases hb:b=a
   ·exact hb
   ·exact absurd (if_neg hb) z
theorem walk_of {l:PySem.W.OpenLaw} {n k:Nat} {q:Program} {loose:List Str} {XP:(Str->Option Value)->Heap->Prop} {YP:World->Heap->Prop} {d:DefRec} {K:Params->Fg} {CX:World->pe} {sp:World->Sp} {x:Str}
  (hn:l.most=some n) (hn2:n<=sizeLine) (hdf:d.params.defaults=[]) (hr:Room k callerA)
  (hY:∀(w:World) (h:Heap),YP w h->(K w.params).In h)
  (F:∀(w:World) (mg:Str->Option Value) (fa:Addr) (h:Heap),(K w.params).In h->h.Ns mainGlobals mg->mg d.name=some (.ref fa) ->
   ∃fd:FuncData,(∀(s:Shared) (u:Value),BindsTo s fd ⟨[u],[]⟩ [(x,u)]) /\
    ∀base:Heap,(K w.params).In base->base.Ns mainGlobals mg->dO l.prog w (K w.params) mg base (CX w) k fa fd [x] (sp w))
  (hsp:∀(w:World) (H:Hp) (a:Addr) (ns:List Int),ns.length<=n->BD H->SqL (K w.params) H a (ns.map V.int)->sp w [.ref a] H (fun v _=>v=.bl true) fun _ _ _=>False)
  (hCX:∀(w:World) (H:Hp) (s:Shared) (e:Value) (s':Shared),CX w [] H s (fun _ _ _=>False) e s'->False) :
  PySem.W.WalkO q loose XP YP l.row.toRowW d [] (fun f vs=>PySem.call f vs):=by
 refine Att.attach_call hn hdf fun w s₀ s₁ mg mb fa o pm cd doc a vs ns G Y ho hd hcd hmg hobj hints hlen hg=>?_
 have KX:=hY w _ Y
 obtain ⟨fd,hb,hF⟩:=F w mg fa _ KX G.T.g hmg;exact tU KX G.T.g G.T.b G.T.builtins G.T.nolimit hg hobj hints (Nat.le_trans hlen hn2) hr hF hb (fun H hO hS=>hsp w H a ns hlen hO hS) fun H e s'=>hCX w H s₁ e s'
def BN (s:Stmt):Arguments:=match s with
 | .FunctionDef _ a _ _ _ _ _ _ _ _=>a
 | _=>{ posonlyargs:=[],args:=[],vararg:=none,kwonlyargs:=[],kw_defaults:=[],kwarg:=none,defaults:=[] }
def pj (s:Stmt):List Stmt:=match s with
 | .FunctionDef _ _ b _ _ _ _ _ _ _=>b
 | _=>[]
def g6 (s:Stmt):Scope:=match s with
 | .FunctionDef _ _ _ _ _ _ sc _ _ _=>sc
 | _=>{ kind:=.function,names:=[],isGenerator:=false,isCoroutine:=false }
abbrev kR:pe:=fun _ _ _ _ _ _=>False
abbrev E0:XK:=fun _ _ _=>False
theorem yg {X:Cx}:Em kR X E0:=fun _ _ _ _ _ _ _ h=>h.elim
structure Fun (K:Fg) (x qual:Str) (st:Stmt) (f:Addr) (fd:FuncData):Prop where
 ex:∃(oc:Value) (od:Option Addr) (kV doc pm:Value) (an:Option Addr) (cdv ct:Value) (osl:Array (Option Value)),
  fd=PySem.W.fnOf x qual (BN st) (pj st) (g6 st) .none kV doc pm an cdv ct/\K.lookup f=some ⟨oc,od,.func fd,osl⟩/\PySem.W.codeIn K cdv qual=true
 kp:PySem.W.keepIn K (.ref f)=true
section
variable {P:Program} {w:World} {K:Fg} {mg:Str->Option Value} {base:Heap}
theorem Fun.ok {x qual:Str} {st:Stmt} {f:Addr} {fd:FuncData} {N ps:List Str} {k:Nat} {sp:Sp} (F:Fun K x qual st f fd) (S:dW N ps (g6 st)) (len:∀vs H Q E,sp vs H Q E->vs.length=ps.length)
  (hbody:∀(cdv:Value) (A:Around) (outer:List Env) (s:Shared) (H:Hp) (vs:List V) (Q:VK) (E:XK),Room k (A.deeper (envOfC qual (g6 st) s.heap.objs.size f cdv))->sp vs H Q E ->
   ∃t,PSs (eX kR P w K mg base N qual (g6 st) f cdv A outer s H E).nox (pj st) t/\t { nx:=fun _ H'=>Q .non H',rt:=Q } (start N vs) H):dO P w K mg base kR (k+1) f fd ps sp:=by
 obtain ⟨oc,od,kV,doc,pm,an,cdv,ct,osl,rfl,lk,hcd⟩:=F.ex;refine yv lk hcd S len fun A outer s H vs Q E hr hsp=>?_
 obtain ⟨t,h,q⟩:=hbody cdv A outer s H vs Q E hr hsp;exact ⟨t,h.nox,q⟩
theorem Fun.binds {x qual:Str} {st:Stmt} {f:Addr} {fd:FuncData} {ps:List Str} (F:Fun K x qual st f fd)
  (h:∀(kV doc pm:Value) (an:Option Addr) (cdv ct:Value) (us:List Value),us.length=ps.length->bindArgs (PySem.W.fnOf x qual (BN st) (pj st) (g6 st) .none kV doc pm an cdv ct) ⟨us,[]⟩=pure (ps.zip us)):Binds K fd ps []:=by
 obtain ⟨oc,od,kV,doc,pm,an,cdv,ct,osl,rfl,lk,hcd⟩:=F.ex;exact .all (h kV doc pm an cdv ct)
theorem Bi {x qual:Str} {st:Stmt} {f:Addr} {oc:Value} {od an:Option Addr} {osl:Array (Option Value)} {kV doc pm cdv ct:Value} (l:K.lookup f=some ⟨oc,od,.func (PySem.W.fnOf x qual (BN st) (pj st) (g6 st) .none kV doc pm an cdv ct),osl⟩)
  (c:PySem.W.codeIn K cdv qual=true) (k:PySem.W.keepIn K (.ref f)=true):Fun K x qual st f (PySem.W.fnOf x qual (BN st) (pj st) (g6 st) .none kV doc pm an cdv ct):=⟨⟨oc,od,kV,doc,pm,an,cdv,ct,osl,rfl,l,c⟩,k⟩
end
theorem gU {A B:Prop} (h:B):if false=true then A else B:=by
 rw [if_neg Bool.false_ne_true];exact h
theorem jv {A B:Prop} (h:A):if true=true then A else B:=by
 rw [if_pos rfl];exact h
def Same (H H':Hp):Prop:=∀b o,H b=some o->H' b=some o
theorem Same.refl (H:Hp):Same H H:=fun _ _ h=>h
theorem Same.trans {H H1 H2:Hp} (a:Same H H1) (b:Same H1 H2):Same H H2:=fun c o h=>b c o (a c o h)
theorem Same.free {H H':Hp} (e:Same H H') {l:Addr} (h:H' l=Option.none):H l=Option.none:=by
 cases q:H l with
 | none=>rfl
 | some o=>
  rw [e l o q] at h
  cases h
theorem Same.seq {K:Fg} {H H':Hp} {a:Addr} {xs:List V} (e:Same H H') (h:SqL K H a xs):SqL K H' a xs:=by
 rcases h with (h | ⟨o,h⟩) | h
 ·exact .inl (.inl (e _ _ h))
 ·exact .inl (.inr ⟨o,e _ _ h⟩)
 ·exact .inr h
section
variable {prog:Program} {w:World} {A:Around} {R:Result->Shared->Prop} {s:Shared}
abbrev xu:Value->Shared->Prop:=fun _ _=>False
theorem kN {elt target iter:Expr} {ifs:List Expr} {scope:Scope} {pos:Pos} {it acc:Value} {env:Env} (I:Nat->Shared->Prop)
  (turn:∀n s,I n s->wpAny (model prog w) A (pyNext it) (fun r s₁=>match r with
   | none=>R (.ok .next) s₁
   | some v=>wpAny (model prog w) A (letOwnedTupleGo target it v) (fun _ s₁'=>wpAny (model prog w) A (assign target env v) (fun _ s₂=>
     wpAny (model prog w) A (forIn ifs true fun c r=>if r=true then do let ok <-isTrue c env (eval c env);pure (ForInStep.yield ok) else pure (ForInStep.yield r)) (fun ok s₃=>
      if ok=true then wpAny (model prog w) A (eval elt env) (fun x s₄=>
       wpAny (model prog w) A (call (.builtin "list.append") [acc,x]) (fun _ s₅=>∃m,m<n/\I m s₅) xu s₄) xu s₃
      else ∃m,m<n/\I m s₃) xu s₂) xu s₁') xu s₁) xu s)
  (n:Nat) (h:I n s) :
  codeAny (model prog w) A (.compLoop (.ListComp elt [⟨target,iter,ifs,0⟩] scope pos) 0 it acc env) R s:=by
 refine codeAny_loop rfl I (fun n s hI=>?_) n h
 show wpAny _ A ((compTurn (.ListComp elt [⟨target,iter,ifs,0⟩] scope pos) 0 it acc env).onRaise (fun x=>do noteFrame x env;theTreesLotGoes x)) _ _ s
 refine wpAny_noted ?_
 rw [compTurn_list];have F:∀{Z:Value->Shared->Prop},∀(e:Value) (s:Shared),xu e s->Z e s:=fun _ _ x=>x.elim
 refine KR (wpAny_standAt (KR (wpAny_mono (turn n s hI) (fun r s₁ h₁=>?_) F)))
 cases r with
 | none=>exact KS h₁
 | some v=>
  refine KR (wpAny_mono h₁ (fun _ s₁' h₁'=>?_) F)
  refine KR (wpAny_mono h₁' (fun _ s₂ h₂=>KR (wpAny_mono h₂ (fun ok s₃ h₃=>?_) F)) F)
  cases ok with
  | false=>exact KS ⟨rfl,h₃⟩
  | true=>
   exact KR (KR (wpAny_mono h₃ (fun x s₄ h₄=>KR (wpAny_mono h₄ (fun _ s₅ h₅=>KS (KS ⟨rfl,h₅⟩)) F)) F))
end
def cY (env:Env):List (Str×NameKind)->List (Str×Addr)->List (Str×Addr)
 | [],acc=>acc
 | (n,k)::r,acc=>if k==.free then cY env r ((n,(env.cells.lookup n).getD 0)::acc) else cY env r acc
theorem G5 {env:Env}:∀(names:List (Str×NameKind)) (acc:List (Str×Addr)),(∀n,(n,NameKind.free)∈names->∃c,env.cells.lookup n=some c) ->
  (forIn names acc fun (x:Str×NameKind) (cs:List (Str×Addr))=>(match x with | (name,kind)=>if kind==.free then (do let a <-cellOf env name;pure (ForInStep.yield ((name,a)::cs))) else pure (ForInStep.yield cs):Sem (ForInStep (List (Str×Addr)))))=(pure (cY env names acc):Sem (List (Str×Addr)))
 | [],acc,_=>by rw [List.forIn_nil];rfl
 | (n,k)::r,acc,h=>by
  rw [List.forIn_cons];unfold cY;by_cases hk:(k==.free)=true
  ·simp only [hk,if_true]
   have hk':k=.free:=by simpa using hk
   obtain ⟨c,hc⟩:=h n (by rw [hk'];exact mem_cons_self)
   have e:cellOf env n=pure c:=by unfold cellOf;rw [hc]
   rw [e,hc];exact G5 r ((n,c)::acc) fun n' hn=>h n' (KN _ hn)
  ·rw [if_neg hk]
   simp only [hk]
   exact G5 r acc fun n' hn=>h n' (KN _ hn)
theorem gg {env:Env} {scope:Scope} (h:∀n,(n,NameKind.free)∈scope.names->∃c,env.cells.lookup n=some c):closureFor scope env=pure (cY env scope.names []):=by
 have:=G5 (env:=env) scope.names [] h
 unfold closureFor;rw [show (pure (cY env scope.names []):Sem (List (Str×Addr)))=(pure (cY env scope.names []) >>= fun x=>pure x) from rfl,<-this]
theorem Hn {env:Env} {x:Str} {c:Addr}:∀{names:List (Str×NameKind)} {acc:List (Str×Addr)},(∀n,(n,NameKind.free)∈names->∃c,env.cells.lookup n=some c)->(cY env names acc).lookup x=some c->env.cells.lookup x=some c\/acc.lookup x=some c
 | [],_,_,e=>.inr e
 | (n,k)::r,acc,h,e=>by
  unfold cY at e;have h':∀n',(n',NameKind.free)∈r->∃c,env.cells.lookup n'=some c:=fun n' hn=>h n' (KN _ hn)
  by_cases hk:(k==.free)=true
  ·rw [if_pos hk] at e
   rcases Hn h' e with q | q
   ·exact .inl q
   ·rw [lookup_cons] at q
    have hk':k=.free:=by simpa using hk
    obtain ⟨c',hc⟩:=h n (by rw [hk'];exact mem_cons_self)
    cases hx:x==n with
    | true=>
     rw [hx,hc] at q
     cases q;rw [eq_of_beq hx];exact .inl hc
    | false=>
     rw [hx] at q;exact .inr q
  ·rw [if_neg hk] at e
   exact Hn h' e
theorem BW {env:Env} {x:Str}:∀{names:List (Str×NameKind)} {acc:List (Str×Addr)},(x,NameKind.free)∈names\/(acc.lookup x).isSome=true->((cY env names acc).lookup x).isSome=true
 | [],_,h=>h.elim nofun id
 | (n,k)::r,acc,h=>by
  unfold cY;by_cases hk:(k==.free)=true
  ·rw [if_pos hk]
   refine BW (names:=r) ?_
   rcases h with h | h
   ·rcases KJ h with e | h
    ·cases e
     exact .inr (by rw [lookup_cons];simp)
    ·exact .inl h
   ·right
    rw [lookup_cons]
    cases hx:x==n with
    | true=>rfl
    | false=>exact h
  ·rw [if_neg hk]
   refine BW (names:=r) ?_
   rcases h with h | h
   ·rcases KJ h with e | h
    ·cases e
     exact absurd rfl hk
    ·exact .inl h
   ·exact .inr h
theorem CD {x:Str} {c:Addr}:∀{names:List (Str×NameKind)} {n:Nat} {acc:List (Str×Addr)},(cellsFrom n names acc).lookup x=some c->((x,NameKind.cell)∈names/\n<=c)\/acc.lookup x=some c
 | [],_,_,e=>.inr e
 | (y,k)::r,n,acc,e=>by
  unfold cellsFrom at e;by_cases hk:(k==.cell)=true
  ·rw [if_pos hk] at e
   have hk':k=.cell:=by simpa using hk
   rcases CD e with ⟨q,l⟩ | q
   ·exact .inl ⟨KN _ q,by omega⟩
   ·rw [lookup_cons] at q
    cases hx:x==y with
    | true=>
     rw [hx] at q
     cases q;exact .inl ⟨by rw [eq_of_beq hx,hk'];exact mem_cons_self,KW _⟩
    | false=>
     rw [hx] at q;exact .inr q
  ·rw [if_neg hk] at e
   rcases CD e with ⟨q,l⟩ | q
   ·exact .inl ⟨KN _ q,l⟩
   ·exact .inr q
theorem HG {x y:Str} {c:Addr}:∀{names:List (Str×NameKind)} {n:Nat} {acc:List (Str×Addr)},(∀z d,acc.lookup z=some d->d<n)->(∀x y d,acc.lookup x=some d->acc.lookup y=some d->x=y) ->
  (cellsFrom n names acc).lookup x=some c->(cellsFrom n names acc).lookup y=some c->x=y
 | [],_,_,_,hi,e,e'=>hi _ _ _ e e'
 | (z,k)::r,n,acc,hl,hi,e,e'=>by
  unfold cellsFrom at e e'
  by_cases hk:(k==.cell)=true
  ·rw [if_pos hk] at e e'
   refine HG (names:=r) (n:=n+1) (acc:=(z,n)::acc) (fun a d q=>?_) (fun a b d q q'=>?_) e e'
   ·rw [lookup_cons] at q
    cases hx:a==z with
    | true=>rw [hx] at q;cases q;exact Nat.lt_succ_self _
    | false=>rw [hx] at q;exact Nat.lt_succ_of_lt (hl a d q)
   ·rw [lookup_cons] at q q'
    cases hx:a==z with
    | true=>
     rw [hx] at q
     cases q
     cases hy:b==z with
     | true=>rw [eq_of_beq hx,eq_of_beq hy]
     | false=>rw [hy] at q';exact absurd (hl b n q') (Nat.lt_irrefl _)
    | false=>
     rw [hx] at q
     cases hy:b==z with
     | true=>rw [hy] at q';cases q';exact absurd (hl a n q) (Nat.lt_irrefl _)
     | false=>rw [hy] at q';exact hi a b d q q'
  ·rw [if_neg hk] at e e'
   exact HG hl hi e e'
theorem G6 {env:Env} {x:Str} {c:Addr}:∀{names:List (Str×NameKind)} {acc:List (Str×Addr)},(cY env names acc).lookup x=some c->(x,NameKind.free)∈names\/acc.lookup x=some c
 | [],_,e=>.inr e
 | (n,k)::r,acc,e=>by
  unfold cY at e;by_cases hk:(k==.free)=true
  ·rw [if_pos hk] at e
   have hk':k=.free:=by simpa using hk
   rcases G6 e with q | q
   ·exact .inl (KN _ q)
   ·rw [lookup_cons] at q
    cases hx:x==n with
    | true=>rw [eq_of_beq hx,hk'];exact .inl mem_cons_self
    | false=>rw [hx] at q;exact .inr q
  ·rw [if_neg hk] at e
   rcases G6 e with q | q
   ·exact .inl (KN _ q)
   ·exact .inr q
theorem Fw {x:Str}:∀{names:List (Str×NameKind)} {n:Nat} {acc:List (Str×Addr)},(x,NameKind.cell)∈names\/(acc.lookup x).isSome=true->((cellsFrom n names acc).lookup x).isSome=true
 | [],_,_,h=>h.elim nofun id
 | (y,k)::r,n,acc,h=>by
  unfold cellsFrom;by_cases hk:(k==.cell)=true
  ·rw [if_pos hk]
   refine Fw (names:=r) ?_
   rcases h with h | h
   ·rcases KJ h with e | h
    ·cases e
     exact .inr (by rw [lookup_cons];simp)
    ·exact .inl h
   ·right
    rw [lookup_cons]
    cases hx:x==y with
    | true=>rfl
    | false=>exact h
  ·rw [if_neg hk]
   refine Fw (names:=r) ?_
   rcases h with h | h
   ·rcases KJ h with e | h
    ·cases e
     exact absurd rfl hk
    ·exact .inl h
   ·exact .inr h
theorem Fv {x:Str}:∀{names:List (Str×NameKind)} {n:Nat} {acc:List (Str×Addr)},(x,NameKind.cell)∉names->(cellsFrom n names acc).lookup x=acc.lookup x
 | [],_,_,_=>rfl
 | (y,k)::r,n,acc,h=>by
  unfold cellsFrom;have hr:(x,NameKind.cell)∉r:=fun z=>h (KN _ z)
  by_cases hk:(k==.cell)=true
  ·rw [if_pos hk,Fv hr,lookup_cons]
   have hk':k=.cell:=by simpa using hk
   cases hx:x==y with
   | true=>exact absurd (by rw [eq_of_beq hx,hk'];exact mem_cons_self) h
   | false=>rfl
  ·rw [if_neg hk]
   exact Fv hr
theorem Fy {x:Str} {c:Addr}:∀{names:List (Str×NameKind)} {n:Nat} {acc:List (Str×Addr)},(x,NameKind.cell)∈names->(cellsFrom n names acc).lookup x=some c->(cellsFrom n names []).lookup x=some c
 | [],_,_,h,_=>nomatch h
 | (y,k)::r,n,acc,h,e=>by
  unfold cellsFrom at e ⊢
  by_cases hk:(k==.cell)=true
  ·rw [if_pos hk] at e ⊢
   by_cases hr:(x,NameKind.cell)∈r
   ·have:∀{acc acc':List (Str×Addr)},(cellsFrom (n+1) r acc).lookup x=some c->(cellsFrom (n+1) r acc').lookup x=some c:=fun {a a'} q=>by
     have q0:=Fy hr q
     have hs:=Fw (n:=n+1) (acc:=a') (.inl hr)
     obtain ⟨c',hc'⟩:=Option.isSome_iff_exists.mp hs;have q1:=Fy hr hc'
     rw [q0] at q1
     cases q1;exact hc'
    exact this e
   ·rw [Fv hr] at e ⊢
    rw [lookup_cons] at e ⊢
    cases hx:x==y with
    | true=>rw [hx] at e;exact e
    | false=>
     rcases KJ h with z | z
     ·cases z
      simp at hx
     ·exact absurd z hr
  ·rw [if_neg hk] at e ⊢
   rcases KJ h with z | z
   ·cases z
    exact absurd rfl hk
   ·exact Fy z e
def blk (X:Cx) (scope:Scope) (cells:List (Str×Addr)) (C:Addr) (s₀:Shared) (H₀:Hp) (ex:List Addr):Cx where
 prog:=X.prog
 w:=X.w
 K:=X.K
 mg:=X.mg
 base:=X.base
 A:=X.A
 N:=X.N
 s₀:=s₀
 H₀:=H₀
 env:={ scope:=relabel scope X.env,locals:=C,globals:=X.env.globals,cells:=cells,qual:=X.env.qual,func:=none,code:=X.env.code,frame:=X.env.frame,builtins:=X.env.builtins }
 outer:=X.stack
 stack:=X.stack
 ex:=ex
 fn:=fun x=>scope.names.any fun y=>y.1==x&&y.2==.cell
 calm:=X.calm
 pn:=[]
 xe:=fun _ _=>False
structure dG (N:List Str) (is:List Nat) (osc scope:Scope):Prop where
 kind:scope.kind=.function
 free:∀n,(n,NameKind.free)∈scope.names->osc.names.lookup n=some .cell\/osc.names.lookup n=some .free
 own:∀(i:Nat) (x:Str),N[i]?=some x->(x,NameKind.local)∈scope.names\/(x,NameKind.cell)∈scope.names->i∈is
 loc:∀x∈scope.names,x.2=.local->scope.names.lookup x.1=some .local
 one:∀n,(n,NameKind.free)∈scope.names->(n,NameKind.cell)∉scope.names
def bx (is:List Nat) (σ:St):St:=σ.mapIdx fun i v=>if i∈is then none else v
theorem uV (is:List Nat) (σ:St):(bx is σ).length=σ.length:=by unfold bx;simp
theorem CA {is:List Nat} {σ:St} {i:Nat} {v:V} (h:(bx is σ)[i]?=some (some v)):i∉is/\σ[i]?=some (some v):=by
 unfold bx at h;rw [List.getElem?_mapIdx] at h
 cases e:σ[i]? with
 | none=>rw [e] at h;cases h
 | some o=>
  rw [e] at h;simp only [Option.map_some,Option.some.injEq] at h
  by_cases hi:i∈is
  ·rw [if_pos hi] at h;cases h
  ·rw [if_neg hi] at h;exact ⟨hi,by rw [h]⟩
def Kf (σ0 σ2:St):Prop:=σ2.length=σ0.length/\∀(i:Nat) v,σ0[i]?=some (some v)->σ2[i]?=some (some v)
theorem iD {x:Str} {k:NameKind} {l:List (Str×NameKind)} (h:l.lookup x=some k):(x,k)∈l:=PySem.mem_of_lookup h
theorem BZ {scope:Scope} {env:Env} {x:Str} {k:NameKind} (h:(relabel scope env).names.lookup x=some k) :
  (x,k)∈scope.names\/((x,NameKind.free)∈scope.names/\k=.cell):=by
 have h:=iD h
 unfold relabel at h;obtain ⟨⟨n,k'⟩,hm,e⟩:=List.mem_map.mp h;dsimp only at e;by_cases hc:(k'==NameKind.free&&env.scope.kind==.function&&env.kindOf n==some .cell)=true
 ·rw [if_pos hc] at e
  cases e;have:k'=.free:=by
   simp only [Bool.and_eq_true,beq_iff_eq] at hc
   exact hc.1.1
  exact .inr ⟨this▸hm,rfl⟩
 ·rw [if_neg hc] at e
  cases e;exact .inl hm
def ki (X:Cx) (scope:Scope) (C:Addr):List (Str×Addr):=cellsFrom (C+1) scope.names (cY X.env scope.names [])
section
variable {X:Cx} {pins:List (Addr×Obj)} {σ:St} {H:Hp} {s:Shared} {scope:Scope} {is:List Nat}
theorem Inv.freeCells (I:Inv X pins σ H s) (S:dG X.N is X.env.scope scope):∀n,(n,NameKind.free)∈scope.names->∃c,X.env.cells.lookup n=some c:=fun n hn=>
 I.ok.has n (S.free n hn)
theorem Inv.blkOld (I:Inv X pins σ H s) (S:dG X.N is X.env.scope scope) {x:Str} {c:Addr} (h:(cY X.env scope.names []).lookup x=some c):X.env.cells.lookup x=some c:=by
 rcases Hn (I.freeCells S) h with q | q
 ·exact q
 ·cases q
theorem Inv.block {fp:List Addr} {t':Nat} (I:Inv X pins σ H s) (S:dG X.N is X.env.scope scope) (hf:∀b∈fp,jH X pins H b) (hfs:∀b∈fp,b<s.heap.objs.size) :
  Inv (blk X scope (ki X scope (s.heap.objs.size+1)) (s.heap.objs.size+1) s H fp) [] (bx is σ) (bZ H s.heap.objs.size (.lst []))
   { s with heap:=pushCells ((s.heap.push { cls:=.type "list",data:=.seq ([]:List Value).toArray }).push { cls:=.type "dict",data:=.dict #[] }) scope.names,toks:=t' }:=by
 generalize hC:s.heap.objs.size+1=C
 have hDn:H s.heap.objs.size=none:=I.hok.fresh (KW _)
 have s1:(s.heap.push { cls:=.type "list",data:=.seq ([]:List Value).toArray }).objs.size=C:=by rw [Heap.size_push,hC]
 have kept:∀b o,s.heap.get? b=some o->(pushCells ((s.heap.push { cls:=.type "list",data:=.seq ([]:List Value).toArray }).push { cls:=.type "dict",data:=.dict #[] }) scope.names).get? b=some o:=
  fun b o e=>pushCells_keeps _ _ b o (KU _ (KU _ e))
 have cellsL:∀x c,(ki X scope C).lookup x=some c->((x,NameKind.cell)∈scope.names/\C+1<=c)\/X.env.cells.lookup x=some c:=fun x c e=>by
  rcases CD e with q | q
  ·exact .inl q
  ·exact .inr (I.blkOld S q)
 have oldLt:∀x c,X.env.cells.lookup x=some c->c<s.heap.objs.size:=fun x c e=>by
  obtain ⟨v,q⟩:=I.cell x c e;exact q.lt
 have cok:CellsOk (pushCells ((s.heap.push { cls:=.type "list",data:=.seq ([]:List Value).toArray }).push { cls:=.type "dict",data:=.dict #[] }) scope.names) (C+1)
   (cellsFrom (C+1) scope.names []):=by
  have:=cellsFrom_ok scope.names ((s.heap.push { cls:=.type "list",data:=.seq ([]:List Value).toArray }).push { cls:=.type "dict",data:=.dict #[] }) (C+1) [] ⟨fun _ _ hm=>(nomatch hm),List.Pairwise.nil⟩ (by rw [Heap.size_push,s1];exact KW _)
  rw [Heap.size_push,s1] at this;exact this
 have lt1:∀{b:Nat},b<s.heap.objs.size->b≠C:=fun {b} h e=>by subst e;rw [<-hC] at h;exact absurd (Nat.lt_of_succ_lt h) (Nat.lt_irrefl _)
 have hDle:s.heap.objs.size<=C:=by rw [<-hC];exact Nat.le_succ _
 have cellAt:∀x c,(ki X scope C).lookup x=some c->(C<c/\(pushCells ((s.heap.push { cls:=.type "list",data:=.seq ([]:List Value).toArray }).push { cls:=.type "dict",data:=.dict #[] }) scope.names).IsCell c none)\/X.env.cells.lookup x=some c:=fun x c e=>by
  rcases cellsL x c e with ⟨q1,q2⟩ | q
  ·exact .inl ⟨q2,(cok.empty x c (PySem.mem_of_lookup (Fy q1 e))).1⟩
  ·exact .inr q
 refine ⟨⟨I.ok.mod,S.kind,I.ok.glob,I.ok.blt,hDle,?_,?_,?_,I.ok.hd,I.ok.frames,.inl rfl,?_,I.bs,Nat.le_trans I.ok.bsz I.sz,?_,?_,I.stack,I.stkFree⟩,rfl,I.bare,?_,?_,?_,?_,?_,fun p hp=>absurd (show p∈([]:List (Addr×Obj)) from hp) (by simp),?_,(uV _ _).trans I.len⟩
 ·-- inj
  intro x y c hx hy;refine HG (fun z d q=>?_) (fun a b d q q'=>I.ok.inj a b d (I.blkOld S q) (I.blkOld S q')) hx hy
  exact Nat.lt_succ_of_lt (Nat.lt_of_lt_of_le (oldLt z d (I.blkOld S q)) hDle)
 ·-- has
  intro x hx;have q:((ki X scope C).lookup x).isSome=true:=by
   refine Fw ?_
   have hx:(relabel scope X.env).names.lookup x=some .cell\/(relabel scope X.env).names.lookup x=some .free:=hx
   rcases hx with hx | hx
   ·rcases BZ hx with z | ⟨z,_⟩
    ·exact .inl z
    ·exact .inr (BW (.inl z))
   ·rcases BZ hx with z | ⟨z,_⟩
    ·exact .inr (BW (.inl z))
    ·exact .inr (BW (.inl z))
  exact Option.isSome_iff_exists.mp q
 ·-- cab
  intro x c hx e;have hx:(scope.names.any fun y=>y.1==x&&y.2==NameKind.cell)=true:=hx
  obtain ⟨y,hy,hz⟩:=List.any_eq_true.mp hx;simp only [Bool.and_eq_true,beq_iff_eq] at hz
  have hm:(x,NameKind.cell)∈scope.names:=by rw [<-hz.1,<-hz.2];exact hy
  rcases CD e with ⟨_,q⟩ | q
  ·exact Nat.le_trans hDle (Nat.le_of_succ_le q)
  ·rcases G6 q with z | z
   ·exact absurd hm (S.one x z)
   ·cases z
 ·-- exf
  intro b hb;obtain ⟨f0,f1,f2,f3,f4,f5⟩:=hf b hb;refine ⟨lt1 (hfs b hb),fun x c e z=>?_⟩
  rcases cellsL x c e with ⟨_,q⟩ | q
  ·subst z
   exact absurd (Nat.lt_of_lt_of_le (hfs _ hb) hDle) (Nat.not_lt.mpr (Nat.le_of_succ_le q))
  ·exact f4 x c q z
 ·-- noex
  intro b o e hb;obtain ⟨f0,f1,f2,f3,f4,f5⟩:=hf b hb;rcases f3 with z | z
  ·exact I.ok.noex b o e z
  ·exact absurd (Nat.lt_of_lt_of_le (Heap.lt_size e) (Nat.le_trans I.ok.bsz z)) (Nat.lt_irrefl _)
 ·-- exfs
  intro b hb z;obtain ⟨f0,f1,f2,f3,f4,f5⟩:=hf b hb;rcases KJ (I.stkSub b z) with e | e
  ·exact f1 e
  ·exact f2 e
 ·-- base
  exact Un.laid kept (KW _) hDn
 ·-- loc
  refine ⟨fun _=>none,?_,fun i x v e1 e2 e3=>?_⟩
  ·have:=(Heap.Ns.new (s.heap.push { cls:=.type "list",data:=.seq ([]:List Value).toArray }) (.type "dict")).keeps (pushCells_keeps scope.names _)
   rw [s1] at this;exact this
  ·obtain ⟨hni,e2'⟩:=CA e2
   obtain ⟨m,hn,hl⟩:=id I.loc;have hfree:(x,NameKind.free)∈scope.names:=by
    have e3:(relabel scope X.env).names.lookup x=some .local\/(relabel scope X.env).names.lookup x=some .cell\/(relabel scope X.env).names.lookup x=some .free:=e3
    rcases e3 with z | z | z
    ·rcases BZ z with y | ⟨y,_⟩
     ·exact absurd (S.own i x e1 (.inl y)) hni
     ·exact y
    ·rcases BZ z with y | ⟨y,_⟩
     ·exact absurd (S.own i x e1 (.inr y)) hni
     ·exact y
    ·rcases BZ z with y | ⟨y,_⟩
     ·exact y
     ·exact y
   have hk:=S.free x hfree
   obtain ⟨u,r,l⟩:=hl i x v e1 e2' (.inr hk)
   refine ⟨u,r,?_⟩
   rcases l with ⟨k,_⟩ | ⟨k,c,e,z⟩
   ·have k:X.env.scope.names.lookup x=some .local:=k
    rcases hk with q | q<;>(rw [q] at k;cases k)
   ·refine .inr ⟨?_,c,?_,z.keeps kept⟩
    ·have e3:(relabel scope X.env).names.lookup x=some .local\/(relabel scope X.env).names.lookup x=some .cell\/(relabel scope X.env).names.lookup x=some .free:=e3
     rcases e3 with y | y | y
     ·rcases BZ y with y' | ⟨_,y'⟩
      ·exact absurd (S.own i x e1 (.inl y')) hni
      ·cases y'
     ·exact .inl y
     ·exact .inr y
    ·have q:=BW (env:=X.env) (acc:=[]) (.inl hfree)
     obtain ⟨c',hc'⟩:=Option.isSome_iff_exists.mp q;have:=I.blkOld S hc'
     rw [e] at this
     cases this;show (ki X scope C).lookup x=some c
     unfold ki;rw [Fv (S.one x hfree)];exact hc'
 ·-- cell
  intro x c e;rcases cellAt x c e with ⟨_,q⟩ | q
  ·exact ⟨_,q⟩
  ·obtain ⟨v,z⟩:=I.cell x c q
   exact ⟨v,z.keeps kept⟩
 ·-- free
  show bZ H s.heap.objs.size (.lst []) C=none
  rw [eZ (by rw [<-hC];exact Nat.ne_of_gt (Nat.lt_succ_self _))]
  exact I.hok.fresh hDle
 ·-- freeC
  intro x c e;show bZ H s.heap.objs.size (.lst []) c=none
  rcases cellAt x c e with ⟨q,_⟩ | q
  ·have hc:s.heap.objs.size<c:=Nat.lt_of_le_of_lt hDle q
   rw [eZ (Nat.ne_of_gt hc)];exact I.hok.fresh (Nat.le_of_lt hc)
  ·rw [eZ (Nat.ne_of_lt (oldLt x c q))]
   exact I.freeC x c q
 ·-- hok
  exact I.hok.laid kept (KW _) ⟨Nat.zero_le _,[],0,.nil,pushCells_keeps _ _ _ _ (KU _ (Heap.get?_push_size _ rfl))⟩
end
section
variable {M:Model} {A:Around} {E:Value->Shared->Prop} {s:Shared}
theorem jt {scope:Scope} {globals:Addr} {cl:List (Str×Addr)} {qual:Str} {env:Env} {Q:Env->Shared->Prop}
  (hQ:Q (newEnv scope s.heap.objs.size globals (cellsFrom (s.heap.objs.size+1) scope.names cl) qual none .none (some env) builtinsNs) { s with heap:=pushCells (s.heap.push { cls:=.type "dict",data:=.dict #[] }) scope.names }) :
  wpAny M A (newFunctionEnv scope globals cl [] qual none .none (some env)) Q E s:=by
 simp only [newFunctionEnv,Option.isSome_some,if_true]
 refine KR (wpAny_alloc ?_)
 refine KR (wpAny_layCells _ (fun name kind cells=>by cases hkc:kind==NameKind.cell<;>simp [hkc]) _ _ _ _ ?_)
 rw [show ({ s with heap:=s.heap.push { cls:=.type "dict",data:=.dict #[] } }:Shared).heap.objs.size=s.heap.objs.size+1 from Heap.size_push ..]
 rw [List.forIn_nil];exact KR (KS (KS hQ))
end
def PF (X:Cx) (ifs:List Expr) (t:TT):Prop:=
 ∀(pins:List (Addr×Obj)) (s:Shared) (σ:St) (H:Hp) (Q:Bool->Hp->Prop),Inv X pins σ H s->t σ H Q ->
  wpAny (model X.prog X.w) X.A (forIn ifs true fun c r=>if r=true then do let ok <-isTrue c X.env (eval c X.env);pure (ForInStep.yield ok) else pure (ForInStep.yield r)) (TP X pins σ Q) X.xe s
def CY:TT:=fun _ H Q=>Q true H
theorem Ak {X:Cx}:PF X [] CY:=fun pins s σ H Q I h=>wpAny_tests_nil ⟨H,I,h⟩
theorem Aj {X:Cx} {c:Expr} {t:TT} (h:PT X c t):PF X [c] t:=fun pins s σ H Q I q=>wpAny_tests_one (h pins s σ H Q I q)
def jM (is:List Nat) (wi:TI) (g:TG) (tc:TT) (te:TE):TE:=fun σ H Q=>wi σ H fun J H1=>∀D,H1 D=none->∃W:Nat->Nat->List V->Hp->Prop,(∃m,W 0 m [] (bZ H1 D (.lst [])))/\∀k m ys H,W k m ys H ->
 H D=some (.lst ys)/\((J.stop k H/\Q (.ref D) H)\/(J.go k H/\ys.length<sizeLine/\∀x H',J.yld k H x H'->g x (bx is σ) H' fun σ2 H2=>Kf (bx is σ) σ2/\tc σ2 H2 fun b H3=>
  if b=true then te σ2 H3 fun v H4=>H4 D=some (.lst ys)/\∃m',m'<m/\W (k+1) m' (ys++[v]) (bZ H4 D (.lst (ys++[v]))) else ∃m',m'<m/\W (k+1) m' ys H3))
section
variable {X:Cx} {scope:Scope} {is:List Nat} {tg iter elt:Expr} {ifs:List Expr} {wi:TI} {g:TG} {tc:TT} {te:TE} {pos:Pos}
theorem j9 {pins:List (Addr×Obj)} {s:Shared} {σ:St} {H:Hp} {Q:VK} {RR:Value->Addr->Result->Shared->Prop} (S:dG X.N is X.env.scope scope) (hcalm:X.calm=true) (hi:PI X tg iter wi)
  (hg:∀cells C s₀ H₀ ex,PG (blk X scope cells C s₀ H₀ ex) tg g) (hc:∀cells C s₀ H₀ ex,PF (blk X scope cells C s₀ H₀ ex) ifs tc) (he:∀cells C s₀ H₀ ex,PE (blk X scope cells C s₀ H₀ ex) elt te)
  (I:Inv X pins σ H s) (h:jM is wi g tc te σ H Q)
  (hRR:∀D C s' H' m,Inv X pins σ H' s'->s'.heap.Ns C m->Q (.ref D) H'->H' C=none->C≠X.env.locals->X.s₀.heap.objs.size<=C->(∀x c,X.env.cells.lookup x=some c->c≠C)->(∀p∈X.pn++pins,p.1≠C)->RR (.ref D) C (.ok .next) s') :
  wpAny (model X.prog X.w) X.A (eval iter X.env) (fun x s₁=>wpAny (model X.prog X.w) X.A (pyIter x) (fun it s₂=>wpAny (model X.prog X.w) X.A (newList []) (fun acc s₃=>
   wpAny (model X.prog X.w) X.A (newFunctionEnv scope X.env.globals (cY X.env scope.names []) [] X.env.qual none .none (some X.env)) (fun cenv s₄=>
    codeAny (model X.prog X.w) X.A (.compStart (.ListComp elt [⟨tg,iter,ifs,0⟩] scope pos) 0 it acc { cenv with scope:=relabel scope X.env }) (RR acc cenv.locals) s₄) X.xe s₃) X.xe s₂) X.xe s₁) X.xe s:=by
 refine bM (hi pins s σ H _ I h) fun v s1 h1=>bM h1 fun itv s2 h2=>?_
 obtain ⟨it,fp,tn,J,H2,e,I2,T,st2,f2,hW⟩:=h2;subst e;obtain ⟨W,⟨m0,w0⟩,turn⟩:=hW s2.heap.objs.size (I2.hok.fresh (KW _));refine wpAny_newObj_type (jt ?_)
 have s1:(s2.heap.push { cls:=.type "list",dict:=none,data:=.seq ([]:List Value).toArray }).objs.size=s2.heap.objs.size+1:=by rw [Heap.size_push]
 dsimp only;rw [s1];have hfs:∀b∈fp,b<s2.heap.objs.size:=fun b hb=>by
  obtain ⟨o,e,_⟩:=T.obj 0 _ st2 b hb;exact Heap.lt_size e
 have I4:=I2.block (t':=s2.toks) S f2 hfs
 generalize hCC:s2.heap.objs.size+1=C at I4 ⊢
 have hDC:s2.heap.objs.size<C:=by rw [<-hCC];exact Nat.lt_succ_self _
 have Hg:=hg (ki X scope C) C s2 H2 fp
 have Hc:=hc (ki X scope C) C s2 H2 fp
 have He:=he (ki X scope C) C s2 H2 fp
 have Ha:=jW (X:=blk X scope (ki X scope C) C s2 H2 fp)
 have hYcell:∀x c,(blk X scope (ki X scope C) C s2 H2 fp).env.cells.lookup x=some c->s2.heap.objs.size<=c\/X.env.cells.lookup x=some c:=fun x c e=>by
  have e:(cellsFrom (C+1) scope.names (cY X.env scope.names [])).lookup x=some c:=e
  rcases CD e with ⟨_,q⟩ | q
  ·exact .inl (Nat.le_trans (Nat.le_of_lt hDC) (Nat.le_of_succ_le q))
  ·exact .inr (I2.blkOld S q)
 have FY:∀{H':Hp},(∀b∈fp,H' b=none)->∀b∈fp,jH (blk X scope (ki X scope C) C s2 H2 fp) [] H' b:=fun {H'} hn b hb=>by
  obtain ⟨f0,f1,f3,f4,f5,f6⟩:=f2 b hb;refine ⟨hn b hb,Nat.ne_of_lt (Nat.lt_trans (hfs b hb) hDC),fun z=>?_,.inl hb,fun x c e z=>?_,fun p hp=>absurd (show p∈([]:List (Addr×Obj)) from hp) (by simp)⟩
  ·rcases KJ (I2.stkSub b z) with e | e
   ·exact f1 e
   ·exact f3 e
  ·rcases hYcell x c e with q | q
   ·rw [z] at q
    exact absurd (Nat.lt_of_lt_of_le (hfs b hb) q) (Nat.lt_irrefl _)
   ·exact f5 x c q z
 have hCx:∀x c,X.env.cells.lookup x=some c->c≠C:=fun x c e z=>by
  obtain ⟨v,q⟩:=I2.cell x c e;have:=q.lt
  rw [z] at this;exact absurd (Nat.lt_trans this hDC) (Nat.lt_irrefl _)
 have hCp:∀p∈X.pn++pins,p.1≠C:=fun p hp z=>by
  have:=Heap.lt_size (I2.pin p hp).1
  rw [z] at this;exact absurd (Nat.lt_trans this hDC) (Nat.lt_irrefl _)
 have out:∀{σ':St} {H':Hp} {s':Shared},Inv (blk X scope (ki X scope C) C s2 H2 fp) [] σ' H' s'->Inv X pins σ H' s':=fun {σ' H' s'} J=>
  I2.call' (ch:=fp) J.os J.base J.hok J.bare fun b hb=>by
   obtain ⟨f0,f1,f3,f4,f5,f6⟩:=f2 b hb;exact ⟨f4,f1,f5,f6⟩
 have loop:∀s₃:Shared,s₃={ s2 with heap:=pushCells ((s2.heap.push { cls:=.type "list",data:=.seq ([]:List Value).toArray }).push { cls:=.type "dict",data:=.dict #[] }) scope.names } ->
   codeAny (model X.prog X.w) X.A (.compLoop (.ListComp elt [⟨tg,iter,ifs,0⟩] scope pos) 0 (.ref it) (.ref s2.heap.objs.size) (blk X scope (ki X scope C) C s2 H2 fp).env) (RR (.ref s2.heap.objs.size) C) s₃:=by
  rintro s₃ rfl
  refine kN (fun n s'=>∃k ys H',Inv (blk X scope (ki X scope C) C s2 H2 fp) [] (bx is σ) H' s'/\tn k s'.heap/\(∀b∈fp,H' b=none)/\W k n ys H') ?_ m0
   ⟨0,[],_,I4,T.keep 0 _ _ st2 fun b _ o e=>pushCells_keeps _ _ b o (KU _ (KU _ e)),fun b hb=>by rw [eZ (Nat.ne_of_lt (hfs b hb))];exact (f2 b hb).1,w0⟩
  rintro n s3 ⟨k,ys,H3,I3,st3,fr3,w3⟩
  obtain ⟨hD3,hcase⟩:=turn k n ys H3 w3;rcases hcase with ⟨stop,qn⟩ | ⟨go,hlen,step⟩
  ·refine bM (T.done (blk X scope (ki X scope C) C s2 H2 fp) rfl rfl rfl hcalm k [] s3 (bx is σ) H3 xu I3 (FY fr3) st3 stop) fun r s4 ⟨hr,I4⟩=>?_
   subst hr;obtain ⟨m,hn,_⟩:=id I4.loc;exact hRR _ C s4 H3 m (out I4) hn qn I4.free (fun z=>Nat.lt_irrefl _ (Nat.lt_trans (Nat.lt_of_lt_of_eq hDC z) I2.lt)) (Nat.le_trans I2.sz (Nat.le_of_lt hDC)) hCx hCp
  ·refine bM (T.item (blk X scope (ki X scope C) C s2 H2 fp) rfl rfl rfl hcalm k [] s3 (bx is σ) H3 xu I3 (FY fr3) st3 go) fun r s4 ⟨u,hr,h4⟩=>?_
   subst hr;refine bM h4 fun _ s5 ⟨x,H5,I5,r5,y5,st5,fr5⟩=>?_
   have I5':=I5.pinned (FY fr5) (T.obj _ _ st5)
   refine bM (Hg _ s5 (bx is σ) H5 x u _ I5' r5 (step x H5 y5)) fun _ s6 ⟨σ6,H6,I6,le6,q6⟩=>?_
   refine bM (Hc _ s6 σ6 H6 _ I6 q6) fun ok s7 ⟨H7,I7,q7⟩=>?_
   have again:∀{H8:Hp} {s8:Shared} {ys':List V},Inv (blk X scope (ki X scope C) C s2 H2 fp) ([]++Co fp s5.heap) σ6 H8 s8->(∃m',m'<n/\W (k+1) m' ys' H8) ->
     ∃m,m<n/\∃k ys H',Inv (blk X scope (ki X scope C) C s2 H2 fp) [] (bx is σ) H' s8/\tn k s8.heap/\(∀b∈fp,H' b=none)/\W k m ys H':=fun {H8 s8 ys'} I8 ⟨m',hm,w8⟩=>by
    refine ⟨m',hm,k+1,ys',H8,(I8.weak le6.1.symm le6.2).unpinned,T.keep _ _ _ st5 fun b hb o e=>(I8.pin (b,o) (KG _ (KG _ (Fi hb e)))).1,fun b hb=>?_,w8⟩
    obtain ⟨o,e,d⟩:=T.obj _ _ st5 b hb;exact (I8.pin (b,o) (KG _ (KG _ (Fi hb e)))).2.1
   cases ok with
   | false=>
    rw [if_neg Bool.false_ne_true] at q7;exact again I7 q7
   | true=>
    rw [if_pos rfl] at q7;refine bM (He _ s7 σ6 H7 _ I7 q7) fun y s8 ⟨v8,H8,I8,r8,q8⟩=>?_
    obtain ⟨hD8,q8⟩:=q8;refine bM (Ha _ s8 σ6 H8 (.ref s2.heap.objs.size) [v8] (.ref s2.heap.objs.size) [y] (fun _ H9=>∃m',m'<n/\W (k+1) m' (ys++[v8]) H9) I8 rfl (.cons r8 .nil) ⟨_,ys,v8,rfl,rfl,hD8,hlen,q8⟩) fun _ s9 ⟨_,H9,I9,_,q9⟩=>?_
    exact again I9 q9
 exact codeAny_compStart_list (loop _ rfl) (T.self X.A 0 _ _ _ (T.keep 0 _ _ st2 fun b _ o e=>pushCells_keeps _ _ b o (KU _ (KU _ e))) (loop _ rfl))
theorem oO (S:dG X.N is X.env.scope scope) (hcalm:X.calm=true) (hi:PI X tg iter wi)
  (hg:∀cells C s₀ H₀ ex,PG (blk X scope cells C s₀ H₀ ex) tg g) (hc:∀cells C s₀ H₀ ex,PF (blk X scope cells C s₀ H₀ ex) ifs tc) (he:∀cells C s₀ H₀ ex,PE (blk X scope cells C s₀ H₀ ex) elt te)
  (hs:∀x,foldedSetIterable iter X.env x=pure x:=by intro _;rfl):PE X (.ListComp elt [⟨tg,iter,ifs,0⟩] scope pos) (jM is wi g tc te):=by
 intro pins s σ H Q I h;rw [eval_ListComp];refine wpAny_comprehension_free (use:=none) rfl hs (gg (I.freeCells S)) S.kind S.loc (j9 (RR:=fun acc C=>compPost (model X.prog X.w) X.A X.xe none (EP X pins σ Q) acc C) S hcalm hi hg hc he I h ?_)
 intro D C s' H' m I' hn q n1 n2 n3 n4 n5
 refine ⟨m,hn,fun h' hs'=>?_⟩
 exact ⟨.ref D,H',I'.turned (t':=s'.toks) (fun b o hb e=>(hs'.2 b hb).trans e) n1 n2 (.inr n3) n4 n5,rfl,q⟩
theorem Hr {i:Nat} {y:Str} {pos' spos:Pos} (hN:X.N.Nodup) (hy:X.N[i]?=some y) (hl:X.env.scope.names.lookup y=some .local) (S:dG X.N is X.env.scope scope) (hcalm:X.calm=true) (hi:PI X tg iter wi)
  (hg:∀cells C s₀ H₀ ex,PG (blk X scope cells C s₀ H₀ ex) tg g) (hc:∀cells C s₀ H₀ ex,PF (blk X scope cells C s₀ H₀ ex) ifs tc) (he:∀cells C s₀ H₀ ex,PE (blk X scope cells C s₀ H₀ ex) elt te)
  (hsw:swapsWith (.ListComp elt [⟨tg,iter,ifs,0⟩] scope pos) (some (.Name y pos')) spos.line X.env=pure true)
  (hs:∀x,foldedSetIterable iter X.env x=pure x:=by intro _;rfl):PS X (.Assign [.Name y pos'] (.ListComp elt [⟨tg,iter,ifs,0⟩] scope pos) spos) (fun D σ H=>jM is wi g tc te σ H fun v H'=>D.nx (σ.set i (some v)) H'):=by
 intro pins s σ H Ds I h;rw [exec_Assign_Name_used _ _ _ _ hsw];refine KR (wpAny_standAt (KR ?_))
 show wpAny _ X.A (do let _ <-comprehension (.ListComp elt [⟨tg,iter,ifs,0⟩] scope pos) scope X.env _ (newList []) false (eval iter X.env) (some (assign (.Name y pos') X.env))) _ _ s
 refine KR (wpAny_mono (wpAny_comprehension_free (use:=some (assign (.Name y pos') X.env)) (Q:=fun _ s'=>SP X pins Ds .next s') rfl hs (gg (I.freeCells S)) S.kind S.loc
  (j9 (RR:=fun acc C=>compPost (model X.prog X.w) X.A X.xe (some (assign (.Name y pos') X.env)) (fun _ s'=>SP X pins Ds .next s') acc C) S hcalm hi hg hc he I h ?_)) (fun _ s' hq=>KS (KS hq)) fun _ _ e=>e)
 intro D C s' H' m I' hn q n1 n2 n3 n4 n5
 show wpAny _ X.A (assign (.Name y pos') X.env (.ref D)) _ _ _
 refine wpAny_assign_Name (jN (v:=.ref D) I' hN hy (.inl hl) rfl (fun s'' I'' hch=>?_) (.inr hl))
 obtain ⟨a,hsb,ha⟩:=hch;have hCa:C≠a:=by
  rcases ha with e | e
  ·rw [e];exact n2
  ·exact (n4 y a e).symm
 refine ⟨m,hn.sameBut hsb hCa,fun h' hs'=>?_⟩
 exact ⟨_,H',I''.turned (t':=s''.toks) (fun b o hb e=>(hs'.2 b hb).trans e) n1 n2 (.inr n3) n4 n5,q⟩
end
end L2
namespace T
open PySem PySem.Spec L2
open PyProof.Rows hiding St
abbrev D:=PyData
inductive Rep (K:Fg) (H:Hp):V->D->Prop where
 | non:Rep K H .non .none
 | bl (b:Bool):Rep K H (.bl b) (.bool b)
 | int (i:Int):Rep K H (.int i) (.int i)
 | str (x:Str):Rep K H (.str x) (.str x)
 | lst {p:Addr} {vs:List V} {ds:List D}:SqL K H p vs->vs.length=ds.length->(∀(i:Nat) v d,vs[i]?=some v->ds[i]?=some d->Rep K H v d)->Rep K H (.ref p) (.list ds)
 | tup {p:Addr} {vs:List V} {ds:List D}:SqT K H p vs->vs.length=ds.length->(∀(i:Nat) v d,vs[i]?=some v->ds[i]?=some d->Rep K H v d)->Rep K H (.ref p) (.tuple ds)
theorem iV {K:Fg} {H H':Hp} {a:Addr} {xs:List V} (e:Same H H') (h:SqT K H a xs):SqT K H' a xs:=by
 rcases h with (h | ⟨o,h⟩) | h
 ·exact .inl (.inl (e _ _ h))
 ·exact .inl (.inr ⟨o,e _ _ h⟩)
 ·exact .inr h
theorem Rep.mono {K:Fg} {H H':Hp} {v:V} {d:D} (e:Same H H') (h:Rep K H v d):Rep K H' v d:=by
 induction h with
 | non=>exact .non
 | bl b=>exact .bl b
 | int i=>exact .int i
 | str x=>exact .str x
 | lst hs hl _ ih=>exact .lst (e.seq hs) hl ih
 | tup hs hl _ ih=>exact .tup (iV e hs) hl ih
def Reps (K:Fg) (H:Hp) (vs:List V) (ds:List D):Prop:=vs.length=ds.length/\∀(i:Nat) v d,vs[i]?=some v->ds[i]?=some d->Rep K H v d
def du (H:Hp) (O:List Addr):Hp:=fun a=>if a∈O then none else H a
theorem hid_le {H:Hp} {O:List Addr}:Same (du H O) H:=fun b o h=>by
 unfold du at h;split at h
 ·cases h
 ·exact h
theorem EF {H:Hp} {O:List Addr} {a:Addr} {o:HO} (h:H a=some o) (n:a∉O):du H O a=some o:=by
 unfold du;rw [if_neg n];exact h
theorem qS {H H':Hp} {O O':List Addr} (e:Same H H') (h:∀a∈O',a∈O\/H a=none):Same (du H O) (du H' O'):=fun b o q=>by
 unfold du at q ⊢
 split at q
 ·cases q
 ·rename_i hn
  have hb:b∉O':=fun z=>(h b z).elim hn fun z=>by rw [z] at q;cases q
  rw [if_neg hb];exact e b o q
theorem GD {H:Hp} {O:List Addr} {p:Addr} {o:HO} (h:p∈O):du (bZ H p o) O=du H O:=by
 funext b
 unfold du;split
 ·rfl
 ·rename_i hb
  exact eZ fun e=>hb (e▸h)
theorem Cu {H:Hp}:du H []=H:=by
 funext b;unfold du;simp
theorem iY {H:Hp} {p:Addr} {o:HO} (h:H p=none):Same H (bZ H p o):=fun b u e=>by
 rw [eZ (rC e h)];exact e
inductive Sh where
 | view | leaf | lst (s:Sh) | tup (ss:List Sh)
def Sh.isView:Sh->Bool
 | .view=>true
 | _=>false
inductive Own (K:Fg) (O:List Addr) (H:Hp):Sh->List Addr->V->D->Prop where
 | view {v d}:Rep K H v d->Own K O H .view [] v d
 | leaf {v d}:Rep K (du H O) v d->Own K O H .leaf [] v d
 | lst {s:Sh} {p:Addr} {vs:List V} {ds:List D} {Fs:List (List Addr)}:s.isView=false->H p=some (.lst vs)->vs.length=ds.length->Fs.length=ds.length->(p::Fs.flatten).Nodup ->
   (∀(i:Nat) v d F,vs[i]?=some v->ds[i]?=some d->Fs[i]?=some F->Own K O H s F v d)->Own K O H (.lst s) (p::Fs.flatten) (.ref p) (.list ds)
 | tup {ss:List Sh} {p:Addr} {vs:List V} {ds:List D} {Fs:List (List Addr)}:(∀s∈ss,s.isView=false)->H p=some (.tup vs)->p∉O->vs.length=ds.length->Fs.length=ds.length->ss.length=ds.length->Fs.flatten.Nodup ->
   (∀(i:Nat) v d F s,vs[i]?=some v->ds[i]?=some d->Fs[i]?=some F->ss[i]?=some s->Own K O H s F v d)->Own K O H (.tup ss) Fs.flatten (.ref p) (.tuple ds)
theorem Own.mono {K:Fg} {O O':List Addr} {H H':Hp} {s:Sh} {G:List Addr} {v:V} {d:D} (h:Own K O H s G v d) (e:Same H H') (hO:∀a∈O',a∈O\/H a=none):Own K O' H' s G v d:=by
 induction h with
 | view r=>exact .view (r.mono e)
 | leaf r=>exact .leaf (r.mono (qS e hO))
 | lst hv hp hl hf nd _ ih=>exact .lst hv (e _ _ hp) hl hf nd fun i v d F h1 h2 h3=>ih i v d F h1 h2 h3
 | tup hv hp hn hl hf hs nd _ ih=>exact .tup hv (e _ _ hp) (fun z=>(hO _ z).elim hn fun z=>by rw [z] at hp;cases hp) hl hf hs nd fun i v d F s h1 h2 h3 h4=>ih i v d F s h1 h2 h3 h4
theorem Own.rep {K:Fg} {O:List Addr} {H:Hp} {s:Sh} {G:List Addr} {v:V} {d:D} (h:Own K O H s G v d):Rep K H v d:=by
 induction h with
 | view r=>exact r
 | leaf r=>exact r.mono hid_le
 | lst hv hp hl hf _ q ih=>
  refine .lst (.of hp) hl fun i v d h1 h2=>?_
  rename_i Fs _;obtain ⟨F,hF⟩:∃F,Fs[i]?=some F:=by
   have:=(KP h2).1
   exact ⟨Fs[i]'(by omega),KL _⟩
  exact ih i v d F h1 h2 hF
 | tup hv hp hn hl hf hs _ q ih=>
  refine .tup (.of hp) hl fun i v d h1 h2=>?_
  rename_i ss _ _ _ Fs _;have hi:=(KP h2).1
  exact ih i v d (Fs[i]'(by omega)) (ss[i]'(by omega)) h1 h2 (KL _) (KL _)
theorem kS {Fs:List (List Addr)} {i:Nat} {F:List Addr} {a:Addr} (h:Fs[i]?=some F) (ha:a∈F):a∈Fs.flatten:=List.mem_flatten.mpr ⟨F,mem_of_getElem? h,ha⟩
theorem Own.freeze {K:Fg} {O O':List Addr} {H:Hp} {s:Sh} {G:List Addr} {v:V} {d:D} (h:Own K O H s G v d) (hs:s.isView=false) (h1:∀a∈O',a∈O) (h2:∀a∈G,a∉O'):Rep K (du H O') v d:=by
 induction h with
 | view r=>cases hs
 | leaf r=>exact r.mono (qS (Same.refl _) fun a z=>.inl (h1 a z))
 | lst hv hp hl hf _ q ih=>
  refine .lst (.of (EF hp (h2 _ mem_cons_self))) hl fun i v d e1 e2=>?_
  rename_i Fs _;obtain ⟨F,hF⟩:∃F,Fs[i]?=some F:=by
   have:=(KP e2).1
   exact ⟨Fs[i]'(by omega),KL _⟩
  exact ih i v d F e1 e2 hF hv fun a ha=>h2 a (KN _ (kS hF ha))
 | tup hv hp hn hl hf hs' _ q ih=>
  refine .tup (.of (EF hp fun z=>hn (h1 _ z))) hl fun i v d e1 e2=>?_
  rename_i ss _ _ _ Fs _;have hi:=(KP e2).1
  have e3:Fs[i]?=some (Fs[i]'(by omega)):=KL _
  exact ih i v d _ (ss[i]'(by omega)) e1 e2 e3 (KL _) (hv _ (getElem_mem _)) fun a ha=>h2 a (kS e3 ha)
theorem Own.mut {K:Fg} {O:List Addr} {H:Hp} {s:Sh} {G:List Addr} {v:V} {d:D} {p:Addr} {o:HO} {xs:List V} (h:Own K O H s G v d) (hs:s.isView=false) (hp:p∈O) (hg:p∉G) (hl:H p=some (.lst xs)):Own K O (bZ H p o) s G v d:=by
 induction h with
 | view r=>cases hs
 | leaf r=>refine .leaf ?_;rw [GD hp];exact r
 | lst hv hq hl' hf nd q ih=>
  refine .lst hv ?_ hl' hf nd fun i v d F e1 e2 e3=>ih i v d F e1 e2 e3 hv fun z=>hg (KN _ (kS e3 z))
  rw [eZ (fun z=>hg (by rw [<-z];exact mem_cons_self))]
  exact hq
 | tup hv hq hn hl' hf hs' nd q ih=>
  refine .tup hv ?_ hn hl' hf hs' nd fun i v d F s e1 e2 e3 e4=>ih i v d F s e1 e2 e3 e4 (hv _ (mem_of_getElem? e4)) fun z=>hg (kS e3 z)
  rw [eZ (fun z=>by rw [z,hl] at hq;cases hq)]
  exact hq
inductive Sc:V->D->Prop where
 | non:Sc .non .none
 | bl (b:Bool):Sc (.bl b) (.bool b)
 | int (i:Int):Sc (.int i) (.int i)
 | str (x:Str):Sc (.str x) (.str x)
theorem Sc.rep {K:Fg} {H:Hp} {v:V} {d:D} (h:Sc v d):Rep K H v d:=by cases h<;>constructor
def bw:D->Bool
 | .list _=>false
 | .tuple _=>false
 | .dict _=>false
 | _=>true
theorem Rep.sc {K:Fg} {H:Hp} {v:V} {d:D} (h:Rep K H v d) (s:bw d=true):Sc v d:=by
 cases h with
 | non=>exact .non
 | bl b=>exact .bl b
 | int i=>exact .int i
 | str x=>exact .str x
 | lst _ _ _=>cases s
 | tup _ _ _=>cases s
structure PV where
 s:Sh
 d:D
abbrev Ev:=List (Option PV)
@[simp] abbrev KZ (d:PySem.PyData):Option PV:=some ⟨.leaf,d⟩
inductive Out (α:Type) where
 | ok (a:α) (e:Ev)
 | er (c:Str) (e:Ev)
 | no
def Out.bind {α β:Type} (x:Out α) (k:α->Ev->Out β):Out β:=match x with
 | .ok a e=>k a e
 | .er c e=>.er c e
 | .no=>.no
structure EnvOk (K:Fg) (He:Hp) (O:List Addr) (Fs:List (List Addr)) (H:Hp) (σ:St) (Γ:Ev):Prop where
 len1:σ.length=Γ.length
 len2:Fs.length=Γ.length
 same:Same He H
 nd:(O++Fs.flatten).Nodup
 inH:∀a∈O++Fs.flatten,H a≠none
 fresh:∀a∈Fs.flatten,He a=none
 slot:∀(i:Nat) (p:PV),Γ[i]?=some (some p)->p.s.isView=false/\∃v F,σ[i]?=some (some v)/\Fs[i]?=some F/\Own K (O++Fs.flatten) H p.s F v p.d
section
variable {K:Fg} {He H H':Hp} {O O' G:List Addr} {Fs:List (List Addr)} {σ:St} {Γ:Ev}
theorem EnvOk.grow (h:EnvOk K He O Fs H σ Γ) (e:Same H H'):EnvOk K He O Fs H' σ Γ:=
 ⟨h.len1,h.len2,h.same.trans e,h.nd,fun a ha z=>h.inH a ha (e.free z),h.fresh,fun i p q=>let ⟨a,v,F,b,c,d⟩:=h.slot i p q;⟨a,v,F,b,c,d.mono e fun _ z=>.inl z⟩⟩
theorem EnvOk.drop (h:EnvOk K He O Fs H σ Γ) (hs:∀a∈O',a∈O) (nd:O'.Nodup):EnvOk K He O' Fs H σ Γ:=by
 obtain ⟨n1,n2,n3⟩:=KO h.nd;refine ⟨h.len1,h.len2,h.same,List.nodup_append.mpr ⟨nd,n2,fun a ha b hb=>n3 a (hs a ha) b hb⟩,fun a ha=>h.inH a ?_,h.fresh,fun i p q=>let ⟨a,v,F,b,c,d⟩:=h.slot i p q;⟨a,v,F,b,c,d.mono (Same.refl _) fun a z=>.inl ?_⟩⟩
 ·rcases KI ha with z | z
  ·exact KH _ (hs a z)
  ·exact KG _ z
 ·rcases KI z with z | z
  ·exact KH _ (hs a z)
  ·exact KG _ z
theorem EnvOk.dropL (h:EnvOk K He (G++O) Fs H σ Γ):EnvOk K He O Fs H σ Γ:=h.drop (fun a z=>KG _ z) (KO (KO h.nd).1).2.1
theorem EnvOk.hide (h:EnvOk K He O Fs H σ Γ) (e:Same H H') (nd:G.Nodup) (hn:∀a∈G,H a=none) (hi:∀a∈G,H' a≠none):EnvOk K He (G++O) Fs H' σ Γ:=by
 refine ⟨h.len1,h.len2,h.same.trans e,?_,fun a ha=>?_,h.fresh,fun i p q=>let ⟨a,v,F,b,c,d⟩:=h.slot i p q;⟨a,v,F,b,c,d.mono e fun a z=>?_⟩⟩
 ·rw [append_assoc]
  exact List.nodup_append.mpr ⟨nd,h.nd,fun a ha b hb z=>h.inH b hb (by rw [<-z];exact hn a ha)⟩
 ·rw [append_assoc] at ha
  rcases KI ha with z | z
  ·exact hi a z
  ·exact fun q=>h.inH a z (e.free q)
 ·rw [append_assoc] at z
  rcases KI z with z | z
  ·exact .inr (hn a z)
  ·exact .inl z
end
structure Aft (K:Fg) (He:Hp) (O:List Addr) (Fs:List (List Addr)) (H:Hp) (σ:St) (Γ':Ev) (p:PV) (v:V) (H':Hp) (G:List Addr) (Fs':List (List Addr)):Prop where
 same:Same H H'
 env:EnvOk K He (G++O) Fs' H' σ Γ'
 new:∀a∈G++Fs'.flatten,a∈Fs.flatten\/H a=none
 own:Own K (G++O++Fs'.flatten) H' p.s G v p.d
abbrev XW:=Str->St->Hp->Prop
abbrev F1:=Ev->Out PV
def tE (K:Fg) (W:XW) (f:F1):TE:=fun σ H Q=>∃He O Fs Γ,EnvOk K He O Fs H σ Γ/\match f Γ with
 | .ok p Γ'=>∀v H' G Fs',Aft K He O Fs H σ Γ' p v H' G Fs'->Q v H'
 | .er c Γ'=>∀H' Fs',Same H H'->EnvOk K He O Fs' H' σ Γ'->W c σ H'
 | .no=>False
def Wants (K:Fg) (W:XW) (He:Hp) (O:List Addr) (Fs:List (List Addr)) (H:Hp) (σ:St) (Q:VK) (o:Out PV):Prop:=match o with
 | .ok p Γ'=>∀v H' G Fs',Aft K He O Fs H σ Γ' p v H' G Fs'->Q v H'
 | .er c Γ'=>∀H' Fs',Same H H'->EnvOk K He O Fs' H' σ Γ'->W c σ H'
 | .no=>False
section
variable {K:Fg} {W:XW} {He H:Hp} {O:List Addr} {Fs:List (List Addr)} {σ:St} {Γ Γ':Ev} {Q:VK}
theorem Wants.scal {H2:Hp} {O2:List Addr} {Fs2:List (List Addr)} {v:V} {d:D} (h:Wants K W He O Fs H σ Q (.ok ⟨.leaf,d⟩ Γ')) (s:Sc v d) (e:Same H H2) (E:EnvOk K He O2 Fs2 H2 σ Γ')
  (hO:∀a∈O,a∈O2) (nd:O.Nodup) (new:∀a∈Fs2.flatten,a∈Fs.flatten\/H a=none):Q v H2:=
 h v H2 [] Fs2 ⟨e,by rw [nil_append];exact E.drop hO nd,by rw [nil_append];exact new,.leaf s.rep⟩
theorem EnvOk.ndO (E:EnvOk K He O Fs H σ Γ):O.Nodup:=(KO E.nd).1
end
def aU {β:Type} (f:F1) (k:PV->Ev->Out β):Ev->Out β:=fun Γ=>(f Γ).bind k
section
variable {K:Fg} {W:XW} {σ:St} {H:Hp} {Q:VK} {fa fb:F1}
theorem xD {k:PV->F1} {R:VK} (h:tE K W (aU fa k) σ H Q)
  (hk:∀He O Fs Γ1 p v H1 G Fs1,O.Nodup->Aft K He O Fs H σ Γ1 p v H1 G Fs1->Wants K W He O Fs H σ Q (k p Γ1)->R v H1):tE K W fa σ H R:=by
 obtain ⟨He,O,Fs,Γ,E,h⟩:=h;refine ⟨He,O,Fs,Γ,E,?_⟩
 unfold aU at h
 cases e:fa Γ with
 | ok p Γ1=>
  rw [e] at h;exact fun v H' G Fs' A=>hk He O Fs Γ1 p v H' G Fs' E.ndO A h
 | er c Γ1=>
  rw [e] at h;exact h
 | no=>
  rw [e] at h;exact h
theorem BM {k:PV->PV->F1} {R:V->V->Hp->Prop} (h:tE K W (aU fa fun p=>aU fb fun q=>k p q) σ H Q)
  (hk:∀He O Fs Γ2 p q v u H1 H2 G1 G2 Fs2,O.Nodup->Same H H1->Same H1 H2->EnvOk K He (G2++(G1++O)) Fs2 H2 σ Γ2->(∀a∈G2++(G1++Fs2.flatten),a∈Fs.flatten\/H a=none) ->
   Own K (G2++(G1++O)++Fs2.flatten) H2 p.s G1 v p.d->Own K (G2++(G1++O)++Fs2.flatten) H2 q.s G2 u q.d->Wants K W He O Fs H σ Q (k p q Γ2)->R v u H2) :
  tE K W fa σ H fun v H1=>tE K W fb σ H1 fun u H2=>R v u H2:=by
 refine xD (k:=fun p=>aU fb fun q=>k p q) h fun He O Fs Γ1 p v H1 G1 Fs1 nd A1 h1=>?_
 refine ⟨He,G1++O,Fs1,Γ1,A1.env,?_⟩
 unfold aU at h1
 cases e:fb Γ1 with
 | ok q Γ2=>
  rw [e] at h1;intro u H2 G2 Fs2 A2;have new:∀a∈G2++(G1++Fs2.flatten),a∈Fs.flatten\/H a=none:=fun a ha=>by
   have up:a∈G1++Fs1.flatten->a∈Fs.flatten\/H a=none:=A1.new a
   rcases KI ha with z | z
   ·rcases A2.new a (KH _ z) with y | y
    ·exact up (KG _ y)
    ·exact .inr (A1.same.free y)
   ·rcases KI z with z | z
    ·exact up (KH _ z)
    ·rcases A2.new a (KG _ z) with y | y
     ·exact up (KG _ y)
     ·exact .inr (A1.same.free y)
  refine hk He O Fs Γ2 p q v u H1 H2 G1 G2 Fs2 nd A1.same A2.same A2.env new (A1.own.mono A2.same fun a ha=>?_) A2.own h1
  rcases KI ha with z | z
  ·rcases KI z with z | z
   ·rcases A2.new a (KH _ z) with y | y
    ·exact .inl (KG _ y)
    ·exact .inr y
   ·exact .inl (KH _ z)
  ·rcases A2.new a (KG _ z) with y | y
   ·exact .inl (KG _ y)
   ·exact .inr y
 | er c Γ2=>
  rw [e] at h1;intro H2 Fs2 hs E2;exact h1 H2 Fs2 (A1.same.trans hs) E2.dropL
 | no=>
  rw [e] at h1;exact h1
end
section
variable {X:Cx} {e:Expr}
theorem bc {t t':TE} (h:PE X e t) (i:∀σ H Q,t' σ H Q->t σ H Q):PE X e t':=fun pins s σ H Q I q=>h pins s σ H Q I (i σ H Q q)
theorem kh {t t':TT} (h:PT X e t) (i:∀σ H Q,t' σ H Q->t σ H Q):PT X e t':=fun pins s σ H Q I q=>h pins s σ H Q I (i σ H Q q)
theorem uQ {t t':TT} (h:PW X e t) (i:∀σ H Q,t' σ H Q->t σ H Q):PW X e t':=fun whole pins s σ H Q I q=>h whole pins s σ H Q I (i σ H Q q)
theorem pb {es:List Expr} {t t':TA} (h:PA X es t) (i:∀σ H Q,t' σ H Q->t σ H Q):PA X es t':=fun pos pins s σ H Q I q=>h pos pins s σ H Q I (i σ H Q q)
theorem cH {st:Stmt} {t t':TS} (h:PS X st t) (i:∀D σ H,t' D σ H->t D σ H):PS X st t':=fun pins s σ H D I q=>h pins s σ H D I (i D σ H q)
theorem Ct {st:List Stmt} {t t':TS} (h:PSs X st t) (i:∀D σ H,t' D σ H->t D σ H):PSs X st t':=fun pins s σ H D I q=>h pins s σ H D I (i D σ H q)
theorem Ec {es:List Expr} {t t':TT} (h:PF X es t) (i:∀σ H Q,t' σ H Q->t σ H Q):PF X es t':=fun pins s σ H Q I q=>h pins s σ H Q I (i σ H Q q)
end
theorem Hw {h:Heap}:∀{vs:List V} {its:List Value} {ds:List D},Vals vs its->vs.length=ds.length->(∀(i:Nat) v d,vs[i]?=some v->ds[i]?=some d->∀u,RelV v u->∃as,Reads h u d as)->∃as,ReadsAll h its ds as
 | _,_,[],.nil,_,_=>⟨_,.nil⟩
 | _,_,d::ds,.cons (a:=v) (b:=u) r t,hl,h=>by
  obtain ⟨as,ra⟩:=h 0 v d rfl rfl u r;obtain ⟨bs,rb⟩:=Hw t (by simpa using hl) fun i v d h1 h2=>h (i+1) v d (by simpa using h1) (by simpa using h2)
  exact ⟨_,.cons ra rb⟩
 | _,_,[],.cons _ _,hl,_=>by simp at hl
 | _,_,_::_,.nil,hl,_=>by simp at hl
theorem Rep.reads {X:Cx} {pins:List (Addr×Obj)} {σ:St} {H:Hp} {s:Shared} {x:V} {d:D} (I:Inv X pins σ H s) (r:Rep X.K H x d):∀u,RelV x u->∃as,Reads s.heap u d as:=by
 induction r with
 | non=>rintro u rfl;exact ⟨_,.none⟩
 | bl b=>rintro u rfl;exact ⟨_,.bool b⟩
 | int i=>rintro u ⟨t,rfl⟩;exact ⟨_,.int i t⟩
 | str x=>rintro u ⟨t,rfl⟩;exact ⟨_,.str x t⟩
 | lst hq hl _ ih=>
  rintro u rfl
  obtain ⟨its,rv,⟨o,n,e1,e2,e3,e4⟩,_⟩:=I.list hq;obtain ⟨as,ra⟩:=Hw rv hl ih;exact ⟨_,.list e1 e2 e4 (by simpa using ra)⟩
 | tup hq hl _ ih=>
  rintro u rfl
  obtain ⟨its,rv,⟨o,e1,e2,n,e4⟩,_⟩:=I.tuple hq;obtain ⟨as,ra⟩:=Hw rv hl ih;exact ⟨_,.tuple e1 e2 e4 (by simpa using ra)⟩
theorem m7 {α:Type} {F G:List α}:∀{Fs:List (List α)} {i:Nat},Fs[i]?=some F->(F++(Fs.set i G).flatten).Perm (G++Fs.flatten)
 | [],_,h=>by simp at h
 | A::r,0,h=>by
  simp at h
  subst h;simp only [List.set_cons_zero,flatten_cons]
  rw [<-append_assoc,<-append_assoc];exact List.Perm.append_right _ perm_append_comm
 | A::r,i+1,h=>by
  have ih:=m7 (G:=G) (Fs:=r) (i:=i) (by simpa using h)
  simp only [List.set_cons_succ,flatten_cons]
  calc (F++(A++(r.set i G).flatten)).Perm (A++(F++(r.set i G).flatten)):=by
        rw [<-append_assoc,<-append_assoc];exact List.Perm.append_right _ perm_append_comm
    _ |>.Perm (A++(G++r.flatten)):=List.Perm.append_left _ ih
    _ |>.Perm (G++(A++r.flatten)):=by
        rw [<-append_assoc,<-append_assoc];exact List.Perm.append_right _ perm_append_comm
section
variable {K:Fg} {He H:Hp} {O G:List Addr} {Fs:List (List Addr)} {σ:St} {Γ:Ev}
theorem EnvOk.lt (E:EnvOk K He O Fs H σ Γ) {i:Nat} (h:i<Γ.length):∃F,Fs[i]?=some F:=⟨Fs[i]'(by rw [E.len2];exact h),KL _⟩
theorem EnvOk.move {i:Nat} {p:PV} (E:EnvOk K He O Fs H σ Γ) (h:Γ[i]?=some (some p)) :
  p.s.isView=false/\∃v F,σ[i]?=some (some v)/\EnvOk K He (F++O) (Fs.set i []) H σ (Γ.set i none)/\Own K (F++O++(Fs.set i []).flatten) H p.s F v p.d/\(∀a∈F++(Fs.set i []).flatten,a∈Fs.flatten):=by
 obtain ⟨hv,v,F,h1,h2,h3⟩:=E.slot i p h;have pm:(F++(Fs.set i []).flatten).Perm Fs.flatten:=by simpa using m7 (G:=[]) h2
 have pm2:(F++O++(Fs.set i []).flatten).Perm (O++Fs.flatten):=by
  rw [append_assoc]
  calc (F++(O++(Fs.set i []).flatten)).Perm (O++(F++(Fs.set i []).flatten)):=by
        rw [<-append_assoc,<-append_assoc];exact List.Perm.append_right _ perm_append_comm
    _ |>.Perm (O++Fs.flatten):=List.Perm.append_left _ pm
 refine ⟨hv,v,F,h1,⟨by rw [length_set];exact E.len1,by rw [length_set,length_set];exact E.len2,E.same,pm2.nodup_iff.mpr E.nd,fun a ha=>E.inH a (pm2.mem_iff.mp ha),fun a ha=>E.fresh a (pm.mem_iff.mp (KG _ ha)),fun j q hq=>?_⟩,h3.mono (Same.refl _) fun a ha=>.inl (pm2.mem_iff.mp ha),fun a ha=>pm.mem_iff.mp ha⟩
 by_cases hj:j=i
 ·subst hj
  rw [List.getElem?_set] at hq;split at hq
  ·split at hq<;>cases hq
  ·rename_i z
   exact absurd rfl z
 ·rw [getElem?_set_ne (Ne.symm hj)] at hq
  obtain ⟨w1,v',F',e1,e2,e3⟩:=E.slot j q hq;exact ⟨w1,v',F',e1,by rw [getElem?_set_ne (Ne.symm hj)];exact e2,e3.mono (Same.refl _) fun a ha=>.inl (pm2.mem_iff.mp ha)⟩
theorem EnvOk.put {i:Nat} {p:PV} {v:V} (E:EnvOk K He (G++O) Fs H σ Γ) (ho:Own K (G++O++Fs.flatten) H p.s G v p.d) (hv:p.s.isView=false) (hn:∀a∈G,He a=none) (hi:i<Γ.length) :
  EnvOk K He O (Fs.set i G) H (σ.set i (some v)) (Γ.set i (some p)):=by
 obtain ⟨F,hF⟩:=E.lt hi;have pm:=m7 (G:=G) hF
 have nd:=E.nd
 rw [append_assoc] at nd;have sub:∀a∈O++(Fs.set i G).flatten,a∈G++O++Fs.flatten:=fun a ha=>by
  rw [append_assoc];rcases KI ha with z | z
  ·exact KG _ (KH _ z)
  ·rcases KI (pm.mem_iff.mp (KG _ z)) with y | y
   ·exact KH _ y
   ·exact KG _ (KG _ y)
 refine ⟨by rw [length_set,length_set];exact E.len1,by rw [length_set,length_set];exact E.len2,E.same,?_,fun a ha=>E.inH a (sub a ha),fun a ha=>?_,fun j q hq=>?_⟩
 ·have p1:(O++(F++(Fs.set i G).flatten)).Perm (G++(O++Fs.flatten)):=by
   calc (O++(F++(Fs.set i G).flatten)).Perm (O++(G++Fs.flatten)):=List.Perm.append_left _ pm
     _ |>.Perm (G++(O++Fs.flatten)):=by
       rw [<-append_assoc,<-append_assoc];exact List.Perm.append_right _ perm_append_comm
  have p2:=p1.nodup_iff.mpr nd
  refine p2.sublist ?_
  exact List.Sublist.append_left (List.sublist_append_right _ _) _
 ·rcases KI (pm.mem_iff.mp (KG _ ha)) with y | y
  ·exact hn a y
  ·exact E.fresh a y
 ·by_cases hj:j=i
  ·subst hj
   rw [getElem?_set_self hi] at hq
   cases hq;refine ⟨hv,v,G,?_,?_,ho.mono (Same.refl _) fun a ha=>.inl (sub a ha)⟩
   ·rw [getElem?_set_self (by rw [E.len1];exact hi)]
   ·rw [getElem?_set_self (by rw [E.len2];exact hi)]
  ·rw [getElem?_set_ne (Ne.symm hj)] at hq
   obtain ⟨w1,v',F',e1,e2,e3⟩:=E.slot j q hq;exact ⟨w1,v',F',by rw [getElem?_set_ne (Ne.symm hj)];exact e1,by rw [getElem?_set_ne (Ne.symm hj)];exact e2,e3.mono (Same.refl _) fun a ha=>.inl (sub a ha)⟩
theorem Aft.freshG {Γ':Ev} {p:PV} {v:V} {H':Hp} {Fs':List (List Addr)} (E:EnvOk K He O Fs H σ Γ) (A:Aft K He O Fs H σ Γ' p v H' G Fs'):∀a∈G,He a=none:=fun a ha=>by
 rcases A.new a (KH _ ha) with z | z
 ·exact E.fresh a z
 ·exact E.same.free z
end
def af (i:Nat):F1:=fun Γ=>match Γ[i]? with
 | some (some p)=>(match p.s with
  | .leaf=>.ok ⟨.leaf,p.d⟩ Γ
  | _=>.ok ⟨.view,p.d⟩ Γ)
 | _=>.no
def cX (i:Nat):F1:=fun Γ=>match Γ[i]? with
 | some (some p)=>.ok p (Γ.set i none)
 | _=>.no
def eK (d:D):F1:=fun Γ=>.ok ⟨.leaf,d⟩ Γ
section
variable {X:Cx} {W:XW} {i:Nat} {e:Expr} {pos:Pos}
theorem zF {K:Fg} {σ:St} {H:Hp} {Q:VK} (h:tE K W (af i) σ H Q):fS i σ H Q:=by
 obtain ⟨He,O,Fs,Γ,E,h⟩:=h;unfold af at h
 cases e:Γ[i]? with
 | none=>rw [e] at h;exact h.elim
 | some o=>
  rw [e] at h
  cases o with
  | none=>exact h.elim
  | some p=>
   obtain ⟨hv,v,F,h1,h2,h3⟩:=E.slot i p e;obtain ⟨s,d⟩:=p;have new:∀a∈[]++Fs.flatten,a∈Fs.flatten\/H a=none:=fun a ha=>.inl (by simpa using ha)
   cases s with
   | leaf=>
    cases h3 with
    | leaf r=>exact ⟨v,h1,h v H [] Fs ⟨Same.refl _,by simpa using E,new,.leaf r⟩⟩
   | view=>cases hv
   | lst s=>exact ⟨v,h1,h v H [] Fs ⟨Same.refl _,by simpa using E,new,.view h3.rep⟩⟩
   | tup ss=>exact ⟨v,h1,h v H [] Fs ⟨Same.refl _,by simpa using E,new,.view h3.rep⟩⟩
theorem vM {K:Fg} {σ:St} {H:Hp} {Q:VK} (h:tE K W (cX i) σ H Q):fS i σ H Q:=by
 obtain ⟨He,O,Fs,Γ,E,h⟩:=h;unfold cX at h
 cases e:Γ[i]? with
 | none=>rw [e] at h;exact h.elim
 | some o=>
  rw [e] at h
  cases o with
  | none=>exact h.elim
  | some p=>
   obtain ⟨hv,v,F,h1,E',o',sub⟩:=E.move e;exact ⟨v,h1,h v H F (Fs.set i []) ⟨Same.refl _,E',fun a ha=>.inl (sub a ha),o'⟩⟩
theorem uC (h:PE X e (fS i)):PE X e (tE X.K W (af i)):=bc h fun _ _ _=>zF
theorem xa (h:PE X e (fS i)):PE X e (tE X.K W (cX i)):=bc h fun _ _ _=>vM
theorem sD {K:Fg} {σ:St} {H:Hp} {Q:VK} {v:V} {d:D} (hs:∀H,Rep K H v d) (h:tE K W (eK d) σ H Q):Q v H:=by
 obtain ⟨He,O,Fs,Γ,E,h⟩:=h;exact h v H [] Fs ⟨Same.refl _,by simpa using E,fun a ha=>.inl (by simpa using ha),.leaf (hs _)⟩
theorem de_str {j:Str} {k pos}:PE X (.Constant (.str j) k pos) (tE X.K W (eK (.str j))):=bc tf fun _ _ _=>sD fun _=>.str j
theorem xb {x:Str} {v:V} {u:Value} {d:D} (hg:Gl X x) (hm:X.mg x=some u) (r:RelV v u) (hr:∀H,Rep X.K H v d) (hd:(x==("__debug__":Str))=false:=by decide):PE X (.Name x pos) (tE X.K W (eK d)):=
 bc (oN hg hm r hd) fun _ _ _=>sD hr
end
def aD (g:D->D->Option D) (fa fb:F1):F1:=aU fa fun p=>aU fb fun q=>fun Γ=>match g p.d q.d with
 | some d=>.ok ⟨.leaf,d⟩ Γ
 | none=>.no
def GOp (K:Fg) (r:R2) (g:D->D->Option D):Prop:=∀x y H Q a b d,Rep K H x a->Rep K H y b->g a b=some d->(∀v,Sc v d->Q v H)->r x y H Q
section
variable {K:Fg} {W:XW} {σ:St} {H:Hp} {Q:VK} {fa fb:F1} {r:R2} {g:D->D->Option D}
theorem gD (hg:GOp K r g) (h:tE K W (aD g fa fb) σ H Q):vo r (tE K W fa) (tE K W fb) σ H Q:=by
 refine BM h ?_
 intro He O Fs Γ2 p q v u H1 H2 G1 G2 Fs2 nd s1 s2 E new o1 o2 w
 cases e:g p.d q.d with
 | none=>rw [e] at w;exact w.elim
 | some d=>
  rw [e] at w;exact hg v u H2 Q p.d q.d d o1.rep o2.rep e fun z s=>w.scal s (s1.trans s2) E (fun a ha=>KG _ (KG _ ha)) nd fun a ha=>new a (KG _ (KG _ ha))
end
theorem GOp.or {K:Fg} {r r':R2} {g g':D->D->Option D} (h:GOp K r g) (h':GOp K r' g'):GOp K (fun x y H Q=>r x y H Q\/r' x y H Q) (fun a b=>(g a b).or (g' a b)):=by
 intro x y H Q a b d ra rb e k;have e:(g a b).or (g' a b)=some d:=e
 cases e1:g a b with
 | some z=>rw [e1] at e;cases e;exact .inl (h x y H Q a b _ ra rb e1 k)
 | none=>rw [e1] at e;exact .inr (h' x y H Q a b d ra rb (by simpa using e) k)
def gI (C:Int->Int->Bool) (f:Int->Int->D):D->D->Option D
 | .int i,.int j=>if C i j then some (f i j) else none
 | _,_=>none
theorem oY {K:Fg} {C:Int->Int->Prop} {C':Int->Int->Bool} {g:Int->Int->V} {f:Int->Int->D} (hC:∀i j,C' i j=true->C i j) (hs:∀i j,Sc (g i j) (f i j)):GOp K (rI C g) (gI C' f):=by
 intro x y H Q a b d ra rb e k
 cases ra<;>cases rb<;>simp only [gI] at e<;>try cases e
 rename_i i j;split at e
 ·rename_i c
  cases e;exact ⟨i,j,rfl,rfl,hC i j c,k _ (hs i j)⟩
 ·cases e
def yu (f:Int->Int->D):D->D->Option D
 | .int i,.int j=>some (f i j)
 | _,_=>none
theorem BH {K:Fg} {g:Int->Int->V} {f:Int->Int->D} (hs:∀i j,Sc (g i j) (f i j)):GOp K (oE g) (yu f):=by
 intro x y H Q a b d ra rb e k
 cases ra<;>cases rb<;>simp only [yu] at e<;>try cases e
 rename_i i j;exact ⟨i,j,rfl,rfl,k _ (hs i j)⟩
abbrev gSub:=yu fun i j=>.int (i-j)
abbrev aN:=yu fun i j=>.int (i+j)
def qK (i j:Int):Bool:=(decide (-(2 ^ 64)<i)&&decide (i<2 ^ 64))||(decide (-(2 ^ 64)<j)&&decide (j<2 ^ 64))
abbrev mr:=gI qK fun i j=>.int (i*j)
def xm (_ j:Int):Bool:=decide (0<j)&&decide (j<1073741824)
abbrev qj:=gI xm fun i j=>.int (i / j)
def xl (_ j:Int):Bool:=decide (0<j)
abbrev dv:=gI xl fun i j=>.int (i % j)
def xk (i j:Int):Bool:=decide (0<=j)&&decide (j<=1000000)&&decide (i.natAbs<2 ^ 64)
abbrev jw:=gI xk fun i j=>.int (i ^ j.toNat)
mutual
def Sh.same:Sh->Sh->Bool
 | .view,.view=>true
 | .leaf,.leaf=>true
 | .lst a,.lst b=>Sh.same a b
 | .tup as,.tup bs=>Sh.sameL as bs
 | _,_=>false
def Sh.sameL:List Sh->List Sh->Bool
 | [],[]=>true
 | a::as,b::bs=>Sh.same a b&&Sh.sameL as bs
 | _,_=>false
end
mutual
theorem Sh.same_eq:∀{a b:Sh},Sh.same a b=true->a=b
 | .view,.view,_=>rfl
 | .leaf,.leaf,_=>rfl
 | .lst a,.lst b,h=>by rw [Sh.same_eq (a:=a) (b:=b) (by simpa [Sh.same] using h)]
 | .tup as,.tup bs,h=>by rw [Sh.sameL_eq (as:=as) (bs:=bs) (by simpa [Sh.same] using h)]
 | .view,.leaf,h=>by simp [Sh.same] at h
 | .view,.lst _,h=>by simp [Sh.same] at h
 | .view,.tup _,h=>by simp [Sh.same] at h
 | .leaf,.view,h=>by simp [Sh.same] at h
 | .leaf,.lst _,h=>by simp [Sh.same] at h
 | .leaf,.tup _,h=>by simp [Sh.same] at h
 | .lst _,.view,h=>by simp [Sh.same] at h
 | .lst _,.leaf,h=>by simp [Sh.same] at h
 | .lst _,.tup _,h=>by simp [Sh.same] at h
 | .tup _,.view,h=>by simp [Sh.same] at h
 | .tup _,.leaf,h=>by simp [Sh.same] at h
 | .tup _,.lst _,h=>by simp [Sh.same] at h
theorem Sh.sameL_eq:∀{as bs:List Sh},Sh.sameL as bs=true->as=bs
 | [],[],_=>rfl
 | a::as,b::bs,h=>by
  have h:Sh.same a b=true/\Sh.sameL as bs=true:=by simpa [Sh.sameL] using h
  rw [Sh.same_eq h.1,Sh.sameL_eq h.2]
 | [],_::_,h=>by simp [Sh.sameL] at h
 | _::_,[],h=>by simp [Sh.sameL] at h
end
def coer (s:Sh) (p:PV):Bool:=match s with
 | .leaf=>!p.s.isView||bw p.d
 | .view=>false
 | s=>Sh.same s p.s
def aP (s:Sh) (G:List Addr):List Addr:=match s with
 | .leaf=>[]
 | _=>G
theorem EY {s:Sh} {G:List Addr} {a:Addr} (h:a∈aP s G):a∈G:=by
 unfold aP at h;split at h
 ·simp at h
 ·exact h
theorem Own.coer {K:Fg} {O O':List Addr} {H:Hp} {s:Sh} {p:PV} {G:List Addr} {v:V} (h:Own K O H p.s G v p.d) (c:coer s p=true) (h1:∀a∈O',a∈O) (h2:∀a∈G,a∈O'->a∈aP s G):Own K O' H s (aP s G) v p.d:=by
 cases s with
 | view=>simp [T.coer] at c
 | leaf=>
  show Own K O' H .leaf [] v p.d
  have c:(!p.s.isView||bw p.d)=true:=c
  cases hv:p.s.isView with
  | false=>exact .leaf (h.freeze hv h1 fun a ha z=>by simpa [aP] using h2 a ha z)
  | true=>
   rw [hv] at c;exact .leaf (h.rep.sc (by simpa using c)).rep
 | lst s=>
  have e:Sh.lst s=p.s:=Sh.same_eq c
  show Own K O' H (.lst s) G v p.d
  rw [e];exact h.mono (Same.refl _) fun a ha=>.inl (h1 a ha)
 | tup ss=>
  have e:Sh.tup ss=p.s:=Sh.same_eq c
  show Own K O' H (.tup ss) G v p.d
  rw [e];exact h.mono (Same.refl _) fun a ha=>.inl (h1 a ha)
open PySem.SeqAt in
def bT:D->D->Option D:=fun a b=>if shaped a&&shaped b then some (.bool (PyData.eqv a b)) else none
open PySem.SeqAt in
def fN:D->D->Option D:=fun a b=>if shaped a&&shaped b then some (.bool (!PyData.eqv a b)) else none
open PySem.SeqAt in
def pR (K:Fg) (neg:Bool):R2:=fun x y H Q=>∃a b,Rep K H x a/\Rep K H y b/\shaped a=true/\shaped b=true/\Q (.bl (if neg then !PyData.eqv a b else PyData.eqv a b)) H
section
variable {X:Cx}
theorem AA (hu:X.A.units+64<cLine):OpR X (compareOp .Eq) (pR X.K false):=by
 intro pins s σ H x y v u Q I rx ry h;obtain ⟨a,b,ra,rb,sa,sb,q⟩:=h;obtain ⟨as,r1⟩:=ra.reads I v rx;obtain ⟨bs,r2⟩:=rb.reads I u ry;exact SeqAt.compareEq_shaped r1 r2 sa sb hu ⟨.bl _,H,I,rfl,q⟩
theorem Av (hu:X.A.units+64<cLine):OpR X (compareOp .NotEq) (pR X.K true):=by
 intro pins s σ H x y v u Q I rx ry h;obtain ⟨a,b,ra,rb,sa,sb,q⟩:=h;obtain ⟨as,r1⟩:=ra.reads I v rx;obtain ⟨bs,r2⟩:=rb.reads I u ry;exact SeqAt.compareNe_shaped r1 r2 sa sb hu ⟨.bl _,H,I,rfl,q⟩
end
theorem A8 {K:Fg}:GOp K (pR K false) bT:=by
 intro x y H Q a b d ra rb e k;unfold bT at e;split at e
 ·rename_i c
  cases e;simp only [Bool.and_eq_true] at c
  exact ⟨a,b,ra,rb,c.1,c.2,k _ (.bl _)⟩
 ·cases e
theorem A5 {K:Fg}:GOp K (pR K true) fN:=by
 intro x y H Q a b d ra rb e k;unfold fN at e;split at e
 ·rename_i c
  cases e;simp only [Bool.and_eq_true] at c
  exact ⟨a,b,ra,rb,c.1,c.2,k _ (.bl _)⟩
 ·cases e
def Bg:D->D->Option D
 | .str i,.str j=>some (.bool (decide (i.cps.toList<j.cps.toList)))
 | _,_=>none
abbrev IY:=yu fun i j=>.bool (decide (i<j))
abbrev eN:D->D->Option D:=fun a b=>(IY a b).or (Bg a b)
abbrev yt:=yu fun i j=>.bool (decide (i<=j))
abbrev nG:=yu fun i j=>.bool (decide (j<i))
abbrev Kx:=yu fun i j=>.bool (decide (j<=i))
theorem wL {K:Fg}:GOp K (fun x y H Q=>∃i j,x=.str i/\y=.str j/\Q (.bl (decide (i.cps.toList<j.cps.toList))) H) Bg:=by
 intro x y H Q a b d ra rb e k
 cases ra<;>cases rb<;>simp only [Bg] at e<;>try cases e
 rename_i i j;exact ⟨i,j,rfl,rfl,k _ (.bl _)⟩
theorem A6 {K:Fg}:GOp K (fun x y H Q=>oE (fun i j=>.bl (decide (i<j))) x y H Q\/∃i j,x=.str i/\y=.str j/\Q (.bl (decide (i.cps.toList<j.cps.toList))) H) eN:=
 (BH fun _ _=>.bl _).or wL
open PySem.SeqAt in
def cW (neg:Bool):D->D->Option D
 | a,.list xs=>if shaped a&&shaped (.list xs) then some (.bool (if neg then !xs.any fun y=>PyData.eqv y a else xs.any fun y=>PyData.eqv y a)) else none
 | a,.tuple xs=>if shaped a&&shaped (.tuple xs) then some (.bool (if neg then !xs.any fun y=>PyData.eqv y a else xs.any fun y=>PyData.eqv y a)) else none
 | _,_=>none
def sP (K:Fg) (neg:Bool):R2:=fun x y H Q=>∃a b d,Rep K H x a/\Rep K H y b/\cW neg a b=some (.bool d)/\Q (.bl d) H
theorem um {K:Fg} {neg:Bool}:GOp K (sP K neg) (cW neg):=by
 intro x y H Q a b d ra rb e k;have:∃c,d=.bool c:=by
  cases b<;>simp only [cW] at e<;>(try cases e)<;>(split at e<;>cases e<;>exact ⟨_,rfl⟩)
 obtain ⟨c,rfl⟩:=this;exact ⟨a,b,c,ra,rb,e,k _ (.bl c)⟩
theorem Fu {d:D} {xs:List D} (h:SeqAt.shaped d=true) (e:d=.list xs\/d=.tuple xs):PyData.canLayAll0 xs=true/\PyData.depthAll xs+1<=64:=by
 have h1:=SeqAt.canLay_of_shaped h
 have h2:=SeqAt.depth_of_shaped h
 rcases e with e | e<;>subst e<;>exact ⟨by simpa [PyData.canLay0] using h1,by simpa [PyData.depth] using h2⟩
section
variable {X:Cx}
theorem Az (hu:X.A.units+64<cLine):OpR X (compareOp .In) (sP X.K false):=by
 intro pins s σ H x y v u Q I rx ry h;obtain ⟨a,b,d,ra,rb,e,q⟩:=h;obtain ⟨as,r1⟩:=ra.reads I v rx;obtain ⟨bs,r2⟩:=rb.reads I u ry
 cases b<;>simp only [cW] at e<;>try cases e
 all_goals
  split at e
  ·rename_i c
   simp only [Bool.and_eq_true] at c
   simp only [Option.some.injEq,PyData.bool.injEq] at e
   subst e;first
    | (obtain ⟨p1,p2⟩:=Fu c.2 (.inl rfl)
       exact SeqAt.in_list_reads r2 r1 p1 (SeqAt.canLay_of_shaped c.1) (Nat.lt_of_le_of_lt (by have:=Nat.min_le_left (PyData.depthAll ‹_›) a.depth;omega) hu) ⟨.bl _,H,I,rfl,q⟩)
    | (obtain ⟨p1,p2⟩:=Fu c.2 (.inr rfl)
       exact SeqAt.in_tuple_reads r2 r1 p1 (SeqAt.canLay_of_shaped c.1) (Nat.lt_of_le_of_lt (by have:=Nat.min_le_left (PyData.depthAll ‹_›) a.depth;omega) hu) ⟨.bl _,H,I,rfl,q⟩)
  ·cases e
theorem pX (hu:X.A.units+64<cLine):OpR X (compareOp .NotIn) (sP X.K true):=by
 intro pins s σ H x y v u Q I rx ry h;obtain ⟨a,b,d,ra,rb,e,q⟩:=h;obtain ⟨as,r1⟩:=ra.reads I v rx;obtain ⟨bs,r2⟩:=rb.reads I u ry
 cases b<;>simp only [cW] at e<;>try cases e
 all_goals
  split at e
  ·rename_i c
   simp only [Bool.and_eq_true] at c
   simp only [Option.some.injEq,PyData.bool.injEq] at e
   subst e;first
    | (obtain ⟨p1,p2⟩:=Fu c.2 (.inl rfl)
       exact SeqAt.notIn_list_reads r2 r1 p1 (SeqAt.canLay_of_shaped c.1) (Nat.lt_of_le_of_lt (by have:=Nat.min_le_left (PyData.depthAll ‹_›) a.depth;omega) hu) ⟨.bl _,H,I,rfl,q⟩)
    | (obtain ⟨p1,p2⟩:=Fu c.2 (.inr rfl)
       exact SeqAt.notIn_tuple_reads r2 r1 p1 (SeqAt.canLay_of_shaped c.1) (Nat.lt_of_le_of_lt (by have:=Nat.min_le_left (PyData.depthAll ‹_›) a.depth;omega) hu) ⟨.bl _,H,I,rfl,q⟩)
  ·cases e
end
def WantsB (K:Fg) (W:XW) (He:Hp) (O:List Addr) (Fs:List (List Addr)) (H:Hp) (σ:St) (Q:Bool->Hp->Prop) (o:Out Bool):Prop:=match o with
 | .ok b Γ'=>∀H' Fs',Same H H'->EnvOk K He O Fs' H' σ Γ'->(∀a∈Fs'.flatten,a∈Fs.flatten\/H a=none)->Q b H'
 | .er c Γ'=>∀H' Fs',Same H H'->EnvOk K He O Fs' H' σ Γ'->W c σ H'
 | .no=>False
abbrev FB:=Ev->Out Bool
def tT (K:Fg) (W:XW) (f:FB):TT:=fun σ H Q=>∃He O Fs Γ,EnvOk K He O Fs H σ Γ/\WantsB K W He O Fs H σ Q (f Γ)
section
variable {K:Fg} {W:XW} {He H H1:Hp} {O:List Addr} {Fs Fs1:List (List Addr)} {σ:St} {Γ Γ':Ev} {Q:VK} {QB:Bool->Hp->Prop}
theorem Wants.after {o:Out PV} (h:Wants K W He O Fs H σ Q o) (s:Same H H1) (n:∀a∈Fs1.flatten,a∈Fs.flatten\/H a=none):Wants K W He O Fs1 H1 σ Q o:=by
 cases o with
 | ok p Γ'=>exact fun v H' G Fs' A=>h v H' G Fs' ⟨s.trans A.same,A.env,fun a ha=>(A.new a ha).elim (n a) fun z=>.inr (s.free z),A.own⟩
 | er c Γ'=>exact fun H' Fs' e E=>h H' Fs' (s.trans e) E
 | no=>exact h
theorem WantsB.after {o:Out Bool} (h:WantsB K W He O Fs H σ QB o) (s:Same H H1) (n:∀a∈Fs1.flatten,a∈Fs.flatten\/H a=none):WantsB K W He O Fs1 H1 σ QB o:=by
 cases o with
 | ok p Γ'=>exact fun H' Fs' e E n'=>h H' Fs' (s.trans e) E fun a ha=>(n' a ha).elim (n a) fun z=>.inr (s.free z)
 | er c Γ'=>exact fun H' Fs' e E=>h H' Fs' (s.trans e) E
 | no=>exact h
theorem Aft.go {p:PV} {v:V} {G:List Addr} (A:Aft K He O Fs H σ Γ' p v H1 G Fs1):EnvOk K He O Fs1 H1 σ Γ':=A.env.dropL
theorem Aft.newF {p:PV} {v:V} {G:List Addr} (A:Aft K He O Fs H σ Γ' p v H1 G Fs1):∀a∈Fs1.flatten,a∈Fs.flatten\/H a=none:=fun a ha=>A.new a (KG _ ha)
end
section
variable {K:Fg} {W:XW} {σ:St} {H:Hp} {Q:VK} {QB:Bool->Hp->Prop} {fa fb fc:F1} {ga gb:FB}
def aR (g:D->Option Bool) (f:F1):FB:=fun Γ=>(f Γ).bind fun p Γ'=>match g p.d with
 | some b=>.ok b Γ'
 | none=>.no
theorem oa {g:D->Option Bool} {R:VK} (h:tT K W (aR g fa) σ H QB) (hR:∀v d b H1,Rep K H1 v d->g d=some b->QB b H1->R v H1):tE K W fa σ H R:=by
 obtain ⟨He,O,Fs,Γ,E,h⟩:=h;refine ⟨He,O,Fs,Γ,E,?_⟩
 unfold aR at h
 cases e:fa Γ with
 | ok p Γ'=>
  rw [e] at h;intro v H' G Fs' A
  have h:WantsB K W He O Fs H σ QB (match g p.d with | some b=>.ok b Γ' | none=>.no):=h
  cases e2:g p.d with
  | some b=>
   rw [e2] at h;exact hR v p.d b H' A.own.rep e2 (h H' Fs' A.same A.go A.newF)
  | none=>rw [e2] at h;exact h.elim
 | er c Γ'=>rw [e] at h;exact h
 | no=>rw [e] at h;exact h
def aA:D->Option Bool
 | .bool b=>some b
 | _=>none
theorem ou {t:TE} (hi:∀Q,tE K W fa σ H Q->t σ H Q) (h:tT K W (aR aA fa) σ H QB):rU t σ H QB:=by
 refine hi _ (oa h fun v d b H1 r e q=>?_)
 cases r<;>simp only [aA] at e<;>try cases e
 exact ⟨_,rfl,q⟩
def br:D->Option Bool
 | .none=>some false
 | .bool b=>some b
 | .int i=>some (i != 0)
 | .str x=>if x.length<=sizeLine then some ((x.length:Int) != 0) else none
 | .list xs=>some (!xs.isEmpty)
 | .tuple xs=>some (!xs.isEmpty)
 | .dict _=>none
theorem sv (h:tT K W (aR br fa) σ H QB):tE K W fa σ H fun x H'=>∃k,BB K x H' k/\QB k H':=by
 refine oa h fun v d b H1 r e q=>?_
 cases r with
 | non=>cases e;exact ⟨_,rfl,q⟩
 | bl c=>cases e;exact ⟨_,rfl,q⟩
 | int i=>cases e;exact ⟨_,rfl,q⟩
 | str x=>
  simp only [br] at e
  split at e
  ·rename_i z;cases e;exact ⟨_,⟨z,rfl⟩,q⟩
  ·cases e
 | @lst p vs ds hq hl _=>
  cases e;exact ⟨_,.inl ⟨vs,hq,by cases vs<;>cases ds<;>simp_all⟩,q⟩
 | @tup p vs ds hq hl _=>
  cases e;exact ⟨_,.inr (.inl ⟨vs,hq,by cases vs<;>cases ds<;>simp_all⟩),q⟩
def gk (a b:FB):FB:=fun Γ=>(a Γ).bind fun c Γ'=>if c then b Γ' else .ok false Γ'
def mT (a b:FB):FB:=fun Γ=>(a Γ).bind fun c Γ'=>if c then .ok true Γ' else b Γ'
def dy (a:FB):FB:=fun Γ=>(a Γ).bind fun c Γ'=>.ok (!c) Γ'
theorem Gx {k:Bool->Ev->Out Bool} {R:Bool->Hp->Prop} (h:tT K W (fun Γ=>(ga Γ).bind k) σ H QB)
  (hk:∀(He:Hp) (O:List Addr) Γ1 b H1 Fs1,Same H H1->EnvOk K He O Fs1 H1 σ Γ1->WantsB K W He O Fs1 H1 σ QB (k b Γ1)->R b H1):tT K W ga σ H R:=by
 obtain ⟨He,O,Fs,Γ,E,h⟩:=h;have h:WantsB K W He O Fs H σ QB ((ga Γ).bind k):=h
 refine ⟨He,O,Fs,Γ,E,?_⟩
 cases e:ga Γ with
 | ok b Γ1=>rw [e] at h;exact fun H' Fs' s E' n=>hk He O Γ1 b H' Fs' s E' (WantsB.after (o:=k b Γ1) h s n)
 | er c Γ1=>rw [e] at h;exact h
 | no=>rw [e] at h;exact h
theorem WantsB.now {He:Hp} {O:List Addr} {Fs:List (List Addr)} {Γ:Ev} {b:Bool} (h:WantsB K W He O Fs H σ QB (.ok b Γ)) (E:EnvOk K He O Fs H σ Γ):QB b H:=h H Fs (Same.refl _) E fun _ z=>.inl z
theorem vT (h:tT K W (gk ga gb) σ H QB):C7 (tT K W ga) (tT K W gb) σ H QB:=by
 refine Gx h fun He O Γ1 b H1 Fs1 s E w=>?_
 cases b with
 | true=>exact jv ⟨He,O,Fs1,Γ1,E,w⟩
 | false=>exact gU (WantsB.now w E)
theorem sM (h:tT K W (mT ga gb) σ H QB):JC (tT K W ga) (tT K W gb) σ H QB:=by
 refine Gx h fun He O Γ1 b H1 Fs1 s E w=>?_
 cases b with
 | false=>exact gU ⟨He,O,Fs1,Γ1,E,w⟩
 | true=>exact jv (WantsB.now w E)
theorem oA (h:tT K W (dy ga) σ H QB):C2 (tT K W ga) σ H QB:=Gx h fun He O Γ1 b H1 Fs1 s E w=>WantsB.now w E
def cF (fa fb:F1):F1:=aU fa fun p Γ=>match p.d with
 | .bool true=>fb Γ
 | .bool false=>.ok ⟨.leaf,.bool false⟩ Γ
 | _=>.no
def DO (fa fb:F1):F1:=aU fa fun p Γ=>match p.d with
 | .bool true=>.ok ⟨.leaf,.bool true⟩ Γ
 | .bool false=>fb Γ
 | _=>.no
def Je (fa:F1):F1:=aU fa fun p Γ=>match p.d with
 | .bool b=>.ok ⟨.leaf,.bool (!b)⟩ Γ
 | _=>.no
theorem zU (h:tE K W (cF fa fb) σ H Q):xZ (tE K W fa) (tE K W fb) σ H Q:=by
 refine xD h fun He O Fs Γ1 p v H1 G Fs1 nd A w=>?_
 have r:=A.own.rep
 obtain ⟨s,d⟩:=p
 cases r with
 | bl b=>
  cases b with
  | true=>exact ⟨true,rfl,jv ⟨He,O,Fs1,Γ1,A.go,Wants.after w A.same A.newF⟩⟩
  | false=>exact ⟨false,rfl,gU (Wants.scal w (.bl false) A.same A.env (fun a ha=>KG _ ha) nd A.newF)⟩
 | _=>exact w.elim
theorem Dd (h:tE K W (DO fa fb) σ H Q):C1 (tE K W fa) (tE K W fb) σ H Q:=by
 refine xD h fun He O Fs Γ1 p v H1 G Fs1 nd A w=>?_
 have r:=A.own.rep
 obtain ⟨s,d⟩:=p
 cases r with
 | bl b=>
  cases b with
  | false=>exact ⟨false,rfl,gU ⟨He,O,Fs1,Γ1,A.go,Wants.after w A.same A.newF⟩⟩
  | true=>exact ⟨true,rfl,jv (Wants.scal w (.bl true) A.same A.env (fun a ha=>KG _ ha) nd A.newF)⟩
 | _=>exact w.elim
def kU (c:FB) (fa fb:F1):F1:=fun Γ=>(c Γ).bind fun b Γ'=>if b then fa Γ' else fb Γ'
theorem De (h:tE K W (kU ga fa fb) σ H Q):JE (tT K W ga) (tE K W fa) (tE K W fb) σ H Q:=by
 obtain ⟨He,O,Fs,Γ,E,h⟩:=h;refine ⟨He,O,Fs,Γ,E,?_⟩
 unfold kU at h
 cases e:ga Γ with
 | ok b Γ1=>
  rw [e] at h;intro H' Fs' s E' n
  have h':=Wants.after (o:=if b then fa Γ1 else fb Γ1) h s n
  cases b with
  | true=>exact jv ⟨He,O,Fs',Γ1,E',h'⟩
  | false=>exact gU ⟨He,O,Fs',Γ1,E',h'⟩
 | er c Γ1=>rw [e] at h;exact h
 | no=>rw [e] at h;exact h
def mX (g g':D->D->Option D) (fa fb fc:F1):F1:=aU fa fun p=>aU fb fun q=>fun Γ=>match g p.d q.d with
 | some (.bool true)=>if bw q.d then (fc Γ).bind fun z Γ'=>(match g' q.d z.d with | some d=>.ok ⟨.leaf,d⟩ Γ' | none=>.no) else .no
 | some (.bool false)=>.ok ⟨.leaf,.bool false⟩ Γ
 | _=>.no
theorem lJ {r r':R2} {g g':D->D->Option D} (hg:GOp K r g) (hg':GOp K r' g') (h:tE K W (mX g g' fa fb fc) σ H Q):Gv r r' (tE K W fa) (tE K W fb) (tE K W fc) σ H Q:=by
 refine BM h ?_
 intro He O Fs Γ2 p q v u H1 H2 G1 G2 Fs2 nd s1 s2 E new o1 o2 w;have sub:∀a∈O,a∈G2++(G1++O):=fun a ha=>KG _ (KG _ ha)
 have newF:∀a∈Fs2.flatten,a∈Fs.flatten\/H a=none:=fun a ha=>new a (KG _ (KG _ ha))
 cases e:g p.d q.d with
 | none=>rw [e] at w;exact w.elim
 | some d=>
  rw [e] at w;refine hg v u H2 _ p.d q.d d o1.rep o2.rep e fun z s=>?_
  cases s with
  | bl b=>
   cases b with
   | false=>exact ⟨false,rfl,gU (Wants.scal w (.bl false) (s1.trans s2) E sub nd newF)⟩
   | true=>
    refine ⟨true,rfl,jv ?_⟩
    have w:Wants K W He O Fs H σ Q (if bw q.d then (fc Γ2).bind fun z Γ'=>(match g' q.d z.d with | some d=>.ok ⟨.leaf,d⟩ Γ' | none=>.no) else .no):=w
    cases hs:bw q.d with
    | false=>rw [hs] at w;exact w.elim
    | true=>
     rw [hs] at w;have w:Wants K W He O Fs H σ Q ((fc Γ2).bind fun z Γ'=>(match g' q.d z.d with | some d=>.ok ⟨.leaf,d⟩ Γ' | none=>.no)):=w
     have su:=o2.rep.sc hs
     refine ⟨He,O,Fs2,Γ2,E.drop sub nd,?_⟩
     cases e3:fc Γ2 with
     | ok p3 Γ3=>
      rw [e3] at w;intro v3 H3 G3 Fs3 A3;have w:Wants K W He O Fs H σ Q (match g' q.d p3.d with | some d=>.ok ⟨.leaf,d⟩ Γ3 | none=>.no):=w
      cases e4:g' q.d p3.d with
      | none=>rw [e4] at w;exact w.elim
      | some d4=>
       rw [e4] at w;exact hg' u v3 H3 Q q.d p3.d d4 su.rep A3.own.rep e4 fun z s=>Wants.scal w s ((s1.trans s2).trans A3.same) A3.env (fun a ha=>KG _ ha) nd fun a ha=>(A3.new a (KG _ ha)).elim (newF a) fun z=>.inr ((s1.trans s2).free z)
     | er c Γ3=>
      rw [e3] at w;exact fun H' Fs' s E'=>w H' Fs' ((s1.trans s2).trans s) E'
     | no=>rw [e3] at w;exact w
  | non=>exact w.elim
  | int i=>exact w.elim
  | str x=>exact w.elim
end
structure AftL (K:Fg) (He:Hp) (O:List Addr) (Fs:List (List Addr)) (H:Hp) (σ:St) (Γ':Ev) (ps:List PV) (vs:List V) (H':Hp) (Gs Fs':List (List Addr)):Prop where
 same:Same H H'
 len1:vs.length=ps.length
 len2:Gs.length=ps.length
 env:EnvOk K He (Gs.flatten++O) Fs' H' σ Γ'
 new:∀a∈Gs.flatten++Fs'.flatten,a∈Fs.flatten\/H a=none
 own:∀(i:Nat) v p G,vs[i]?=some v->ps[i]?=some p->Gs[i]?=some G->Own K (Gs.flatten++O++Fs'.flatten) H' p.s G v p.d
abbrev FL:=Ev->Out (List PV)
def uP (K:Fg) (W:XW) (He:Hp) (O:List Addr) (Fs:List (List Addr)) (H:Hp) (σ:St) (Q:List V->Hp->Prop) (o:Out (List PV)):Prop:=match o with
 | .ok ps Γ'=>∀vs H' Gs Fs',AftL K He O Fs H σ Γ' ps vs H' Gs Fs'->Q vs H'
 | .er c Γ'=>∀H' Fs',Same H H'->EnvOk K He O Fs' H' σ Γ'->W c σ H'
 | .no=>False
def tA (K:Fg) (W:XW) (f:FL):TA:=fun σ H Q=>∃He O Fs Γ,EnvOk K He O Fs H σ Γ/\uP K W He O Fs H σ Q (f Γ)
def ah:FL:=fun Γ=>.ok [] Γ
def ae (fa:F1) (fl:FL):FL:=fun Γ=>(fa Γ).bind fun p Γ1=>(fl Γ1).bind fun ps Γ2=>.ok (p::ps) Γ2
section
variable {K:Fg} {W:XW} {σ:St} {H:Hp} {Q:VK} {QL:List V->Hp->Prop} {fa fb:F1} {fl:FL}
theorem zI (h:tA K W ah σ H QL):vq σ H QL:=by
 obtain ⟨He,O,Fs,Γ,E,h⟩:=h;exact h [] H [] Fs ⟨Same.refl _,rfl,rfl,by simpa using E,fun a ha=>.inl (by simpa using ha),fun i v p G e=>by simp at e⟩
theorem jP {α:Type} (A B C:List α):(A++(B++C)).Perm (B++(A++C)):=by
 rw [<-append_assoc,<-append_assoc];exact List.Perm.append_right _ perm_append_comm
theorem EnvOk.perm {He H:Hp} {O O':List Addr} {Fs:List (List Addr)} {Γ:Ev} (E:EnvOk K He O Fs H σ Γ) (p:O'.Perm O):EnvOk K He O' Fs H σ Γ:=E.drop (fun a ha=>p.mem_iff.mp ha) (p.nodup_iff.mpr E.ndO)
theorem Own.perm {H:Hp} {O O':List Addr} {s:Sh} {G:List Addr} {v:V} {d:D} (h:Own K O H s G v d) (p:∀a∈O',a∈O):Own K O' H s G v d:=h.mono (Same.refl _) fun a ha=>.inl (p a ha)
theorem oy (h:tA K W (ae fa fl) σ H QL):og (tE K W fa) (tA K W fl) σ H QL:=by
 obtain ⟨He,O,Fs,Γ,E,h⟩:=h;refine ⟨He,O,Fs,Γ,E,?_⟩
 unfold ae at h
 cases e:fa Γ with
 | ok p Γ1=>
  rw [e] at h;intro v H1 G1 Fs1 A1;refine ⟨He,G1++O,Fs1,Γ1,A1.env,?_⟩
  have h:uP K W He O Fs H σ QL ((fl Γ1).bind fun ps Γ2=>.ok (p::ps) Γ2):=h
  cases e2:fl Γ1 with
  | ok ps Γ2=>
   rw [e2] at h;intro vs H2 Gs Fs2 A2;have pm:((G1::Gs).flatten++O).Perm (Gs.flatten++(G1++O)):=by
    rw [flatten_cons,append_assoc];exact jP _ _ _
   refine h (v::vs) H2 (G1::Gs) Fs2 ⟨A1.same.trans A2.same,by simp [A2.len1],by simp [A2.len2],A2.env.perm pm,fun a ha=>?_,fun i u q G h1 h2 h3=>?_⟩
   ·rcases KI ha with z | z
    ·rw [flatten_cons] at z
     rcases KI z with z | z
     ·exact A1.new a (KH _ z)
     ·exact (A2.new a (KH _ z)).elim (fun y=>A1.new a (KG _ y)) fun y=>.inr (A1.same.free y)
    ·exact (A2.new a (KG _ z)).elim (fun y=>A1.new a (KG _ y)) fun y=>.inr (A1.same.free y)
   ·have sub:∀a∈(G1::Gs).flatten++O++Fs2.flatten,a∈Gs.flatten++(G1++O)++Fs2.flatten:=fun a ha=>by
     rcases KI ha with z | z
     ·exact KH _ (pm.mem_iff.mp z)
     ·exact KG _ z
    cases i with
    | zero=>
     simp at h1 h2 h3
     subst h1 h2 h3;refine (A1.own.mono A2.same fun a ha=>?_).perm sub
     rcases KI ha with z | z
     ·rcases KI z with z | z
      ·exact (A2.new a (KH _ z)).elim (fun y=>.inl (KG _ y)) .inr
      ·exact .inl (KH _ z)
     ·exact (A2.new a (KG _ z)).elim (fun y=>.inl (KG _ y)) .inr
    | succ i=>
     simp at h1 h2 h3
     exact (A2.own i u q G h1 h2 h3).perm sub
  | er c Γ2=>
   rw [e2] at h;exact fun H2 Fs2 s E2=>h H2 Fs2 (A1.same.trans s) E2.dropL
  | no=>rw [e2] at h;exact h
 | er c Γ1=>rw [e] at h;exact h
 | no=>rw [e] at h;exact h
theorem AftL.reps {He:Hp} {O:List Addr} {Fs Gs Fs':List (List Addr)} {Γ':Ev} {ps:List PV} {vs:List V} {H':Hp} (A:AftL K He O Fs H σ Γ' ps vs H' Gs Fs'):Reps K H' vs (ps.map (·.d)):=by
 refine ⟨by rw [length_map];exact A.len1,fun i v d h1 h2=>?_⟩
 rw [getElem?_map] at h2
 cases e:ps[i]? with
 | none=>rw [e] at h2;cases h2
 | some p=>
  rw [e] at h2
  cases h2;have hi:=(KP e).1
  exact (A.own i v p (Gs[i]'(by rw [A.len2];exact hi)) h1 e (KL _)).rep
def bG (g:List D->Option D) (fl:FL):F1:=fun Γ=>(fl Γ).bind fun ps Γ'=>match g (ps.map (·.d)) with
 | some d=>.ok ⟨.leaf,d⟩ Γ'
 | none=>.no
def GCall (K:Fg) (r:List V->Hp->VK->Prop) (g:List D->Option D):Prop:=∀vs H Q ds d,Reps K H vs ds->g ds=some d->(∀v,Sc v d->Q v H)->r vs H Q
theorem sH {r:List V->Hp->VK->Prop} {g:List D->Option D} (hg:GCall K r g) (h:tE K W (bG g fl) σ H Q):FJ r (tA K W fl) σ H Q:=by
 obtain ⟨He,O,Fs,Γ,E,h⟩:=h;refine ⟨He,O,Fs,Γ,E,?_⟩
 unfold bG at h
 cases e:fl Γ with
 | ok ps Γ'=>
  rw [e] at h;intro vs H' Gs Fs' A
  have h:Wants K W He O Fs H σ Q (match g (ps.map (·.d)) with | some d=>.ok ⟨.leaf,d⟩ Γ' | none=>.no):=h
  cases e2:g (ps.map (·.d)) with
  | none=>rw [e2] at h;exact h.elim
  | some d=>
   rw [e2] at h;exact hg vs H' Q _ d A.reps e2 fun v s=>Wants.scal h s A.same A.env (fun a ha=>KG _ ha) E.ndO fun a ha=>A.new a (KG _ ha)
 | er c Γ'=>rw [e] at h;exact h
 | no=>rw [e] at h;exact h
theorem GCall.or {r r':List V->Hp->VK->Prop} {g g':List D->Option D} (h:GCall K r g) (h':GCall K r' g'):GCall K (fun xs H Q=>r xs H Q\/r' xs H Q) (fun ds=>(g ds).or (g' ds)):=by
 intro vs H Q ds d rs e k;have e:(g ds).or (g' ds)=some d:=e
 cases e1:g ds with
 | some z=>rw [e1] at e;cases e;exact .inl (h vs H Q ds _ rs e1 k)
 | none=>rw [e1] at e;exact .inr (h' vs H Q ds d rs (by simpa using e) k)
theorem Reps.one {vs:List V} {d:D} (h:Reps K H vs [d]):∃v,vs=[v]/\Rep K H v d:=by
 obtain ⟨hl,h⟩:=h;match vs,hl with
 | [v],_=>exact ⟨v,rfl,h 0 v d rfl rfl⟩
theorem Reps.two {vs:List V} {d e:D} (h:Reps K H vs [d,e]):∃v u,vs=[v,u]/\Rep K H v d/\Rep K H u e:=by
 obtain ⟨hl,h⟩:=h;match vs,hl with
 | [v,u],_=>exact ⟨v,u,rfl,h 0 v d rfl rfl,h 1 u e rfl rfl⟩
end
def yr:List D->Option D
 | [.list xs]=>some (.int xs.length)
 | [.tuple xs]=>some (.int xs.length)
 | _=>none
def uq:List D->Option D
 | [.str x]=>if x.length<=sizeLine then some (.int x.length) else none
 | _=>none
abbrev bt:List D->Option D:=fun ds=>(yr ds).or (uq ds)
theorem A9 {K:Fg}:GCall K (fun xs H Q=>(∃p ys,xs=[.ref p]/\(SqL K H p ys\/SqT K H p ys)/\Q (.int ys.length) H)\/∃z,xs=[.str z]/\z.length<=sizeLine/\Q (.int z.length) H) bt:=by
 refine GCall.or (g:=yr) (g':=uq) (r:=fun xs H Q=>∃p ys,xs=[.ref p]/\(SqL K H p ys\/SqT K H p ys)/\Q (.int ys.length) H) (r':=fun xs H Q=>∃z,xs=[.str z]/\z.length<=sizeLine/\Q (.int z.length) H) ?_ ?_
 ·intro vs H Q ds d rs e k
  match ds,e with
  | [.list xs],e=>
   obtain ⟨v,rfl,r⟩:=rs.one
   cases e
   cases r with
   | @lst p us _ hq hl _=>exact ⟨p,us,rfl,.inl hq,by rw [hl];exact k _ (.int _)⟩
  | [.tuple xs],e=>
   obtain ⟨v,rfl,r⟩:=rs.one
   cases e
   cases r with
   | @tup p us _ hq hl _=>exact ⟨p,us,rfl,.inr hq,by rw [hl];exact k _ (.int _)⟩
 ·intro vs H Q ds d rs e k
  match ds,e with
  | [.str x],e=>
   obtain ⟨v,rfl,r⟩:=rs.one;simp only [uq] at e
   split at e
   ·rename_i z
    cases e
    cases r;exact ⟨x,rfl,z,k _ (.int _)⟩
   ·cases e
def cV:List D->Option D
 | [.int i]=>some (.int i)
 | [.bool b]=>some (.int (if b then 1 else 0))
 | _=>none
theorem Ba {K:Fg}:GCall K (fun xs H Q=>(∃i,xs=[.int i]/\Q (.int i) H)\/∃k,xs=[.bl k]/\Q (.int (if k then 1 else 0)) H) cV:=by
 intro vs H Q ds d rs e k;match ds,e with
 | [.int i],e=>
  obtain ⟨v,rfl,r⟩:=rs.one
  cases e;cases r;exact .inl ⟨i,rfl,k _ (.int _)⟩
 | [.bool b],e=>
  obtain ⟨v,rfl,r⟩:=rs.one
  cases e;cases r;exact .inr ⟨b,rfl,k _ (.int _)⟩
def Kw:List D->Option D
 | [.int i,.int j]=>some (.int (if j>i then j else i))
 | _=>none
def m6:List D->Option (List Bool)
 | []=>some []
 | .bool b::r=>(m6 r).map (b :: ·)
 | _=>none
theorem Fe:∀{ds:List D} {bs:List Bool},m6 ds=some bs->ds=bs.map PyData.bool
 | [],bs,h=>by cases h;rfl
 | .bool b::r,bs,h=>by
  simp only [m6] at h
  cases e:m6 r with
  | none=>rw [e] at h;cases h
  | some cs=>rw [e] at h;cases h;rw [Fe e];rfl
 | .none::_,_,h=>by cases h
 | .int _::_,_,h=>by cases h
 | .str _::_,_,h=>by cases h
 | .list _::_,_,h=>by cases h
 | .tuple _::_,_,h=>by cases h
 | .dict _::_,_,h=>by cases h
def eO (any:Bool):List D->Option D
 | [.list xs]=>(m6 xs).map fun bs=>.bool (if any then bs.any id else bs.all id)
 | _=>none
theorem Fj {K:Fg} {H:Hp}:∀{vs:List V} {bs:List Bool},Reps K H vs (bs.map PyData.bool)->vs=bs.map V.bl
 | [],[],_=>rfl
 | v::vs,b::bs,⟨hl,h⟩=>by
  have r:=h 0 v (.bool b) rfl rfl
  cases r;rw [Fj (bs:=bs) (vs:=vs) ⟨by simpa using hl,fun i v d h1 h2=>h (i+1) v d (by simpa using h1) (by simpa using h2)⟩]
  rfl
 | [],_::_,⟨hl,_⟩=>by simp at hl
 | _::_,[],⟨hl,_⟩=>by simp at hl
def Ab (K:Fg) (any:Bool):List V->Hp->VK->Prop:=fun xs H Q=>∃(p:Addr) (bs:List Bool),xs=[.ref p]/\SqL K H p (bs.map V.bl)/\Q (.bl (if any then bs.any id else bs.all id)) H
theorem uo {K:Fg} {any:Bool}:GCall K (Ab K any) (eO any):=by
 intro vs H Q ds d rs e k;match ds,e with
 | [.list xs],e=>
  obtain ⟨v,rfl,r⟩:=rs.one;simp only [eO] at e
  cases eb:m6 xs with
  | none=>rw [eb] at e;cases e
  | some bs=>
   rw [eb] at e
   cases e;have:=Fe eb
   subst this
   cases r with
   | @lst p us _ hq hl hr=>
    have:=Fj ⟨hl,hr⟩
    subst this;exact ⟨p,bs,rfl,hq,k _ (.bl _)⟩
section
variable {X:Cx}
theorem kc {bs:List Bool}:∀{its:List Value},Vals (bs.map V.bl) its->its=bs.map Value.bool:=by
 induction bs with
 | nil=>intro its h;cases h;rfl
 | cons b bs ih=>
  intro its h
  cases h with
  | cons r t=>
   cases (show _=Value.bool b from r)
   rw [ih t];rfl
theorem pP (bs:List Bool):(List.range bs.length).all (fun i=>bs.getD i false)=bs.all id:=by
 rw [Bool.eq_iff_iff,all_eq_true,all_eq_true];constructor
 ·intro h b hb
  obtain ⟨i,hi,e⟩:=List.mem_iff_getElem.mp hb;have:=h i (List.mem_range.mpr hi)
  rw [KM,KL hi] at this;rw [<-e];simpa using this
 ·intro h i hi
  have hi:=List.mem_range.mp hi
  rw [KM,KL hi];exact h _ (getElem_mem hi)
theorem pO (bs:List Bool):(List.range bs.length).any (fun i=>bs.getD i false)=bs.any id:=by
 rw [Bool.eq_iff_iff,any_eq_true,any_eq_true];constructor
 ·rintro ⟨i,hi,h⟩
  have hi:=List.mem_range.mp hi
  rw [KM,KL hi] at h;exact ⟨_,getElem_mem hi,h⟩
 ·rintro ⟨b,hb,h⟩
  obtain ⟨i,hi,e⟩:=List.mem_iff_getElem.mp hb;refine ⟨i,List.mem_range.mpr hi,?_⟩
  rw [KM,KL hi,e];exact h
theorem gC {prog:Program} {w:World} {A:Around} {bs:List Bool}:TruthOf prog w A (fun i v=>(bs.map Value.bool).toArray[i]?=some v) (fun i=>bs.getD i false):=by
 intro i v s Q E hP hQ;simp only [getElem?_toArray,getElem?_map] at hP
 cases e:bs[i]? with
 | none=>rw [e] at hP;cases hP
 | some b=>
  rw [e] at hP
  cases hP;have hQ:Q (bs.getD i false) s:=hQ
  rw [KM,e] at hQ;exact wpAny_truthy_bool hQ
theorem qJ (hc:X.calm=true):CallR X (.builtin "all") (Ab X.K false):=by
 intro pins s σ H vs us Q I rv h;obtain ⟨p,bs,rfl,hq,q⟩:=h;obtain ⟨u,rfl,ru⟩:=vals1 rv
 cases ru;obtain ⟨its,rv,pl,hz⟩:=I.list hq;have:=kc rv
 subst this;have hd:=I.ok.hd hc
 refine call_all_walk (wpAny_pyIter_list pl.isList ?_)
 have ne:p≠s.heap.objs.size:=by
  obtain ⟨o,n,e,_⟩:=pl;exact Nat.ne_of_lt (Heap.lt_size e)
 refine ⟨s.heap.objs.size,_,_,_,_,_,fun i=>bs.getD i false,rfl,Walks.list (prog:=X.prog) (w:=X.w) (A:=X.A.in1) hd s.heap.objs.size p ne (bs.map Value.bool).toArray,⟨⟨_,Heap.get?_push_size _ rfl,rfl,rfl⟩,pl.isList.at fun o e=>KU _ e⟩,gC,fun h' tk hk=>?_⟩
 refine ⟨.bl _,H,I.kept (h':=h') (t':=tk) fun b o e=>hk b o (fun z=>?_) (KU _ e),rfl,?_⟩
 ·have z:b=s.heap.objs.size:=by simpa using z
  exact absurd (Heap.lt_size e) (by rw [z];exact Nat.lt_irrefl _)
 ·rw [size_toArray,length_map,pP]
  exact q
theorem qI (hc:X.calm=true):CallR X (.builtin "any") (Ab X.K true):=by
 intro pins s σ H vs us Q I rv h;obtain ⟨p,bs,rfl,hq,q⟩:=h;obtain ⟨u,rfl,ru⟩:=vals1 rv
 cases ru;obtain ⟨its,rv,pl,hz⟩:=I.list hq;have:=kc rv
 subst this;have hd:=I.ok.hd hc
 refine call_any_walk (wpAny_pyIter_list pl.isList ?_)
 have ne:p≠s.heap.objs.size:=by
  obtain ⟨o,n,e,_⟩:=pl;exact Nat.ne_of_lt (Heap.lt_size e)
 refine ⟨s.heap.objs.size,_,_,_,_,_,fun i=>bs.getD i false,rfl,Walks.list (prog:=X.prog) (w:=X.w) (A:=X.A.in1) hd s.heap.objs.size p ne (bs.map Value.bool).toArray,⟨⟨_,Heap.get?_push_size _ rfl,rfl,rfl⟩,pl.isList.at fun o e=>KU _ e⟩,gC,fun h' tk hk=>?_⟩
 refine ⟨.bl _,H,I.kept (h':=h') (t':=tk) fun b o e=>hk b o (fun z=>?_) (KU _ e),rfl,?_⟩
 ·have z:b=s.heap.objs.size:=by simpa using z
  exact absurd (Heap.lt_size e) (by rw [z];exact Nat.lt_irrefl _)
 ·rw [size_toArray,length_map,pO]
  exact q
end
def mY (s:Sh) (j:Nat) (d:D):Option Sh:=match s with
 | .leaf=>some .leaf
 | .view=>some (if bw d then .leaf else .view)
 | .lst s=>some s
 | .tup ss=>ss[j]?
def ak (fa fb:F1):F1:=aU fa fun p=>aU fb fun q=>fun Γ=>match q.d with
 | .int i=>(match p.d with
  | .list ds=>(match eV ds.length i with
   | some j=>(match ds[j]? with
    | some d=>(match mY p.s j d with
     | some s=>.ok ⟨s,d⟩ Γ
     | none=>.no)
    | none=>.no)
   | none=>.no)
  | .tuple ds=>(match eV ds.length i with
   | some j=>(match ds[j]? with
    | some d=>(match mY p.s j d with
     | some s=>.ok ⟨s,d⟩ Γ
     | none=>.no)
    | none=>.no)
   | none=>.no)
  | .str z=>if z.length<=sizeLine then (match eY z.cps.toList i with
   | some c=>.ok ⟨.leaf,.str ⟨#[c]⟩⟩ Γ
   | none=>.no) else .no
  | _=>.no)
 | _=>.no
theorem Own.item {K:Fg} {O:List Addr} {H:Hp} {s s':Sh} {G:List Addr} {p:Addr} {ds:List D} {j:Nat} {d:D} (h:Own K O H s G (.ref p) (.list ds)) (hd:ds[j]?=some d) (hs:mY s j d=some s') :
  ∃vs v G',SqL K H p vs/\vs.length=ds.length/\vs[j]?=some v/\(∀a∈G',a∈G)/\G'.Nodup/\Own K O H s' G' v d:=by
 have hi:=(KP hd).1
 cases h with
 | view r=>
  cases r with
  | @lst _ vs _ hq hl hr=>
   have hv:vs[j]?=some (vs[j]'(by omega)):=KL _
   have r':=hr j _ d hv hd
   simp only [mY,Option.some.injEq] at hs
   cases e:bw d with
   | true=>
    rw [e] at hs
    cases hs;exact ⟨vs,_,[],hq,hl,hv,(fun _ z=>nomatch z),nodup_nil,.leaf (r'.sc e).rep⟩
   | false=>
    rw [e] at hs
    cases hs;exact ⟨vs,_,[],hq,hl,hv,(fun _ z=>nomatch z),nodup_nil,.view r'⟩
 | leaf r=>
  cases r with
  | @lst _ vs _ hq hl hr=>
   have hv:vs[j]?=some (vs[j]'(by omega)):=KL _
   cases hs;exact ⟨vs,_,[],hid_le.seq hq,hl,hv,(fun _ z=>nomatch z),nodup_nil,.leaf (hr j _ d hv hd)⟩
 | @lst s₀ _ vs _ Fs hv hp hl hf nd hr=>
  have hv':vs[j]?=some (vs[j]'(by omega)):=KL _
  have hF:Fs[j]?=some (Fs[j]'(by omega)):=KL _
  cases hs;refine ⟨vs,_,_,.of hp,hl,hv',fun a ha=>KN _ (kS hF ha),?_,hr j _ d _ hv' hd hF⟩
  exact ((List.nodup_cons.mp nd).2).sublist (List.sublist_flatten_of_mem (mem_of_getElem? hF))
theorem Own.itemT {K:Fg} {O:List Addr} {H:Hp} {s s':Sh} {G:List Addr} {p:Addr} {ds:List D} {j:Nat} {d:D} (h:Own K O H s G (.ref p) (.tuple ds)) (hd:ds[j]?=some d) (hs:mY s j d=some s') :
  ∃vs v G',SqT K H p vs/\vs.length=ds.length/\vs[j]?=some v/\(∀a∈G',a∈G)/\G'.Nodup/\Own K O H s' G' v d:=by
 have hi:=(KP hd).1
 cases h with
 | view r=>
  cases r with
  | @tup _ vs _ hq hl hr=>
   have hv:vs[j]?=some (vs[j]'(by omega)):=KL _
   have r':=hr j _ d hv hd
   simp only [mY,Option.some.injEq] at hs
   cases e:bw d with
   | true=>
    rw [e] at hs
    cases hs;exact ⟨vs,_,[],hq,hl,hv,(fun _ z=>nomatch z),nodup_nil,.leaf (r'.sc e).rep⟩
   | false=>
    rw [e] at hs
    cases hs;exact ⟨vs,_,[],hq,hl,hv,(fun _ z=>nomatch z),nodup_nil,.view r'⟩
 | leaf r=>
  cases r with
  | @tup _ vs _ hq hl hr=>
   have hv:vs[j]?=some (vs[j]'(by omega)):=KL _
   cases hs;exact ⟨vs,_,[],iV hid_le hq,hl,hv,(fun _ z=>nomatch z),nodup_nil,.leaf (hr j _ d hv hd)⟩
 | @tup ss _ vs _ Fs hv hp hn hl hf hl2 nd hr=>
  have hv':vs[j]?=some (vs[j]'(by omega)):=KL _
  have hF:Fs[j]?=some (Fs[j]'(by omega)):=KL _
  have hs:ss[j]?=some s':=hs
  refine ⟨vs,_,_,.of hp,hl,hv',fun a ha=>kS hF ha,?_,hr j _ d _ _ hv' hd hF hs⟩
  exact nd.sublist (List.sublist_flatten_of_mem (mem_of_getElem? hF))
theorem Wants.part {K:Fg} {W:XW} {σ:St} {He H H2:Hp} {O G G':List Addr} {Fs Fs2:List (List Addr)} {Γ':Ev} {Q:VK} {s:Sh} {v:V} {d:D} (h:Wants K W He O Fs H σ Q (.ok ⟨s,d⟩ Γ')) (e:Same H H2)
  (E:EnvOk K He (G++O) Fs2 H2 σ Γ') (sub:∀a∈G',a∈G) (nd:G'.Nodup) (new:∀a∈G++Fs2.flatten,a∈Fs.flatten\/H a=none) (o:Own K (G++O++Fs2.flatten) H2 s G' v d):Q v H2:=by
 have sub2:∀a∈G'++O,a∈G++O:=fun a ha=>by
  rcases KI ha with z | z
  ·exact KH _ (sub a z)
  ·exact KG _ z
 obtain ⟨n1,n2,n3⟩:=KO E.ndO;refine h v H2 G' Fs2 ⟨e,E.drop sub2 (List.nodup_append.mpr ⟨nd,n2,fun a ha b hb=>n3 a (sub a ha) b hb⟩),fun a ha=>new a ?_,o.perm fun a ha=>?_⟩
 ·rcases KI ha with z | z
  ·exact KH _ (sub a z)
  ·exact KG _ z
 ·rcases KI ha with z | z
  ·exact KH _ (sub2 a z)
  ·exact KG _ z
theorem GG {α β:Type} {xs:List α} {ys:List β} {i:Int} {j:Nat} {v:α} (hl:xs.length=ys.length) (h:eV ys.length i=some j) (hv:xs[j]?=some v):eY xs i=some v:=by
 unfold eY;rw [hl,h];exact hv
section
variable {K:Fg} {W:XW} {σ:St} {H:Hp} {Q:VK} {fa fb:F1}
theorem zN (h:tE K W (ak fa fb) σ H Q):vo (IE K) (tE K W fa) (tE K W fb) σ H Q:=by
 refine BM h ?_
 intro He O Fs Γ2 p q v u H1 H2 G1 G2 Fs2 nd s1 s2 E new o1 o2 w;obtain ⟨ps,pd⟩:=p;obtain ⟨qs,qd⟩:=q;have ri:=o2.rep
 cases qd<;>try exact w.elim
 rename_i i
 cases ri;have E':EnvOk K He ((G2++G1)++O) Fs2 H2 σ Γ2:=by rw [append_assoc];exact E
 have new':∀a∈(G2++G1)++Fs2.flatten,a∈Fs.flatten\/H a=none:=fun a ha=>new a (by rw [<-append_assoc];exact ha)
 have o1':Own K ((G2++G1)++O++Fs2.flatten) H2 ps G1 v pd:=o1.perm fun a ha=>by rw [append_assoc G2] at ha;exact ha
 have rp:=o1.rep
 cases pd with
 | list ds=>
  obtain ⟨p0,rfl⟩:∃p0,v=.ref p0:=by cases rp;exact ⟨_,rfl⟩
  have w:Wants K W He O Fs H σ Q (match eV ds.length i with | some j=>(match ds[j]? with | some d=>(match mY ps j d with | some s=>.ok ⟨s,d⟩ Γ2 | none=>.no) | none=>.no) | none=>.no):=w
  cases e1:eV ds.length i with
  | none=>rw [e1] at w;exact w.elim
  | some j=>
   rw [e1] at w;have w:Wants K W He O Fs H σ Q (match ds[j]? with | some d=>(match mY ps j d with | some s=>.ok ⟨s,d⟩ Γ2 | none=>.no) | none=>.no):=w
   cases e2:ds[j]? with
   | none=>rw [e2] at w;exact w.elim
   | some d=>
    rw [e2] at w;have w:Wants K W He O Fs H σ Q (match mY ps j d with | some s=>.ok ⟨s,d⟩ Γ2 | none=>.no):=w
    cases e3:mY ps j d with
    | none=>rw [e3] at w;exact w.elim
    | some s=>
     rw [e3] at w;obtain ⟨vs,v',G',h1,h2,h3,h4,h5,h6⟩:=o1'.item e2 e3
     exact .inl ⟨p0,vs,i,v',rfl,rfl,h1,GG h2 e1 h3,Wants.part w (s1.trans s2) E' (fun a ha=>KG _ (h4 a ha)) h5 new' h6⟩
 | tuple ds=>
  obtain ⟨p0,rfl⟩:∃p0,v=.ref p0:=by cases rp;exact ⟨_,rfl⟩
  have w:Wants K W He O Fs H σ Q (match eV ds.length i with | some j=>(match ds[j]? with | some d=>(match mY ps j d with | some s=>.ok ⟨s,d⟩ Γ2 | none=>.no) | none=>.no) | none=>.no):=w
  cases e1:eV ds.length i with
  | none=>rw [e1] at w;exact w.elim
  | some j=>
   rw [e1] at w;have w:Wants K W He O Fs H σ Q (match ds[j]? with | some d=>(match mY ps j d with | some s=>.ok ⟨s,d⟩ Γ2 | none=>.no) | none=>.no):=w
   cases e2:ds[j]? with
   | none=>rw [e2] at w;exact w.elim
   | some d=>
    rw [e2] at w;have w:Wants K W He O Fs H σ Q (match mY ps j d with | some s=>.ok ⟨s,d⟩ Γ2 | none=>.no):=w
    cases e3:mY ps j d with
    | none=>rw [e3] at w;exact w.elim
    | some s=>
     rw [e3] at w;obtain ⟨vs,v',G',h1,h2,h3,h4,h5,h6⟩:=o1'.itemT e2 e3
     exact .inr (.inl ⟨p0,vs,i,v',rfl,rfl,h1,GG h2 e1 h3,Wants.part w (s1.trans s2) E' (fun a ha=>KG _ (h4 a ha)) h5 new' h6⟩)
 | str z=>
  cases rp;have w:Wants K W He O Fs H σ Q (if z.length<=sizeLine then (match eY z.cps.toList i with | some c=>.ok ⟨.leaf,.str ⟨#[c]⟩⟩ Γ2 | none=>.no) else .no):=w
  by_cases hz:z.length<=sizeLine
  ·rw [if_pos hz] at w
   cases e1:eY z.cps.toList i with
   | none=>rw [e1] at w;exact w.elim
   | some c=>
    rw [e1] at w;exact .inr (.inr ⟨z,i,c,rfl,rfl,hz,e1,Wants.scal w (.str _) (s1.trans s2) E (fun a ha=>KG _ (KG _ ha)) nd fun a ha=>new a (KG _ (KG _ ha))⟩)
  ·rw [if_neg hz] at w
   exact w.elim
 | none=>exact w.elim
 | bool b=>exact w.elim
 | int k=>exact w.elim
 | dict k=>exact w.elim
end
theorem lZ (s:Sh):∀Gs:List (List Addr),((Gs.map (aP s)).flatten).Sublist Gs.flatten
 | []=>List.Sublist.refl _
 | G::Gs=>by
  simp only [map_cons,flatten_cons]
  refine List.Sublist.append ?_ (lZ s Gs)
  unfold aP;split
  ·exact List.nil_sublist _
  ·exact List.Sublist.refl _
theorem jX:∀Gs:List (List Addr),(Gs.map (aP .leaf)).flatten=[]
 | []=>rfl
 | _::Gs=>by simp only [map_cons,flatten_cons,jX Gs];rfl
section
variable {K:Fg} {W:XW} {σ:St} {He H H':Hp} {O:List Addr} {Fs Fs' Gs:List (List Addr)} {Γ':Ev} {ps:List PV} {vs:List V} {Q:VK}
theorem AftL.newList {s:Sh} {p:Addr} (A:AftL K He O Fs H σ Γ' ps vs H' Gs Fs') (hs:s.isView=false) (hc:ps.all (T.coer s)=true) (hp:H' p=none) :
  Aft K He O Fs H σ Γ' ⟨.lst s,.list (ps.map (·.d))⟩ (.ref p) (bZ H' p (.lst vs)) (p::(Gs.map (aP s)).flatten) Fs':=by
 obtain ⟨n1,n2,n3⟩:=KO A.env.ndO;obtain ⟨m1,m2,m3⟩:=KO A.env.nd;have hsub:=lZ s Gs
 have E1:EnvOk K He ((Gs.map (aP s)).flatten++O) Fs' H' σ Γ':=A.env.drop (fun a ha=>by
   rcases KI ha with z | z
   ·exact KH _ (hsub.subset z)
   ·exact KG _ z) (List.nodup_append.mpr ⟨n1.sublist hsub,n2,fun a ha b hb=>n3 a (hsub.subset ha) b hb⟩)
 have E2:=E1.hide (G:=[p]) (iY (o:=.lst vs) hp) (by simp) (fun a ha=>by simp at ha;rw [ha];exact hp) (fun a ha=>by simp at ha;rw [ha,gr];exact Option.some_ne_none _)
 have pn:∀{a},a∈Gs.flatten++O++Fs'.flatten->a≠p:=fun {a} ha z=>A.env.inH a ha (by rw [z];exact hp)
 refine ⟨A.same.trans (iY hp),E2,fun a ha=>?_,?_⟩
 ·rcases KI ha with z | z
  ·rcases KJ z with z | z
   ·rw [z];exact .inr (A.same.free hp)
   ·exact A.new a (KH _ (hsub.subset z))
  ·exact A.new a (KG _ z)
 ·refine .lst hs gr (by rw [length_map];exact A.len1) (by rw [length_map,length_map];exact A.len2) ?_ fun i v d F h1 h2 h3=>?_
  ·refine List.nodup_cons.mpr ⟨fun z=>pn (KH _ (KH _ (hsub.subset z))) rfl,n1.sublist hsub⟩
  ·rw [getElem?_map] at h2 h3
   cases e2:ps[i]? with
   | none=>rw [e2] at h2;cases h2
   | some q=>
    cases e3:Gs[i]? with
    | none=>rw [e3] at h3;cases h3
    | some G=>
     rw [e2] at h2;rw [e3] at h3
     cases h2
     cases h3;have cq:T.coer s q=true:=List.all_eq_true.mp hc q (mem_of_getElem? e2)
     have o1:=(A.own i v q G h1 e2 e3).mono (O':=p::(Gs.flatten++O++Fs'.flatten)) (iY (o:=.lst vs) hp) fun a ha=>by
      rcases KJ ha with z | z
      ·rw [z];exact .inr hp
      ·exact .inl z
     refine o1.coer cq (fun a ha=>?_) fun a ha hO=>?_
     ·rw [append_assoc] at ha
      rcases KI ha with z | z
      ·rcases KJ z with z | z
       ·rw [z];exact mem_cons_self
       ·exact KN _ (KH _ (KH _ (hsub.subset z)))
      ·rcases KI z with z | z
       ·exact KN _ (KH _ (KG _ z))
       ·exact KN _ (KG _ z)
     ·have hG:a∈Gs.flatten:=kS e3 ha
      cases s with
      | leaf=>
       rw [jX] at hO;exfalso
       rw [append_assoc] at hO;rcases KI hO with z | z
       ·have z:a=p:=by simpa using z
        exact pn (KH _ (KH _ hG)) z
       ·rcases KI z with z | z
        ·exact n3 a hG a z rfl
        ·exact m3 a (KH _ hG) a z rfl
      | view=>cases hs
      | lst s=>exact ha
      | tup ss=>exact ha
def az (s:Sh) (fl:FL):F1:=fun Γ=>(fl Γ).bind fun ps Γ'=>if !s.isView&&ps.all (T.coer s)&&decide (ps.length<=sizeLine) then .ok ⟨.lst s,.list (ps.map (·.d))⟩ Γ' else .no
theorem ox {s:Sh} {fl:FL} (h:tE K W (az s fl) σ H Q):C3 (tA K W fl) σ H Q:=by
 obtain ⟨He,O,Fs,Γ,E,h⟩:=h;refine ⟨He,O,Fs,Γ,E,?_⟩
 unfold az at h
 cases e:fl Γ with
 | ok ps Γ'=>
  rw [e] at h;intro vs H' Gs Fs' A
  have h:Wants K W He O Fs H σ Q (if (!s.isView&&ps.all (T.coer s)&&decide (ps.length<=sizeLine))=true then .ok ⟨.lst s,.list (ps.map (·.d))⟩ Γ' else .no):=h
  by_cases hc:(!s.isView&&ps.all (T.coer s)&&decide (ps.length<=sizeLine))=true
  ·rw [if_pos hc] at h
   simp only [Bool.and_eq_true,decide_eq_true_eq,Bool.not_eq_true'] at hc
   exact ⟨by rw [A.len1];exact hc.2,fun p hp=>h _ _ _ _ (A.newList hc.1.1 hc.1.2 hp)⟩
  ·rw [if_neg hc] at h
   exact h.elim
 | er c Γ'=>rw [e] at h;exact h
 | no=>rw [e] at h;exact h
def zk (p:PV):Sh:=if p.s.isView then .leaf else p.s
def tok (p:PV):Bool:=!p.s.isView||bw p.d
theorem AftL.newTup {p:Addr} (A:AftL K He O Fs H σ Γ' ps vs H' Gs Fs') (hc:ps.all tok=true) (hp:H' p=none) :
  Aft K He O Fs H σ Γ' ⟨.tup (ps.map zk),.tuple (ps.map (·.d))⟩ (.ref p) (bZ H' p (.tup vs)) Gs.flatten Fs':=by
 obtain ⟨n1,n2,n3⟩:=KO A.env.ndO;have pn:p∉Gs.flatten++O++Fs'.flatten:=fun ha=>A.env.inH p ha hp
 refine ⟨A.same.trans (iY hp),A.env.grow (iY hp),A.new,?_⟩
 refine .tup (fun s hs=>?_) gr pn (by rw [length_map];exact A.len1) (by rw [length_map];exact A.len2) (by rw [length_map,length_map]) n1 fun i v d F s h1 h2 h3 h4=>?_
 ·obtain ⟨q,_,rfl⟩:=List.mem_map.mp hs
  unfold zk;split
  ·rfl
  ·rename_i z;simpa using z
 ·rw [getElem?_map] at h2 h4
  cases e2:ps[i]? with
  | none=>rw [e2] at h2;cases h2
  | some q=>
   rw [e2] at h2 h4
   cases h2
   cases h4;have cq:tok q=true:=List.all_eq_true.mp hc q (mem_of_getElem? e2)
   have o1:=(A.own i v q F h1 e2 h3).mono (O':=Gs.flatten++O++Fs'.flatten) (iY (o:=.tup vs) hp) fun a ha=>.inl ha
   unfold zk
   cases hv:q.s.isView with
   | false=>exact o1
   | true=>
    unfold tok at cq;rw [hv] at cq;obtain ⟨s,d⟩:=q
    cases s with
    | view=>
     cases o1 with
     | view r=>exact .leaf (r.sc (by simpa using cq)).rep
    | _=>cases hv
def cb (fl:FL):F1:=fun Γ=>(fl Γ).bind fun ps Γ'=>if ps.all tok&&decide (ps.length<=sizeLine) then .ok ⟨.tup (ps.map zk),.tuple (ps.map (·.d))⟩ Γ' else .no
theorem zG {fl:FL} (h:tE K W (cb fl) σ H Q):CW (tA K W fl) σ H Q:=by
 obtain ⟨He,O,Fs,Γ,E,h⟩:=h;refine ⟨He,O,Fs,Γ,E,?_⟩
 unfold cb at h
 cases e:fl Γ with
 | ok ps Γ'=>
  rw [e] at h;intro vs H' Gs Fs' A
  have h:Wants K W He O Fs H σ Q (if (ps.all tok&&decide (ps.length<=sizeLine))=true then .ok ⟨.tup (ps.map zk),.tuple (ps.map (·.d))⟩ Γ' else .no):=h
  by_cases hc:(ps.all tok&&decide (ps.length<=sizeLine))=true
  ·rw [if_pos hc] at h
   simp only [Bool.and_eq_true,decide_eq_true_eq] at hc
   exact ⟨by rw [A.len1];exact hc.2,fun p hp=>h _ _ _ _ (A.newTup hc.1 hp)⟩
  ·rw [if_neg hc] at h
   exact h.elim
 | er c Γ'=>rw [e] at h;exact h
 | no=>rw [e] at h;exact h
end
def dH (p:PV) (ds:List D):Bool:=!p.s.isView||ds.all bw
theorem Own.items {K:Fg} {O O':List Addr} {H:Hp} {s:Sh} {G:List Addr} {v:V} {ds:List D} (h:Own K O H s G v (.list ds)) (hc:dH ⟨s,.list ds⟩ ds=true) (h1:∀a∈O',a∈O) (h2:∀a∈G,a∉O') :
  ∃p vs,v=.ref p/\SqL K H p vs/\(s.isView=false->SqL K (du H O') p vs)/\Reps K (du H O') vs ds:=by
 have hr:=h.rep
 cases hv:s.isView with
 | false=>
  have r:=h.freeze hv h1 h2
  cases r with
  | @lst p vs _ hq hl hr=>exact ⟨p,vs,rfl,hid_le.seq hq,fun _=>hq,hl,hr⟩
 | true=>
  unfold dH at hc;have hc:ds.all bw=true:=by simpa [hv] using hc
  cases hr with
  | @lst p vs _ hq hl hr=>exact ⟨p,vs,rfl,hq,nofun,hl,fun i v d e1 e2=>((hr i v d e1 e2).sc (List.all_eq_true.mp hc d (mem_of_getElem? e2))).rep⟩
theorem Own.itemsT {K:Fg} {O O':List Addr} {H:Hp} {s:Sh} {G:List Addr} {v:V} {ds:List D} (h:Own K O H s G v (.tuple ds)) (hc:dH ⟨s,.tuple ds⟩ ds=true) (h1:∀a∈O',a∈O) (h2:∀a∈G,a∉O') :
  ∃p vs,v=.ref p/\SqT K H p vs/\(s.isView=false->SqT K (du H O') p vs)/\Reps K (du H O') vs ds:=by
 have hr:=h.rep
 cases hv:s.isView with
 | false=>
  have r:=h.freeze hv h1 h2
  cases r with
  | @tup p vs _ hq hl hr=>exact ⟨p,vs,rfl,iV hid_le hq,fun _=>hq,hl,hr⟩
 | true=>
  unfold dH at hc;have hc:ds.all bw=true:=by simpa [hv] using hc
  cases hr with
  | @tup p vs _ hq hl hr=>exact ⟨p,vs,rfl,hq,nofun,hl,fun i v d e1 e2=>((hr i v d e1 e2).sc (List.all_eq_true.mp hc d (mem_of_getElem? e2))).rep⟩
theorem ES {K:Fg} {σ:St} {He H H1:Hp} {O:List Addr} {Fs Fs1:List (List Addr)} {Γ1:Ev} {vs:List V} {ds:List D} {p:Addr} (E:EnvOk K He O Fs1 H1 σ Γ1) (s:Same H H1) (n:∀a∈Fs1.flatten,a∈Fs.flatten\/H a=none)
  (hr:Reps K (du H1 (O++Fs1.flatten)) vs ds) (hp:H1 p=none):Aft K He O Fs H σ Γ1 ⟨.lst .leaf,.list ds⟩ (.ref p) (bZ H1 p (.lst vs)) [p] Fs1:=by
 have E2:=E.hide (G:=[p]) (iY (o:=.lst vs) hp) (by simp) (fun a ha=>by simp at ha;rw [ha];exact hp) (fun a ha=>by simp at ha;rw [ha,gr];exact Option.some_ne_none _)
 refine ⟨s.trans (iY hp),E2,fun a ha=>?_,?_⟩
 ·rcases KI ha with z | z
  ·have z:a=p:=by simpa using z
   rw [z];exact .inr (s.free hp)
  ·exact n a z
 ·have fl:(List.replicate ds.length ([]:List Addr)).flatten=[]:=by simp
  have:[p]=p::(List.replicate ds.length ([]:List Addr)).flatten:=by rw [fl]
  rw [this];refine .lst rfl gr hr.1 (by simp) (by rw [fl];simp) fun i v d F h1 h2 h3=>?_
  rw [getElem?_replicate] at h3;split at h3
  ·cases h3
   refine .leaf ((hr.2 i v d h1 h2).mono (qS (iY hp) fun a ha=>?_))
   rw [fl] at ha;rcases KI ha with z | z
   ·rcases KI z with z | z
    ·have z:a=p:=by simpa using z
     rw [z];exact .inr hp
    ·exact .inl (KH _ z)
   ·exact .inl (KG _ z)
  ·cases h3
def rq (fa:F1):F1:=aU fa fun p Γ=>match p.d with
 | .list ds=>if dH p ds then .ok ⟨.lst .leaf,.list ds⟩ Γ else .no
 | .tuple ds=>if dH p ds then .ok ⟨.lst .leaf,.list ds⟩ Γ else .no
 | _=>.no
section
variable {K:Fg} {W:XW} {σ:St} {H:Hp} {Q:VK} {fa fb:F1}
theorem Aft.disj {He H1:Hp} {O G:List Addr} {Fs Fs1:List (List Addr)} {Γ1:Ev} {p:PV} {v:V} (A:Aft K He O Fs H σ Γ1 p v H1 G Fs1):∀a∈G,a∉O++Fs1.flatten:=fun a ha z=>by
 have nd:=A.env.nd
 rw [append_assoc] at nd;exact (KO nd).2.2 a ha a z rfl
theorem km {G O F:List Addr}:∀a∈O++F,a∈G++O++F:=fun a ha=>by
 rw [append_assoc];exact KG _ ha
theorem pM (h:tE K W (rq fa) σ H Q):FJ (fun xs H Q=>∃p ys,xs=[.ref p]/\(SqL K H p ys\/SqT K H p ys)/\∀l,H l=none->Q (.ref l) (bZ H l (.lst ys))) (tA K W (ae fa ah)) σ H Q:=by
 have h1:tE K W fa σ H fun x H1=>∃p ys,x=.ref p/\(SqL K H1 p ys\/SqT K H1 p ys)/\∀l,H1 l=none->Q (.ref l) (bZ H1 l (.lst ys)):=by
  refine xD h fun He O Fs Γ1 p v H1 G Fs1 nd A w=>?_
  obtain ⟨s,d⟩:=p
  cases d with
  | list ds=>
   have w:Wants K W He O Fs H σ Q (if dH ⟨s,.list ds⟩ ds then .ok ⟨.lst .leaf,.list ds⟩ Γ1 else .no):=w
   cases hc:dH ⟨s,.list ds⟩ ds with
   | false=>rw [hc] at w;exact w.elim
   | true=>
    rw [hc] at w;obtain ⟨p,vs,rfl,hq,_,hr⟩:=A.own.items (O':=O++Fs1.flatten) hc km A.disj
    exact ⟨p,vs,rfl,.inl hq,fun l hl=>w _ _ _ _ (ES A.go A.same A.newF hr hl)⟩
  | tuple ds=>
   have w:Wants K W He O Fs H σ Q (if dH ⟨s,.tuple ds⟩ ds then .ok ⟨.lst .leaf,.list ds⟩ Γ1 else .no):=w
   cases hc:dH ⟨s,.tuple ds⟩ ds with
   | false=>rw [hc] at w;exact w.elim
   | true=>
    rw [hc] at w;obtain ⟨p,vs,rfl,hq,_,hr⟩:=A.own.itemsT (O':=O++Fs1.flatten) hc km A.disj
    exact ⟨p,vs,rfl,.inr hq,fun l hl=>w _ _ _ _ (ES A.go A.same A.newF hr hl)⟩
  | _=>exact w.elim
 obtain ⟨He,O,Fs,Γ,E,h1⟩:=h1;refine ⟨He,O,Fs,Γ,E,?_⟩
 unfold ae ah
 cases e:fa Γ with
 | ok p Γ'=>
  rw [e] at h1;intro vs H' Gs Fs' A
  match vs,Gs,A.len1,A.len2 with
  | [v],[G],_,_=>
   have A':Aft K He O Fs H σ Γ' p v H' G Fs':=⟨A.same,by simpa using A.env,by simpa using A.new,by simpa using A.own 0 v p G rfl rfl rfl⟩
   obtain ⟨q,ys,rfl,h2,h3⟩:=h1 v H' G Fs' A'
   exact ⟨q,ys,rfl,h2,h3⟩
 | er c Γ'=>rw [e] at h1;exact h1
 | no=>rw [e] at h1;exact h1
end
structure uR (J:It) (P:Hp->Prop) (vs:List V):Prop where
 go:∀(i:Nat) H v,P H->vs[i]?=some v->J.go i H/\∀x H',J.yld i H x H'->H'=H/\x=v
 stop:∀H,P H->J.stop vs.length H
theorem wF {K:Fg} {a:Addr} {vs:List V}:uR (Gk K a) (fun H=>SqL K H a vs) vs:=
 ⟨fun i H v hp hv=>⟨⟨vs,v,hp,hv⟩,fun x H' ⟨e,q⟩=>⟨e,Option.some.inj ((q vs hp).symm.trans hv)⟩⟩,fun H hp=>⟨vs,hp,KW _⟩⟩
theorem AR {K:Fg} {a:Addr} {vs:List V}:uR (Gi K a) (fun H=>SqT K H a vs) vs:=
 ⟨fun i H v hp hv=>⟨⟨vs,v,hp,hv⟩,fun x H' ⟨e,q⟩=>⟨e,Option.some.inj ((q vs hp).symm.trans hv)⟩⟩,fun H hp=>⟨vs,hp,KW _⟩⟩
def eT (lo:Int) (n:Nat):List V:=(List.range n).map fun i=>.int (lo+(i:Nat))
def cz (lo:Int) (n:Nat):List D:=(List.range n).map fun i=>.int (lo+(i:Nat))
theorem t5 {lo:Int} {n:Nat}:uR (BE lo n) (fun _=>True) (eT lo n):=by
 refine ⟨fun i H v _ hv=>?_,fun H _=>?_⟩
 ·unfold eT at hv
  rw [getElem?_map] at hv
  cases e:(List.range n)[i]? with
  | none=>rw [e] at hv;cases hv
  | some k=>
   rw [e] at hv;obtain ⟨h1,h2⟩:=KP e
   simp at h1 h2
   subst h2
   cases hv;exact ⟨h1,fun x H' ⟨q1,q2⟩=>⟨q1,q2⟩⟩
 ·show n<=(eT lo n).length
  simp [eT]
theorem Hj {K:Fg} {H:Hp} {lo:Int} {n:Nat}:Reps K H (eT lo n) (cz lo n):=by
 refine ⟨by simp [eT,cz],fun i v d h1 h2=>?_⟩
 unfold eT at h1;unfold cz at h2;rw [getElem?_map] at h1 h2
 cases e:(List.range n)[i]? with
 | none=>rw [e] at h1;cases h1
 | some k=>
  rw [e] at h1 h2
  cases h1
  cases h2;exact .int _
structure Js where
 ds:List D
 st:Bool
abbrev FI:=Ev->Out Js
def Cf (K:Fg) (W:XW) (He:Hp) (O:List Addr) (Fs:List (List Addr)) (H:Hp) (σ:St) (R:It->Hp->Prop) (o:Out Js):Prop:=match o with
 | .ok t Γ'=>∀J H' Fs' vs P,Same H H'->EnvOk K He O Fs' H' σ Γ'->(∀a∈Fs'.flatten,a∈Fs.flatten\/H a=none)->uR J P vs->P H'->(∀H2,Same H' H2->P H2)->(t.st=true->∀H2,Same (du H' Fs'.flatten) H2->P H2) ->
   Reps K (du H' (O++Fs'.flatten)) vs t.ds->R J H'
 | .er c Γ'=>∀H' Fs',Same H H'->EnvOk K He O Fs' H' σ Γ'->W c σ H'
 | .no=>False
def tI (K:Fg) (W:XW) (f:FI):TI:=fun σ H R=>∃He O Fs Γ,EnvOk K He O Fs H σ Γ/\Cf K W He O Fs H σ R (f Γ)
theorem mV {X:Cx} {tg iter:Expr} {t t':TI} (h:PI X tg iter t) (i:∀σ H R,t' σ H R->t σ H R):PI X tg iter t':=fun pins s σ H R I q=>h pins s σ H R I (i σ H R q)
def aZ (fa:F1):FI:=fun Γ=>(fa Γ).bind fun p Γ'=>match p.d with
 | .list ds=>if dH p ds then .ok ⟨ds,!p.s.isView⟩ Γ' else .no
 | _=>.no
def iI (fa:F1):FI:=fun Γ=>(fa Γ).bind fun p Γ'=>match p.d with
 | .tuple ds=>if dH p ds then .ok ⟨ds,!p.s.isView⟩ Γ' else .no
 | _=>.no
section
variable {K:Fg} {W:XW} {σ:St} {H:Hp} {R:It->Hp->Prop} {fa fb:F1}
theorem sub_hid {H:Hp} {O F:List Addr}:Same (du H (O++F)) (du H F):=qS (Same.refl _) fun a ha=>.inl (KG _ ha)
theorem vQ (h:tI K W (aZ fa) σ H R):yp K (tE K W fa) σ H R:=by
 obtain ⟨He,O,Fs,Γ,E,h⟩:=h;refine ⟨He,O,Fs,Γ,E,?_⟩
 unfold aZ at h
 cases e:fa Γ with
 | ok p Γ1=>
  rw [e] at h;intro v H1 G Fs1 A;obtain ⟨s,d⟩:=p
  cases d with
  | list ds=>
   have h:Cf K W He O Fs H σ R (if dH ⟨s,.list ds⟩ ds then .ok ⟨ds,!s.isView⟩ Γ1 else .no):=h
   cases hc:dH ⟨s,.list ds⟩ ds with
   | false=>rw [hc] at h;exact h.elim
   | true=>
    rw [hc] at h;obtain ⟨p,vs,rfl,hq,hst,hr⟩:=A.own.items (O':=O++Fs1.flatten) hc km A.disj
    exact ⟨p,rfl,⟨vs,hq⟩,h (Gk K p) H1 Fs1 vs (fun H=>SqL K H p vs) A.same A.go A.newF wF hq (fun H2 s2=>s2.seq hq) (fun ht H2 s2=>s2.seq (sub_hid.seq (hst (by simpa using ht)))) hr⟩
  | _=>exact h.elim
 | er c Γ'=>rw [e] at h;exact h
 | no=>rw [e] at h;exact h
theorem vP (h:tI K W (iI fa) σ H R):DI K (tE K W fa) σ H R:=by
 obtain ⟨He,O,Fs,Γ,E,h⟩:=h;refine ⟨He,O,Fs,Γ,E,?_⟩
 unfold iI at h
 cases e:fa Γ with
 | ok p Γ1=>
  rw [e] at h;intro v H1 G Fs1 A;obtain ⟨s,d⟩:=p
  cases d with
  | tuple ds=>
   have h:Cf K W He O Fs H σ R (if dH ⟨s,.tuple ds⟩ ds then .ok ⟨ds,!s.isView⟩ Γ1 else .no):=h
   cases hc:dH ⟨s,.tuple ds⟩ ds with
   | false=>rw [hc] at h;exact h.elim
   | true=>
    rw [hc] at h;obtain ⟨p,vs,rfl,hq,hst,hr⟩:=A.own.itemsT (O':=O++Fs1.flatten) hc km A.disj
    exact ⟨p,rfl,⟨vs,hq⟩,h (Gi K p) H1 Fs1 vs (fun H=>SqT K H p vs) A.same A.go A.newF AR hq (fun H2 s2=>iV s2 hq) (fun ht H2 s2=>iV s2 (iV sub_hid (hst (by simpa using ht)))) hr⟩
  | _=>exact h.elim
 | er c Γ'=>rw [e] at h;exact h
 | no=>rw [e] at h;exact h
def cD (j:Int):Bool:=decide (-(2 ^ 62)<=j)&&decide (j<2 ^ 62)
def jh:List D->Option Int
 | [.int j]=>if cD j then some j else none
 | _=>none
def pL:List D->Option (Int×Int)
 | [.int i,.int j]=>if cD i&&cD j then some (i,j) else none
 | _=>none
theorem oq {ds:List D} {j:Int} (h:jh ds=some j):ds=[.int j]/\-(2 ^ 62)<=j/\j<2 ^ 62:=by
 unfold jh at h;split at h
 ·split at h
  ·rename_i hc
   cases h;simp only [cD,Bool.and_eq_true,decide_eq_true_eq] at hc
   exact ⟨rfl,hc.1,hc.2⟩
  ·cases h
 ·cases h
theorem vE {ds:List D} {i j:Int} (h:pL ds=some (i,j)):ds=[.int i,.int j]/\(-(2 ^ 62)<=i/\i<2 ^ 62/\-(2 ^ 62)<=j/\j<2 ^ 62):=by
 unfold pL at h;split at h
 ·split at h
  ·rename_i hc
   cases h;simp only [cD,Bool.and_eq_true,decide_eq_true_eq] at hc
   exact ⟨rfl,hc.1.1,hc.1.2,hc.2.1,hc.2.2⟩
  ·cases h
 ·cases h
def fM (fl:FL):FI:=fun Γ=>(fl Γ).bind fun ps Γ'=>match jh (ps.map (·.d)) with
 | some j=>.ok ⟨cz 0 j.toNat,true⟩ Γ'
 | none=>.no
def yo (fl:FL):FI:=fun Γ=>(fl Γ).bind fun ps Γ'=>match pL (ps.map (·.d)) with
 | some (i,j)=>.ok ⟨cz i (j-i).toNat,true⟩ Γ'
 | none=>.no
theorem zP {fl:FL} (h:tI K W (fM fl) σ H R):yn (tA K W fl) σ H R:=by
 obtain ⟨He,O,Fs,Γ,E,h⟩:=h;refine ⟨He,O,Fs,Γ,E,?_⟩
 unfold fM at h
 cases e:fl Γ with
 | ok ps Γ1=>
  rw [e] at h;intro vs H1 Gs Fs1 A;have h:Cf K W He O Fs H σ R (match jh (ps.map (·.d)) with | some j=>.ok ⟨cz 0 j.toNat,true⟩ Γ1 | none=>.no):=h
  have rs:=A.reps
  cases e1:jh (ps.map (·.d)) with
  | none=>rw [e1] at h;exact h.elim
  | some j=>
   rw [e1] at h;obtain ⟨e2,h1,h2⟩:=oq e1;rw [e2] at rs;obtain ⟨v,rfl,r⟩:=rs.one
   cases r;exact ⟨j,rfl,h1,h2,h (BE 0 j.toNat) H1 Fs1 (eT 0 j.toNat) (fun _=>True) A.same A.env.dropL (fun a ha=>A.new a (KG _ ha)) t5 trivial (fun _ _=>trivial) (fun _ _ _=>trivial) Hj⟩
 | er c Γ'=>rw [e] at h;exact h
 | no=>rw [e] at h;exact h
theorem zO {fl:FL} (h:tI K W (yo fl) σ H R):ym (tA K W fl) σ H R:=by
 obtain ⟨He,O,Fs,Γ,E,h⟩:=h;refine ⟨He,O,Fs,Γ,E,?_⟩
 unfold yo at h
 cases e:fl Γ with
 | ok ps Γ1=>
  rw [e] at h;intro vs H1 Gs Fs1 A;have h:Cf K W He O Fs H σ R (match pL (ps.map (·.d)) with | some (i,j)=>.ok ⟨cz i (j-i).toNat,true⟩ Γ1 | none=>.no):=h
  have rs:=A.reps
  cases e1:pL (ps.map (·.d)) with
  | none=>rw [e1] at h;exact h.elim
  | some ij=>
   obtain ⟨i,j⟩:=ij;rw [e1] at h;obtain ⟨e2,hb⟩:=vE e1;rw [e2] at rs;obtain ⟨v,u,rfl,r,r'⟩:=rs.two
   cases r
   cases r'
   exact ⟨i,j,rfl,hb,h (BE i (j-i).toNat) H1 Fs1 (eT i (j-i).toNat) (fun _=>True) A.same A.env.dropL (fun a ha=>A.new a (KG _ ha)) t5 trivial (fun _ _=>trivial) (fun _ _ _=>trivial) Hj⟩
 | er c Γ'=>rw [e] at h;exact h
 | no=>rw [e] at h;exact h
end
def pf (i:Nat) (fc:FB) (fe:F1) (s:Sh):List D->Ev->List D->Out (List D)
 | [],Γ,acc=>.ok acc Γ
 | d::r,Γ,acc=>match fc (Γ.set i (KZ d)) with
  | .ok true Γ1=>(match fe Γ1 with
   | .ok p Γ2=>if T.coer s p&&decide (acc.length<sizeLine) then pf i fc fe s r (Γ2.set i none) (acc++[p.d]) else .no
   | _=>.no)
  | .ok false Γ1=>if acc.length<sizeLine then pf i fc fe s r (Γ1.set i none) acc else .no
  | _=>.no
def aE (s:Sh) (i:Nat) (fi:FI) (fc:FB) (fe:F1):F1:=fun Γ=>(fi Γ).bind fun t Γ1=>match pf i fc fe s t.ds (Γ1.set i none) [] with
 | .ok ds Γ2=>if !s.isView&&decide (i<Γ1.length) then .ok ⟨.lst s,.list ds⟩ (Γ2.set i (Γ1.getD i none)) else .no
 | _=>.no
abbrev W0:XW:=fun _ _ _=>False
section
variable {K:Fg} {He H H1 H2:Hp} {O G:List Addr} {Fs Fs1 Fs2:List (List Addr)} {σ:St} {Γ Γ1 Γ2:Ev}
theorem GH {is:List Nat} {σ:St} {j:Nat} (h:j∉is):(bx is σ)[j]?=σ[j]?:=by
 unfold bx;rw [List.getElem?_mapIdx]
 cases σ[j]? with
 | none=>rfl
 | some o=>simp [h]
theorem Fq {Γ:Ev} {i j:Nat} {p:PV} (h:(Γ.set i none)[j]?=some (some p)):j≠i/\Γ[j]?=some (some p):=by
 by_cases hj:j=i
 ·subst hj
  rw [List.getElem?_set] at h;split at h
  ·split at h<;>cases h
  ·rename_i z;exact absurd rfl z
 ·rw [getElem?_set_ne (Ne.symm hj)] at h
  exact ⟨hj,h⟩
theorem EnvOk.shut {i:Nat} (E:EnvOk K He O Fs H σ Γ) (hi:i<Γ.length) :
  ∃F,Fs[i]?=some F/\EnvOk K He (F++O) (Fs.set i []) H (bx [i] σ) (Γ.set i none)/\∀a,a∈F++(Fs.set i []).flatten↔a∈Fs.flatten:=by
 obtain ⟨F,hF⟩:=E.lt hi;have pm:(F++(Fs.set i []).flatten).Perm Fs.flatten:=by simpa using m7 (G:=[]) hF
 have pm2:(F++O++(Fs.set i []).flatten).Perm (O++Fs.flatten):=by
  rw [append_assoc];exact (jP _ _ _).trans (List.Perm.append_left _ pm)
 refine ⟨F,hF,⟨by rw [uV,length_set];exact E.len1,by rw [length_set,length_set];exact E.len2,E.same,pm2.nodup_iff.mpr E.nd,fun a ha=>E.inH a (pm2.mem_iff.mp ha),fun a ha=>E.fresh a (pm.mem_iff.mp (KG _ ha)),fun j q hq=>?_⟩,fun a=>pm.mem_iff⟩
 obtain ⟨hj,hq⟩:=Fq hq;obtain ⟨w1,v',F',e1,e2,e3⟩:=E.slot j q hq;exact ⟨w1,v',F',by rw [GH (by simpa using hj)];exact e1,by rw [getElem?_set_ne (Ne.symm hj)];exact e2,e3.mono (Same.refl _) fun a ha=>.inl (pm2.mem_iff.mp ha)⟩
theorem EnvOk.forget {i:Nat} {x:Option V} (E:EnvOk K He O Fs H ((bx [i] σ).set i x) Γ) (hi:i<Γ.length):EnvOk K He O (Fs.set i []) H (bx [i] σ) (Γ.set i none):=by
 obtain ⟨F,hF⟩:=E.lt hi;have pm:(F++(Fs.set i []).flatten).Perm Fs.flatten:=by simpa using m7 (G:=[]) hF
 have sub:∀a∈O++(Fs.set i []).flatten,a∈O++Fs.flatten:=fun a ha=>by
  rcases KI ha with z | z
  ·exact KH _ z
  ·exact KG _ (pm.mem_iff.mp (KG _ z))
 have l1:=E.len1
 rw [length_set] at l1;obtain ⟨n1,n2,n3⟩:=KO E.nd;have n4:((Fs.set i []).flatten).Nodup:=(KO (pm.nodup_iff.mpr n2)).2.1
 refine ⟨by rw [length_set];exact l1,by rw [length_set,length_set];exact E.len2,E.same,List.nodup_append.mpr ⟨n1,n4,fun a ha b hb=>n3 a ha b (pm.mem_iff.mp (KG _ hb))⟩,fun a ha=>E.inH a (sub a ha),fun a ha=>E.fresh a (pm.mem_iff.mp (KG _ ha)),fun j q hq=>?_⟩
 obtain ⟨hj,hq⟩:=Fq hq;obtain ⟨w1,v',F',e1,e2,e3⟩:=E.slot j q hq;rw [getElem?_set_ne (Ne.symm hj)] at e1;exact ⟨w1,v',F',e1,by rw [getElem?_set_ne (Ne.symm hj)];exact e2,e3.mono (Same.refl _) fun a ha=>.inl (sub a ha)⟩
theorem EnvOk.reopen {i:Nat} {F:List Addr} (E1:EnvOk K He O Fs1 H1 σ Γ1) (hF:Fs1[i]?=some F) (E2:EnvOk K He (G++(F++O)) Fs2 H2 (bx [i] σ) Γ2) (hl:Γ2.length=Γ1.length) (s:Same H1 H2)
  (hn:Γ2[i]?=some none) (hF2:Fs2[i]?=some []) (new:∀a∈G++Fs2.flatten,a∈Fs1.flatten\/H1 a=none):EnvOk K He (G++O) (Fs2.set i F) H2 σ (Γ2.set i (Γ1.getD i none)):=by
 have pm:((Fs2.set i F).flatten).Perm (F++Fs2.flatten):=by simpa using m7 (G:=F) hF2
 have pm2:(G++O++(Fs2.set i F).flatten).Perm (G++(F++O)++Fs2.flatten):=by
  refine (List.Perm.append_left _ pm).trans ?_
  rw [append_assoc,append_assoc];refine List.Perm.append_left _ ?_
  rw [append_assoc];exact jP _ _ _
 have hi:i<Γ2.length:=(KP hn).1
 refine ⟨by rw [length_set,hl];exact E1.len1,by rw [length_set,length_set];exact E2.len2,E2.same,pm2.nodup_iff.mpr E2.nd,fun a ha=>E2.inH a (pm2.mem_iff.mp ha),fun a ha=>?_,fun j q hq=>?_⟩
 ·rcases KI (pm.mem_iff.mp ha) with z | z
  ·exact E1.fresh a (kS hF z)
  ·exact E2.fresh a z
 ·by_cases hj:j=i
  ·subst hj
   rw [getElem?_set_self hi] at hq;have hq:Γ1.getD j none=some q:=Option.some.inj hq
   rw [KM] at hq;have hq':Γ1[j]?=some (some q):=by
    cases e:Γ1[j]? with
    | none=>rw [e] at hq;cases hq
    | some o=>rw [e] at hq;simp only [Option.getD_some] at hq;rw [hq]
   obtain ⟨w1,v',F',e1,e2,e3⟩:=E1.slot j q hq'
   rw [hF] at e2
   cases e2;refine ⟨w1,v',F,e1,getElem?_set_self (by rw [E2.len2];exact hi),e3.mono s fun a ha=>?_⟩
   rcases KI ha with z | z
   ·rcases KI z with z | z
    ·exact (new a (KH _ z)).elim (fun y=>.inl (KG _ y)) .inr
    ·exact .inl (KH _ z)
   ·rcases KI (pm.mem_iff.mp z) with y | y
    ·exact .inl (KG _ (kS hF y))
    ·exact (new a (KG _ y)).elim (fun y=>.inl (KG _ y)) .inr
  ·rw [getElem?_set_ne (Ne.symm hj)] at hq
   obtain ⟨w1,v',F',e1,e2,e3⟩:=E2.slot j q hq;rw [GH (by simpa using hj)] at e1
   exact ⟨w1,v',F',e1,by rw [getElem?_set_ne (Ne.symm hj)];exact e2,e3.mono (Same.refl _) fun a ha=>.inl (pm2.mem_iff.mp ha)⟩
theorem EnvOk.mutO {p:Addr} {o:HO} {xs:List V} (E:EnvOk K He O Fs H σ Γ) (hp:p∈O) (hl:H p=some (.lst xs)) (hn:He p=none):EnvOk K He O Fs (bZ H p o) σ Γ:=by
 obtain ⟨n1,n2,n3⟩:=KO E.nd;refine ⟨E.len1,E.len2,fun b u e=>?_,E.nd,fun a ha=>?_,E.fresh,fun j q hq=>?_⟩
 ·rw [eZ (rC e hn)]
  exact E.same b u e
 ·by_cases h:a=p
  ·rw [h,gr];exact Option.some_ne_none _
  ·rw [eZ h];exact E.inH a ha
 ·obtain ⟨w1,v',F',e1,e2,e3⟩:=E.slot j q hq
  exact ⟨w1,v',F',e1,e2,e3.mut w1 (KH _ hp) (fun z=>n3 p hp p (kS e2 z) rfl) hl⟩
end
structure Ju (K:Fg) (He:Hp) (O F:List Addr) (Fs1:List (List Addr)) (H1:Hp) (σ:St) (i:Nat) (s:Sh) (A0:Addr) (n:Nat) (ys:List V) (H:Hp) (Γk:Ev) (Fk Gs:List (List Addr)) (acc:List D):Prop where
 env:EnvOk K He (A0::Gs.flatten++(F++O)) Fk H (bx [i] σ) Γk
 same:Same H1 H
 at_:H A0=some (.lst ys)
 new:∀a∈Gs.flatten++Fk.flatten,a∈Fs1.flatten\/H1 a=none
 l1:ys.length=acc.length
 l2:Gs.length=acc.length
 own:∀(j:Nat) v d G,ys[j]?=some v->acc[j]?=some d->Gs[j]?=some G->Own K (A0::Gs.flatten++(F++O)++Fk.flatten) H s G v d
 noneG:Γk[i]?=some none
 noneF:Fk[i]?=some []
 len:Γk.length=n
theorem qZ {α:Type} (Gs:List (List α)) (G:List α):(Gs++[G]).flatten=Gs.flatten++G:=by simp
section
variable {K:Fg} {W:XW} {σ:St} {H:Hp} {Q:VK} {fe:F1} {fc:FB} {fi:FI} {s:Sh} {i:Nat}
theorem oz (h:tE K W (aE s i fi fc fe) σ H Q):jM [i] (tI K W fi) (gName i) (tT K W0 fc) (tE K W0 fe) σ H Q:=by
 obtain ⟨He,O,Fs,Γ,E,h⟩:=h;refine ⟨He,O,Fs,Γ,E,?_⟩
 unfold aE at h
 cases e:fi Γ with
 | er c Γ'=>rw [e] at h;exact h
 | no=>rw [e] at h;exact h
 | ok t Γ1=>
  rw [e] at h;intro J H1 Fs1 vs P s1 E1 n1 it hP hP1 _ hr A0 hD;have h:Wants K W He O Fs H σ Q (match pf i fc fe s t.ds (Γ1.set i none) [] with | .ok ds Γ2=>if !s.isView&&decide (i<Γ1.length) then .ok ⟨.lst s,.list ds⟩ (Γ2.set i (Γ1.getD i none)) else .no | _=>.no):=h
  cases eg:pf i fc fe s t.ds (Γ1.set i none) [] with
  | er c Γ'=>rw [eg] at h;exact h.elim
  | no=>rw [eg] at h;exact h.elim
  | ok ds' Γ2=>
   rw [eg] at h;have h:Wants K W He O Fs H σ Q (if (!s.isView&&decide (i<Γ1.length))=true then .ok ⟨.lst s,.list ds'⟩ (Γ2.set i (Γ1.getD i none)) else .no):=h
   by_cases hc:(!s.isView&&decide (i<Γ1.length))=true
   case neg=>rw [if_neg hc] at h;exact h.elim
   rw [if_pos hc] at h;simp only [Bool.and_eq_true,decide_eq_true_eq,Bool.not_eq_true'] at hc
   obtain ⟨hsv,hi⟩:=hc;obtain ⟨F,hF,E0,hmem⟩:=E1.shut hi;have hHeD:He A0=none:=E1.same.free hD
   have E0':EnvOk K He (A0::([]:List (List Addr)).flatten++(F++O)) (Fs1.set i []) (bZ H1 A0 (.lst [])) (bx [i] σ) (Γ1.set i none):=
    E0.hide (G:=[A0]) (iY hD) (by simp) (fun a ha=>by simp at ha;rw [ha];exact hD) (fun a ha=>by simp at ha;rw [ha,gr];exact Option.some_ne_none _)
   refine ⟨fun k m ys H'=>m=vs.length-k/\k<=vs.length/\∃Γk Fk Gs acc,Ju K He O F Fs1 H1 σ i s A0 Γ1.length ys H' Γk Fk Gs acc/\pf i fc fe s (t.ds.drop k) Γk acc=.ok ds' Γ2,⟨vs.length,by simp,Nat.zero_le _,Γ1.set i none,Fs1.set i [],[],[],⟨E0',iY hD,gr,fun a ha=>.inl ((hmem a).mp (KG _ (by simpa using ha))),rfl,rfl,fun j v d G h1=>by simp at h1,getElem?_set_self hi,getElem?_set_self (by rw [E1.len2];exact hi),by rw [length_set]⟩,by simpa using eg⟩,?_⟩
   rintro k m ys H' ⟨rfl,hk,Γk,Fk,Gs,acc,g,eg'⟩
   refine ⟨g.at_,?_⟩
   have hPk:P H':=hP1 H' g.same
   have hlen:vs.length=t.ds.length:=hr.1
   by_cases hlt:k<vs.length
   case neg=>
    have hke:k=vs.length:=by omega
    left
    have:t.ds.drop k=[]:=drop_eq_nil_of_le (by omega)
    rw [this] at eg';have eg'':(Out.ok acc Γk:Out (List D))=.ok ds' Γ2:=eg'
    injection eg'' with e1 e2
    subst e1;subst e2;refine ⟨by rw [hke];exact it.stop H' hPk,?_⟩
    have E3:EnvOk K He ((A0::Gs.flatten)++O) (Fk.set i F) H' σ (Γk.set i (Γ1.getD i none)):=
     EnvOk.reopen (G:=A0::Gs.flatten) E1 hF g.env g.len g.same g.noneG g.noneF fun a ha=>by
      rcases KI ha with z | z
      ·rcases KJ z with z | z
       ·rw [z];exact .inr hD
       ·exact g.new a (KH _ z)
      ·exact g.new a (KG _ z)
    have pmF:((Fk.set i F).flatten).Perm (F++Fk.flatten):=by simpa using m7 (G:=F) g.noneF
    obtain ⟨n1',_,n3'⟩:=KO g.env.ndO;refine h (.ref A0) H' (A0::Gs.flatten) (Fk.set i F) ⟨s1.trans g.same,E3,fun a ha=>?_,?_⟩
    ·have up:a∈Fs1.flatten\/H1 a=none->a∈Fs.flatten\/H a=none:=fun z=>z.elim (n1 a) fun y=>.inr (s1.free y)
     rcases KI ha with z | z
     ·rcases KJ z with z | z
      ·exact up (.inr (by rw [z];exact hD))
      ·exact up (g.new a (KH _ z))
     ·rcases KI (pmF.mem_iff.mp z) with y | y
      ·exact up (.inl (kS hF y))
      ·exact up (g.new a (KG _ y))
    ·refine .lst hsv g.at_ g.l1 g.l2 n1' fun j v d G h1 h2 h3=>(g.own j v d G h1 h2 h3).perm fun a ha=>?_
     rw [append_assoc] at ha ⊢;rcases KI ha with z | z
     ·exact KH _ z
     ·refine KG _ ?_
      rcases KI z with z | z
      ·exact KH _ (KG _ z)
      ·rcases KI (pmF.mem_iff.mp z) with y | y
       ·exact KH _ (KH _ y)
       ·exact KG _ y
   case pos=>
    right
    have hv:vs[k]?=some vs[k]:=KL hlt
    have hkd:k<t.ds.length:=by omega
    have hd:t.ds[k]?=some t.ds[k]:=KL hkd
    have hdr:t.ds.drop k=t.ds[k]::t.ds.drop (k+1):=drop_eq_getElem_cons hkd
    rw [hdr] at eg';generalize hdk:t.ds[k]=d at hd eg'
    generalize hvk:vs[k]=v at hv
    obtain ⟨hgo,hyld⟩:=it.go k H' v hPk hv
    simp only [pf] at eg'
    have hik:i<Γk.length:=by rw [g.len];exact hi
    have rep:Rep K (du H' (A0::Gs.flatten++(F++O)++Fk.flatten)) v d:=(hr.2 k v d hv hd).mono (qS g.same fun a ha=>by
     rcases KI ha with z | z
     ·rcases KI z with z | z
      ·rcases KJ z with z | z
       ·rw [z];exact .inr hD
       ·exact (g.new a (KH _ z)).elim (fun y=>.inl (KG _ y)) .inr
      ·rcases KI z with z | z
       ·exact .inl (KG _ (kS hF z))
       ·exact .inl (KH _ z)
     ·exact (g.new a (KG _ z)).elim (fun y=>.inl (KG _ y)) .inr)
    have Ep:EnvOk K He (A0::Gs.flatten++(F++O)) (Fk.set i []) H' ((bx [i] σ).set i (some v)) (Γk.set i (KZ d)):=
     EnvOk.put (G:=[]) (p:=⟨.leaf,d⟩) (v:=v) g.env (.leaf rep) rfl (fun a ha=>by simp at ha) hik
    have hsl:ys.length<sizeLine:=by
     rw [g.l1]
     cases ec:fc (Γk.set i (KZ d)) with
     | no=>rw [ec] at eg';cases eg'
     | er c Γ'=>rw [ec] at eg';cases eg'
     | ok b Γa=>
      rw [ec] at eg'
      cases b with
      | false=>
       dsimp only at eg'
       split at eg'
       ·assumption
       ·cases eg'
      | true=>
       dsimp only at eg'
       split at eg'
       ·split at eg'
        ·rename_i z
         simp only [Bool.and_eq_true,decide_eq_true_eq] at z
         exact z.2
        ·cases eg'
       ·cases eg'
    refine ⟨hgo,hsl,fun x Hx hx=>?_⟩
    obtain ⟨rfl,rfl⟩:=hyld x Hx hx;show Kf (bx [i] σ) ((bx [i] σ).set i (some x))/\_
    refine ⟨⟨by rw [length_set],fun j u hj=>?_⟩,?_⟩
    ·have:=(CA hj).1
     rw [getElem?_set_ne (by simp at this;exact fun z=>this z.symm)]
     exact hj
    refine ⟨He,_,_,_,Ep,?_⟩
    cases ec:fc (Γk.set i (KZ d)) with
    | no=>rw [ec] at eg';cases eg'
    | er c Γ'=>rw [ec] at eg';cases eg'
    | ok b Γa=>
     rw [ec] at eg';intro H3 Fs3 s3 E3 n3;have lena:Γa.length=Γ1.length:=by
      have:=E3.len1
      rw [length_set,uV,E1.len1] at this;exact this.symm
     have n3':∀a∈Fs3.flatten,a∈Fs1.flatten\/H1 a=none:=fun a ha=>(n3 a ha).elim (fun z=>by
      have pm:((Fk.set i []).flatten).Perm Fk.flatten:=by simpa using m7 (G:=[]) g.noneF
      exact g.new a (KG _ (pm.mem_iff.mp z))) fun z=>.inr (g.same.free z)
     cases b with
     | false=>
      dsimp only at eg'
      split at eg'
      case isFalse=>cases eg'
      refine gU ⟨vs.length-(k+1),by omega,rfl,hlt,Γa.set i none,Fs3.set i [],Gs,acc,⟨E3.forget (by rw [lena];exact hi),g.same.trans s3,s3 _ _ g.at_,fun a ha=>?_,g.l1,g.l2,fun j v d G h1 h2 h3=>(g.own j v d G h1 h2 h3).mono s3 fun a ha=>?_,getElem?_set_self (by rw [lena];exact hi),getElem?_set_self (by rw [E3.len2,lena];exact hi),by rw [length_set];exact lena⟩,eg'⟩
      ·rcases KI ha with z | z
       ·exact g.new a (KH _ z)
       ·obtain ⟨F3,hF3⟩:=E3.lt (i:=i) (by rw [lena];exact hi)
        have pm:(F3++(Fs3.set i []).flatten).Perm Fs3.flatten:=by simpa using m7 (G:=[]) hF3
        exact n3' a (pm.mem_iff.mp (KG _ z))
      ·rcases KI ha with z | z
       ·exact .inl (KH _ z)
       ·obtain ⟨F3,hF3⟩:=E3.lt (i:=i) (by rw [lena];exact hi)
        have pm:(F3++(Fs3.set i []).flatten).Perm Fs3.flatten:=by simpa using m7 (G:=[]) hF3
        have pm2:((Fk.set i []).flatten).Perm Fk.flatten:=by simpa using m7 (G:=[]) g.noneF
        exact (n3 a (pm.mem_iff.mp (KG _ z))).elim (fun y=>.inl (KG _ (pm2.mem_iff.mp y))) .inr
     | true=>
      refine jv ⟨He,_,_,_,E3,?_⟩
      dsimp only at eg'
      cases ee:fe Γa with
      | no=>rw [ee] at eg';cases eg'
      | er c Γ'=>rw [ee] at eg';cases eg'
      | ok p Γb=>
       rw [ee] at eg';dsimp only at eg'
       split at eg'
       case isFalse=>cases eg'
       rename_i hco;simp only [Bool.and_eq_true,decide_eq_true_eq] at hco
       obtain ⟨hco,_⟩:=hco;intro u H4 G Fs4 A4;have lenb:Γb.length=Γ1.length:=by
        have:=A4.env.len1
        rw [length_set,uV,E1.len1] at this;exact this.symm
       have hib:i<Γb.length:=by rw [lenb];exact hi
       have at4:H4 A0=some (.lst ys):=A4.same _ _ (s3 _ _ g.at_)
       have s14:Same H1 H4:=(g.same.trans s3).trans A4.same
       have pmk:((Fk.set i []).flatten).Perm Fk.flatten:=by simpa using m7 (G:=[]) g.noneF
       obtain ⟨F4,hF4⟩:=A4.env.lt hib;have pm4:(F4++(Fs4.set i []).flatten).Perm Fs4.flatten:=by simpa using m7 (G:=[]) hF4
       have new4:∀a∈G++Fs4.flatten,a∈Fs1.flatten\/H1 a=none:=fun a ha=>(A4.new a ha).elim (n3' a) fun z=>.inr ((g.same.trans s3).free z)
       have hG':∀a∈aP s G,a∈G:=fun a ha=>EY ha
       obtain ⟨k1,k2,k3⟩:=KO A4.env.ndO;have ndk:(aP s G).Nodup:=by
        cases s<;>first | exact nodup_nil | exact k1
       have pmO:(A0::(Gs++[aP s G]).flatten++(F++O)).Perm (aP s G++(A0::Gs.flatten++(F++O))):=by
        rw [qZ];show (A0::((Gs.flatten++aP s G)++(F++O))).Perm _
        refine List.Perm.trans ?_ List.perm_middle.symm
        refine List.Perm.cons _ ?_
        rw [append_assoc];exact jP _ _ _
       have E5:EnvOk K He (aP s G++(A0::Gs.flatten++(F++O))) Fs4 H4 ((bx [i] σ).set i (some x)) Γb:=A4.env.drop (fun a ha=>by
        rcases KI ha with z | z
        ·exact KH _ (hG' a z)
        ·exact KG _ z) (List.nodup_append.mpr ⟨ndk,k2,fun a ha b hb=>k3 a (hG' a ha) b hb⟩)
       have E6:=(E5.perm pmO).forget hib
       have hDin:A0∈A0::(Gs++[aP s G]).flatten++(F++O):=mem_cons_self
       have E7:=E6.mutO (o:=.lst (ys++[u])) hDin at4 hHeD
       have subH:∀a∈A0::(Gs++[aP s G]).flatten++(F++O)++(Fs4.set i []).flatten,a∈G++(A0::Gs.flatten++(F++O))++Fs4.flatten:=fun a ha=>by
        rcases KI ha with z | z
        ·rcases KI (pmO.mem_iff.mp z) with y | y
         ·exact KH _ (KH _ (hG' a y))
         ·exact KH _ (KG _ y)
        ·exact KG _ (pm4.mem_iff.mp (KG _ z))
       have Dnot:∀{j:Nat} {Gj:List Addr},Gs[j]?=some Gj->A0∉Gj:=fun {j Gj} hj z=>by
        have nd:=g.env.ndO
        exact (List.nodup_cons.mp nd).1 (KH _ (kS hj z))
       refine ⟨at4,vs.length-(k+1),by omega,rfl,hlt,Γb.set i none,Fs4.set i [],Gs++[aP s G],acc++[p.d],⟨E7,fun b o hb=>?_,gr,fun a ha=>?_,by simp [g.l1],by simp [g.l2],fun j w d' G' h1 h2 h3=>?_,getElem?_set_self hib,getElem?_set_self (by rw [A4.env.len2];exact hib),by rw [length_set];exact lenb⟩,eg'⟩
       ·rw [eZ (rC hb hD)]
        exact s14 b o hb
       ·rcases KI ha with z | z
        ·rw [qZ] at z
         rcases KI z with z | z
         ·exact g.new a (KH _ z)
         ·exact new4 a (KH _ (hG' a z))
        ·exact new4 a (KG _ (pm4.mem_iff.mp (KG _ z)))
       ·by_cases hj:j<ys.length
        ·rw [getElem?_append_left hj] at h1
         rw [getElem?_append_left (by rw [<-g.l1];exact hj)] at h2
         rw [getElem?_append_left (by rw [g.l2,<-g.l1];exact hj)] at h3
         have o1:=g.own j w d' G' h1 h2 h3
         have o2:=o1.mono (O':=A0::(Gs++[aP s G]).flatten++(F++O)++(Fs4.set i []).flatten) (s3.trans A4.same) fun a ha=>by
          have up:a∈G++Fs4.flatten->a∈A0::Gs.flatten++(F++O)++Fk.flatten\/Hx a=none:=fun z=>(A4.new a z).elim (fun y=>(n3 a y).elim (fun y=>.inl (KG _ (pmk.mem_iff.mp y))) .inr) fun y=>.inr (s3.free y)
          rcases KI (subH a ha) with z | z
          ·rcases KI z with z | z
           ·exact up (KH _ z)
           ·exact .inl (KH _ z)
          ·exact up (KG _ z)
         exact o2.mut hsv (KH _ hDin) (Dnot h3) at4
        ·have hj':j=ys.length:=by
          have:=(KP h1).1
          rw [length_append,length_singleton] at this;omega
         subst hj'
         rw [getElem?_append_right (KW _),Nat.sub_self] at h1;rw [getElem?_append_right (by rw [g.l1];exact KW _),show ys.length-acc.length=0 by rw [g.l1];exact Nat.sub_self _] at h2
         rw [getElem?_append_right (by rw [g.l2,g.l1];exact KW _),show ys.length-Gs.length=0 by rw [g.l2,g.l1];exact Nat.sub_self _] at h3
         cases h1
         cases h2
         cases h3;have o3:=A4.own.coer (s:=s) (O':=A0::(Gs++[aP s G]).flatten++(F++O)++(Fs4.set i []).flatten) hco subH fun a ha hO=>by
          cases s with
          | leaf=>
           exfalso
           have hO':a∈(A0::Gs.flatten++(F++O))++(Fs4.set i []).flatten:=by
            rw [qZ] at hO;simpa [aP] using hO
           rcases KI hO' with z | z
           ·exact k3 a ha a z rfl
           ·have nd:=A4.env.nd
            exact (KO nd).2.2 a (KH _ ha) a (pm4.mem_iff.mp (KG _ z)) rfl
          | view=>cases hsv
          | lst s=>exact ha
          | tup ss=>exact ha
         refine o3.mut hsv (KH _ hDin) (fun z=>?_) at4
         exact k3 A0 (hG' A0 z) A0 mem_cons_self rfl
end
inductive fK where
 | nx (e:Ev) | bk (e:Ev) | ct (e:Ev) | rt (p:PV) | er (c:Str) (e:Ev) | no
abbrev FS:=Ev->fK
structure RetOk (K:Fg) (He:Hp) (O:List Addr) (p:PV) (v:V) (H':Hp) (G:List Addr):Prop where
 same:Same He H'
 fresh:∀a∈G,He a=none
 inH:∀a∈G,H' a≠none
 nd:G.Nodup
 own:Own K (G++O) H' p.s G v p.d
 nv:p.s.isView=false
def mW (K:Fg) (W:XW) (He:Hp) (O:List Addr) (D:d9):fK->Prop
 | .nx Γ'=>∀σ' H' Fs',EnvOk K He O Fs' H' σ' Γ'->D.nx σ' H'
 | .bk Γ'=>∀σ' H' Fs',EnvOk K He O Fs' H' σ' Γ'->D.bk σ' H'
 | .ct Γ'=>∀σ' H' Fs',EnvOk K He O Fs' H' σ' Γ'->D.ct σ' H'
 | .rt p=>∀v H' G,RetOk K He O p v H' G->D.rt v H'
 | .er c Γ'=>∀σ' H' Fs',EnvOk K He O Fs' H' σ' Γ'->W c σ' H'
 | .no=>False
def tS (K:Fg) (W:XW) (g:FS):TS:=fun D σ H=>∃He O Fs Γ,EnvOk K He O Fs H σ Γ/\mW K W He O D (g Γ)
def aS:FS:=fun Γ=>.nx Γ
def ay (g1 g2:FS):FS:=fun Γ=>match g1 Γ with
 | .nx Γ'=>g2 Γ'
 | o=>o
def g9 (f:F1) (k:PV->Ev->fK):FS:=fun Γ=>match f Γ with
 | .ok p Γ'=>k p Γ'
 | .er c Γ'=>.er c Γ'
 | .no=>.no
def b2 (c:FB) (a b:FS):FS:=fun Γ=>match c Γ with
 | .ok t Γ'=>if t then a Γ' else b Γ'
 | .er c Γ'=>.er c Γ'
 | .no=>.no
section
variable {K:Fg} {W:XW} {σ:St} {H:Hp} {D:d9} {fa fb:F1} {ga gb:FB} {g1 g2:FS}
theorem ow (h:tS K W aS D σ H):rV D σ H:=by
 obtain ⟨He,O,Fs,Γ,E,h⟩:=h;exact h σ H Fs E
theorem sy (h:tS K W (ay g1 g2) D σ H):zo (tS K W g1) (tS K W g2) D σ H:=by
 obtain ⟨He,O,Fs,Γ,E,h⟩:=h;refine ⟨He,O,Fs,Γ,E,?_⟩
 unfold ay at h
 cases e:g1 Γ with
 | nx Γ'=>rw [e] at h;exact fun σ' H' Fs' E'=>⟨He,O,Fs',Γ',E',h⟩
 | bk Γ'=>rw [e] at h;exact h
 | ct Γ'=>rw [e] at h;exact h
 | rt p=>rw [e] at h;exact h
 | er c Γ'=>rw [e] at h;exact h
 | no=>rw [e] at h;exact h
theorem ic {k:PV->Ev->fK} {R:VK} (h:tS K W (g9 fa k) D σ H)
  (hk:∀He O Fs Γ1 p v H1 G Fs1,EnvOk K He O Fs H σ Γ1\/True->(∀a∈G,He a=none)->Aft K He O Fs H σ Γ1 p v H1 G Fs1->mW K W He O D (k p Γ1)->R v H1):tE K W fa σ H R:=by
 obtain ⟨He,O,Fs,Γ,E,h⟩:=h;refine ⟨He,O,Fs,Γ,E,?_⟩
 unfold g9 at h
 cases e:fa Γ with
 | ok p Γ1=>rw [e] at h;exact fun v H' G Fs' A=>hk He O Fs Γ1 p v H' G Fs' (.inr trivial) (A.freshG E) A h
 | er c Γ1=>rw [e] at h;exact fun H' Fs' s E'=>h σ H' Fs' E'
 | no=>rw [e] at h;exact h
theorem sE (h:tS K W (b2 ga g1 g2) D σ H):zr (tT K W ga) (tS K W g1) (tS K W g2) D σ H:=by
 obtain ⟨He,O,Fs,Γ,E,h⟩:=h;refine ⟨He,O,Fs,Γ,E,?_⟩
 unfold b2 at h
 cases e:ga Γ with
 | ok b Γ1=>
  rw [e] at h;intro H' Fs' s E' n
  cases b with
  | true=>exact jv ⟨He,O,Fs',Γ1,E',h⟩
  | false=>exact gU ⟨He,O,Fs',Γ1,E',h⟩
 | er c Γ1=>rw [e] at h;exact fun H' Fs' s E'=>h σ H' Fs' E'
 | no=>rw [e] at h;exact h
def ba (f:F1):FS:=g9 f fun p _=>if p.s.isView then (if bw p.d then .rt ⟨.leaf,p.d⟩ else .no) else .rt p
theorem sA (h:tS K W (ba fa) D σ H):CZ (tE K W fa) D σ H:=by
 refine ic h fun He O Fs Γ1 p v H1 G Fs1 _ fr A w=>?_
 obtain ⟨n1,n2,n3⟩:=KO A.env.ndO;have inH:∀a∈G,H1 a≠none:=fun a ha=>A.env.inH a (KH _ (KH _ ha))
 cases hv:p.s.isView with
 | false=>
  have w:mW K W He O D (.rt p):=by simpa [hv] using w
  exact w v H1 G ⟨A.env.same,fr,inH,n1,A.own.perm fun a ha=>KH _ ha,hv⟩
 | true=>
  cases hs:bw p.d with
  | false=>rw [hv,hs] at w;exact w.elim
  | true=>
   have w:mW K W He O D (.rt ⟨.leaf,p.d⟩):=by simpa [hv,hs] using w
   exact w v H1 [] ⟨A.env.same,(fun _ z=>nomatch z),(fun _ z=>nomatch z),nodup_nil,.leaf (A.own.rep.sc hs).rep,rfl⟩
def aC (own:Bool) (i:Nat) (f:F1):FS:=g9 f fun p Γ=>if i<Γ.length then (if own&&!p.s.isView then .nx (Γ.set i (some p)) else if T.coer .leaf p then .nx (Γ.set i (KZ p.d)) else .no) else .no
theorem BL {own:Bool} {i:Nat} (h:tS K W (aC own i fa) D σ H):kl (tE K W fa) (gName i) D σ H:=by
 refine ic h fun He O Fs Γ1 p v H1 G Fs1 _ fr A w=>?_
 show D.nx (σ.set i (some v)) H1
 have w:mW K W He O D (if i<Γ1.length then (if own&&!p.s.isView then .nx (Γ1.set i (some p)) else if T.coer .leaf p then .nx (Γ1.set i (KZ p.d)) else .no) else .no):=w
 by_cases hi:i<Γ1.length
 case neg=>rw [if_neg hi] at w;exact w.elim
 rw [if_pos hi] at w
 cases ho:(own&&!p.s.isView) with
 | true=>
  rw [ho] at w;have hv:p.s.isView=false:=by
   simp only [Bool.and_eq_true,Bool.not_eq_true'] at ho
   exact ho.2
  exact w _ H1 _ (EnvOk.put A.env A.own hv fr hi)
 | false=>
  rw [ho] at w
  cases hc:T.coer .leaf p with
  | false=>rw [hc] at w;exact w.elim
  | true=>
   rw [hc] at w;have o:=A.own.coer (s:=.leaf) (O':=O++Fs1.flatten) hc km fun a ha z=>absurd z (A.disj a ha)
   exact w _ H1 _ (EnvOk.put (G:=[]) (p:=⟨.leaf,p.d⟩) (v:=v) A.go o rfl (fun a ha=>by simp at ha) hi)
def bg (f:F1):FS:=g9 f fun _ Γ=>.nx Γ
theorem vR (h:tS K W (bg fa) D σ H):rX (tE K W fa) D σ H:=
 ic h fun He O Fs Γ1 p v H1 G Fs1 _ fr A w=>w σ H1 Fs1 A.go
theorem va {α:Type} {l:List α} {i:Nat} {x:α} (h:l[i]?=some x):l.set i x=l:=by
 apply ext_getElem?
 intro j;by_cases hj:j=i
 ·subst hj
  rw [getElem?_set_self (KP h).1,h]
 ·rw [getElem?_set_ne (Ne.symm hj)]
def xp (i:Nat) (p:PV) (Γ:Ev):fK:=match Γ[i]? with
 | some (some ⟨.lst s,.list ds⟩)=>if T.coer s p&&decide (ds.length<sizeLine) then .nx (Γ.set i (some ⟨.lst s,.list (ds++[p.d])⟩)) else .no
 | _=>.no
def BI:Option (Option PV)->Bool
 | some (some ⟨.lst _,.list _⟩)=>true
 | _=>false
def fO (i:Nat) (f:F1):FS:=fun Γ=>if BI Γ[i]? then g9 f (xp i) Γ else .no
theorem xo {He H:Hp} {O G:List Addr} {Fs:List (List Addr)} {Γ:Ev} {i:Nat} {s:Sh} {ds:List KY} {p:PV} {v:V} (E:EnvOk K He (G++O) Fs H σ Γ) (o:Own K (G++O++Fs.flatten) H p.s G v p.d) (fr:∀a∈G,He a=none)
  (h:Γ[i]?=some (some ⟨.lst s,.list ds⟩)) (hc:T.coer s p=true) :
  ∃l vs,σ[i]?=some (some (.ref l))/\H l=some (.lst vs)/\vs.length=ds.length/\∃Fs',EnvOk K He O Fs' (bZ H l (.lst (vs++[v]))) σ (Γ.set i (some ⟨.lst s,.list (ds++[p.d])⟩)):=by
 obtain ⟨hv,u,F,h1,E1,o1,sub⟩:=E.move h;have hi:i<Γ.length:=(KP h).1
 cases o1 with
 | @lst _ l vs _ Fs0 hsv hp hl hf nd q=>
  refine ⟨l,vs,h1,hp,hl,Fs.set i (l::(Fs0++[aP s G]).flatten),?_⟩
  have hlF:l∈Fs.flatten:=sub l (KH _ mem_cons_self)
  have hHe:He l=none:=E.fresh l hlF
  have hG':∀a∈aP s G,a∈G:=fun a ha=>EY ha
  obtain ⟨k1,k2,k3⟩:=KO E1.ndO;obtain ⟨g1,g2,g3⟩:=KO k2;have ndk:(aP s G).Nodup:=by
   cases s<;>first | exact nodup_nil | exact g1
  have pmO:((l::(Fs0++[aP s G]).flatten)++O).Perm ((l::Fs0.flatten)++(aP s G++O)):=by
   rw [qZ];show (l::((Fs0.flatten++aP s G)++O)).Perm (l::(Fs0.flatten++(aP s G++O)))
   rw [append_assoc]
  have E2:EnvOk K He ((l::Fs0.flatten)++(aP s G++O)) (Fs.set i []) H σ (Γ.set i none):=E1.drop (fun a ha=>by
   rcases KI ha with z | z
   ·exact KH _ z
   ·refine KG _ ?_
    rcases KI z with z | z
    ·exact KH _ (hG' a z)
    ·exact KG _ z) (List.nodup_append.mpr ⟨k1,List.nodup_append.mpr ⟨ndk,g2,fun a ha b hb=>g3 a (hG' a ha) b hb⟩,fun a ha b hb=>k3 a ha b (by
     rcases KI hb with z | z
     ·exact KH _ (hG' b z)
     ·exact KG _ z)⟩)
  have E3:=E2.perm pmO
  have hlin:l∈(l::(Fs0++[aP s G]).flatten)++O:=mem_cons_self
  have E4:=E3.mutO (o:=.lst (vs++[v])) hlin hp hHe
  have lnG:l∉G:=fun z=>k3 l mem_cons_self l (KH _ z) rfl
  have subH:∀a∈(l::(Fs0++[aP s G]).flatten)++O++(Fs.set i []).flatten,a∈(l::Fs0.flatten)++(G++O)++(Fs.set i []).flatten:=fun a ha=>by
   rcases KI ha with z | z
   ·refine KH _ ?_
    rcases KI (pmO.mem_iff.mp z) with y | y
    ·exact KH _ y
    ·refine KG _ ?_
     rcases KI y with y | y
     ·exact KH _ (hG' a y)
     ·exact KG _ y
   ·exact KG _ z
  have ownL:Own K ((l::(Fs0++[aP s G]).flatten)++O++(Fs.set i []).flatten) (bZ H l (.lst (vs++[v]))) (.lst s) (l::(Fs0++[aP s G]).flatten) (.ref l) (.list (ds++[p.d])):=by
   refine .lst hsv gr (by simp [hl]) (by simp [hf]) ?_ fun j w d' G' e1 e2 e3=>?_
   ·have nd2:=E3.ndO
    exact (KO nd2).1
   ·by_cases hj:j<vs.length
    ·rw [getElem?_append_left hj] at e1
     rw [getElem?_append_left (by omega)] at e2
     rw [getElem?_append_left (by omega)] at e3
     exact ((q j w d' G' e1 e2 e3).perm subH).mut hsv (KH _ hlin) (fun z=>(List.nodup_cons.mp nd).1 (kS e3 z)) hp
    ·have hj':j=vs.length:=by
      have:=(KP e1).1
      rw [length_append,length_singleton] at this;omega
     subst hj'
     rw [getElem?_append_right (KW _),Nat.sub_self] at e1;rw [getElem?_append_right (by omega),show vs.length-ds.length=0 by omega] at e2
     rw [getElem?_append_right (by omega),show vs.length-Fs0.length=0 by omega] at e3
     cases e1
     cases e2
     cases e3;have osub:∀a∈(l::(Fs0++[aP s G]).flatten)++O++(Fs.set i []).flatten,a∈G++O++Fs.flatten:=fun a ha=>by
      rcases KI (subH a ha) with z | z
      ·rcases KI z with z | z
       ·exact KG _ (sub a (KH _ z))
       ·exact KH _ z
      ·exact KG _ (sub a (KG _ z))
     have o3:=o.coer (s:=s) hc osub fun a ha hO=>by
      cases s with
      | leaf=>
       exfalso
       rw [qZ] at hO;have hO':a∈(l::Fs0.flatten)++O++(Fs.set i []).flatten:=by simpa [aP] using hO
       have ndE:=E.nd
       rw [append_assoc] at ndE;have dis:=(KO ndE).2.2
       rcases KI hO' with z | z
       ·rcases KI z with z | z
        ·exact dis a ha a (KG _ (sub a (KH _ z))) rfl
        ·exact dis a ha a (KH _ z) rfl
       ·exact dis a ha a (KG _ (sub a (KG _ z))) rfl
      | view=>cases hsv
      | lst s=>exact ha
      | tup ss=>exact ha
     exact o3.mut hsv (KH _ hlin) (fun z=>lnG (hG' l z)) hp
  have fin:=EnvOk.put (i:=i) (p:=⟨.lst s,.list (ds++[p.d])⟩) (v:=.ref l) E4 ownL rfl (fun a ha=>?_) (by rw [length_set];exact hi)
  ·rw [set_set,set_set,va h1] at fin
   exact fin
  ·rcases KJ ha with z | z
   ·rw [z];exact hHe
   ·rw [qZ] at z
    rcases KI z with z | z
    ·exact E.fresh a (sub a (KH _ (KN _ z)))
    ·exact fr a (hG' a z)
theorem Ez {QL:List V->Hp->Prop} (h1:tE K W fa σ H fun v H'=>QL [v] H'):tA K W (ae fa ah) σ H QL:=by
 obtain ⟨He,O,Fs,Γ,E,h1⟩:=h1;refine ⟨He,O,Fs,Γ,E,?_⟩
 unfold ae ah
 cases e:fa Γ with
 | ok p Γ'=>
  rw [e] at h1;intro vs H' Gs Fs' A
  match vs,Gs,A.len1,A.len2 with
  | [v],[G],_,_=>exact h1 v H' G Fs' ⟨A.same,by simpa using A.env,by simpa using A.new,by simpa using A.own 0 v p G rfl rfl rfl⟩
 | er c Γ'=>rw [e] at h1;exact h1
 | no=>rw [e] at h1;exact h1
theorem qg {o:Option (Option PV)} (h:BI o=true):∃s ds,o=some (some ⟨.lst s,.list ds⟩):=by
 unfold BI at h;split at h
 ·exact ⟨_,_,rfl⟩
 ·cases h
theorem EnvOk.ownL {He H:Hp} {O:List Addr} {Fs:List (List Addr)} {Γ:Ev} {i:Nat} {s:Sh} {ds:List KY} (E:EnvOk K He O Fs H σ Γ) (h:Γ[i]?=some (some ⟨.lst s,.list ds⟩)):∃l vs,σ[i]?=some (some (.ref l))/\H l=some (.lst vs)/\vs.length=ds.length:=by
 obtain ⟨hv,v,F,h1,h2,h3⟩:=E.slot i _ h
 cases h3 with
 | @lst _ l vs _ Fs0 hsv hp hl hf nd q=>exact ⟨l,vs,h1,hp,hl⟩
theorem pN {i:Nat} (h:tS K W (fO i fa) D σ H):rX (zt K "list" oF (fS i) (tA K W (ae fa ah))) D σ H:=by
 obtain ⟨He,O,Fs,Γ,E,h⟩:=h;unfold fO at h
 cases ho:BI Γ[i]? with
 | false=>rw [ho] at h;exact h.elim
 | true=>
  rw [ho] at h;obtain ⟨s,ds,e0⟩:=qg ho;obtain ⟨l,vs,h1,h2,h3⟩:=E.ownL e0;refine ⟨.ref l,h1,.inl ⟨rfl,vs,.of h2⟩,Ez (ic (D:=D) ⟨He,O,Fs,Γ,E,h⟩ fun He O Fs Γ1 p v H1 G Fs1 _ fr A w=>?_)⟩
  unfold xp at w;split at w
  ·rename_i s1 ds1 e1
   cases hc:(T.coer s1 p&&decide (ds1.length<sizeLine)) with
   | false=>rw [hc] at w;exact w.elim
   | true=>
    rw [hc] at w;simp only [Bool.and_eq_true,decide_eq_true_eq] at hc
    obtain ⟨l1,vs1,q1,q2,q3,Fs',E'⟩:=xo A.env A.own fr e1 hc.1;rw [h1] at q1
    cases q1;exact ⟨l,vs1,v,rfl,rfl,q2,by rw [q3];exact hc.2,w σ _ Fs' E'⟩
  ·exact w.elim
def dw (i:Nat) (body:FS):List KY->Ev->fK
 | [],Γ=>.nx Γ
 | d::r,Γ=>if i<Γ.length then (match body (Γ.set i (KZ d)) with
  | .nx Γ'=>dw i body r Γ'
  | .ct Γ'=>dw i body r Γ'
  | .bk Γ'=>.nx Γ'
  | .rt p=>.rt p
  | .er c Γ'=>.er c Γ'
  | .no=>.no) else .no
def fI (i:Nat) (fi:FI) (body:FS):FS:=fun Γ=>match fi Γ with
 | .ok t Γ1=>if t.st then dw i body t.ds Γ1 else .no
 | .er c Γ1=>.er c Γ1
 | .no=>.no
theorem EnvOk.rebase {He H:Hp} {O:List Addr} {Fs:List (List Addr)} {Γ:Ev} (E:EnvOk K He O Fs H σ Γ):EnvOk K (du H Fs.flatten) O Fs H σ Γ/\Same He (du H Fs.flatten):=
 ⟨⟨E.len1,E.len2,hid_le,E.nd,E.inH,fun a ha=>by unfold du;rw [if_pos ha],E.slot⟩,fun b o e=>EF (E.same b o e) fun z=>by have:=E.fresh b z;rw [e] at this;cases this⟩
theorem EnvOk.unbase {He He' H:Hp} {O:List Addr} {Fs:List (List Addr)} {Γ:Ev} (E:EnvOk K He' O Fs H σ Γ) (s:Same He He'):EnvOk K He O Fs H σ Γ:=
 ⟨E.len1,E.len2,s.trans E.same,E.nd,E.inH,fun a ha=>s.free (E.fresh a ha),E.slot⟩
theorem RetOk.unbase {He He' H:Hp} {O G:List Addr} {p:PV} {v:V} (r:RetOk K He' O p v H G) (s:Same He He'):RetOk K He O p v H G:=
 ⟨s.trans r.same,fun a ha=>s.free (r.fresh a ha),r.inH,r.nd,r.own,r.nv⟩
theorem zR {i:Nat} {fi:FI} {body:FS} (h:tS K W (fI i fi body) D σ H):C4 (tI K W fi) (gName i) (tS K W body) D σ H:=by
 obtain ⟨He,O,Fs,Γ,E,h⟩:=h;refine ⟨He,O,Fs,Γ,E,?_⟩
 unfold fI at h
 cases e:fi Γ with
 | er c Γ1=>rw [e] at h;exact fun H' Fs' s E'=>h σ H' Fs' E'
 | no=>rw [e] at h;exact h
 | ok t Γ1=>
  rw [e] at h;intro J H1 Fs1 vs P s1 E1 n1 it hP hP1 hst hr;have h:mW K W He O D (if t.st then dw i body t.ds Γ1 else .no):=h
  cases ht:t.st with
  | false=>rw [ht] at h;exact h.elim
  | true=>
   rw [ht] at h;have h:mW K W He O D (dw i body t.ds Γ1):=h
   obtain ⟨E1',sHe⟩:=E1.rebase;have hlen:vs.length=t.ds.length:=hr.1
   refine ⟨fun k m σ' H'=>m=vs.length-k/\k<=vs.length/\∃Γk Fk,EnvOk K (du H1 Fs1.flatten) O Fk H' σ' Γk/\mW K W He O D (dw i body (t.ds.drop k) Γk),⟨vs.length,by simp,Nat.zero_le _,Γ1,Fs1,E1',by simpa using h⟩,?_⟩
   rintro k m σ' H' ⟨rfl,hk,Γk,Fk,Ek,hw⟩
   have hPk:P H':=hst ht H' Ek.same
   by_cases hlt:k<vs.length
   case neg=>
    left
    have hke:k=vs.length:=by omega
    have:t.ds.drop k=[]:=drop_eq_nil_of_le (by omega)
    rw [this] at hw;exact ⟨by rw [hke];exact it.stop H' hPk,hw σ' H' Fk (Ek.unbase sHe)⟩
   case pos=>
    right
    have hv:vs[k]?=some vs[k]:=KL hlt
    have hkd:k<t.ds.length:=by omega
    have hd:t.ds[k]?=some t.ds[k]:=KL hkd
    have hdr:t.ds.drop k=t.ds[k]::t.ds.drop (k+1):=drop_eq_getElem_cons hkd
    rw [hdr] at hw;generalize hdk:t.ds[k]=d at hd hw
    generalize hvk:vs[k]=v at hv
    obtain ⟨hgo,hyld⟩:=it.go k H' v hPk hv
    simp only [dw] at hw
    by_cases hi:i<Γk.length
    case neg=>rw [if_neg hi] at hw;exact hw.elim
    rw [if_pos hi] at hw;have rep:Rep K (du H' (O++Fk.flatten)) v d:=by
     refine (hr.2 k v d hv hd).mono fun b o hb=>?_
     have hb1:du H1 Fs1.flatten b=some o:=sub_hid b o hb
     have hbO:b∉O:=fun z=>by
      unfold du at hb;rw [if_pos (KH _ z)] at hb
      cases hb
     have hbF:b∉Fk.flatten:=fun z=>by
      have:=Ek.fresh b z
      rw [hb1] at this
      cases this
     exact EF (Ek.same b o hb1) fun z=>(KI z).elim hbO hbF
    have Ep:EnvOk K (du H1 Fs1.flatten) O (Fk.set i []) H' (σ'.set i (some v)) (Γk.set i (KZ d)):=
     EnvOk.put (G:=[]) (p:=⟨.leaf,d⟩) (v:=v) Ek (.leaf rep) rfl (fun a ha=>by simp at ha) hi
    refine ⟨hgo,fun σ2 H2=>∃Γk Fk,EnvOk K (du H1 Fs1.flatten) O Fk H2 σ2 Γk/\mW K W He O D (dw i body (t.ds.drop (k+1)) Γk),fun σ2 H2 q=>⟨vs.length-(k+1),by omega,rfl,hlt,q⟩,fun x Hx hx=>?_⟩
    obtain ⟨rfl,rfl⟩:=hyld x Hx hx;show tS K W body _ (σ'.set i (some x)) Hx
    refine ⟨du H1 Fs1.flatten,O,_,_,Ep,?_⟩
    cases eb:body (Γk.set i (KZ d)) with
    | nx Γ'=>rw [eb] at hw;exact fun σ2 H2 F2 E2=>⟨Γ',F2,E2,hw⟩
    | ct Γ'=>rw [eb] at hw;exact fun σ2 H2 F2 E2=>⟨Γ',F2,E2,hw⟩
    | bk Γ'=>rw [eb] at hw;exact fun σ2 H2 F2 E2=>hw σ2 H2 F2 (E2.unbase sHe)
    | rt p=>rw [eb] at hw;exact fun u H2 G r=>hw u H2 G (r.unbase sHe)
    | er c Γ'=>rw [eb] at hw;exact fun σ2 H2 F2 E2=>hw σ2 H2 F2 (E2.unbase sHe)
    | no=>rw [eb] at hw;exact hw
end
inductive Res where
 | ok (p:PV) | er (c:Str) | no
def pG (K:Fg) (n:Nat) (den:List KY->Res):Sp:=fun vs H Q _=>vs.length=n/\∃O ds,O.Nodup/\(∀a∈O,H a≠none)/\Reps K (du H O) vs ds/\match den ds with
 | .ok p=>∀v H' G,RetOk K H O p v H' G->Q v H'
 | .er _=>False
 | .no=>False
def aV (n:Nat) (ds:List KY):Ev:=ds.map (fun d=>some ⟨.leaf,d⟩)++List.replicate (n-ds.length) none
def aH (n:Nat) (g:FS) (ds:List KY):Res:=match g (aV n ds) with
 | .nx _=>.ok ⟨.leaf,.none⟩
 | .rt p=>.ok p
 | .er c _=>.er c
 | _=>.no
section
variable {P:Program} {w:World} {K:Fg} {mg:Str->Option Value} {base:Heap}
theorem j3 {N:List Str} {H:Hp} {O:List Addr} {vs:List V} {ds:List KY} (hn:vs.length<=N.length) (nd:O.Nodup) (inH:∀a∈O,H a≠none) (rs:Reps K (du H O) vs ds) :
  EnvOk K H O (List.replicate N.length []) H (L2.start N vs) (aV N.length ds):=by
 have fl:(List.replicate N.length ([]:List Addr)).flatten=[]:=by simp
 have hl:=rs.1
 refine ⟨by simp [L2.start,aV,hl],by simp [aV];omega,Same.refl _,by rw [fl];simpa using nd,by rw [fl];simpa using inH,fun a ha=>by rw [fl] at ha;simp at ha,fun i p hp=>?_⟩
 unfold aV at hp;by_cases hi:i<ds.length
 ·rw [getElem?_append_left (by simpa using hi),getElem?_map,KL hi] at hp
  cases hp;refine ⟨rfl,vs[i]'(by omega),[],?_,?_,?_⟩
  ·unfold L2.start
   rw [getElem?_append_left (by simp;omega),getElem?_map,KL (by omega)]
   rfl
  ·rw [getElem?_replicate,if_pos (by omega)]
  ·refine .leaf ?_
   rw [fl,append_nil];exact rs.2 i _ _ (KL _) (KL hi)
 ·rw [getElem?_append_right (by simpa using hi),getElem?_replicate] at hp
  split at hp<;>cases hp
theorem ur {x qual:Str} {st:Stmt} {f:Addr} {fd:FuncData} {N ps:List Str} {k:Nat} {g:FS} (F:Fun K x qual st f fd) (S:dW N ps (g6 st))
  (hb:∀(cdv:Value) (A:Around) (outer:List Env) (s:Shared) (H:Hp) (E:XK),Room k (A.deeper (envOfC qual (g6 st) s.heap.objs.size f cdv)) ->
   PSs (eX kR P w K mg base N qual (g6 st) f cdv A outer s H E).nox (pj st) (tS K W0 g)):dO P w K mg base kR (k+1) f fd ps (pG K ps.length (aH N.length g)):=by
 have hpl:ps.length<=N.length:=by have:=congrArg List.length S.pre;rw [length_take] at this;omega
 refine F.ok S (fun vs H Q E h=>h.1) (fun cdv A outer s H vs Q E hr h=>⟨_,hb cdv A outer s H E hr,?_⟩)
 obtain ⟨hl,O,ds,nd,inH,rs,w⟩:=h;refine ⟨H,O,List.replicate N.length [],aV N.length ds,j3 (by omega) nd inH rs,?_⟩
 unfold aH at w
 cases e:g (aV N.length ds) with
 | nx Γ'=>
  rw [e] at w;exact fun σ' H' Fs' E'=>w .non H' [] ⟨E'.same,(fun _ z=>nomatch z),(fun _ z=>nomatch z),nodup_nil,.leaf .non,rfl⟩
 | rt p=>rw [e] at w;exact w
 | bk Γ'=>rw [e] at w;exact w.elim
 | ct Γ'=>rw [e] at w;exact w.elim
 | er c Γ'=>rw [e] at w;exact w.elim
 | no=>rw [e] at w;exact w.elim
end
def av (n:Nat) (den:List KY->Res) (fl:FL):F1:=fun Γ=>(fl Γ).bind fun ps Γ'=>if ps.length=n then (match den (ps.map (·.d)) with
 | .ok p=>if ps.all (T.coer .leaf) then .ok p Γ' else if bw p.d then .ok ⟨.leaf,p.d⟩ Γ' else .ok ⟨.view,p.d⟩ Γ'
 | _=>.no) else .no
section
variable {K:Fg} {W:XW} {σ:St} {H:Hp} {Q:VK} {fl:FL}
theorem vS {n:Nat} {den:List KY->Res} {E:XK} (h:tE K W (av n den fl) σ H Q):rZ (pG K n den) [] E (tA K W fl) σ H Q:=by
 obtain ⟨He,O,Fs,Γ,E0,h⟩:=h;refine ⟨He,O,Fs,Γ,E0,?_⟩
 unfold av at h
 cases e:fl Γ with
 | er c Γ'=>rw [e] at h;exact h
 | no=>rw [e] at h;exact h
 | ok ps Γ1=>
  rw [e] at h;intro vs H1 Gs Fs1 A;have h:Wants K W He O Fs H σ Q (if ps.length=n then (match den (ps.map (·.d)) with | .ok p=>if ps.all (T.coer .leaf) then .ok p Γ1 else if bw p.d then .ok ⟨.leaf,p.d⟩ Γ1 else .ok ⟨.view,p.d⟩ Γ1 | _=>.no) else .no):=h
  by_cases hn:ps.length=n
  case neg=>rw [if_neg hn] at h;exact h.elim
  rw [if_pos hn] at h;have hl:(vs++[]).length=n:=by rw [append_nil,A.len1];exact hn
  cases ed:den (ps.map (·.d)) with
  | er c=>rw [ed] at h;exact h.elim
  | no=>rw [ed] at h;exact h.elim
  | ok p=>
   rw [ed] at h;have h:Wants K W He O Fs H σ Q (if ps.all (T.coer .leaf) then .ok p Γ1 else if bw p.d then .ok ⟨.leaf,p.d⟩ Γ1 else .ok ⟨.view,p.d⟩ Γ1):=h
   obtain ⟨n1,n2,n3⟩:=KO A.env.nd;obtain ⟨m1,m2,m3⟩:=KO n1;have newF:∀a∈Fs1.flatten,a∈Fs.flatten\/H a=none:=fun a ha=>A.new a (KG _ ha)
   cases hc:ps.all (T.coer .leaf) with
   | true=>
    rw [hc] at h;have h:Wants K W He O Fs H σ Q (.ok p Γ1):=h
    refine ⟨hl,O++Fs1.flatten,ps.map (·.d),A.env.dropL.nd,A.env.dropL.inH,?_,?_⟩
    ·rw [append_nil]
     refine ⟨A.reps.1,fun i v d h1 h2=>?_⟩
     rw [getElem?_map] at h2
     cases e2:ps[i]? with
     | none=>rw [e2] at h2;cases h2
     | some q=>
      rw [e2] at h2
      cases h2;have hi:=(KP e2).1
      have e3:Gs[i]?=some (Gs[i]'(by rw [A.len2];exact hi)):=KL _
      have o:=A.own i v q _ h1 e2 e3
      have o2:=o.coer (s:=.leaf) (O':=O++Fs1.flatten) (List.all_eq_true.mp hc q (mem_of_getElem? e2)) km fun a ha z=>by
       exfalso
       have hG:=kS e3 ha
       rcases KI z with y | y
       ·exact m3 a hG a y rfl
       ·exact n3 a (KH _ hG) a y rfl
      cases o2 with
      | leaf r=>exact r
    ·rw [ed]
     intro v H2 G r;refine h v H2 G Fs1 ⟨A.same.trans r.same,A.env.dropL.hide r.same r.nd r.fresh r.inH,fun a ha=>?_,by rw [append_assoc];exact r.own⟩
     rcases KI ha with z | z
     ·exact .inr (A.same.free (r.fresh a z))
     ·exact newF a z
   | false=>
    rw [hc] at h;have h:Wants K W He O Fs H σ Q (if bw p.d then .ok ⟨.leaf,p.d⟩ Γ1 else .ok ⟨.view,p.d⟩ Γ1):=h
    refine ⟨hl,[],ps.map (·.d),nodup_nil,(fun _ z=>nomatch z),by rw [append_nil,Cu];exact A.reps,?_⟩
    rw [ed];intro v H2 G r
    cases hs:bw p.d with
    | true=>
     rw [hs] at h;exact Wants.scal h (r.own.rep.sc hs) (A.same.trans r.same) (A.env.dropL.grow r.same) (fun a ha=>ha) E0.ndO newF
    | false=>
     rw [hs] at h;have h:Wants K W He O Fs H σ Q (.ok ⟨.view,p.d⟩ Γ1):=h
     exact h v H2 [] Fs1 ⟨A.same.trans r.same,by simpa using A.env.dropL.grow r.same,by simpa using newF,.view r.own.rep⟩
end
theorem DZ:bootBuiltins "len"=some (.builtin "len"):=by decide +kernel
theorem D3:bootBuiltins "all"=some (.builtin "all"):=by decide +kernel
theorem D2:bootBuiltins "any"=some (.builtin "any"):=by decide +kernel
theorem gj:bootBuiltins "isinstance"=some (.builtin "isinstance"):=by decide +kernel
theorem D1:bootBuiltins "int"=some (.type "int"):=by decide +kernel
theorem uK:bootBuiltins "list"=some (.type "list"):=by decide +kernel
section
variable {X:Cx} {W:XW} {a b c e:Expr} {es:List Expr} {pos:Pos} {fa fb fc:F1} {fl:FL} {ga gb:FB} {g1 g2:FS}
theorem Bt {op:CmpOp} {r:R2} {g:KY->KY->Option KY} (ho:OpR X (compareOp op) r) (hg:GOp X.K r g) (ha:PE X a (tE X.K W fa)) (hb:PE X b (tE X.K W fb)) (hm:behindInMarks op b=false:=by with_unfolding_all rfl) :
  PE X (.Compare a [op] [b] pos) (tE X.K W (aD g fa fb)):=bc (wa ho ha hb hm) fun _ _ _=>gD hg
theorem Bp {op:CmpOp} {r:R2} {g:KY->KY->Option KY} (ho:OpR X (compareOp op) r) (hg:GOp X.K r g) (ha:PE X a (tE X.K W fa)) (hb:PE X b (tE X.K W fb)) (hm:behindInMarks op b=false:=by with_unfolding_all rfl) :
  PT X (.Compare a [op] [b] pos) (tT X.K W (aR aA (aD g fa fb))):=kh (v5 ho ha hb hm) fun σ H QB=>ou fun Q=>gD hg
theorem uD {op op':CmpOp} {r r':R2} {g g':KY->KY->Option KY} (ho:OpR X (compareOp op) r) (hg:GOp X.K r g) (ho':OpR X (compareOp op') r') (hg':GOp X.K r' g') (ha:PE X a (tE X.K W fa)) (hb:PE X b (tE X.K W fb)) (hc:PE X c (tE X.K W fc))
  (hm:lastMarks [op,op'] [b,c]=false:=by with_unfolding_all rfl):PE X (.Compare a [op,op'] [b,c] pos) (tE X.K W (mX g g' fa fb fc)):=bc (tu ho ho' ha hb hc hm) fun _ _ _=>lJ hg hg'
theorem uz {op op':CmpOp} {r r':R2} {g g':KY->KY->Option KY} (ho:OpR X (compareOp op) r) (hg:GOp X.K r g) (ho':OpR X (compareOp op') r') (hg':GOp X.K r' g') (ha:PE X a (tE X.K W fa)) (hb:PE X b (tE X.K W fb)) (hc:PE X c (tE X.K W fc))
  (hm:lastMarks [op,op'] [b,c]=false:=by with_unfolding_all rfl):PT X (.Compare a [op,op'] [b,c] pos) (tT X.K W (aR aA (mX g g' fa fb fc))):=kh (sV ho ho' ha hb hc hm) fun σ H QB=>ou fun Q=>lJ hg hg'
theorem da_nil:PA X [] (tA X.K W ah):=pb BK fun _ _ _=>zI
theorem da_cons (ha:PE X e (tE X.K W fa)) (hr:PA X es (tA X.K W fl)) (hs:starEach (e::es) X.env=(false,eval e X.env)::starEach es X.env:=by rfl):PA X (e::es) (tA X.K W (ae fa fl)):=pb (vb ha hr hs) fun _ _ _=>oy
theorem uE {x:Str} {id:String} {r:List V->Hp->VK->Prop} {g:List KY->Option KY} {p:Pos} (hc:CallR X (.builtin id) r) (hg:GCall X.K r g) (hv:bootBuiltins x=some (.builtin id)) (hm:X.mg x=none) (ha:PA X (e::es) (tA X.K W fl)) (hG:Gl X x:=by rfl)
  (hn:x ≠ "__name__":=by decide) (hdb:(x==("__debug__":Str))=false:=by decide) (he:starEach (e::es) X.env=(false,eval e X.env)::starEach es X.env:=by rfl) (hpl:(backTo pos (starEach es X.env)).any (·.1)=false:=by rfl) :
  PE X (.Call (.Name x p) (e::es) [] pos) (tE X.K W (bG g fl)):=bc (GP hc hG hm hv ha hn hdb he hpl) fun _ _ _=>sH hg
theorem DT {x:Str} {id:String} {r:List V->Hp->VK->Prop} {g:List KY->Option KY} {p:Pos} (hc:CallR X (.type id) r) (hg:GCall X.K r g) (hv:bootBuiltins x=some (.type id)) (hm:X.mg x=none) (ha:PA X (e::es) (tA X.K W fl)) (hG:Gl X x:=by rfl)
  (hn:x ≠ "__name__":=by decide) (hdb:(x==("__debug__":Str))=false:=by decide) (he:starEach (e::es) X.env=(false,eval e X.env)::starEach es X.env:=by rfl) (hpl:(backTo pos (starEach es X.env)).any (·.1)=false:=by rfl) :
  PE X (.Call (.Name x p) (e::es) [] pos) (tE X.K W (bG g fl)):=bc (jQ hc hG hm hv ha hn hdb he hpl) fun _ _ _=>sH hg
theorem qB {p:Pos} (hm:X.mg "list"=none) (ha:PE X e (tE X.K W fa)) (hG:Gl X "list":=by rfl) (hs:starEach [e] X.env=[(false,eval e X.env)]:=by rfl) :
  PE X (.Call (.Name "list" p) [e] [] pos) (tE X.K W (rq fa)):=bc (jQ kO hG hm uK (da_cons ha da_nil hs) (by decide) (by decide) hs rfl) fun _ _ _=>pM
theorem xf {f:Addr} {fd:FuncData} {ps:List Str} {k n:Nat} {den:List KY->Res} {x:Str} {p:Pos} (F:dO X.prog X.w X.K X.mg X.base kR k f fd ps (pG X.K n den)) (hr:Room k X.A) (hm:X.mg x=some (.ref f)) (hk:PySem.W.keepIn X.K (.ref f)=true)
  (hb:Binds X.K fd ps []) (ha:PA X (e::es) (tA X.K W fl)) (hg:Gl X x:=by rfl) (hdb:(x==("__debug__":Str))=false:=by decide) (he:starEach (e::es) X.env=(false,eval e X.env)::starEach es X.env:=by rfl)
  (hpl:(backTo pos (starEach es X.env)).any (·.1)=false:=by rfl):PE X (.Call (.Name x p) (e::es) [] pos) (tE X.K W (av n den fl)):=bc (oP F hr hg hm hk hb .nil yg ha hdb he hpl) fun _ _ _=>vS
theorem DS {tg:Expr} {p:Pos} (hm:X.mg "range"=none) (ha:PA X [a] (tA X.K W fl)) (hg:Gl X "range":=by rfl) (hs:starEach [a] X.env=[(false,eval a X.env)]:=by rfl):PI X tg (.Call (.Name "range" p) [a] [] pos) (tI X.K W (fM fl)):=mV (pU hg hm ha hs) fun _ _ _=>zP
theorem DR {tg:Expr} {p:Pos} (hm:X.mg "range"=none) (ha:PA X [a,b] (tA X.K W fl)) (hg:Gl X "range":=by rfl) (hs:starEach [a,b] X.env=[(false,eval a X.env),(false,eval b X.env)]:=by rfl) (hs2:starEach [b] X.env=[(false,eval b X.env)]:=by rfl) :
  PI X tg (.Call (.Name "range" p) [a,b] [] pos) (tI X.K W (yo fl)):=mV (pT hg hm ha hs hs2) fun _ _ _=>zO
def aL:FB:=fun Γ=>.ok true Γ
theorem xc {scope:Scope} {x:Str} {px:Pos} {iter elt:Expr} {ifs:List Expr} {fi:FI} {fe:F1} {fc:FB} (s:Sh) (i:Nat) (S:dG X.N [i] X.env.scope scope) (hN:X.N.Nodup) (hi':PI X (.Name x px) iter (tI X.K W fi))
  (hc:∀cells C s₀ H₀ ex,PF (blk X scope cells C s₀ H₀ ex) ifs (tT X.K W0 fc)) (he:∀cells C s₀ H₀ ex,PE (blk X scope cells C s₀ H₀ ex) elt (tE X.K W0 fe))
  (hcalm:X.calm=true:=by rfl) (hx:X.N[i]?=some x:=by rfl) (hl:∀cells C s₀ H₀ ex,Loc (blk X scope cells C s₀ H₀ ex).env.scope x:=by first | exact fun _ _ _ _ _=>Or.inl rfl | exact fun _ _ _ _ _=>Or.inr rfl)
  (hf:∀cells C s₀ H₀ ex,(blk X scope cells C s₀ H₀ ex).fn x=true\/(blk X scope cells C s₀ H₀ ex).env.scope.names.lookup x=some .local:=by first | exact fun _ _ _ _ _=>Or.inr rfl | exact fun _ _ _ _ _=>Or.inl rfl)
  (hs:∀x,foldedSetIterable iter X.env x=pure x:=by intro _;rfl):PE X (.ListComp elt [⟨.Name x px,iter,ifs,0⟩] scope pos) (tE X.K W (aE s i fi fc fe)):=
 bc (oO S hcalm hi' (fun cells C s₀ H₀ ex=>qX (X:=blk X scope cells C s₀ H₀ ex) (i:=i) hN hx (hl cells C s₀ H₀ ex) (hf cells C s₀ H₀ ex)) hc he hs) fun _ _ _=>oz
theorem Bq (own:Bool) (i:Nat) {x:Str} {pos':Pos} (hN:X.N.Nodup) (ha:PE X a (tE X.K W fa)) (hi:X.N[i]?=some x:=by rfl) (hx:Loc X.env.scope x:=by first | exact Or.inl rfl | exact Or.inr rfl) (hs:swapsWith a (some (.Name x pos')) pos.line X.env=pure false:=by rfl)
  (hf:X.fn x=true\/X.env.scope.names.lookup x=some .local:=by first | exact .inl rfl | exact .inr rfl):PS X (.Assign [.Name x pos'] a pos) (tS X.K W (aC own i fa)):=cH (Gr hN hi hx ha hs hf) fun _ _ _=>BL
theorem nL (own:Bool) (j:Nat) {scope:Scope} {x y:Str} {px pos' spos:Pos} {iter elt:Expr} {ifs:List Expr} {fi:FI} {fe:F1} {fc:FB} (s:Sh) (i:Nat) (S:dG X.N [i] X.env.scope scope) (hN:X.N.Nodup) (hi':PI X (.Name x px) iter (tI X.K W fi))
  (hc:∀cells C s₀ H₀ ex,PF (blk X scope cells C s₀ H₀ ex) ifs (tT X.K W0 fc)) (he:∀cells C s₀ H₀ ex,PE (blk X scope cells C s₀ H₀ ex) elt (tE X.K W0 fe))
  (hsw:swapsWith (.ListComp elt [⟨.Name x px,iter,ifs,0⟩] scope pos) (some (.Name y pos')) spos.line X.env=pure true:=by rfl)
  (hy:X.N[j]?=some y:=by rfl) (hly:X.env.scope.names.lookup y=some .local:=by rfl)
  (hcalm:X.calm=true:=by rfl) (hx:X.N[i]?=some x:=by rfl) (hl:∀cells C s₀ H₀ ex,Loc (blk X scope cells C s₀ H₀ ex).env.scope x:=by first | exact fun _ _ _ _ _=>Or.inl rfl | exact fun _ _ _ _ _=>Or.inr rfl)
  (hf:∀cells C s₀ H₀ ex,(blk X scope cells C s₀ H₀ ex).fn x=true\/(blk X scope cells C s₀ H₀ ex).env.scope.names.lookup x=some .local:=by first | exact fun _ _ _ _ _=>Or.inr rfl | exact fun _ _ _ _ _=>Or.inl rfl)
  (hs:∀x,foldedSetIterable iter X.env x=pure x:=by intro _;rfl):PS X (.Assign [.Name y pos'] (.ListComp elt [⟨.Name x px,iter,ifs,0⟩] scope pos) spos) (tS X.K W (aC own j (aE s i fi fc fe))):=
 cH (Hr hN hy hly S hcalm hi' (fun cells C s₀ H₀ ex=>qX (X:=blk X scope cells C s₀ H₀ ex) (i:=i) hN hx (hl cells C s₀ H₀ ex) (hf cells C s₀ H₀ ex)) hc he hsw hs) fun D σ H h=>by
  have h2:kl (tE X.K W (aE s i fi fc fe)) (gName j) D σ H:=BL h
  exact oz h2
theorem qu (i:Nat) {x:Str} {p apos cpos:Pos} (ha:PE X a (tE X.K W fa)) (hN:X.N[i]?=some x:=by rfl) (hv:BA X.env.scope x:=by first | exact Or.inl rfl | exact Or.inr (Or.inl rfl) | exact Or.inr (Or.inr rfl)) (hd:(x==("__debug__":Str))=false:=by decide)
  (hcd:(x==("__classdict__":Str))=false:=by decide) (hs:starEach [a] X.env=[(false,eval a X.env)]:=by rfl)
  (hbase:attributeBase (.Name x p) "append" X.env (eval (.Name x p) X.env)=eval (.Name x p) X.env:=by rfl) (hline:(apos.endLine==cpos.line)=true:=by rfl)
  (hfew:((backTo cpos (starEach [a] X.env)).all (fun x=>!x.1)&&(backToKw cpos (keywordEach [] X.env)).all (fun x=>x.1.isSome)
   && decide ([a].length+([]:List Keyword).length+(if ([]:List Keyword).isEmpty then 0 else 1)<30))=true:=by rfl)
  (hsw:swapsWith (.Call (.Attribute (.Name x p) "append" apos) [a] [] cpos) none pos.line X.env=pure false:=by rfl) :
  PS X (.Expr (.Call (.Attribute (.Name x p) "append" apos) [a] [] cpos) pos) (tS X.K W (fO i fa)):=
 cH (oH (jR PySem.F.plainAttrs_list PySem.F.slot_list_append PySem.F.type_list_append jW (qR hN hv hd hcd) (da_cons ha da_nil hs) hbase hfew hline hs rfl) hsw) fun _ _ _=>pN
theorem Br (i:Nat) {x:Str} {px:Pos} {iter:Expr} {body:List Stmt} {fi:FI} {g:FS} (hp:PassesOwn (model X.prog X.w) X.A X.env X.xe) (hN:X.N.Nodup) (hi':PI X (.Name x px) iter (tI X.K W fi)) (hb:PSs X body (tS X.K W g)) (hcalm:X.calm=true:=by rfl)
  (hx:X.N[i]?=some x:=by rfl) (hl:Loc X.env.scope x:=by first | exact Or.inl rfl | exact Or.inr rfl) (hf:X.fn x=true\/X.env.scope.names.lookup x=some .local:=by first | exact .inl rfl | exact .inr rfl)
  (hs:∀x,foldedSetIterable iter X.env x=pure x:=by intro _;rfl):PS X (.For (.Name x px) iter body [] pos) (tS X.K W (fI i fi g)):=
 cH (Ae hp hcalm hi' (qX hN hx hl hf) hb hs) fun _ _ _=>zR
end
structure Cp (X:Cx) (N gl:List Str) (vs cs ls lo gs:List Nat):Prop where
 hN:X.N=N
 nd:N.Nodup
 nm:∀x∈N,(x==("__debug__":Str))=false/\(x==("__classdict__":Str))=false
 ng:∀x∈gl,(x==("__debug__":Str))=false/\x ≠ "__name__"
 vis:∀(i:Nat) x,N[i]?=some x->vs.contains i=true->BA X.env.scope x
 cel:∀(i:Nat) x,N[i]?=some x->cs.contains i=true->X.env.scope.names.lookup x=some .cell\/X.env.scope.names.lookup x=some .free
 loc:∀(i:Nat) x,N[i]?=some x->ls.contains i=true->Loc X.env.scope x/\(X.fn x=true\/X.env.scope.names.lookup x=some .local)
 loo:∀(i:Nat) x,N[i]?=some x->lo.contains i=true->X.env.scope.names.lookup x=some .local
 glb:∀(j:Nat) x,gl[j]?=some x->gs.contains j=true->Gl X x
 calm:X.calm=true
 kind:X.env.scope.kind=.function
def xy (sc:Scope) (ks:List NameKind) (o:Option Str):Bool:=match o with
 | some x=>(match sc.names.lookup x with
  | some k=>ks.any fun z=>decide (z=k)
  | none=>false)
 | none=>true
def m5 (N gl:List Str) (vs cs ls lo gs:List Nat) (sc:Scope):Bool:=
 decide (sc.kind=.function)&&(vs.all fun i=>xy sc [.local,.cell,.free] N[i]?)&&(cs.all fun i=>xy sc [.cell,.free] N[i]?)&&(ls.all fun i=>xy sc [.local,.cell] N[i]?)&&(lo.all fun i=>xy sc [.local] N[i]?)&&(gs.all fun j=>xy sc [.globalImplicit] gl[j]?)
def B7 (N gl:List Str):Bool:=decide N.Nodup&&(N.all fun x=>!(x==("__debug__":Str))&&!(x==("__classdict__":Str)))&&(gl.all fun x=>!(x==("__debug__":Str))&&!decide (x = "__name__"))
theorem B3 {sc:Scope} {ks:List NameKind} {x:Str} (h:xy sc ks (some x)=true):∃k∈ks,sc.names.lookup x=some k:=by
 unfold xy at h;simp only at h
 split at h
 ·rename_i k e
  simp only [any_eq_true,decide_eq_true_eq] at h
  obtain ⟨z,hz,rfl⟩:=h;exact ⟨z,hz,e⟩
 ·cases h
theorem Cg {P:Nat->Bool} {l:List Nat} {i:Nat} (h:l.all P=true) (hi:l.contains i=true):P i=true:=by
 rw [all_eq_true] at h;exact h i (by simpa using hi)
structure KD (N gl:List Str) (vs cs ls lo gs:List Nat) (sc:Scope):Prop where
 kind:sc.kind=.function
 vis:∀(i:Nat) x,N[i]?=some x->vs.contains i=true->BA sc x
 cel:∀(i:Nat) x,N[i]?=some x->cs.contains i=true->sc.names.lookup x=some .cell\/sc.names.lookup x=some .free
 loc:∀(i:Nat) x,N[i]?=some x->ls.contains i=true->Loc sc x
 loo:∀(i:Nat) x,N[i]?=some x->lo.contains i=true->sc.names.lookup x=some .local
 glb:∀(j:Nat) x,gl[j]?=some x->gs.contains j=true->sc.names.lookup x=some .globalImplicit
theorem Ci {N gl:List Str} {vs cs ls lo gs:List Nat} {sc:Scope} (h:m5 N gl vs cs ls lo gs sc=true):KD N gl vs cs ls lo gs sc:=by
 unfold m5 at h;simp only [Bool.and_eq_true,decide_eq_true_eq] at h
 obtain ⟨⟨⟨⟨⟨h0,h1⟩,h2⟩,h3⟩,h4⟩,h5⟩:=h;refine ⟨h0,fun i x e hi=>?_,fun i x e hi=>?_,fun i x e hi=>?_,fun i x e hi=>?_,fun i x e hi=>?_⟩
 ·have q:=Cg h1 hi
  rw [e] at q;obtain ⟨k,hk,q⟩:=B3 q;simp only [mem_cons,not_mem_nil,or_false] at hk
  rcases hk with rfl | rfl | rfl
  ·exact .inl q
  ·exact .inr (.inl q)
  ·exact .inr (.inr q)
 ·have q:=Cg h2 hi
  rw [e] at q;obtain ⟨k,hk,q⟩:=B3 q;simp only [mem_cons,not_mem_nil,or_false] at hk
  rcases hk with rfl | rfl
  ·exact .inl q
  ·exact .inr q
 ·have q:=Cg h3 hi
  rw [e] at q;obtain ⟨k,hk,q⟩:=B3 q;simp only [mem_cons,not_mem_nil,or_false] at hk
  rcases hk with rfl | rfl
  ·exact .inl q
  ·exact .inr q
 ·have q:=Cg h4 hi
  rw [e] at q;obtain ⟨k,hk,q⟩:=B3 q;simp only [mem_cons,not_mem_nil,or_false] at hk
  rw [hk] at q;exact q
 ·have q:=Cg h5 hi
  rw [e] at q;obtain ⟨k,hk,q⟩:=B3 q;simp only [mem_cons,not_mem_nil,or_false] at hk
  rw [hk] at q;exact q
theorem Ew {N gl:List Str} (h:B7 N gl=true):N.Nodup/\(∀x∈N,(x==("__debug__":Str))=false/\(x==("__classdict__":Str))=false)/\∀x∈gl,(x==("__debug__":Str))=false/\x ≠ "__name__":=by
 unfold B7 at h;simp only [Bool.and_eq_true,decide_eq_true_eq,all_eq_true,Bool.not_eq_true',decide_eq_false_iff_not] at h
 exact ⟨h.1.1,h.1.2,h.2⟩
theorem Cp.fn {P:Program} {w:World} {K:Fg} {mg:Str->Option Value} {base:Heap} {N gl:List Str} {vs cs ls lo gs:List Nat} {qual:Str} {sc:Scope} {f:Addr} {cd:Value} {A:Around} {outer:List Env} {s:Shared} {H:Hp} {E:XK}
  (h:m5 N gl vs cs ls lo gs sc=true) (h':B7 N gl=true):Cp (eX kR P w K mg base N qual sc f cd A outer s H E).nox N gl vs cs ls lo gs:=by
 obtain ⟨a,b,c⟩:=Ew h'
 have q:=Ci h
 exact ⟨rfl,a,b,c,q.vis,q.cel,fun i x e hi=>⟨q.loc i x e hi,.inl rfl⟩,q.loo,q.glb,rfl,q.kind⟩
theorem ya {env:Env} {x:Str} {k:NameKind}:∀{names:List (Str×NameKind)},names.lookup x=some k ->
  (names.map fun (n,k)=>if (k==NameKind.free&&env.scope.kind==.function&&env.kindOf n==some .cell) then (n,NameKind.cell) else (n,k)).lookup x=some k \/
  (k=.free/\(names.map fun (n,k)=>if (k==NameKind.free&&env.scope.kind==.function&&env.kindOf n==some .cell) then (n,NameKind.cell) else (n,k)).lookup x=some .cell)
 | [],h=>by simp at h
 | (n,k')::r,h=>by
  have ih:=@ya env x k r
  rw [map_cons];show List.lookup x ((if (k'==NameKind.free&&env.scope.kind==.function&&env.kindOf n==some .cell)=true then (n,NameKind.cell) else (n,k'))::_)=_\/_/\List.lookup x ((if (k'==NameKind.free&&env.scope.kind==.function&&env.kindOf n==some .cell)=true then (n,NameKind.cell) else (n,k'))::_)=_
  by_cases hc:(k'==NameKind.free&&env.scope.kind==.function&&env.kindOf n==some .cell)=true
  ·rw [if_pos hc]
   cases hx:x==n with
   | true=>
    simp only [lookup_cons,hx] at h ⊢
    cases h;simp only [Bool.and_eq_true,beq_iff_eq] at hc
    exact .inr ⟨hc.1.1,trivial⟩
   | false=>
    simp only [lookup_cons,hx] at h ⊢
    exact ih h
  ·rw [if_neg hc]
   cases hx:x==n with
   | true=>
    simp only [lookup_cons,hx] at h ⊢
    cases h;exact .inl rfl
   | false=>
    simp only [lookup_cons,hx] at h ⊢
    exact ih h
theorem u5 {scope:Scope} {env:Env} {x:Str} {k:NameKind} (h:scope.names.lookup x=some k):(relabel scope env).names.lookup x=some k\/(k=.free/\(relabel scope env).names.lookup x=some .cell):=ya h
theorem Cp.blk {X:Cx} {N gl:List Str} {vs cs ls lo gs vs' cs' ls' lo' gs':List Nat} {scope:Scope} (S:Cp X N gl vs cs ls lo gs) (h:m5 N gl vs' cs' ls' lo' gs' scope=true) (cells C s₀ H₀ ex) :
  Cp (blk X scope cells C s₀ H₀ ex) N gl vs' cs' ls' lo' gs':=by
 have q:=Ci h
 refine ⟨S.hN,S.nd,S.nm,S.ng,fun i x e hi=>?_,fun i x e hi=>?_,fun i x e hi=>?_,fun i x e hi=>?_,fun i x e hi=>?_,S.calm,q.kind⟩
 ·show BA (relabel scope X.env) x
  rcases q.vis i x e hi with z | z | z
  ·rcases u5 (env:=X.env) z with y | ⟨y,_⟩
   ·exact .inl y
   ·cases y
  ·rcases u5 (env:=X.env) z with y | ⟨y,_⟩
   ·exact .inr (.inl y)
   ·cases y
  ·rcases u5 (env:=X.env) z with y | ⟨_,y⟩
   ·exact .inr (.inr y)
   ·exact .inr (.inl y)
 ·show (relabel scope X.env).names.lookup x=some .cell\/(relabel scope X.env).names.lookup x=some .free
  rcases q.cel i x e hi with z | z
  ·rcases u5 (env:=X.env) z with y | ⟨y,_⟩
   ·exact .inl y
   ·cases y
  ·rcases u5 (env:=X.env) z with y | ⟨_,y⟩
   ·exact .inr y
   ·exact .inl y
 ·show Loc (relabel scope X.env) x/\((scope.names.any fun y=>y.1==x&&y.2==.cell)=true\/(relabel scope X.env).names.lookup x=some .local)
  rcases q.loc i x e hi with z | z
  ·rcases u5 (env:=X.env) z with y | ⟨y,_⟩
   ·exact ⟨.inl y,.inr y⟩
   ·cases y
  ·rcases u5 (env:=X.env) z with y | ⟨y,_⟩
   ·refine ⟨.inr y,.inl ?_⟩
    rw [any_eq_true];exact ⟨(x,.cell),iD z,by simp⟩
   ·cases y
 ·show (relabel scope X.env).names.lookup x=some .local
  rcases u5 (env:=X.env) (q.loo i x e hi) with y | ⟨y,_⟩
  ·exact y
  ·cases y
 ·show (relabel scope X.env).names.lookup x=some .globalImplicit
  rcases u5 (env:=X.env) (q.glb i x e hi) with y | ⟨y,_⟩
  ·exact y
  ·cases y
def ka (N:List Str) (i:Nat) (cs:List Nat) (sc:Scope):Bool:=
 decide (sc.kind=.function)&&(sc.names.all fun p=>!decide (p.2=.free)||cs.any fun j=>decide (N[j]?=some p.1)) &&
 ((List.range N.length).all fun j=>j==i||(sc.names.all fun p=>!decide (some p.1=N[j]?)||(!decide (p.2=.local)&&!decide (p.2=.cell)))) &&
 (sc.names.all fun p=>!decide (p.2=.local)||decide (sc.names.lookup p.1=some .local)) &&
 (sc.names.all fun p=>!decide (p.2=.free)||sc.names.all fun q=>!decide (q.1=p.1)||!decide (q.2=.cell))
theorem mM {X:Cx} {N gl:List Str} {vs cs ls lo gs:List Nat} {scope:Scope} {i:Nat} (S:Cp X N gl vs cs ls lo gs) (h:ka N i cs scope=true):dG X.N [i] X.env.scope scope:=by
 unfold ka at h;simp only [Bool.and_eq_true,decide_eq_true_eq,all_eq_true,Bool.or_eq_true,Bool.not_eq_true',decide_eq_false_iff_not,any_eq_true,mem_range,beq_iff_eq] at h
 obtain ⟨⟨⟨⟨h0,h1⟩,h2⟩,h3⟩,h4⟩:=h;refine ⟨h0,fun n hn=>?_,fun j x e hj=>?_,fun x hx e=>?_,fun n hn hc=>?_⟩
 ·rcases h1 _ hn with z | ⟨j,hj,e⟩
  ·exact absurd rfl z
  ·exact S.cel j n e (by simpa using hj)
 ·rw [S.hN] at e
  rcases h2 j (KP e).1 with z | z
  ·rw [z];exact List.mem_singleton.mpr rfl
  ·exfalso
   rcases hj with y | y
   ·rcases z _ y with w | w
    ·exact w e.symm
    ·exact w.1 rfl
   ·rcases z _ y with w | w
    ·exact w e.symm
    ·exact w.2 rfl
 ·rcases h3 x hx with z | z
  ·exact absurd e z
  ·exact z
 ·rcases h4 _ hn with z | z
  ·exact z rfl
  ·rcases z _ hc with w | w
   ·exact w rfl
   ·exact w rfl
structure Fx (X Y:Cx):Prop where
 prog:Y.prog=X.prog
 w:Y.w=X.w
 K:Y.K=X.K
 mg:Y.mg=X.mg
 base:Y.base=X.base
 A:Y.A=X.A
def Rm (X:Cx):Prop:=X.A.units+64<cLine
def Ca (X:Cx) (x:Str) (n:Nat) (den:List KY->Res):Prop:=∃(k:Nat) (f:Addr) (fd:FuncData) (ps:List Str),dO X.prog X.w X.K X.mg X.base kR k f fd ps (pG X.K n den)/\Room k X.A/\X.mg x=some (.ref f)/\PySem.W.keepIn X.K (.ref f)=true/\Binds X.K fd ps []
def Con (X:Cx) (x:Str) (d:KY):Prop:=∃u v,X.mg x=some u/\RelV v u/\∀H,Rep X.K H v d
section
variable {X:Cx} {N gl:List Str} {vs cs ls lo gs:List Nat} {W:XW} {a b c e:Expr} {es:List Expr} {pos p:Pos} {fa fb fc:F1} {fl:FL} {ga gb:FB} {g1 g2:FS}
theorem cv (S:Cp X N gl vs cs ls lo gs) (i:Nat) {x:Str} (hN:N[i]?=some x) (hv:vs.contains i=true):PE X (.Name x pos) (tE X.K W (af i)):=by
 have m:=S.nm x (mem_of_getElem? hN)
 exact uC (qR (by rw [S.hN];exact hN) (S.vis i x hN hv) m.1 m.2)
theorem cm (S:Cp X N gl vs cs ls lo gs) (i:Nat) {x:Str} (hN:N[i]?=some x) (hv:vs.contains i=true):PE X (.Name x pos) (tE X.K W (cX i)):=by
 have m:=S.nm x (mem_of_getElem? hN)
 exact xa (qR (by rw [S.hN];exact hN) (S.vis i x hN hv) m.1 m.2)
theorem Cp.g (S:Cp X N gl vs cs ls lo gs) {j:Nat} {x:Str} (hj:gl[j]?=some x) (hg:gs.contains j=true):Gl X x/\(x==("__debug__":Str))=false/\x ≠ "__name__":=
 ⟨S.glb j x hj hg,S.ng x (mem_of_getElem? hj)⟩
def Dj:R2:=fun x y H Q=>oE (fun i j=>.bl (decide (i<j))) x y H Q\/∃i j,x=.str i/\y=.str j/\Q (.bl (decide (i.cps.toList<j.cps.toList))) H
theorem Dv:OpR X (compareOp .Lt) Dj:=op_lt.or pY
def Bh:KY->KY->Option KY
 | .str i,.str j=>some (.bool (!decide (i.cps.toList<j.cps.toList)))
 | _,_=>none
abbrev mv:KY->KY->Option KY:=fun a b=>(Kx a b).or (Bh a b)
def zZ:R2:=fun x y H Q=>oE (fun i j=>.bl (decide (j<=i))) x y H Q\/∃i j,x=.str i/\y=.str j/\Q (.bl (!decide (i.cps.toList<j.cps.toList))) H
theorem pZ:OpR X (compareOp .GtE) (fun x y H Q=>∃i j,x=.str i/\y=.str j/\Q (.bl (!decide (i.cps.toList<j.cps.toList))) H):=by
 intro pins s σ H x y v u Q I rx ry h;obtain ⟨i,j,rfl,rfl,q⟩:=h;obtain ⟨t,rfl⟩:=rx;obtain ⟨t',rfl⟩:=ry;exact PySem.P.ge_str (Eo I q rfl)
theorem Dw:OpR X (compareOp .GtE) zZ:=op_ge.or pZ
theorem wN {K:Fg}:GOp K (fun x y H Q=>∃i j,x=.str i/\y=.str j/\Q (.bl (!decide (i.cps.toList<j.cps.toList))) H) Bh:=by
 intro x y H Q a b d ra rb e k
 cases ra<;>cases rb<;>simp only [Bh] at e<;>try cases e
 rename_i i j;exact ⟨i,j,rfl,rfl,k _ (.bl _)⟩
theorem A7 {K:Fg}:GOp K zZ mv:=(BH fun _ _=>.bl _).or wN
structure Ck (X:Cx) (op:CmpOp) (r:R2) (g:KY->KY->Option KY):Prop where
 o:OpR X (compareOp op) r
 g:GOp X.K r g
theorem iu (R:Rm X):Ck X .Lt Dj eN:=⟨Dv,A6⟩
theorem Dn (R:Rm X):Ck X .LtE (oE fun i j=>.bl (decide (i<=j))) yt:=⟨Dr,BH fun _ _=>.bl _⟩
theorem vW (R:Rm X):Ck X .Gt (oE fun i j=>.bl (decide (j<i))) nG:=⟨Dt,BH fun _ _=>.bl _⟩
theorem IG (R:Rm X):Ck X .GtE zZ mv:=⟨Dw,A7⟩
theorem cS (R:Rm X):Ck X .Eq (pR X.K false) bT:=⟨AA R,A8⟩
theorem ji (R:Rm X):Ck X .NotEq (pR X.K true) fN:=⟨Av R,A5⟩
theorem lO (R:Rm X):Ck X .In (sP X.K false) (cW false):=⟨Az R,um⟩
theorem GX (R:Rm X):Ck X .NotIn (sP X.K true) (cW true):=⟨pX R,um⟩
theorem ct {op:CmpOp} {r:R2} {g:KY->KY->Option KY} (k:Ck X op r g) (ha:PE X a (tE X.K W fa)) (hb:PE X b (tE X.K W fb)) (hm:behindInMarks op b=false):PT X (.Compare a [op] [b] pos) (tT X.K W (aR aA (aD g fa fb))):=Bp k.o k.g ha hb hm
theorem ct2 {op op':CmpOp} {r r':R2} {g g':KY->KY->Option KY} (k:Ck X op r g) (k':Ck X op' r' g') (ha:PE X a (tE X.K W fa)) (hb:PE X b (tE X.K W fb)) (hc:PE X c (tE X.K W fc)) (hm:lastMarks [op,op'] [b,c]=false) :
  PT X (.Compare a [op,op'] [b,c] pos) (tT X.K W (aR aA (mX g g' fa fb fc))):=uz k.o k.g k'.o k'.g ha hb hc hm
theorem cc {x:Str} {n:Nat} {den:List KY->Res} (S:Cp X N gl vs cs ls lo gs) (j:Nat) (hj:gl[j]?=some x) (hg:gs.contains j=true) (C:Ca X x n den) (ha:PA X (e::es) (tA X.K W fl)) (he:starEach (e::es) X.env=(false,eval e X.env)::starEach es X.env) (hpl:(backTo pos (starEach es X.env)).any (·.1)=false) :
  PE X (.Call (.Name x p) (e::es) [] pos) (tE X.K W (av n den fl)):=by
 obtain ⟨k,f,fd,ps,F,hr,hm,hk,hb⟩:=C;exact xf F hr hm hk hb ha (S.g hj hg).1 (S.g hj hg).2.1 he hpl
abbrev lh (X:Cx) (N gl:List Str) (vs cs ls lo gs:List Nat) (R:Cx->Prop):Prop:=∀Y:Cx,Cp Y N gl vs cs ls lo gs->Fx X Y->R Y
theorem co {scope:Scope} {x:Str} {px:Pos} {iter elt:Expr} {ifs:List Expr} {fi:FI} {fe:F1} {fc:FB} {vs' cs' lo' gs':List Nat} (S:Cp X N gl vs cs ls lo gs) (s:Sh) (i:Nat) (hx:N[i]?=some x) (h1:ka N i cs scope=true) (h2:m5 N gl vs' cs' [i] lo' gs' scope=true)
  (hi':PI X (.Name x px) iter (tI X.K W fi)) (hc:lh X N gl vs' cs' [i] lo' gs' fun Y=>PF Y ifs (tT Y.K W0 fc)) (he:lh X N gl vs' cs' [i] lo' gs' fun Y=>PE Y elt (tE Y.K W0 fe)) (hs:∀x,foldedSetIterable iter X.env x=pure x) :
  PE X (.ListComp elt [⟨.Name x px,iter,ifs,0⟩] scope pos) (tE X.K W (aE s i fi fc fe)):=by
 have B:=fun cells C s₀ H₀ ex=>S.blk h2 cells C s₀ H₀ ex
 have L:=fun cells C s₀ H₀ ex=>(B cells C s₀ H₀ ex).loc i x hx (by simp)
 exact xc (X:=X) s i (mM S h1) (by rw [S.hN];exact S.nd) hi' (fun cells C s₀ H₀ ex=>hc _ (B cells C s₀ H₀ ex) ⟨rfl,rfl,rfl,rfl,rfl,rfl⟩) (fun cells C s₀ H₀ ex=>he _ (B cells C s₀ H₀ ex) ⟨rfl,rfl,rfl,rfl,rfl,rfl⟩)
  S.calm (by rw [S.hN];exact hx) (fun cells C s₀ H₀ ex=>(L cells C s₀ H₀ ex).1) (fun cells C s₀ H₀ ex=>(L cells C s₀ H₀ ex).2) hs
theorem Hs {elt:Expr} {gens:List Comprehension} {scope:Scope} {y:Str} {pos':Pos} {line:Nat} (hk:X.env.scope.kind=.function) (hy:X.env.scope.names.lookup y=some .local) (hl:(pos'.line==pos.line)=true)
  (hn:(scope.names.any fun (n,k)=>n==y&&(k==NameKind.local||k==NameKind.cell))=false):swapsWith (.ListComp elt gens scope pos) (some (.Name y pos')) line X.env=pure true:=by
 have e1:(X.env.blockKind==ScopeKind.function)=true:=by unfold Env.blockKind;rw [hk];rfl
 have e2:(X.env.kindOf y==some NameKind.local)=true:=by unfold Env.kindOf;rw [hy];rfl
 show (pure (X.env.blockKind==.function&&X.env.kindOf y==some .local&&pos'.line==pos.line&&!(scope.names.any fun (n,k)=>n==y&&(k==NameKind.local||k==NameKind.cell))):Sem Bool)=pure true
 rw [e1,e2,hl,hn];rfl
theorem lx {elt:Expr} {gens:List Comprehension} {scope:Scope} {y:Str} {pos':Pos} {line:Nat} (hy:X.env.scope.names.lookup y=some .cell\/X.env.scope.names.lookup y=some .free):swapsWith (.ListComp elt gens scope pos) (some (.Name y pos')) line X.env=pure false:=by
 have e2:(X.env.kindOf y==some NameKind.local)=false:=by
  unfold Env.kindOf;rcases hy with hy | hy<;>rw [hy]<;>rfl
 show (pure (X.env.blockKind==.function&&X.env.kindOf y==some .local&&pos'.line==pos.line&&!(scope.names.any fun (n,k)=>n==y&&(k==NameKind.local||k==NameKind.cell))):Sem Bool)=pure false
 rw [e2,Bool.and_false,Bool.false_and,Bool.false_and]
theorem cs_append (S:Cp X N gl vs cs ls lo gs) (i:Nat) {x:Str} {apos cpos:Pos} (hi:N[i]?=some x) (hv:vs.contains i=true) (ha:PE X a (tE X.K W fa)) (hs:starEach [a] X.env=[(false,eval a X.env)])
  (hbase:attributeBase (.Name x p) "append" X.env (eval (.Name x p) X.env)=eval (.Name x p) X.env) (hline:(apos.endLine==cpos.line)=true)
  (hfew:((backTo cpos (starEach [a] X.env)).all (fun x=>!x.1)&&(backToKw cpos (keywordEach [] X.env)).all (fun x=>x.1.isSome)
   && decide ([a].length+([]:List Keyword).length+(if ([]:List Keyword).isEmpty then 0 else 1)<30))=true)
  (hsw:swapsWith (.Call (.Attribute (.Name x p) "append" apos) [a] [] cpos) none pos.line X.env=pure false) :
  PS X (.Expr (.Call (.Attribute (.Name x p) "append" apos) [a] [] cpos) pos) (tS X.K W (fO i fa)):=
 qu i ha (by rw [S.hN];exact hi) (S.vis i x hi hv) (S.nm x (mem_of_getElem? hi)).1 (S.nm x (mem_of_getElem? hi)).2 hs hbase hline hfew hsw
end
def eU (g:KY->Option KY) (fa:F1):F1:=aU fa fun p Γ=>match g p.d with
 | some d=>.ok ⟨.leaf,d⟩ Γ
 | none=>.no
def cU:KY->Option KY
 | .int i=>some (.int (-i))
 | _=>none
def d8 (fa fb:F1):F1:=aU fa fun p=>aU fb fun q=>fun Γ=>match p.s,p.d,q.d with
 | .lst .leaf,.list ds,.int k=>if cD k&&decide (ds.length*k.toNat<=sizeLine) then .ok ⟨.lst .leaf,.list (List.replicate k.toNat ds).flatten⟩ Γ else .no
 | _,_,_=>.no
def xF:Option (Option PV)->Bool
 | some (some ⟨.lst .leaf,.list _⟩)=>true
 | _=>false
def zB (i:Nat) (p q:PV) (Γ:Ev):fK:=match Γ[i]? with
 | some (some ⟨.lst .leaf,.list ds⟩)=>(match q.d with
  | .int k=>(match eV ds.length k with
   | some j=>if T.coer .leaf p then .nx (Γ.set i (some ⟨.lst .leaf,.list (ds.set j p.d)⟩)) else .no
   | none=>.no)
  | _=>.no)
 | _=>.no
def da (i:Nat) (fv fk:F1):FS:=fun Γ=>if xF Γ[i]? then g9 fv (fun p=>g9 fk (zB i p)) Γ else .no
def nt (i:Nat) (g:FS):FS:=fun Γ=>match Γ[i]? with
 | some (some p)=>g (Γ.set i (KZ p.d))
 | _=>.no
section
variable {K:Fg} {W:XW} {σ:St} {H:Hp} {Q:VK} {D:d9} {fa fb:F1} {fl:FL}
theorem Dc {r:V->Hp->VK->Prop} {g:KY->Option KY} (hg:∀x H Q a d,Rep K H x a->g a=some d->(∀v,Sc v d->Q v H)->r x H Q) (h:tE K W (eU g fa) σ H Q):JB r (tE K W fa) σ H Q:=by
 refine xD h fun He O Fs Γ1 p v H1 G Fs1 nd A h1=>?_
 cases e:g p.d with
 | none=>rw [e] at h1;exact h1.elim
 | some d=>
  rw [e] at h1;exact hg v H1 Q p.d d A.own.rep e fun u hu=>Wants.scal h1 hu A.same A.env.dropL (fun a ha=>ha) nd fun a ha=>A.new a (KG _ ha)
theorem mx {α β:Type} {xs:List α} {ys:List β} (hl:xs.length=ys.length):∀(k j:Nat) {x:α} {y:β},(List.replicate k xs).flatten[j]?=some x->(List.replicate k ys).flatten[j]?=some y->∃i:Nat,xs[i]?=some x/\ys[i]?=some y
 | 0,j,x,y,h,_=>by simp at h
 | k+1,j,x,y,h1,h2=>by
  rw [replicate_succ,flatten_cons] at h1 h2
  by_cases hj:j<xs.length
  ·rw [getElem?_append_left hj] at h1
   rw [getElem?_append_left (by omega)] at h2
   exact ⟨j,h1,h2⟩
  ·rw [getElem?_append_right (by omega)] at h1
   rw [getElem?_append_right (by omega),<-hl] at h2
   exact mx hl k (j-xs.length) h1 h2
theorem Hb:∀{Fs:List (List Addr)},(∀F∈Fs,F=[])->Fs.flatten=[]
 | [],_=>rfl
 | F::r,h=>by rw [flatten_cons,h F mem_cons_self,Hb fun G hG=>h G (KN _ hG)];rfl
theorem Own.leaves {O:List Addr} {G:List Addr} {v:V} {ds:List KY} (h:Own K O H (.lst .leaf) G v (.list ds)):∃l vs,v=.ref l/\G=[l]/\H l=some (.lst vs)/\vs.length=ds.length/\∀(j:Nat) u d,vs[j]?=some u->ds[j]?=some d->Rep K (du H O) u d:=by
 cases h with
 | @lst _ l vs _ Fs hsv hp hl hf nd q=>
  have hF:∀F∈Fs,F=[]:=fun F hF=>by
   obtain ⟨j,hj,e⟩:=List.getElem_of_mem hF;have o:=q j (vs[j]'(by omega)) (ds[j]'(by omega)) F (KL _) (KL _) (by rw [KL hj,e])
   cases o;rfl
  refine ⟨l,vs,rfl,by rw [Hb hF],hp,hl,fun j u d h1 h2=>?_⟩
  have hj:=(KP h2).1
  have o:=q j u d (Fs[j]'(by omega)) h1 h2 (KL _)
  generalize Fs[j]'(by omega)=F at o
  cases o with
  | leaf r=>exact r
theorem Own.mkLeaves {O:List Addr} {l:Addr} {vs:List V} {ds:List KY} (hp:H l=some (.lst vs)) (hl:vs.length=ds.length) (q:∀(j:Nat) u d,vs[j]?=some u->ds[j]?=some d->Rep K (du H O) u d):Own K O H (.lst .leaf) [l] (.ref l) (.list ds):=by
 have hF:(List.replicate ds.length ([]:List Addr)).flatten=[]:=Hb fun F hF=>(List.mem_replicate.mp hF).2
 have o:Own K O H (.lst .leaf) (l::(List.replicate ds.length ([]:List Addr)).flatten) (.ref l) (.list ds):=by
  refine .lst rfl hp hl (by simp) (by rw [hF];simp) fun j u d F h1 h2 h3=>?_
  have:F=[]:=(List.mem_replicate.mp (mem_of_getElem? h3)).2
  subst this;exact .leaf (q j u d h1 h2)
 rw [hF] at o;exact o
theorem zH (h:tE K W (d8 fa fb) σ H Q):vo zX (tE K W fa) (tE K W fb) σ H Q:=by
 refine BM (R:=fun v u H2=>zX v u H2 Q) h fun He O Fs Γ2 p q v u H1 H2 G1 G2 Fs2 nd s1 s2 E new o1 o2 w=>?_
 obtain ⟨s,d⟩:=p;obtain ⟨s',d'⟩:=q;dsimp only at w o1 o2
 split at w
 ·rename_i ds k
  have hq:=o2.rep
  cases hq;obtain ⟨l,vs,rfl,rfl,hp,hl,hr⟩:=o1.leaves;by_cases hc:(cD k&&decide (ds.length*k.toNat<=sizeLine))=true
  ·rw [if_pos hc] at w
   simp only [Bool.and_eq_true,decide_eq_true_eq,cD] at hc
   refine ⟨l,k,vs,rfl,rfl,hp,by omega,by omega,by rw [hl];exact hc.2,fun p' hp'=>?_⟩
   have nd2:O.Nodup:=nd
   have E1:EnvOk K He O Fs2 H2 σ Γ2:=E.drop (fun a ha=>KG _ (KG _ ha)) nd
   have E2:=E1.hide (G:=[p']) (iY (o:=.lst (List.replicate k.toNat vs).flatten) hp') (by simp) (by simpa using hp') (fun a ha=>by rw [List.mem_singleton.mp ha,gr];exact Option.some_ne_none _)
   refine w (.ref p') _ [p'] Fs2 ⟨(s1.trans s2).trans (iY hp'),E2,fun a ha=>?_,?_⟩
   ·rcases KI ha with z | z
    ·rw [List.mem_singleton.mp z]
     exact .inr (s1.free (s2.free hp'))
    ·exact new a (KG _ (KG _ z))
   ·refine Own.mkLeaves gr (by rw [GF,GF,hl]) fun j x d h1 h2=>?_
    obtain ⟨i,e1,e2⟩:=mx hl _ j h1 h2;refine (hr i x d e1 e2).mono (qS (iY hp') fun a ha=>?_)
    rcases KI ha with z | z
    ·rcases KI z with z | z
     ·rw [List.mem_singleton.mp z];exact .inr hp'
     ·exact .inl (KH _ (KG _ (KG _ z)))
    ·exact .inl (KG _ z)
  ·rw [if_neg hc] at w;exact w.elim
 ·exact w.elim
theorem zp {k:PV->PV->Ev->fK} {R:V->V->Hp->Prop} (h:tS K W (g9 fa fun p=>g9 fb (k p)) D σ H)
  (hk:∀He O Γ2 p q v u H1 H2 G1 G2 Fs2,O.Nodup->Same H H1->Same H1 H2->EnvOk K He (G2++(G1++O)) Fs2 H2 σ Γ2->(∀a∈G2++G1,He a=none) ->
   Own K (G2++(G1++O)++Fs2.flatten) H2 p.s G1 v p.d->Own K (G2++(G1++O)++Fs2.flatten) H2 q.s G2 u q.d->mW K W He O D (k p q Γ2)->R v u H2) :
  tE K W fa σ H fun v H1=>tE K W fb σ H1 fun u H2=>R v u H2:=by
 refine ic h fun He O Fs Γ1 p v H1 G1 Fs1 _ fr A1 h1=>?_
 refine ⟨He,G1++O,Fs1,Γ1,A1.env,?_⟩
 unfold g9 at h1;have nd:O.Nodup:=(KO A1.env.ndO).2.1
 cases e:fb Γ1 with
 | ok q Γ2=>
  rw [e] at h1;intro u H2 G2 Fs2 A2;refine hk He O Γ2 p q v u H1 H2 G1 G2 Fs2 nd A1.same A2.same A2.env (fun a ha=>?_) (A1.own.mono A2.same fun a ha=>?_) A2.own h1
  ·rcases KI ha with z | z
   ·exact A2.freshG A1.env a z
   ·exact fr a z
  ·rcases KI ha with z | z
   ·rcases KI z with z | z
    ·rcases A2.new a (KH _ z) with y | y
     ·exact .inl (KG _ y)
     ·exact .inr y
    ·exact .inl (KH _ z)
   ·rcases A2.new a (KG _ z) with y | y
    ·exact .inl (KG _ y)
    ·exact .inr y
 | er c Γ2=>
  rw [e] at h1;intro H2 Fs2 hs E2;exact h1 σ H2 Fs2 E2.dropL
 | no=>
  rw [e] at h1;exact h1
theorem EK {Q':VK} (h:tE K W fa σ H Q) (hq:∀v H',Q v H'->Q' v H'):tE K W fa σ H Q':=by
 obtain ⟨He,O,Fs,Γ,E,h⟩:=h;refine ⟨He,O,Fs,Γ,E,?_⟩
 cases e:fa Γ with
 | ok p Γ'=>rw [e] at h;exact fun v H' G Fs' A=>hq v H' (h v H' G Fs' A)
 | er c Γ'=>rw [e] at h;exact h
 | no=>rw [e] at h;exact h
theorem EnvOk.chg {He:Hp} {O:List Addr} {Fs:List (List Addr)} {Γ:Ev} {i:Nat} {ds:List KY} (E:EnvOk K He O Fs H σ Γ) (h:Γ[i]?=some (some ⟨.lst .leaf,.list ds⟩)) :
  ∃l vs,σ[i]?=some (some (.ref l))/\H l=some (.lst vs)/\vs.length=ds.length/\(∀(j:Nat) u d,vs[j]?=some u->ds[j]?=some d->Rep K (du H (O++Fs.flatten)) u d) /\
   ∀(vs':List V) (ds':List KY),vs'.length=ds'.length->(∀(j:Nat) u d,vs'[j]?=some u->ds'[j]?=some d->Rep K (du H (O++Fs.flatten)) u d)->∃Fs',EnvOk K He O Fs' (bZ H l (.lst vs')) σ (Γ.set i (some ⟨.lst .leaf,.list ds'⟩)):=by
 obtain ⟨hv,v,F,h1,E1,o1,sub⟩:=E.move h;have hi:i<Γ.length:=(KP h).1
 obtain ⟨_,v0,F0,h10,h20,o0⟩:=E.slot i _ h;obtain ⟨l,vs,rfl,rfl,hp,hl,hr⟩:=o1.leaves;obtain ⟨l',vs',e0,e1,hp',hl',hr'⟩:=o0.leaves;rw [h1] at h10
 cases h10
 cases e0;rw [hp] at hp'
 cases hp'
 refine ⟨l,vs,h1,hp,hl,hr',fun ws ds' hw q=>?_⟩
 have hlF:l∈Fs.flatten:=sub l (KH _ (List.mem_singleton.mpr rfl))
 have hHe:He l=none:=E.fresh l hlF
 have E4:=E1.mutO (o:=.lst ws) (KH _ (List.mem_singleton.mpr rfl)) hp hHe
 have ownL:Own K ([l]++O++(Fs.set i []).flatten) (bZ H l (.lst ws)) (.lst .leaf) [l] (.ref l) (.list ds'):=by
  refine Own.mkLeaves gr hw fun j u d a1 a2=>?_
  rw [GD (KH _ (KH _ (List.mem_singleton.mpr rfl)))];refine (q j u d a1 a2).mono (qS (Same.refl _) fun a ha=>.inl ?_)
  rcases KI ha with z | z
  ·rcases KI z with z | z
   ·rw [List.mem_singleton.mp z];exact KG _ hlF
   ·exact KH _ z
  ·exact KG _ (sub a (KG _ z))
 have fin:=EnvOk.put (i:=i) (p:=⟨.lst .leaf,.list ds'⟩) (v:=.ref l) E4 ownL rfl (fun a ha=>by rw [List.mem_singleton.mp ha];exact hHe) (by rw [length_set];exact hi)
 rw [set_set,set_set,va h1] at fin;exact ⟨_,fin⟩
theorem iF {o:Option (Option PV)} (h:xF o=true):∃ds,o=some (some ⟨.lst .leaf,.list ds⟩):=by
 unfold xF at h;split at h
 ·exact ⟨_,rfl⟩
 ·cases h
theorem vK {i:Nat} (h:tS K W (da i fa fb) D σ H):kl (tE K W fa) (L2.gSub (fS i) (tE K W fb) sO) D σ H:=by
 obtain ⟨He,O,Fs,Γ,E,h⟩:=h;unfold da at h
 cases ho:xF Γ[i]? with
 | false=>rw [ho] at h;exact h.elim
 | true=>
  rw [ho] at h;obtain ⟨ds,e0⟩:=iF ho;obtain ⟨l,vs,h1,h2,h3,_,_⟩:=E.chg e0;refine EK (zp (D:=D) (R:=fun v u H2=>sO (.ref l) u v H2 fun H3=>D.nx σ H3) ⟨He,O,Fs,Γ,E,h⟩ fun He O Γ2 p q v u H1 H2 G1 G2 Fs2 nd s1 s2 E2 fr o1 o2 w=>?_) fun v H' q=>⟨.ref l,h1,q⟩
  unfold zB at w;split at w
  ·rename_i ds1 e1
   split at w
   ·rename_i k ek
    split at w
    ·rename_i j ej
     cases hc:T.coer .leaf p with
     | false=>rw [hc] at w;exact w.elim
     | true=>
      rw [hc] at w;have E3:EnvOk K He O Fs2 H2 σ Γ2:=E2.drop (fun a ha=>KG _ (KG _ ha)) nd
      obtain ⟨l1,vs1,q1,q2,q3,q4,q5⟩:=E3.chg e1;rw [h1] at q1
      cases q1;have hu:=o2.rep
      rw [ek] at hu
      cases hu;have ov:Own K (O++Fs2.flatten) H2 .leaf [] v p.d:=by
       refine o1.coer (s:=.leaf) hc (fun a ha=>?_) fun a ha z=>?_
       ·rcases KI ha with z | z
        ·exact KH _ (KG _ (KG _ z))
        ·exact KG _ z
       ·exfalso
        have ndE:=E2.nd
        rw [append_assoc] at ndE;have n2:=(KO ndE).2.1
        rw [append_assoc] at n2;exact (KO n2).2.2 a ha a z rfl
      cases ov with
      | leaf rv=>
       have ixl:eV vs1.length k=some j:=by rw [q3];exact ej
       obtain ⟨Fs',E4⟩:=q5 (vs1.set j v) (ds1.set j p.d) (by rw [length_set,length_set,q3]) fun m x d a1 a2=>by
        by_cases hm:m=j
        ·subst hm
         rw [List.getElem?_set] at a1 a2
         rw [if_pos rfl] at a1 a2
         split at a1
         ·split at a2
          ·cases a1;cases a2;exact rv
          ·cases a2
         ·cases a1
        ·rw [getElem?_set_ne (Ne.symm hm)] at a1 a2
         exact q4 m x d a1 a2
       exact ⟨l,vs1,k,j,rfl,rfl,q2,ixl,w σ _ Fs' E4⟩
    ·exact w.elim
   ·exact w.elim
  ·exact w.elim
theorem zQ {i:Nat} {g:FS} (h:tS K W (nt i g) D σ H):tS K W g D σ H:=by
 obtain ⟨He,O,Fs,Γ,E,h⟩:=h;unfold nt at h;split at h
 ·rename_i p e0
  obtain ⟨hv,v,F,h1,E1,o1,sub⟩:=E.move e0;have hi:i<Γ.length:=(KP e0).1
  have c:T.coer .leaf p=true:=by show (!p.s.isView||bw p.d)=true;rw [hv];rfl
  have o:=o1.coer (s:=.leaf) (O':=O++(Fs.set i []).flatten) c km fun a ha z=>by
   exfalso
   have nd:=E1.nd
   rw [append_assoc] at nd;exact (KO nd).2.2 a ha a z rfl
  have E2:EnvOk K He O ((Fs.set i []).set i []) H (σ.set i (some v)) ((Γ.set i none).set i (KZ p.d)):=
   EnvOk.put (G:=[]) (p:=⟨.leaf,p.d⟩) (v:=v) (by rw [nil_append];exact E1.dropL) (by rw [nil_append];exact o) rfl (fun a ha=>by simp at ha) (by rw [length_set];exact hi)
  rw [set_set,set_set,va h1] at E2;exact ⟨He,O,_,_,E2,h⟩
 ·exact h.elim
end
section
variable {X:Cx}
theorem zh:J9 X (unaryOp .USub) (fun x H Q=>∃i,x=.int i/\Q (.int (-i)) H):=by
 intro pins s σ H x v Q I rx h;obtain ⟨i,rfl,q⟩:=h;obtain ⟨t,rfl⟩:=rx;exact neg_int ⟨.int (-i),H,I.tok _,⟨_,rfl⟩,q⟩
end
section
variable {X:Cx}
variable {N gl:List Str} {vs cs ls lo gs:List Nat} {W:XW} {a b c e:Expr} {es:List Expr} {pos p:Pos} {fa fb fc:F1} {fl:FL} {g:FS}
theorem cs_setI (S:Cp X N gl vs cs ls lo gs) (i:Nat) {x:Str} {px pos':Pos} (hi:N[i]?=some x) (hv:vs.contains i=true) (ha:PE X a (tE X.K W fa)) (hb:PE X b (tE X.K W fb))
  (hs:swapsWithSole [.Subscript (.Name x px) b pos'] a pos.line X.env=pure false) (hw:swappedStores [.Subscript (.Name x px) b pos'] a X.env=pure none)
  (h1:(assignEach [.Subscript (.Name x px) b pos'] X.env).map (·.2)=[assign (.Subscript (.Name x px) b pos') X.env])
  (has:∀v,assign (.Subscript (.Name x px) b pos') X.env v=(do
   let ov <-holding [v] (eval (.Name x px) X.env)
   let iv <-holding [v,ov] (eval b X.env)
   standAt pos'
   holding [v,ov,iv] (setItem ov iv v)
   release [v,ov,iv] [])):PS X (.Assign [.Subscript (.Name x px) b pos'] a pos) (tS X.K W (da i fa fb)):=by
 have m:=S.nm x (mem_of_getElem? hi)
 exact cH (sZ ha (Ai (qR (by rw [S.hN];exact hi) (S.vis i x hi hv) m.1 m.2) hb r9 has) hs hw h1) fun _ _ _=>vK
end
def uT:Expr->Bool
 | .Starred ..=>true
 | _=>false
theorem gv {e:Expr} {es:List Expr} {env:Env} (h:uT e=false):starEach (e::es) env=(false,eval e env)::starEach es env:=by
 cases e<;>first | rfl | cases h
theorem eG {a:Expr} {env:Env} (h:uT a=false):starEach [a] env=[(false,eval a env)]:=gv h
theorem r6 {a b:Expr} {env:Env} (h:uT a=false) (h2:uT b=false):starEach [a,b] env=[(false,eval a env),(false,eval b env)]:=by rw [gv h,eG h2]
def DefOk (P:Program) (w:World) (K:Fg) (mg:Str->Option Value) (base:Heap) (j:Nat) (x:Str) (n:Nat) (den:List KY->Res):Prop:=
 ∃(f:Addr) (fd:FuncData) (ps:List Str),dO P w K mg base kR j f fd ps (pG K n den)/\mg x=some (.ref f)/\PySem.W.keepIn K (.ref f)=true/\Binds K fd ps []
def nU (K:Fg) (mg:Str->Option Value) (x:Str) (d:KY):Prop:=∃u v,mg x=some u/\RelV v u/\∀H,Rep K H v d
theorem DefOk.cal {X:Cx} {j k n:Nat} {x:Str} {den:List KY->Res} (h:DefOk X.prog X.w X.K X.mg X.base j x n den) (hr:Room k X.A) (hj:decide (j<=k)=true):Ca X x n den:=by
 obtain ⟨f,fd,ps,F,a,b,c⟩:=h;exact ⟨j,f,fd,ps,F,hr.mono (of_decide_eq_true hj),a,b,c⟩
def HU:KY->V
 | .none=>.non
 | .bool b=>.bl b
 | .int i=>.int i
 | .str x=>.str x
 | _=>.non
def qG:List Value->List KY->Bool
 | .int i _::r,.int j::ds=>decide (i=j)&&qG r ds
 | .str x _::r,.str y::ds=>decide (x=y)&&qG r ds
 | [],[]=>true
 | _,_=>false
theorem GB:∀{us:List Value} {ds:List KY},qG us ds=true->Vals (ds.map HU) us/\∀d∈ds,Sc (HU d) d
 | [],[],_=>⟨.nil,fun d hd=>(nomatch hd)⟩
 | .int i t::r,.int j::ds,h=>by
  simp only [qG,Bool.and_eq_true,decide_eq_true_eq] at h
  obtain ⟨rfl,h⟩:=h;obtain ⟨a,b⟩:=GB h;refine ⟨.cons ⟨t,rfl⟩ a,fun d hd=>?_⟩
  rcases KJ hd with z | z
  ·rw [z];exact .int i
  ·exact b d z
 | .str i t::r,.str j::ds,h=>by
  simp only [qG,Bool.and_eq_true,decide_eq_true_eq] at h
  obtain ⟨rfl,h⟩:=h;obtain ⟨a,b⟩:=GB h;refine ⟨.cons ⟨t,rfl⟩ a,fun d hd=>?_⟩
  rcases KJ hd with z | z
  ·rw [z];exact .str i
  ·exact b d z
def Bv (its:Array Value) (ds:List KY):Bool:=decide (its.size<=sizeLine)&&qG its.toList ds
theorem xh {K:Fg} {mg:Str->Option Value} {x:Str} {a:Addr} {dd:Option Addr} {its:Array Value} {n:Nat} {sl:Array (Option Value)} {ds:List KY} (hm:mg x=some (.ref a)) (l:K.lookup a=some ⟨.type "tuple",dd,.seq its n,sl⟩) (h:Bv its ds=true):nU K mg x (.tuple ds):=by
 unfold Bv at h;simp only [Bool.and_eq_true,decide_eq_true_eq] at h
 obtain ⟨v,s⟩:=GB h.2;refine ⟨.ref a,.ref a,hm,rfl,fun H=>.tup (vs:=ds.map HU) (.inr ⟨_,its,n,l,rfl,rfl,h.1,v⟩) (by simp) fun i v d h1 h2=>?_⟩
 rw [getElem?_map,h2] at h1
 cases h1;exact (s d (mem_of_getElem? h2)).rep
theorem xi {K:Fg} {mg:Str->Option Value} {x:Str} {i:Int} {t:Tok} (hm:mg x=some (.int i t)):nU K mg x (.int i):=⟨.int i t,.int i,hm,⟨t,rfl⟩,fun H=>.int i⟩
theorem AH {K:Fg} {m:List KY->Res} {H:Hp} {a:Addr} {ns:List Int} {E:XK} (h:m [.list (ns.map .int)]=.ok ⟨.leaf,.bool true⟩) (hS:SqL K H a (ns.map V.int)):pG K 1 m [.ref a] H (fun v _=>v=.bl true) E:=by
 refine ⟨rfl,[],[.list (ns.map .int)],nodup_nil,(fun _ z=>nomatch z),⟨rfl,fun i v d h1 h2=>?_⟩,?_⟩
 ·rw [Cu]
  match i,h1,h2 with
  | 0,h1,h2=>
   cases h1
   cases h2;refine .lst hS (by simp) fun i v d h1 h2=>?_
   rw [getElem?_map] at h1 h2
   cases e:ns[i]? with
   | none=>rw [e] at h1;cases h1
   | some z=>
    rw [e] at h1 h2
    cases h1
    cases h2;exact .int z
  | i+1,h1,h2=>simp at h1
 ·rw [h]
  intro v H' G r
  have o:=r.own.rep
  cases o;rfl
end T
namespace TQ
open PySem PySem.Spec L2 T
open PyProof.Rows hiding St
structure Q (p:Prop):Prop where
 p:p
section
variable {X:Cx} {N gl:List Str} {vs cs ls lo gs:List Nat} {W:XW} {a b c e:Expr} {es:List Expr} {pos p:Pos} {fa fb fc:F1} {fl:FL} {ga gb:FB} {g1 g2 g:FS}
theorem HM (S:Cp X N gl vs cs ls lo gs) (i:Nat) {x:Str} (hN:N[i]?=some x) (hv:vs.contains i=true):Q (PE X (.Name x pos) (tE X.K W (af i))):=⟨T.cv S i hN hv⟩
theorem pB (S:Cp X N gl vs cs ls lo gs) (i:Nat) {x:Str} (hN:N[i]?=some x) (hv:vs.contains i=true):Q (PE X (.Name x pos) (tE X.K W (cX i))):=⟨T.cm S i hN hv⟩
theorem vj (S:Cp X N gl vs cs ls lo gs) (j:Nat) {x:Str} {d:KY} (hj:gl[j]?=some x) (hg:gs.contains j=true) (h:Con X x d):Q (PE X (.Name x pos) (tE X.K W (eK d))):=⟨by
 obtain ⟨u,v,h1,h2,h3⟩:=h;have q:=S.g hj hg
 exact xb q.1 h1 h2 h3 q.2.1⟩
theorem aK {j:Int} {k pos}:Q (PE X (.Constant (.int j) k pos) (tE X.K W (eK (.int j)))):=⟨bc Ao fun _ _ _=>sD fun _=>.int j⟩
theorem vc {j:Bool} {k pos}:Q (PE X (.Constant (.bool j) k pos) (tE X.K W (eK (.bool j)))):=⟨bc tw fun _ _ _=>sD fun _=>.bl j⟩
theorem gN {k pos}:Q (PE X (.Constant .none k pos) (tE X.K W (eK .none))):=⟨bc An fun _ _ _=>sD fun _=>.non⟩
theorem gK {j:Str} {k pos}:Q (PE X (.Constant (.str j) k pos) (tE X.K W (eK (.str j)))):=⟨T.de_str ⟩
theorem iX (ha:Q (PE X a (tE X.K W fa))) (hb:Q (PE X b (tE X.K W fb))):Q (PE X (.BinOp a .Add b pos) (tE X.K W (aD aN fa fb))):=⟨have ha:=ha.p;have hb:=hb.p;bc (fU AB ha hb) fun _ _ _=>gD (BH fun _ _=>.int _)⟩
theorem qV (ha:Q (PE X a (tE X.K W fa))) (hb:Q (PE X b (tE X.K W fb))):Q (PE X (.BinOp a .Sub b pos) (tE X.K W (aD gSub fa fb))):=⟨have ha:=ha.p;have hb:=hb.p;bc (fU Ar ha hb) fun _ _ _=>gD (BH fun _ _=>.int _)⟩
theorem CB (ha:Q (PE X a (tE X.K W fa))) (hb:Q (PE X b (tE X.K W fb))):Q (PE X (.BinOp a .Mult b pos) (tE X.K W (aD mr fa fb))):=⟨have ha:=ha.p;have hb:=hb.p;bc (fU Aw ha hb) fun _ _ _=>gD (oY (fun i j h=>by
 simp only [qK,Bool.or_eq_true,Bool.and_eq_true,decide_eq_true_eq] at h
 exact h) fun _ _=>.int _)⟩
theorem ll (ha:Q (PE X a (tE X.K W fa))) (hb:Q (PE X b (tE X.K W fb))):Q (PE X (.BinOp a .FloorDiv b pos) (tE X.K W (aD qj fa fb))):=⟨have ha:=ha.p;have hb:=hb.p;bc (fU we ha hb) fun _ _ _=>gD (oY (fun i j h=>by
 simp only [xm,Bool.and_eq_true,decide_eq_true_eq] at h
 exact h) fun _ _=>.int _)⟩
theorem rB (ha:Q (PE X a (tE X.K W fa))) (hb:Q (PE X b (tE X.K W fb))):Q (PE X (.BinOp a .Mod b pos) (tE X.K W (aD dv fa fb))):=⟨have ha:=ha.p;have hb:=hb.p;bc (fU Ax ha hb) fun _ _ _=>gD (oY (fun i j h=>by
 simp only [xl,decide_eq_true_eq] at h
 exact h) fun _ _=>.int _)⟩
theorem EU (ha:Q (PE X a (tE X.K W fa))) (hb:Q (PE X b (tE X.K W fb))):Q (PE X (.BinOp a .Pow b pos) (tE X.K W (aD jw fa fb))):=⟨have ha:=ha.p;have hb:=hb.p;bc (fU Au ha hb) fun _ _ _=>gD (oY (fun i j h=>by
 simp only [xk,Bool.and_eq_true,decide_eq_true_eq] at h
 exact ⟨h.1.1,h.1.2,h.2⟩) fun _ _=>.int _)⟩
theorem yP (ha:Q (PE X a (tE X.K W fa))) (hb:Q (PE X b (tE X.K W fb))):Q (PE X (.BinOp a .Mult b pos) (tE X.K W (d8 fa fb))):=⟨have ha:=ha.p;have hb:=hb.p;bc (fU As ha hb) fun _ _ _=>zH⟩
theorem xJ (ha:Q (PE X a (tE X.K W fa))):Q (PE X (.UnaryOp .USub a pos) (tE X.K W (eU cU fa))):=⟨have ha:=ha.p;bc (Do zh ha) fun _ _ _=>Dc fun x H Q a d r e k=>by
 cases r<;>simp only [cU] at e<;>cases e
 exact ⟨_,rfl,k _ (.int _)⟩⟩
theorem HQ {op:CmpOp} {r:R2} {g:KY->KY->Option KY} (k:Ck X op r g) (ha:Q (PE X a (tE X.K W fa))) (hb:Q (PE X b (tE X.K W fb))) (hm:behindInMarks op b=false):Q (PE X (.Compare a [op] [b] pos) (tE X.K W (aD g fa fb))):=⟨have ha:=ha.p;have hb:=hb.p;Bt k.o k.g ha hb hm⟩
theorem xS {op op':CmpOp} {r r':R2} {g g':KY->KY->Option KY} (k:Ck X op r g) (k':Ck X op' r' g') (ha:Q (PE X a (tE X.K W fa))) (hb:Q (PE X b (tE X.K W fb))) (hc:Q (PE X c (tE X.K W fc))) (hm:lastMarks [op,op'] [b,c]=false):Q (PE X (.Compare a [op,op'] [b,c] pos) (tE X.K W (mX g g' fa fb fc))):=⟨have ha:=ha.p;have hb:=hb.p;have hc:=hc.p;uD k.o k.g k'.o k'.g ha hb hc hm⟩
theorem qW {op} (h:Q (PE X a (tE X.K W fa))):Q (PE X (.BoolOp op [a] pos) (tE X.K W fa)):=⟨L2.pe_one h.p⟩
theorem qU (ha:Q (PE X a (tE X.K W fa))) (hb:Q (PE X (.BoolOp .And (b::es) pos) (tE X.K W fb))):Q (PE X (.BoolOp .And (a::b::es) pos) (tE X.K W (cF fa fb))):=⟨have ha:=ha.p;have hb:=hb.p;bc (Aq ha hb) fun _ _ _=>zU⟩
theorem vi (ha:Q (PE X a (tE X.K W fa))) (hb:Q (PE X (.BoolOp .Or (b::es) pos) (tE X.K W fb))):Q (PE X (.BoolOp .Or (a::b::es) pos) (tE X.K W (DO fa fb))):=⟨have ha:=ha.p;have hb:=hb.p;bc (Dp ha hb) fun _ _ _=>Dd⟩
theorem BO (hc:Q (PT X c (tT X.K W ga))) (ha:Q (PE X a (tE X.K W fa))) (hb:Q (PE X b (tE X.K W fb))):Q (PE X (.IfExp c a b pos) (tE X.K W (kU ga fa fb))):=⟨have hc:=hc.p;have ha:=ha.p;have hb:=hb.p;bc (tq hc ha hb) fun _ _ _=>De⟩
theorem rL (ha:Q (PE X a (tE X.K W fa))) (hb:Q (PE X b (tE X.K W fb))) (hs:ED b):Q (PE X (.Subscript a b pos) (tE X.K W (ak fa fb))):=⟨have ha:=ha.p;have hb:=hb.p;bc (yf tX ha hb hs) fun _ _ _=>zN⟩
theorem cx (s:Sh) (h:Q (PA X es (tA X.K W fl))):Q (PE X (.List es pos) (tE X.K W (az s fl))):=⟨have h:=h.p;bc (tj h) fun _ _ _=>ox⟩
theorem kT {x1} (h:Q (PA X es (tA X.K W fl))):Q (PE X (.Tuple es x1 pos) (tE X.K W (cb fl))):=⟨have h:=h.p;bc (Am h) fun _ _ _=>zG⟩
theorem iZ :Q (PA X [] (tA X.K W ah)):=⟨T.da_nil ⟩
theorem jK (ha:Q (PE X e (tE X.K W fa))) (hr:Q (PA X es (tA X.K W fl))) (hs:starEach (e::es) X.env=(false,eval e X.env)::starEach es X.env):Q (PA X (e::es) (tA X.K W (ae fa fl))):=⟨T.da_cons ha.p hr.p hs⟩
theorem HP {scope:Scope} {x:Str} {px:Pos} {iter elt:Expr} {ifs:List Expr} {fi:FI} {fe:F1} {fc:FB} {vs' cs' lo' gs':List Nat} (S:Cp X N gl vs cs ls lo gs) (s:Sh) (i:Nat) (hx:N[i]?=some x) (h1:ka N i cs scope=true) (h2:m5 N gl vs' cs' [i] lo' gs' scope=true) (hi':Q (PI X (.Name x px) iter (tI X.K W fi))) (hc:lh X N gl vs' cs' [i] lo' gs' fun Y=>Q (PF Y ifs (tT Y.K W0 fc))) (he:lh X N gl vs' cs' [i] lo' gs' fun Y=>Q (PE Y elt (tE Y.K W0 fe))) (hs:∀x,foldedSetIterable iter X.env x=pure x):Q (PE X (.ListComp elt [⟨.Name x px,iter,ifs,0⟩] scope pos) (tE X.K W (aE s i fi fc fe))):=⟨T.co S s i hx h1 h2 hi'.p (fun Y S F=>(hc Y S F).p) (fun Y S F=>(he Y S F).p) hs⟩
theorem B0 {scope:Scope} {x y:Str} {px pos' spos:Pos} {iter elt:Expr} {ifs:List Expr} {fi:FI} {fe:F1} {fc:FB} {vs' cs' lo' gs':List Nat} (S:Cp X N gl vs cs ls lo gs) (own:Bool) (j:Nat) (s:Sh) (i:Nat) (hy:N[j]?=some y) (hyl:lo.contains j=true) (hx:N[i]?=some x) (hsl:(pos'.line==pos.line)=true) (hsn:(scope.names.any fun (n,k)=>n==y&&(k==NameKind.local||k==NameKind.cell))=false) (h1:ka N i cs scope=true) (h2:m5 N gl vs' cs' [i] lo' gs' scope=true) (hi':Q (PI X (.Name x px) iter (tI X.K W fi))) (hc:lh X N gl vs' cs' [i] lo' gs' fun Y=>Q (PF Y ifs (tT Y.K W0 fc))) (he:lh X N gl vs' cs' [i] lo' gs' fun Y=>Q (PE Y elt (tE Y.K W0 fe))) (hs:∀x,foldedSetIterable iter X.env x=pure x):Q (PS X (.Assign [.Name y pos'] (.ListComp elt [⟨.Name x px,iter,ifs,0⟩] scope pos) spos) (tS X.K W (aC own j (aE s i fi fc fe)))):=⟨by
 have hi':=hi'.p
 have hc:=fun Y S F=>(hc Y S F).p
 have he:=fun Y S F=>(he Y S F).p
 have B:=fun cells C s₀ H₀ ex=>S.blk h2 cells C s₀ H₀ ex
 have L:=fun cells C s₀ H₀ ex=>(B cells C s₀ H₀ ex).loc i x hx (by simp)
 exact nL (X:=X) own j s i (mM S h1) (by rw [S.hN];exact S.nd) hi' (fun cells C s₀ H₀ ex=>hc _ (B cells C s₀ H₀ ex) ⟨rfl,rfl,rfl,rfl,rfl,rfl⟩) (fun cells C s₀ H₀ ex=>he _ (B cells C s₀ H₀ ex) ⟨rfl,rfl,rfl,rfl,rfl,rfl⟩)
  (Hs S.kind (S.loo j y hy hyl) hsl hsn) (by rw [S.hN];exact hy) (S.loo j y hy hyl) S.calm (by rw [S.hN];exact hx) (fun cells C s₀ H₀ ex=>(L cells C s₀ H₀ ex).1) (fun cells C s₀ H₀ ex=>(L cells C s₀ H₀ ex).2) hs⟩
theorem rP (S:Cp X N gl vs cs ls lo gs) (j:Nat) (hj:gl[j]?=some ("len":Str)) (hg:gs.contains j=true) (hm:X.mg "len"=none) (ha:Q (PA X (e::es) (tA X.K W fl))) (he:starEach (e::es) X.env=(false,eval e X.env)::starEach es X.env) (hpl:(backTo pos (starEach es X.env)).any (·.1)=false):Q (PE X (.Call (.Name "len" p) (e::es) [] pos) (tE X.K W (bG bt fl))):=⟨have ha:=ha.p;uE (call_len_seq.or kP) A9 DZ hm ha (S.g hj hg).1 (S.g hj hg).2.2 (S.g hj hg).2.1 he hpl⟩
theorem xI (S:Cp X N gl vs cs ls lo gs) (j:Nat) (hj:gl[j]?=some ("all":Str)) (hg:gs.contains j=true) (hm:X.mg "all"=none) (ha:Q (PA X (e::es) (tA X.K W fl))) (he:starEach (e::es) X.env=(false,eval e X.env)::starEach es X.env) (hpl:(backTo pos (starEach es X.env)).any (·.1)=false):Q (PE X (.Call (.Name "all" p) (e::es) [] pos) (tE X.K W (bG (eO false) fl))):=⟨have ha:=ha.p;uE (qJ S.calm) uo D3 hm ha (S.g hj hg).1 (S.g hj hg).2.2 (S.g hj hg).2.1 he hpl⟩
theorem rQ (S:Cp X N gl vs cs ls lo gs) (j:Nat) (hj:gl[j]?=some ("any":Str)) (hg:gs.contains j=true) (hm:X.mg "any"=none) (ha:Q (PA X (e::es) (tA X.K W fl))) (he:starEach (e::es) X.env=(false,eval e X.env)::starEach es X.env) (hpl:(backTo pos (starEach es X.env)).any (·.1)=false):Q (PE X (.Call (.Name "any" p) (e::es) [] pos) (tE X.K W (bG (eO true) fl))):=⟨have ha:=ha.p;uE (qI S.calm) uo D2 hm ha (S.g hj hg).1 (S.g hj hg).2.2 (S.g hj hg).2.1 he hpl⟩
theorem BR (S:Cp X N gl vs cs ls lo gs) (j:Nat) (hj:gl[j]?=some ("int":Str)) (hg:gs.contains j=true) (hm:X.mg "int"=none) (ha:Q (PA X (e::es) (tA X.K W fl))) (he:starEach (e::es) X.env=(false,eval e X.env)::starEach es X.env) (hpl:(backTo pos (starEach es X.env)).any (·.1)=false):Q (PE X (.Call (.Name "int" p) (e::es) [] pos) (tE X.K W (bG cV fl))):=⟨have ha:=ha.p;DT qH Ba D1 hm ha (S.g hj hg).1 (S.g hj hg).2.2 (S.g hj hg).2.1 he hpl⟩
theorem Hu (S:Cp X N gl vs cs ls lo gs) (j:Nat) (hj:gl[j]?=some ("list":Str)) (hg:gs.contains j=true) (hm:X.mg "list"=none) (ha:Q (PE X e (tE X.K W fa))) (hs:starEach [e] X.env=[(false,eval e X.env)]):Q (PE X (.Call (.Name "list" p) [e] [] pos) (tE X.K W (rq fa))):=⟨have ha:=ha.p;qB hm ha (S.g hj hg).1 hs⟩
theorem HR {x:Str} {n:Nat} {den:List KY->Res} (S:Cp X N gl vs cs ls lo gs) (j:Nat) (hj:gl[j]?=some x) (hg:gs.contains j=true) (C:Ca X x n den) (ha:Q (PA X (e::es) (tA X.K W fl))) (he:starEach (e::es) X.env=(false,eval e X.env)::starEach es X.env) (hpl:(backTo pos (starEach es X.env)).any (·.1)=false):Q (PE X (.Call (.Name x p) (e::es) [] pos) (tE X.K W (av n den fl))):=⟨T.cc S j hj hg C ha.p he hpl⟩
theorem fR {tg:Expr} (S:Cp X N gl vs cs ls lo gs) (j:Nat) (hj:gl[j]?=some ("range":Str)) (hg:gs.contains j=true) (hm:X.mg "range"=none) (ha:Q (PA X [a] (tA X.K W fl))) (hs:starEach [a] X.env=[(false,eval a X.env)]):Q (PI X tg (.Call (.Name "range" p) [a] [] pos) (tI X.K W (fM fl))):=⟨have ha:=ha.p;DS hm ha (S.g hj hg).1 hs⟩
theorem CP {tg:Expr} (S:Cp X N gl vs cs ls lo gs) (j:Nat) (hj:gl[j]?=some ("range":Str)) (hg:gs.contains j=true) (hm:X.mg "range"=none) (ha:Q (PA X [a,b] (tA X.K W fl))) (hs:starEach [a,b] X.env=[(false,eval a X.env),(false,eval b X.env)]) (hs2:starEach [b] X.env=[(false,eval b X.env)]):Q (PI X tg (.Call (.Name "range" p) [a,b] [] pos) (tI X.K W (yo fl))):=⟨have ha:=ha.p;DR hm ha (S.g hj hg).1 hs hs2⟩
theorem gM {tg:Expr} (ha:Q (PE X a (tE X.K W fa))):Q (PI X tg a (tI X.K W (aZ fa))):=⟨have ha:=ha.p;mV (v9 ha) fun _ _ _=>vQ⟩
theorem HN {op:CmpOp} {r:R2} {g:KY->KY->Option KY} (k:Ck X op r g) (ha:Q (PE X a (tE X.K W fa))) (hb:Q (PE X b (tE X.K W fb))) (hm:behindInMarks op b=false):Q (PT X (.Compare a [op] [b] pos) (tT X.K W (aR aA (aD g fa fb)))):=⟨T.ct k ha.p hb.p hm⟩
theorem CO {op op':CmpOp} {r r':R2} {g g':KY->KY->Option KY} (k:Ck X op r g) (k':Ck X op' r' g') (ha:Q (PE X a (tE X.K W fa))) (hb:Q (PE X b (tE X.K W fb))) (hc:Q (PE X c (tE X.K W fc))) (hm:lastMarks [op,op'] [b,c]=false):Q (PT X (.Compare a [op,op'] [b,c] pos) (tT X.K W (aR aA (mX g g' fa fb fc)))):=⟨T.ct2 k k' ha.p hb.p hc.p hm⟩
theorem yQ (ha:Q (PT X a (tT X.K W ga))):Q (PT X (.UnaryOp .Not a pos) (tT X.K W (dy ga))):=⟨have ha:=ha.p;kh (sU ha) fun _ _ _=>oA⟩
theorem Fo (ha:Q (PT X a (tT X.K W ga))):Q (PW X (.BoolOp .And [a] pos) (tT X.K W ga)):=⟨have ha:=ha.p;vX ha⟩
theorem EW (ha:Q (PT X a (tT X.K W ga))):Q (PW X (.BoolOp .Or [a] pos) (tT X.K W ga)):=⟨have ha:=ha.p;sR ha⟩
theorem EV (ha:Q (PT X a (tT X.K W ga))) (hb:Q (PW X (.BoolOp .And (b::es) pos) (tT X.K W gb))):Q (PW X (.BoolOp .And (a::b::es) pos) (tT X.K W (gk ga gb))):=⟨have ha:=ha.p;have hb:=hb.p;uQ (Ac ha hb) fun _ _ _=>vT⟩
theorem BP (ha:Q (PT X a (tT X.K W ga))) (hb:Q (PW X (.BoolOp .Or (b::es) pos) (tT X.K W gb))):Q (PW X (.BoolOp .Or (a::b::es) pos) (tT X.K W (mT ga gb))):=⟨have ha:=ha.p;have hb:=hb.p;uQ (yd ha hb) fun _ _ _=>sM⟩
theorem xH (h:Q (PW X a (tT X.K W ga))):Q (PT X a (tT X.K W ga)):=⟨L2.PW.pt h.p⟩
theorem kj (ha:Q (PE X a (tE X.K W fa))) (he:∀whole,isTrue a X.env whole=(do let v <-whole;standAt a.pos;holding [v] (truthy v))):Q (PT X a (tT X.K W (aR br fa))):=⟨have ha:=ha.p;kh (lP ha he) fun _ _ _=>sv⟩
theorem e8 :Q (PSs X [] (tS X.K W aS)):=⟨Ct GU fun _ _ _=>ow⟩
theorem cZ {st:Stmt} (h1:Q (PS X st (tS X.K W g1))):Q (PSs X [st] (tS X.K W g1)):=⟨have h1:=h1.p;GV h1⟩
theorem bq {st:Stmt} {b7:List Stmt} (h1:Q (PS X st (tS X.K W g1))) (h2:Q (PSs X b7 (tS X.K W g2))):Q (PSs X (st::b7) (tS X.K W (ay g1 g2))):=⟨have h1:=h1.p;have h2:=h2.p;Ct (lQ h1 h2) fun _ _ _=>sy⟩
theorem lq (i:Nat) {sts:List Stmt} (h:Q (PSs X sts (tS X.K W g))):Q (PSs X sts (tS X.K W (nt i g))):=⟨have h:=h.p;Ct h fun _ _ _=>zQ⟩
theorem rJ (ha:Q (PE X a (tE X.K W fa))):Q (PS X (.Return (some a) pos) (tS X.K W (ba fa))):=⟨have ha:=ha.p;cH (sX ha) fun _ _ _=>sA⟩
theorem dP {A B:List Stmt} (hc:Q (PT X c (tT X.K W ga))) (ha:Q (PSs X A (tS X.K W g1))) (hb:Q (PSs X B (tS X.K W g2))):Q (PS X (.If c A B pos) (tS X.K W (b2 ga g1 g2))):=⟨have hc:=hc.p;have ha:=ha.p;have hb:=hb.p;cH (ye hc ha hb) fun _ _ _=>sE⟩
theorem BS (S:Cp X N gl vs cs ls lo gs) (i:Nat) {x:Str} {px:Pos} {iter:Expr} {body:List Stmt} {fi:FI} {g:FS} (hx:N[i]?=some x) (hl:ls.contains i=true) (hp:PassesOwn (model X.prog X.w) X.A X.env X.xe) (hi':Q (PI X (.Name x px) iter (tI X.K W fi))) (hb:Q (PSs X body (tS X.K W g))) (hs:∀x,foldedSetIterable iter X.env x=pure x):Q (PS X (.For (.Name x px) iter body [] pos) (tS X.K W (fI i fi g))):=⟨have hi':=hi'.p;have hb:=hb.p;Br i hp (by rw [S.hN];exact S.nd) hi' hb S.calm (by rw [S.hN];exact hx) (S.loc i x hx hl).1 (S.loc i x hx hl).2 hs⟩
theorem lp (S:Cp X N gl vs cs ls lo gs) (own:Bool) (i:Nat) {x:Str} {pos':Pos} (hi:N[i]?=some x) (hl:ls.contains i=true) (hs:swapsWith a (some (.Name x pos')) pos.line X.env=pure false) (ha:Q (PE X a (tE X.K W fa))):Q (PS X (.Assign [.Name x pos'] a pos) (tS X.K W (aC own i fa))):=⟨have ha:=ha.p;Bq own i (by rw [S.hN];exact S.nd) ha (by rw [S.hN];exact hi) (S.loc i x hi hl).1 hs (S.loc i x hi hl).2⟩
theorem Fm (S:Cp X N gl vs cs ls lo gs) (i:Nat) {x:Str} {px pos':Pos} (hi:N[i]?=some x) (hv:vs.contains i=true) (ha:Q (PE X a (tE X.K W fa))) (hb:Q (PE X b (tE X.K W fb))) (hs:swapsWithSole [.Subscript (.Name x px) b pos'] a pos.line X.env=pure false) (hw:swappedStores [.Subscript (.Name x px) b pos'] a X.env=pure none) (h1:(assignEach [.Subscript (.Name x px) b pos'] X.env).map (·.2)=[assign (.Subscript (.Name x px) b pos') X.env]) (has:∀v,assign (.Subscript (.Name x px) b pos') X.env v=(do
   let ov <-holding [v] (eval (.Name x px) X.env)
   let iv <-holding [v,ov] (eval b X.env)
   standAt pos'
   holding [v,ov,iv] (setItem ov iv v)
   release [v,ov,iv] [])):Q (PS X (.Assign [.Subscript (.Name x px) b pos'] a pos) (tS X.K W (da i fa fb))):=⟨T.cs_setI S i hi hv ha.p hb.p hs hw h1 has⟩
theorem B5 (S:Cp X N gl vs cs ls lo gs) (i:Nat) {x:Str} {apos cpos:Pos} (hi:N[i]?=some x) (hv:vs.contains i=true) (ha:Q (PE X a (tE X.K W fa))) (hs:starEach [a] X.env=[(false,eval a X.env)]) (hbase:attributeBase (.Name x p) "append" X.env (eval (.Name x p) X.env)=eval (.Name x p) X.env) (hline:(apos.endLine==cpos.line)=true) (hfew:((backTo cpos (starEach [a] X.env)).all (fun x=>!x.1)&&(backToKw cpos (keywordEach [] X.env)).all (fun x=>x.1.isSome)
   && decide ([a].length+([]:List Keyword).length+(if ([]:List Keyword).isEmpty then 0 else 1)<30))=true) (hsw:swapsWith (.Call (.Attribute (.Name x p) "append" apos) [a] [] cpos) none pos.line X.env=pure false):Q (PS X (.Expr (.Call (.Attribute (.Name x p) "append" apos) [a] [] cpos) pos) (tS X.K W (fO i fa))):=⟨T.cs_append S i hi hv ha.p hs hbase hline hfew hsw⟩
theorem gL :Q (PF X [] (tT X.K W0 aL)):=⟨Ec Ak fun σ H Q h=>by
 obtain ⟨He,O,Fs,Γ,E,h⟩:=h;exact h H Fs (Same.refl _) E fun _ z=>.inl z⟩
theorem ph (h:Q (PT X c (tT X.K W0 ga))):Q (PF X [c] (tT X.K W0 ga)):=⟨have h:=h.p;Aj h⟩
end
end TQ
namespace T
open PySem PySem.Spec L2
open PyProof.Rows hiding St
def vC:FS:=fun _=>.no
def Jz:KY->String
 | .none => "NoneType"
 | .bool _ => "bool"
 | .int _ => "int"
 | .str _ => "str"
 | .list _ => "list"
 | .tuple _ => "tuple"
 | .dict _ => "dict"
def DD (t c:String):Bool:=t==c||(t == "bool"&&c == "int")
def Jf (c:String) (fa:F1):F1:=aU fa fun p Γ=>.ok ⟨.leaf,.bool (DD (Jz p.d) c)⟩ Γ
def rA (c:FB) (g:FS):Nat->Ev->fK
 | 0,_=>.no
 | n+1,Γ=>match c Γ with
  | .ok true Γ1=>(match g Γ1 with
   | .nx Γ2=>rA c g n Γ2
   | .ct Γ2=>rA c g n Γ2
   | .bk Γ2=>.nx Γ2
   | .rt p=>.rt p
   | .er e Γ2=>.er e Γ2
   | .no=>.no)
  | .ok false Γ1=>.nx Γ1
  | .er e Γ1=>.er e Γ1
  | .no=>.no
def u6 (n:Nat) (c:FB) (g:FS):FS:=rA c g n
section
variable {K:Fg} {W:XW} {σ:St} {H:Hp} {Q:VK} {D:d9} {fa fb:F1} {fl:FL}
theorem sr {n:Nat} {c:FB} {g:FS} (h:tS K W (u6 n c g) D σ H):rT (tT K W c) (tS K W g) D σ H:=by
 obtain ⟨He,O,Fs,Γ,E,h⟩:=h;refine ⟨fun m σ' H'=>∃Γk Fk,EnvOk K He O Fk H' σ' Γk/\mW K W He O D (rA c g m Γk),⟨n,Γ,Fs,E,h⟩,?_⟩
 rintro m σ' H' ⟨Γk,Fk,Ek,hw⟩
 cases m with
 | zero=>exact hw.elim
 | succ m=>
  refine ⟨He,O,Fk,Γk,Ek,?_⟩
  rw [rA] at hw
  cases e:c Γk with
  | er x Γ1=>rw [e] at hw;exact fun H2 Fs2 s E2=>hw σ' H2 Fs2 E2
  | no=>rw [e] at hw;exact hw
  | ok b Γ1=>
   rw [e] at hw;intro H2 Fs2 s2 E2 n2
   cases b with
   | false=>rw [if_neg Bool.false_ne_true];exact hw σ' H2 Fs2 E2
   | true=>
    rw [if_pos rfl];refine ⟨fun σ3 H3=>∃Γ3 F3,EnvOk K He O F3 H3 σ3 Γ3/\mW K W He O D (rA c g m Γ3),fun σ3 H3 q=>⟨m,Nat.lt_succ_self _,q⟩,He,O,Fs2,Γ1,E2,?_⟩
    have hw:mW K W He O D (match g Γ1 with | .nx Γ2=>rA c g m Γ2 | .ct Γ2=>rA c g m Γ2 | .bk Γ2=>.nx Γ2 | .rt p=>.rt p | .er e Γ2=>.er e Γ2 | .no=>.no):=hw
    cases eb:g Γ1 with
    | nx Γ'=>rw [eb] at hw;exact fun σ2 H2 F2 E2=>⟨Γ',F2,E2,hw⟩
    | ct Γ'=>rw [eb] at hw;exact fun σ2 H2 F2 E2=>⟨Γ',F2,E2,hw⟩
    | bk Γ'=>rw [eb] at hw;exact fun σ2 H2 F2 E2=>hw σ2 H2 F2 E2
    | rt p=>rw [eb] at hw;exact fun u H2 G r=>hw u H2 G r
    | er x Γ'=>rw [eb] at hw;exact fun σ2 H2 F2 E2=>hw σ2 H2 F2 E2
    | no=>rw [eb] at hw;exact hw
theorem EnvOk.chgF {He:Hp} {O:List Addr} {Fs:List (List Addr)} {Γ:Ev} {i:Nat} {ds:List KY} (E:EnvOk K He O Fs H σ Γ) (h:Γ[i]?=some (some ⟨.lst .leaf,.list ds⟩)) :
  ∃l vs,σ[i]?=some (some (.ref l))/\H l=some (.lst vs)/\vs.length=ds.length/\(∀(j:Nat) u d,vs[j]?=some u->ds[j]?=some d->Rep K (du H (O++Fs.flatten)) u d) /\
   ∀(vs':List V) (ds':List KY),vs'.length=ds'.length->(∀(j:Nat) u d,vs'[j]?=some u->ds'[j]?=some d->Rep K (du H (O++Fs.flatten)) u d)->EnvOk K He O Fs (bZ H l (.lst vs')) σ (Γ.set i (some ⟨.lst .leaf,.list ds'⟩)):=by
 obtain ⟨hv,v,F,h1,E1,o1,sub⟩:=E.move h;have hi:i<Γ.length:=(KP h).1
 obtain ⟨_,v0,F0,h10,h20,o0⟩:=E.slot i _ h;obtain ⟨l,vs,rfl,rfl,hp,hl,hr⟩:=o1.leaves;obtain ⟨l',vs',e0,e1,hp',hl',hr'⟩:=o0.leaves;rw [h1] at h10
 cases h10
 cases e0;rw [hp] at hp'
 cases hp'
 refine ⟨l,vs,h1,hp,hl,hr',fun ws ds' hw q=>?_⟩
 have hlF:l∈Fs.flatten:=sub l (KH _ (List.mem_singleton.mpr rfl))
 have hHe:He l=none:=E.fresh l hlF
 have E4:=E1.mutO (o:=.lst ws) (KH _ (List.mem_singleton.mpr rfl)) hp hHe
 have ownL:Own K ([l]++O++(Fs.set i []).flatten) (bZ H l (.lst ws)) (.lst .leaf) [l] (.ref l) (.list ds'):=by
  refine Own.mkLeaves gr hw fun j u d a1 a2=>?_
  rw [GD (KH _ (KH _ (List.mem_singleton.mpr rfl)))];refine (q j u d a1 a2).mono (qS (Same.refl _) fun a ha=>.inl ?_)
  rcases KI ha with z | z
  ·rcases KI z with z | z
   ·rw [List.mem_singleton.mp z];exact KG _ hlF
   ·exact KH _ z
  ·exact KG _ (sub a (KG _ z))
 have fin:=EnvOk.put (i:=i) (p:=⟨.lst .leaf,.list ds'⟩) (v:=.ref l) E4 ownL rfl (fun a ha=>by rw [List.mem_singleton.mp ha];exact hHe) (by rw [length_set];exact hi)
 rw [set_set,set_set,va h1] at fin;rw [e1] at h20;rw [va h20] at fin;exact fin
end
theorem oW:∀{ns:List Int} {us:List Value},Vals (ns.map V.int) us->IntsAre us ns
 | [],_,.nil=>.nil
 | n::ns,_,.cons r t=>by
  obtain ⟨tk,rfl⟩:=(show ∃t,_=Value.int n t from r)
  exact .cons _ _ (oW t)
theorem nW:∀{xs:List V} {us:List Value},xs.length=us.length->(∀(i:Nat) x u,xs[i]?=some x->us[i]?=some u->RelV x u)->Vals xs us
 | [],[],_,_=>.nil
 | x::xs,u::us,hl,h=>.cons (h 0 x u rfl rfl) (nW (by simpa using hl) fun i x u a b=>h (i+1) x u (by simpa using a) (by simpa using b))
 | [],_::_,hl,_=>by simp at hl
 | _::_,[],hl,_=>by simp at hl
def JD (ta:TA):TE:=fun σ H Q=>ta σ H fun vs H1=>∃j:Int,vs=[.int j]/\-(2 ^ 62)<=j/\j<=sizeLine/\∀l,H1 l=none->Q (.ref l) (bZ H1 l (.lst (eT 0 j.toNat)))
theorem kD {X:Cx} {a:Expr} {ta:TA} {p p2 pos pos2:Pos} (hg:Gl X "list") (hm:X.mg "list"=none) (hg2:Gl X "range") (hm2:X.mg "range"=none) (hc:X.calm=true) (ha:PA X [a] ta) (hs:starEach [a] X.env=[(false,eval a X.env)])
  (hs1:starEach [.Call (.Name "range" p2) [a] [] pos2] X.env=[(false,eval (.Call (.Name "range" p2) [a] [] pos2) X.env)]):PE X (.Call (.Name "list" p) [.Call (.Name "range" p2) [a] [] pos2] [] pos) (JD ta):=by
 intro pins s σ H Q I h;refine Call_ (u4 I hg hm uK (PyProof.Rows.callWith_type1 ?_ hs1 rfl))
 rw [hs1];show wpAny _ _ (spliced ((false,eval (.Call (.Name "range" p2) [a] [] pos2) X.env)::[])) _ _ s
 refine Calls.spliced_cons (Call_ (u4 I hg2 hm2 boot_range (PyProof.Rows.callWith_type1 (bM (ha pos2 pins s σ H _ I h) fun us s1 ⟨vs,H1,I1,r1,q1⟩=>?_) hs rfl)))
 obtain ⟨j,e,q1,q2,q⟩:=q1;subst e;obtain ⟨u,rfl,ru⟩:=r1.one;obtain ⟨t,rfl⟩:=(show ∃t,u=Value.int j t from ru)
 refine call_range_1 (Calls.spliced_nil ?_)
 have hz:(sizeLine:Int)<2 ^ 62:=by decide
 refine call_list_range (n:=j.toNat) (I.ok.hd hc) (IsRange.new ..) (small_one (by omega) (by omega) q1 (by omega)) (by rw [rangeSize_one];split<;>omega) (by have:(sizeLine:Nat)=2 ^ 24:=rfl;omega) fun h' tk acc' c' hk ho hacc=>?_
 have I2:Inv X pins σ H1 { s1 with heap:=s1.heap.push { cls:=.type "range",data:=.fields #[.int 0 s1.toks,.int j t,.int 1 (s1.toks+1)] },toks:=s1.toks+1+1 }:=I1.kept fun b o e=>KU _ e
 have hv:Vals (eT 0 j.toNat) acc'.toList:=by
  refine nW (by have:=hacc.1;simp only [Array.length_toList,eT,length_map,List.length_range];omega) fun i x u e1 e2=>?_
  obtain ⟨t2,rfl⟩:=hacc.2 i u (by rw [<-Array.getElem?_toList];exact e2)
  unfold eT at e1;rw [getElem?_map] at e1
  cases e3:(List.range j.toNat)[i]? with
  | none=>rw [e3] at e1;cases e1
  | some k=>
   rw [e3] at e1;obtain ⟨k1,k2⟩:=KP e3
   simp at k2
   subst k2
   cases e1;exact ⟨t2,by simp⟩
 refine ⟨.ref _,bZ H1 _ (.lst (eT 0 j.toNat)),I2.laid (t':=tk) (fun b o e=>hk b o e) (KW _) ⟨?_,acc'.toList,c',hv,by simpa using ho⟩,rfl,q _ (I2.hok.fresh (KW _))⟩
 simp only [eT,length_map,List.length_range]
 omega
section
variable {K:Fg} {W:XW} {σ:St} {H:Hp} {Q:VK} {fa:F1} {fl:FL}
theorem AftL.newSc {He:Hp} {O:List Addr} {Fs Gs Fs1:List (List Addr)} {Γ1:Ev} {ps:List PV} {us:List V} {H1:Hp} {l:Addr} {vs:List V} {ds:List KY} (A:AftL K He O Fs H σ Γ1 ps us H1 Gs Fs1) (nd:O.Nodup) (hl:H1 l=none) (hv:vs.length=ds.length) (hs:∀(i:Nat) v d,vs[i]?=some v->ds[i]?=some d->Sc v d) :
  Aft K He O Fs H σ Γ1 ⟨.lst .leaf,.list ds⟩ (.ref l) (bZ H1 l (.lst vs)) [l] Fs1:=by
 refine ⟨A.same.trans (iY hl),A.env.dropL.hide (iY hl) (by simp) (by simpa using hl) (fun a ha=>by rw [List.mem_singleton.mp ha,gr];exact Option.some_ne_none _),fun a ha=>?_,?_⟩
 ·rcases KI ha with z | z
  ·rw [List.mem_singleton.mp z];exact .inr (A.same.free hl)
  ·exact A.new a (KG _ z)
 ·exact Own.mkLeaves gr hv fun j u d e1 e2=>(hs j u d e1 e2).rep
def uw (fl:FL):F1:=fun Γ=>(fl Γ).bind fun ps Γ'=>match jh (ps.map (·.d)) with
 | some j=>if j<=sizeLine then .ok ⟨.lst .leaf,.list (cz 0 j.toNat)⟩ Γ' else .no
 | none=>.no
theorem Df (h:tE K W (uw fl) σ H Q):JD (tA K W fl) σ H Q:=by
 obtain ⟨He,O,Fs,Γ,E,h⟩:=h;refine ⟨He,O,Fs,Γ,E,?_⟩
 unfold uw at h
 cases e:fl Γ with
 | er c Γ'=>rw [e] at h;exact h
 | no=>rw [e] at h;exact h
 | ok ps Γ1=>
  rw [e] at h;intro vs H1 Gs Fs1 A;have h:Wants K W He O Fs H σ Q (match jh (ps.map (·.d)) with | some j=>if j<=sizeLine then .ok ⟨.lst .leaf,.list (cz 0 j.toNat)⟩ Γ1 else .no | none=>.no):=h
  cases er:jh (ps.map (·.d)) with
  | none=>rw [er] at h;exact h.elim
  | some j=>
   rw [er] at h;obtain ⟨e1,e2,e3⟩:=oq er;have r:=A.reps
   rw [e1] at r;have h:Wants K W He O Fs H σ Q (if j<=sizeLine then .ok ⟨.lst .leaf,.list (cz 0 j.toNat)⟩ Γ1 else .no):=h
   by_cases hj:j<=sizeLine
   ·rw [if_pos hj] at h
    have hv:vs=[.int j]:=by
     have hl:=r.1
     match vs,hl with
     | [v],_=>
      have q:=r.2 0 v (.int j) rfl rfl
      cases q;rfl
    refine ⟨j,hv,e2,hj,fun l hl=>h _ _ _ _ (A.newSc E.ndO hl (by simp [eT,cz]) fun i v d a1 a2=>?_)⟩
    have q:=Hj (K:=K) (H:=H1) (lo:=0) (n:=j.toNat)
    refine (q.2 i v d a1 a2).sc ?_
    unfold cz at a2;rw [getElem?_map] at a2
    cases e3:(List.range j.toNat)[i]? with
    | none=>rw [e3] at a2;cases a2
    | some k=>rw [e3] at a2;cases a2;rfl
   ·rw [if_neg hj] at h;exact h.elim
def rh:List KY->Option (List Int)
 | []=>some []
 | .int i::r=>(rh r).map (i :: ·)
 | _=>none
theorem Hf:∀{ds:List KY} {ns:List Int},rh ds=some ns->ds=ns.map .int
 | [],ns,h=>by cases h;rfl
 | .int i::r,ns,h=>by
  unfold rh at h
  cases e:rh r with
  | none=>rw [e] at h;cases h
  | some ms=>rw [e] at h;cases h;rw [Hf e];rfl
 | .none::_,_,h=>by cases h
 | .bool _::_,_,h=>by cases h
 | .str _::_,_,h=>by cases h
 | .list _::_,_,h=>by cases h
 | .tuple _::_,_,h=>by cases h
 | .dict _::_,_,h=>by cases h
end
theorem Inv.turnedL {X:Cx} {pins:List (Addr×Obj)} {σ:St} {H:Hp} {s:Shared} {h':Heap} {t':Nat} {fp:List Addr} (I:L2.Inv X pins σ H s) (k:∀b o,b∉fp->s.heap.get? b=some o->h'.get? b=some o) (hf:∀b∈fp,jH X pins H b):L2.Inv X pins σ H { s with heap:=h',toks:=t' }:=by
 have nit:∀b u,H b=some u->b∉fp:=fun b u e z=>by have:=(hf b z).1;rw [e] at this;cases this
 have hL:X.env.locals∉fp:=fun z=>(hf _ z).2.1 rfl
 refine I.step (g':=s.gens) (d':=s.drawn) (ch:=fp) (fun b hb=>?_) (fun b o _ _ hc e _=>k b o hc e) (fun b o _ _ hc e _=>⟨o.slots,k b o hc e⟩) (fun _ _ _ _ n=>n)
  (fun b o hc e=>⟨o,k b o hc e⟩) (fun _ _ e=>e) (fun _ _ _ e=>e) (fun b ps e=>⟨#[],by rw [e];simp⟩) (fun m hm=>?_) (fun b u e=>?_) I.bare
 ·obtain ⟨f0,f1,f2,f3,f4,f5⟩:=hf b hb
  exact ⟨f3,f1,f4,f5⟩
 ·obtain ⟨o,es,ep,ho,r⟩:=hm
  exact ⟨o,es,ep,k _ o hL ho,r⟩
 ·refine (I.hok b u e).stay (fun c v hc q=>k c v ?_ q) (fun _ q=>q) fun _ _ q=>q
  rcases hc with z | z
  ·rw [z];exact nit b u e
  ·exact nit c _ z
theorem Inv.turnedT {X:Cx} {pins:List (Addr×Obj)} {σ:St} {H:Hp} {s:Shared} {h':Heap} {t':Nat} {fp:List Addr} {T:Addr} {xs:List V} (I:L2.Inv X pins σ H s) (k:∀b o,b∉fp->s.heap.get? b=some o->h'.get? b=some o) (hf:∀b∈fp,jH X pins H b) (hT:s.heap.objs.size<=T)
  (new:ObjOk X.prog X.w (bZ H T (.tup xs)) h' T (.tup xs)):L2.Inv X pins σ (bZ H T (.tup xs)) { s with heap:=h',toks:=t' }:=by
 have hTn:H T=none:=I.hok.fresh hT
 have nit:∀b u,H b=some u->b∉fp:=fun b u e z=>by have:=(hf b z).1;rw [e] at this;cases this
 have up:∀b u,H b=some u->bZ H T (.tup xs) b=some u:=fun b u e=>by rw [eZ (rC e hTn)];exact e
 have hL:X.env.locals∉fp:=fun z=>(hf _ z).2.1 rfl
 refine I.step (g':=s.gens) (d':=s.drawn) (ch:=fp) (fun b hb=>?_) (fun b o _ _ hc e _=>k b o hc e) (fun b o _ _ hc e _=>⟨o.slots,k b o hc e⟩) (fun b o _ e n=>by rw [eZ (Nat.ne_of_lt (Nat.lt_of_lt_of_le (Heap.lt_size e) hT))];exact n)
  (fun b o hc e=>⟨o,k b o hc e⟩) (fun b _ e=>up b _ e) (fun b _ _ e=>up b _ e) (fun b ps e=>⟨#[],by rw [up b _ e];simp⟩) (fun m hm=>?_) (fun b u e=>?_) I.bare
 ·obtain ⟨f0,f1,f2,f3,f4,f5⟩:=hf b hb
  exact ⟨f3,f1,f4,f5⟩
 ·obtain ⟨o,es,ep,ho,r⟩:=hm
  exact ⟨o,es,ep,k _ o hL ho,r⟩
 ·by_cases hb:b=T
  ·subst hb
   rw [gr] at e
   cases e;exact new
  ·rw [eZ hb] at e
   refine (I.hok b u e).stay (fun c v hc q=>k c v ?_ q) (fun c q=>up c _ q) fun c _ q=>up c _ q
   rcases hc with z | z
   ·rw [z];exact nit b u e
   ·exact nit c _ z
def Jt (K:Fg) (a:Addr):It:=
 ⟨fun i H=>∃xs x,SqL K H a xs/\xs[i]?=some x,fun i H x H'=>∃T v,x=.ref T/\H T=none/\H'=bZ H T (.tup [.int i,v])/\∀xs,SqL K H a xs->xs[i]?=some v,fun i H=>∃xs,SqL K H a xs/\xs.length<=i⟩
theorem pF {P:Program} {w:World} {K:Fg} {elts:List Expr} {k:Nat} {pos:Pos} (a e it:Addr) (hei:e≠it) (hae:a≠e) (hai:a≠it) :
  nT P w K (.Tuple elts k pos) (Jt K a) [e,it] e (fun i h=>(∃old,IsEnum h e it i old)/\h.IsListIter it a i) where
 mem:=by simp
 obj:=fun i h st b hb=>by
  obtain ⟨⟨old,he⟩,o,e1,c,d⟩:=st;simp only [mem_cons,not_mem_nil,or_false] at hb
  rcases hb with rfl | rfl
  ·exact ⟨_,he,fun v z=>by
    have z':Data.fields _=Data.cell v:=z
    cases z'⟩
  ·exact ⟨o,e1,fun v z=>by rw [d] at z;cases z⟩
 keep:=fun i h h' st kk=>by
  obtain ⟨⟨old,he⟩,hit⟩:=st;exact ⟨⟨old,kk e (by simp) _ he⟩,hit.at fun o q=>kk it (by simp) o q⟩
 item:=by
  intro X hP hw hK hc i pins s σ H E I hf st hg;subst hP hw hK;obtain ⟨xs,x,hq,hx⟩:=hg;obtain ⟨its,rv,p,hz⟩:=I.list hq;obtain ⟨u,hu,ru⟩:=rv.get hx;have W:=WalksT.enumerate (prog:=X.prog) (w:=X.w) (A:=X.A) (I.ok.hd hc) e it a hei hae hai its.toArray
  have hil:i<its.toArray.size:=by
   have:=(KP hu).1
   simpa using this
  refine W.item i s _ _ hil ⟨st.1,st.2,p.isList⟩ fun T vals h' tk hv hT hTT hMid kk=>?_
  obtain ⟨t,y,hy,rfl⟩:=hv;have ey:y=u:=by
   rw [getElem?_toArray,hu] at hy;exact (Option.some.inj hy).symm
  subst ey;refine ⟨.ref T,rfl,W.go elts k pos i T _ _ _ hMid fun h2 st2 kk2=>?_⟩
  have hTn:H T=none:=I.hok.fresh hT
  have hTw:T∉[e,it]:=W.apart i T _ hMid
  have kAll:∀b o,b∉[e,it]->s.heap.get? b=some o->h2.get? b=some o:=fun b o hb q=>kk2 b o hb (kk b o hb q)
  have I1:L2.Inv X pins σ H { s with heap:=h2,toks:=tk }:=Inv.turnedL I kAll hf
  have tT:h2.IsTuple T #[.int i t,y]:=by
   obtain ⟨o,q1,q2⟩:=hTT;exact ⟨o,kk2 T o hTw q1,q2⟩
  have hvs:Vals [.int (i:Int),x] [.int i t,y]:=.cons (show RelV (.int (i:Int)) (.int i t) from ⟨t,rfl⟩) (.cons ru .nil)
  have I3:L2.Inv X pins σ (bZ H T (.tup [.int i,x])) { s with heap:=h2,toks:=tk }:=Inv.turnedT (t':=tk) I kAll hf hT ⟨by show 2<=sizeLine;decide,[.int i t,y],hvs,(show IsTup h2 T _ from tT)⟩
  refine ⟨.ref T,bZ H T (.tup [.int i,x]),I3,rfl,⟨T,x,rfl,hTn,rfl,fun ys hy=>by rw [I.list_inj hy hq];exact hx⟩,⟨st2.1,st2.2.1⟩,fun b hb=>?_⟩
  have hbT:b≠T:=fun z=>by rw [z] at hb;exact hTw hb
  rw [eZ hbT];exact (hf b hb).1
 done:=by
  intro X hP hw hK hc i pins s σ H E I hf st hg;subst hP hw hK;obtain ⟨xs,hq,hx⟩:=hg;obtain ⟨its,rv,p,hz⟩:=I.list hq;have hl:=rv.length
  obtain ⟨⟨old,he⟩,hit⟩:=st;refine wpAny_pyNext_enum_end (I.ok.hd hc) he hit p.isList (Array.getElem?_eq_none (by simp;omega)) fun h' hk=>⟨rfl,Inv.turnedL (t':=s.toks) I (fun b o hb q=>hk b o (fun z=>hb (by simp [z])) q) hf⟩
 self:=fun _ _ _ _ _ st h=>by
  obtain ⟨⟨old,he⟩,hit⟩:=st;exact wpAny_pyIter_enum he h
def yq (K:Fg) (ta:TA):TI:=fun σ H R=>ta σ H fun vs H1=>∃a,vs=[.ref a]/\(∃xs,SqL K H1 a xs)/\R (Jt K a) H1
theorem oM {X:Cx} {elts:List Expr} {kt:Nat} {ptg:Pos} {l:Expr} {ta:TA} {p pos:Pos} (hg:Gl X "enumerate") (hm:X.mg "enumerate"=none) (ha:PA X [l] ta) (hs:starEach [l] X.env=[(false,eval l X.env)]) :
  PI X (.Tuple elts kt ptg) (.Call (.Name "enumerate" p) [l] [] pos) (yq X.K ta):=by
 intro pins s σ H R I h;refine Call_ (u4 I hg hm boot_enumerate (PyProof.Rows.callWith_type1 (bM (ha pos pins s σ H _ I h) fun us s1 ⟨vs,H1,I1,r1,q1⟩=>?_) hs rfl))
 obtain ⟨a,e,⟨xs,hq⟩,q⟩:=q1;subst e;obtain ⟨u,rfl,ru⟩:=r1.one
 cases ru;obtain ⟨its,rv,pl,hz⟩:=I1.list hq;refine call_enumerate_list pl.isList fun h' he hit hsz hk=>?_
 have ha1:a<s1.heap.objs.size:=by
  obtain ⟨o,q1,_⟩:=pl.isList;exact Heap.lt_size q1
 refine wpAny_pyIter_enum (s:={ s1 with heap:=h' }) he ?_
 have I2:L2.Inv X pins σ H1 { s1 with heap:=h' }:=I1.kept (t':=s1.toks) hk
 refine ⟨s1.heap.objs.size+1,[s1.heap.objs.size+1,s1.heap.objs.size],_,Jt X.K a,H1,rfl,I2,pF a _ _ (Nat.succ_ne_self _) (Nat.ne_of_lt (Nat.lt_succ_of_lt ha1)) (Nat.ne_of_lt ha1),⟨⟨_,he⟩,hit⟩,fun b hb=>?_,q⟩
 simp only [mem_cons,not_mem_nil,or_false] at hb
 have hb2:s1.heap.objs.size<=b:=by
  rcases hb with z | z
  ·rw [z];exact Nat.le_succ _
  ·rw [z];exact KW _
 have f:=I1.fpOk hb2 (I1.hok.fresh hb2)
 exact f
def rl (i j:Nat) (fc:FB) (fe:F1) (s:Sh):Nat->List KY->Ev->List KY->Out (List KY)
 | _,[],Γ,acc=>.ok acc Γ
 | k,d::r,Γ,acc=>match fc ((Γ.set i (KZ (.int (k:Nat)))).set j (KZ d)) with
  | .ok true Γ1=>(match fe Γ1 with
   | .ok p Γ2=>if T.coer s p&&decide (acc.length<sizeLine) then rl i j fc fe s (k+1) r ((Γ2.set i none).set j none) (acc++[p.d]) else .no
   | _=>.no)
  | .ok false Γ1=>if acc.length<sizeLine then rl i j fc fe s (k+1) r ((Γ1.set i none).set j none) acc else .no
  | _=>.no
def nV:Option (Option PV)->Bool
 | some none=>true
 | _=>false
def g5 (s:Sh) (i j:Nat) (fa:F1) (fc:FB) (fe:F1):F1:=fun Γ=>(aZ fa Γ).bind fun t Γ1=>if nV Γ1[i]?&&nV Γ1[j]?&&!s.isView then (match rl i j fc fe s 0 t.ds Γ1 [] with
 | .ok ds Γ2=>.ok ⟨.lst s,.list ds⟩ Γ2
 | _=>.no) else .no
theorem Fh {o:Option (Option PV)} (h:nV o=true):o=some none:=by
 unfold nV at h;split at h
 ·rfl
 ·cases h
section
variable {K:Fg} {He H H1 H2:Hp} {O G:List Addr} {Fs Fs1 Fs2:List (List Addr)} {σ:St} {Γ Γ1 Γ2:Ev}
theorem se {Γ:Ev} {i j m:Nat} {p:PV} (h:((Γ.set i none).set j none)[m]?=some (some p)):m≠i/\m≠j/\Γ[m]?=some (some p):=by
 obtain ⟨h1,h2⟩:=Fq h;obtain ⟨h3,h4⟩:=Fq h2;exact ⟨h3,h1,h4⟩
theorem EnvOk.forget2 {i j:Nat} {x y:Option V} (E:EnvOk K He O Fs H (((bx [i,j] σ).set i x).set j y) Γ):EnvOk K He O Fs H (bx [i,j] σ) ((Γ.set i none).set j none):=by
 refine ⟨by have:=E.len1;simpa using this,by have:=E.len2;simpa using this,E.same,E.nd,E.inH,E.fresh,fun m q hq=>?_⟩
 obtain ⟨h1,h2,h3⟩:=se hq;obtain ⟨w1,v',F',e1,e2,e3⟩:=E.slot m q h3;rw [getElem?_set_ne (Ne.symm h2),getElem?_set_ne (Ne.symm h1)] at e1;exact ⟨w1,v',F',e1,e2,e3⟩
theorem EnvOk.blank2 {i j:Nat} (E:EnvOk K He O Fs H σ Γ) (hi:Γ[i]?=some none) (hj:Γ[j]?=some none):EnvOk K He O Fs H (bx [i,j] σ) Γ:=by
 refine ⟨by rw [uV];exact E.len1,E.len2,E.same,E.nd,E.inH,E.fresh,fun m q hq=>?_⟩
 obtain ⟨w1,v',F',e1,e2,e3⟩:=E.slot m q hq;refine ⟨w1,v',F',?_,e2,e3⟩
 rw [GH (fun z=>?_)]
 ·exact e1
 ·simp only [mem_cons,not_mem_nil,or_false] at z
  rcases z with z | z
  ·rw [z,hi] at hq;cases hq
  ·rw [z,hj] at hq;cases hq
theorem EnvOk.unblank2 {i j:Nat} (E:EnvOk K He O Fs H (bx [i,j] σ) Γ):EnvOk K He O Fs H σ Γ:=by
 refine ⟨by have:=E.len1;rw [uV] at this;exact this,E.len2,E.same,E.nd,E.inH,E.fresh,fun m q hq=>?_⟩
 obtain ⟨w1,v',F',e1,e2,e3⟩:=E.slot m q hq;exact ⟨w1,v',F',(CA e1).2,e2,e3⟩
theorem Fb {i:Nat} {a:Addr} (hi:i<Fs.length) (h:a∈(Fs.set i []).flatten):a∈Fs.flatten:=by
 have hF:Fs[i]?=some (Fs[i]'hi):=KL _
 have:=(m7 (G:=[]) hF).mem_iff.mp (KG _ h)
 simpa using this
structure yE (K:Fg) (He:Hp) (O:List Addr) (Fs1:List (List Addr)) (H1:Hp) (σ:St) (i j:Nat) (s:Sh) (A0:Addr) (n:Nat) (ys:List V) (H:Hp) (Γk:Ev) (Fk Gs:List (List Addr)) (acc:List KY):Prop where
 env:EnvOk K He (A0::Gs.flatten++O) Fk H (bx [i,j] σ) Γk
 same:Same H1 H
 at_:H A0=some (.lst ys)
 new:∀a∈Gs.flatten++Fk.flatten,a∈Fs1.flatten\/H1 a=none
 l1:ys.length=acc.length
 l2:Gs.length=acc.length
 own:∀(m:Nat) v d G,ys[m]?=some v->acc[m]?=some d->Gs[m]?=some G->Own K (A0::Gs.flatten++O++Fk.flatten) H s G v d
 len:Γk.length=n
end
section
variable {K:Fg} {W:XW} {σ:St} {H:Hp} {Q:VK} {fa fe:F1} {fc:FB} {s:Sh} {i j:Nat}
theorem lI (hij:i≠j) (h:tE K W (g5 s i j fa fc fe) σ H Q):jM [i,j] (yq K (tA K W (ae fa ah))) (wR K 2 (j1 (gName i) (j1 (gName j) wU))) (tT K W0 fc) (tE K W0 fe) σ H Q:=by
 obtain ⟨He,O,Fs,Γ,E,h⟩:=h;refine Ez ⟨He,O,Fs,Γ,E,?_⟩
 unfold g5 aZ at h
 cases e:fa Γ with
 | er c Γ1=>rw [e] at h;exact h
 | no=>rw [e] at h;exact h
 | ok p Γ1=>
  rw [e] at h;intro v H1 G Fs1 A;obtain ⟨sp,d⟩:=p
  cases d with
  | list ds=>
   have h:Wants K W He O Fs H σ Q ((if dH ⟨sp,.list ds⟩ ds then Out.ok (⟨ds,!sp.isView⟩:Js) Γ1 else .no).bind fun t Γ1=>if nV Γ1[i]?&&nV Γ1[j]?&&!s.isView then (match rl i j fc fe s 0 t.ds Γ1 [] with | .ok ds Γ2=>.ok ⟨.lst s,.list ds⟩ Γ2 | _=>.no) else .no):=h
   cases hc:dH ⟨sp,.list ds⟩ ds with
   | false=>rw [hc] at h;exact h.elim
   | true=>
    rw [hc] at h;have h:Wants K W He O Fs H σ Q (if nV Γ1[i]?&&nV Γ1[j]?&&!s.isView then (match rl i j fc fe s 0 ds Γ1 [] with | .ok ds Γ2=>.ok ⟨.lst s,.list ds⟩ Γ2 | _=>.no) else .no):=h
    by_cases hn:(nV Γ1[i]?&&nV Γ1[j]?&&!s.isView)=true
    case neg=>rw [if_neg hn] at h;exact h.elim
    rw [if_pos hn] at h;simp only [Bool.and_eq_true,Bool.not_eq_true'] at hn
    obtain ⟨⟨hni,hnj⟩,hsv⟩:=hn;have hni:=Fh hni
    have hnj:=Fh hnj
    cases eg:rl i j fc fe s 0 ds Γ1 [] with
    | er c Γ'=>rw [eg] at h;exact h.elim
    | no=>rw [eg] at h;exact h.elim
    | ok ds' Γ2=>
     rw [eg] at h;have h:Wants K W He O Fs H σ Q (.ok ⟨.lst s,.list ds'⟩ Γ2):=h
     obtain ⟨p,vs,rfl,hq,hst,hr⟩:=A.own.items (O':=O++Fs1.flatten) hc km A.disj
     have E1:=A.go
     have hlen:vs.length=ds.length:=hr.1
     have hi:i<Γ1.length:=(KP hni).1
     have hj:j<Γ1.length:=(KP hnj).1
     refine ⟨p,rfl,⟨vs,hq⟩,fun A0 hD=>?_⟩
     have hHeD:He A0=none:=E1.same.free hD
     have E0':EnvOk K He (A0::([]:List (List Addr)).flatten++O) Fs1 (bZ H1 A0 (.lst [])) (bx [i,j] σ) Γ1:=
      (E1.blank2 hni hnj).hide (G:=[A0]) (iY hD) (by simp) (fun a ha=>by simp at ha;rw [ha];exact hD) (fun a ha=>by simp at ha;rw [ha,gr];exact Option.some_ne_none _)
     refine ⟨fun k m ys H'=>m=vs.length-k/\k<=vs.length/\∃Γk Fk Gs acc,yE K He O Fs1 H1 σ i j s A0 Γ1.length ys H' Γk Fk Gs acc/\rl i j fc fe s k (ds.drop k) Γk acc=.ok ds' Γ2,⟨vs.length,by simp,Nat.zero_le _,Γ1,Fs1,[],[],⟨E0',iY hD,gr,fun a ha=>.inl (by simpa using ha),rfl,rfl,fun m v d G h1=>by simp at h1,rfl⟩,by simpa using eg⟩,?_⟩
     rintro k m ys H' ⟨rfl,hk,Γk,Fk,Gs,acc,g,eg'⟩
     refine ⟨g.at_,?_⟩
     have hPk:SqL K H' p vs:=g.same.seq hq
     by_cases hlt:k<vs.length
     case neg=>
      left
      have:ds.drop k=[]:=drop_eq_nil_of_le (by omega)
      rw [this] at eg';have eg'':(Out.ok acc Γk:Out (List KY))=.ok ds' Γ2:=eg'
      injection eg'' with e1 e2
      subst e1;subst e2;refine ⟨⟨vs,hPk,by omega⟩,?_⟩
      obtain ⟨n1',_,n3'⟩:=KO g.env.ndO;refine h (.ref A0) H' (A0::Gs.flatten) Fk ⟨A.same.trans g.same,g.env.unblank2,fun a ha=>?_,?_⟩
      ·have up:a∈Fs1.flatten\/H1 a=none->a∈Fs.flatten\/H a=none:=fun z=>z.elim (fun y=>A.newF a y) fun y=>.inr (A.same.free y)
       rcases KI ha with z | z
       ·rcases KJ z with z | z
        ·exact up (.inr (by rw [z];exact hD))
        ·exact up (g.new a (KH _ z))
       ·exact up (g.new a (KG _ z))
      ·exact .lst hsv g.at_ g.l1 g.l2 n1' fun m v d G h1 h2 h3=>g.own m v d G h1 h2 h3
     case pos=>
      right
      have hv:vs[k]?=some vs[k]:=KL hlt
      have hkd:k<ds.length:=by omega
      have hd:ds[k]?=some ds[k]:=KL hkd
      have hdr:ds.drop k=ds[k]::ds.drop (k+1):=drop_eq_getElem_cons hkd
      rw [hdr] at eg';generalize hdk:ds[k]=d at hd eg'
      generalize hvk:vs[k]=v at hv
      simp only [rl] at eg'
      have hik:i<Γk.length:=by rw [g.len];exact hi
      have hjk:j<Γk.length:=by rw [g.len];exact hj
      have hsl:ys.length<sizeLine:=by
       rw [g.l1]
       cases ec:fc ((Γk.set i (KZ (.int (k:Nat)))).set j (KZ d)) with
       | no=>rw [ec] at eg';cases eg'
       | er c Γ'=>rw [ec] at eg';cases eg'
       | ok b Γa=>
        rw [ec] at eg'
        cases b with
        | false=>
         dsimp only at eg'
         split at eg'
         ·assumption
         ·cases eg'
        | true=>
         dsimp only at eg'
         split at eg'
         ·split at eg'
          ·rename_i z
           simp only [Bool.and_eq_true,decide_eq_true_eq] at z
           exact z.2
          ·cases eg'
         ·cases eg'
      refine ⟨⟨vs,v,hPk,hv⟩,hsl,?_⟩
      rintro x Hx ⟨T,v',rfl,hTn,rfl,hv'⟩
      have ev:v'=v:=Option.some.inj ((hv' vs hPk).symm.trans hv)
      subst ev;refine ⟨T,[.int k,v'],rfl,.of gr,rfl,.int k,[v'],rfl,v',[],rfl,rfl,?_⟩
      have sT:Same H' (bZ H' T (.tup [.int k,v'])):=iY hTn
      have Eg:=g.env.grow sT
      have rep:Rep K (du (bZ H' T (.tup [.int k,v'])) (A0::Gs.flatten++O++Fk.flatten)) v' d:=(hr.2 k v' d hv hd).mono (qS (g.same.trans sT) fun a ha=>by
       rcases KI ha with z | z
       ·rcases KI z with z | z
        ·rcases KJ z with z | z
         ·rw [z];exact .inr hD
         ·exact (g.new a (KH _ z)).elim (fun y=>.inl (KG _ y)) .inr
        ·exact .inl (KH _ z)
       ·exact (g.new a (KG _ z)).elim (fun y=>.inl (KG _ y)) .inr)
      have lF:Fk.length=Γk.length:=g.env.len2
      have Ep:=EnvOk.put (G:=[]) (i:=i) (p:=⟨.leaf,.int (k:Nat)⟩) (v:=.int k) Eg (.leaf (.int _)) rfl (fun a ha=>by simp at ha) hik
      have fk:∀a∈(Fk.set i []).flatten,a∈Fk.flatten:=fun a ha=>Fb (by omega) ha
      have Eq:=EnvOk.put (G:=[]) (i:=j) (p:=⟨.leaf,d⟩) (v:=v') Ep (.leaf (rep.mono (qS (Same.refl _) fun a ha=>.inl (by
       rcases KI ha with z | z
       ·exact KH _ z
       ·exact KG _ (fk a z))))) rfl (fun a ha=>by simp at ha) (by rw [length_set];exact hjk)
      have fkk:∀a∈((Fk.set i []).set j []).flatten,a∈Fk.flatten:=fun a ha=>fk a (Fb (by rw [length_set];omega) ha)
      refine ⟨⟨by rw [length_set,length_set],fun m u hm=>?_⟩,?_⟩
      ·have:=(CA hm).1
       simp only [mem_cons,not_mem_nil,or_false,not_or] at this
       rw [getElem?_set_ne (Ne.symm this.2),getElem?_set_ne (Ne.symm this.1)];exact hm
      refine ⟨He,_,_,_,Eq,?_⟩
      cases ec:fc ((Γk.set i (KZ (.int (k:Nat)))).set j (KZ d)) with
      | no=>rw [ec] at eg';cases eg'
      | er c Γ'=>rw [ec] at eg';cases eg'
      | ok b Γa=>
       rw [ec] at eg';intro H3 Fs3 s3' E3 n3
       have s3:Same H' H3:=sT.trans s3'
       have lena:Γa.length=Γ1.length:=by
        have:=E3.len1
        rw [length_set,length_set,uV,E1.len1] at this;exact this.symm
       have n3':∀a∈Fs3.flatten,a∈Fs1.flatten\/H1 a=none:=fun a ha=>(n3 a ha).elim (fun z=>g.new a (KG _ (fkk a z))) fun z=>.inr (g.same.free (sT.free z))
       have n3k:∀a∈Fs3.flatten,a∈Fk.flatten\/H' a=none:=fun a ha=>(n3 a ha).elim (fun z=>.inl (fkk a z)) fun z=>.inr (sT.free z)
       cases b with
       | false=>
        dsimp only at eg'
        split at eg'
        case isFalse=>cases eg'
        refine gU ⟨vs.length-(k+1),by omega,rfl,hlt,(Γa.set i none).set j none,Fs3,Gs,acc,⟨E3.forget2,g.same.trans s3,s3 _ _ g.at_,fun a ha=>?_,g.l1,g.l2,fun m v d G h1 h2 h3=>(g.own m v d G h1 h2 h3).mono s3 fun a ha=>?_,by rw [length_set,length_set];exact lena⟩,eg'⟩
        ·rcases KI ha with z | z
         ·exact g.new a (KH _ z)
         ·exact n3' a z
        ·rcases KI ha with z | z
         ·exact .inl (KH _ z)
         ·exact (n3k a z).elim (fun y=>.inl (KG _ y)) .inr
       | true=>
        refine jv ⟨He,_,_,_,E3,?_⟩
        dsimp only at eg'
        cases ee:fe Γa with
        | no=>rw [ee] at eg';cases eg'
        | er c Γ'=>rw [ee] at eg';cases eg'
        | ok p Γb=>
         rw [ee] at eg';dsimp only at eg'
         split at eg'
         case isFalse=>cases eg'
         rename_i hco;simp only [Bool.and_eq_true,decide_eq_true_eq] at hco
         obtain ⟨hco,_⟩:=hco;intro u H4 G Fs4 A4;have lenb:Γb.length=Γ1.length:=by
          have:=A4.env.len1
          rw [length_set,length_set,uV,E1.len1] at this;exact this.symm
         have at4:H4 A0=some (.lst ys):=A4.same _ _ (s3 _ _ g.at_)
         have s14:Same H1 H4:=(g.same.trans s3).trans A4.same
         have new4:∀a∈G++Fs4.flatten,a∈Fs1.flatten\/H1 a=none:=fun a ha=>(A4.new a ha).elim (n3' a) fun z=>.inr ((g.same.trans s3).free z)
         have hG':∀a∈aP s G,a∈G:=fun a ha=>EY ha
         obtain ⟨k1,k2,k3⟩:=KO A4.env.ndO;have ndk:(aP s G).Nodup:=by
          cases s<;>first | exact nodup_nil | exact k1
         have pmO:(A0::(Gs++[aP s G]).flatten++O).Perm (aP s G++(A0::Gs.flatten++O)):=by
          rw [qZ];show (A0::((Gs.flatten++aP s G)++O)).Perm _
          refine List.Perm.trans ?_ List.perm_middle.symm
          refine List.Perm.cons _ ?_
          rw [append_assoc];exact jP _ _ _
         have E5:EnvOk K He (aP s G++(A0::Gs.flatten++O)) Fs4 H4 (((bx [i,j] σ).set i (some (.int k))).set j (some v')) Γb:=A4.env.drop (fun a ha=>by
          rcases KI ha with z | z
          ·exact KH _ (hG' a z)
          ·exact KG _ z) (List.nodup_append.mpr ⟨ndk,k2,fun a ha b hb=>k3 a (hG' a ha) b hb⟩)
         have E6:=(E5.perm pmO).forget2
         have hDin:A0∈A0::(Gs++[aP s G]).flatten++O:=mem_cons_self
         have E7:=E6.mutO (o:=.lst (ys++[u])) hDin at4 hHeD
         have subH:∀a∈A0::(Gs++[aP s G]).flatten++O++Fs4.flatten,a∈G++(A0::Gs.flatten++O)++Fs4.flatten:=fun a ha=>by
          rcases KI ha with z | z
          ·rcases KI (pmO.mem_iff.mp z) with y | y
           ·exact KH _ (KH _ (hG' a y))
           ·exact KH _ (KG _ y)
          ·exact KG _ z
         have Dnot:∀{m:Nat} {Gj:List Addr},Gs[m]?=some Gj->A0∉Gj:=fun {m Gj} hj z=>by
          have nd:=g.env.ndO
          exact (List.nodup_cons.mp nd).1 (KH _ (kS hj z))
         refine ⟨at4,vs.length-(k+1),by omega,rfl,hlt,(Γb.set i none).set j none,Fs4,Gs++[aP s G],acc++[p.d],⟨E7,fun b o hb=>?_,gr,fun a ha=>?_,by simp [g.l1],by simp [g.l2],fun m w d' G' h1 h2 h3=>?_,by rw [length_set,length_set];exact lenb⟩,eg'⟩
         ·rw [eZ (rC hb hD)]
          exact s14 b o hb
         ·rcases KI ha with z | z
          ·rw [qZ] at z
           rcases KI z with z | z
           ·exact g.new a (KH _ z)
           ·exact new4 a (KH _ (hG' a z))
          ·exact new4 a (KG _ z)
         ·by_cases hm:m<ys.length
          ·rw [getElem?_append_left hm] at h1
           rw [getElem?_append_left (by rw [<-g.l1];exact hm)] at h2
           rw [getElem?_append_left (by rw [g.l2,<-g.l1];exact hm)] at h3
           have o1:=g.own m w d' G' h1 h2 h3
           have o2:=o1.mono (O':=A0::(Gs++[aP s G]).flatten++O++Fs4.flatten) (s3.trans A4.same) fun a ha=>by
            have up:a∈G++Fs4.flatten->a∈A0::Gs.flatten++O++Fk.flatten\/H' a=none:=fun z=>(A4.new a z).elim (fun y=>(n3k a y).elim (fun y=>.inl (KG _ y)) .inr) fun y=>.inr (s3.free y)
            rcases KI (subH a ha) with z | z
            ·rcases KI z with z | z
             ·exact up (KH _ z)
             ·exact .inl (KH _ z)
            ·exact up (KG _ z)
           exact o2.mut hsv (KH _ hDin) (Dnot h3) at4
          ·have hm':m=ys.length:=by
            have:=(KP h1).1
            rw [length_append,length_singleton] at this;omega
           subst hm'
           rw [getElem?_append_right (KW _),Nat.sub_self] at h1;rw [getElem?_append_right (by rw [g.l1];exact KW _),show ys.length-acc.length=0 by rw [g.l1];exact Nat.sub_self _] at h2
           rw [getElem?_append_right (by rw [g.l2,g.l1];exact KW _),show ys.length-Gs.length=0 by rw [g.l2,g.l1];exact Nat.sub_self _] at h3
           cases h1
           cases h2
           cases h3;have o3:=A4.own.coer (s:=s) (O':=A0::(Gs++[aP s G]).flatten++O++Fs4.flatten) hco subH fun a ha hO=>by
            cases s with
            | leaf=>
             exfalso
             have hO':a∈(A0::Gs.flatten++O)++Fs4.flatten:=by
              rw [qZ] at hO;simpa [aP] using hO
             rcases KI hO' with z | z
             ·exact k3 a ha a z rfl
             ·have nd:=A4.env.nd
              exact (KO nd).2.2 a (KH _ ha) a z rfl
            | view=>cases hsv
            | lst s=>exact ha
            | tup ss=>exact ha
           refine o3.mut hsv (KH _ hDin) (fun z=>?_) at4
           exact k3 A0 (hG' A0 z) A0 mem_cons_self rfl
  | _=>exact h.elim
end
def yJ (N:List Str) (is:List Nat) (cs:List Nat) (sc:Scope):Bool:=
 decide (sc.kind=.function)&&(sc.names.all fun p=>!decide (p.2=.free)||cs.any fun j=>decide (N[j]?=some p.1)) &&
 ((List.range N.length).all fun j=>is.contains j||(sc.names.all fun p=>!decide (some p.1=N[j]?)||(!decide (p.2=.local)&&!decide (p.2=.cell)))) &&
 (sc.names.all fun p=>!decide (p.2=.local)||decide (sc.names.lookup p.1=some .local)) &&
 (sc.names.all fun p=>!decide (p.2=.free)||sc.names.all fun q=>!decide (q.1=p.1)||!decide (q.2=.cell))
theorem G7 {X:Cx} {N gl:List Str} {vs cs ls lo gs is:List Nat} {scope:Scope} (S:Cp X N gl vs cs ls lo gs) (h:yJ N is cs scope=true):dG X.N is X.env.scope scope:=by
 unfold yJ at h;simp only [Bool.and_eq_true,decide_eq_true_eq,all_eq_true,Bool.or_eq_true,Bool.not_eq_true',decide_eq_false_iff_not,any_eq_true,mem_range] at h
 obtain ⟨⟨⟨⟨h0,h1⟩,h2⟩,h3⟩,h4⟩:=h;refine ⟨h0,fun n hn=>?_,fun j x e hj=>?_,fun x hx e=>?_,fun n hn hc=>?_⟩
 ·rcases h1 _ hn with z | ⟨j,hj,e⟩
  ·exact absurd rfl z
  ·exact S.cel j n e (by simpa using hj)
 ·rw [S.hN] at e
  rcases h2 j (KP e).1 with z | z
  ·simpa using z
  ·exfalso
   rcases hj with y | y
   ·rcases z _ y with w | w
    ·exact w e.symm
    ·exact w.1 rfl
   ·rcases z _ y with w | w
    ·exact w e.symm
    ·exact w.2 rfl
 ·rcases h3 x hx with z | z
  ·exact absurd e z
  ·exact z
 ·rcases h4 _ hn with z | z
  ·exact z rfl
  ·rcases z _ hc with w | w
   ·exact w rfl
   ·exact w rfl
end T
namespace TQ
open PySem PySem.Spec L2 T
open PyProof.Rows hiding St
section
variable {X:Cx} {N gl:List Str} {vs cs ls lo gs:List Nat} {W:XW} {a b c e:Expr} {es:List Expr} {pos p:Pos} {fa fb fc:F1} {fl:FL} {ga gb:FB} {g1 g2 g:FS}
theorem Cz {st:Stmt}:Q (PS X st (tS X.K W vC)):=⟨fun pins s σ H D I h=>by
 obtain ⟨He,O,Fs,Γ,E,h⟩:=h;exact h.elim⟩
theorem gq (ha:Q (PE X e (tE X.K W fa))) (hs:swapsWith e none pos.line X.env=pure false):Q (PS X (.Expr e pos) (tS X.K W (bg fa))):=⟨have ha:=ha.p;cH (oH ha hs) fun _ _ _=>vR⟩
theorem HD {p2 pos2:Pos} (S:Cp X N gl vs cs ls lo gs) (j k:Nat) (hj:gl[j]?=some ("list":Str)) (hg:gs.contains j=true) (hm:X.mg "list"=none) (hk:gl[k]?=some ("range":Str)) (hg2:gs.contains k=true) (hm2:X.mg "range"=none) (ha:Q (PA X [a] (tA X.K W fl))) (hs:starEach [a] X.env=[(false,eval a X.env)]) (hs1:starEach [.Call (.Name "range" p2) [a] [] pos2] X.env=[(false,eval (.Call (.Name "range" p2) [a] [] pos2) X.env)]):Q (PE X (.Call (.Name "list" p) [.Call (.Name "range" p2) [a] [] pos2] [] pos) (tE X.K W (uw fl))):=⟨have ha:=ha.p;bc (kD (S.g hj hg).1 hm (S.g hk hg2).1 hm2 S.calm ha hs hs1) fun _ _ _=>Df⟩
theorem Ht (n:Nat) {body:List Stmt} (hp:PassesOwn (model X.prog X.w) X.A X.env X.xe) (hc:Q (PT X c (tT X.K W ga))) (hb:Q (PSs X body (tS X.K W g))):Q (PS X (.While c body [] pos) (tS X.K W (u6 n ga g))):=⟨have hc:=hc.p;have hb:=hb.p;cH (sW hp hc hb) fun _ _ _=>sr⟩
theorem xR {scope:Scope} {x y:Str} {px py pt cpos:Pos} {kt:Nat} {elt:Expr} {ifs:List Expr} {fe:F1} {fc:FB} {vs' cs' lo' gs':List Nat} (S:Cp X N gl vs cs ls lo gs) (s:Sh) (i j k:Nat) (hij:(i != j)=true) (hx:N[i]?=some x) (hy:N[j]?=some y) (hk:gl[k]?=some ("enumerate":Str)) (hg:gs.contains k=true) (hm:X.mg "enumerate"=none) (h1:yJ N [i,j] cs scope=true) (h2:m5 N gl vs' cs' [i,j] lo' gs' scope=true) (ha:Q (PE X a (tE X.K W fa))) (hs1:starEach [a] X.env=[(false,eval a X.env)]) (hc:lh X N gl vs' cs' [i,j] lo' gs' fun Y=>Q (PF Y ifs (tT Y.K W0 fc))) (he:lh X N gl vs' cs' [i,j] lo' gs' fun Y=>Q (PE Y elt (tE Y.K W0 fe))) (hs:∀x,foldedSetIterable (.Call (.Name "enumerate" p) [a] [] cpos) X.env x=pure x):Q (PE X (.ListComp elt [⟨.Tuple [.Name x px,.Name y py] kt pt,.Call (.Name "enumerate" p) [a] [] cpos,ifs,0⟩] scope pos) (tE X.K W (g5 s i j fa fc fe))):=⟨by
 have ha:=ha.p
 have hc:=fun Y S F=>(hc Y S F).p
 have he:=fun Y S F=>(he Y S F).p
 have B:=fun cells C s₀ H₀ ex=>S.blk h2 cells C s₀ H₀ ex
 have L:=fun cells C s₀ H₀ ex=>(B cells C s₀ H₀ ex).loc i x hx (by simp)
 have L2':=fun cells C s₀ H₀ ex=>(B cells C s₀ H₀ ex).loc j y hy (by simp)
 have hN:X.N.Nodup:=by rw [S.hN];exact S.nd
 exact bc (oO (G7 S h1) S.calm (oM (S.g hk hg).1 hm (da_cons ha da_nil hs1) hs1)
  (fun cells C s₀ H₀ ex=>Ey (X:=blk X scope cells C s₀ H₀ ex) S.calm (u9 (qX (X:=blk X scope cells C s₀ H₀ ex) (i:=i) hN (by show X.N[i]?=_;rw [S.hN];exact hx) (L cells C s₀ H₀ ex).1 (L cells C s₀ H₀ ex).2) (u9 (qX (X:=blk X scope cells C s₀ H₀ ex) (i:=j) hN (by show X.N[j]?=_;rw [S.hN];exact hy) (L2' cells C s₀ H₀ ex).1 (L2' cells C s₀ H₀ ex).2) EJ)))
  (fun cells C s₀ H₀ ex=>hc _ (B cells C s₀ H₀ ex) ⟨rfl,rfl,rfl,rfl,rfl,rfl⟩) (fun cells C s₀ H₀ ex=>he _ (B cells C s₀ H₀ ex) ⟨rfl,rfl,rfl,rfl,rfl,rfl⟩) hs) fun _ _ _=>lI (by simpa using hij)⟩
end
end TQ
namespace T
open PySem PySem.Spec L2
open PyProof.Rows hiding St
def rz:KY->Bool
 | .none=>true
 | _=>false
def bI (neg:Bool):KY->KY->Option KY
 | a,.none=>some (.bool (if neg then !rz a else rz a))
 | _,_=>none
theorem lX {K:Fg} {H:Hp} {x:V} {a:KY} (r:Rep K H x a):decide (x=V.non)=rz a:=by
 cases r<;>simp [rz]
theorem wM {K:Fg}:GOp K (fun x y H Q=>y=.non/\Q (.bl (decide (x=.non))) H) (bI false):=by
 intro x y H Q a b d ra rb e k
 cases rb<;>simp only [bI] at e<;>try cases e
 exact ⟨rfl,by rw [lX ra];exact k _ (.bl _)⟩
theorem uk {K:Fg}:GOp K (fun x y H Q=>y=.non/\Q (.bl (!decide (x=.non))) H) (bI true):=by
 intro x y H Q a b d ra rb e k
 cases rb<;>simp only [bI] at e<;>try cases e
 exact ⟨rfl,by rw [lX ra];exact k _ (.bl _)⟩
theorem jj {X:Cx} (R:Rm X):Ck X .Is (fun x y H Q=>y=.non/\Q (.bl (decide (x=.non))) H) (bI false):=⟨Ay,wM⟩
theorem yO {X:Cx} (R:Rm X):Ck X .IsNot (fun x y H Q=>y=.non/\Q (.bl (!decide (x=.non))) H) (bI true):=⟨wd,uk⟩
def J3:KY->KY->Option KY
 | .str i,.str j=>if i.length+j.length<=sizeLine then some (.str (i++j)) else none
 | _,_=>none
def bF (fa fb:F1):F1:=aU fa fun p=>aU fb fun q=>fun Γ=>match p.d,q.d with
 | .list xs,.list ys=>if dH p xs&&dH q ys&&decide (xs.length+ys.length<=sizeLine) then .ok ⟨.lst .leaf,.list (xs++ys)⟩ Γ else .no
 | _,_=>.no
def J5 (fa fb:F1):F1:=aU fa fun p=>aU fb fun q=>fun Γ=>match p.d,q.d with
 | .tuple xs,.tuple ys=>if !p.s.isView&&dH q ys&&!xs.isEmpty&&decide (xs.length+ys.length<=sizeLine) then .ok ⟨.leaf,.tuple (xs++ys)⟩ Γ else .no
 | _,_=>.no
def Jd (fa fb:F1):F1:=aU fa fun p=>aU fb fun q=>fun Γ=>match p.d,q.d with
 | .tuple xs,.int k=>if !p.s.isView&&decide (1<=k)&&decide (k<=xs.length) then .ok ⟨.leaf,.tuple (xs.drop k.toNat)⟩ Γ else .no
 | _,_=>.no
def sQ (K:Fg):R2:=fun x y H Q=>∃l b xs zs,x=.ref l/\y=.ref b/\SqL K H l xs/\SqL K H b zs/\xs.length+zs.length<=sizeLine/\∀p,H p=none->Q (.ref p) (bZ H p (.lst (xs++zs)))
theorem xj {prog:Program} {w:World} {A:Around} {E:Value->Shared->Prop} {s:Shared} {l b:Addr} {vs ws:List Value} {Q:Value->Shared->Prop} (hl:s.heap.IsList l vs.toArray) (hb:s.heap.IsList b ws.toArray) (hz:vs.length+ws.length<=sizeLine)
  (h:Q (.ref s.heap.objs.size) { s with heap:=s.heap.push { cls:=.type "list",data:=.seq (vs++ws).toArray } }):wpAny (model prog w) A (binaryOp .Add (.ref l) (.ref b)) Q E s:=by
 obtain ⟨⟨cls,dd,data,sl⟩,ho,hc,n,hd⟩:=id hl;obtain ⟨⟨cls2,dd2,data2,sl2⟩,ho2,hc2,n2,hd2⟩:=id hb;simp only at hc hd hc2 hd2
 subst hc hd hc2 hd2;have e:vs.toArray++ws.toArray=(vs++ws).toArray:=by simp
 rw [<-e] at h;exact concat_meets ⟨_,ho,rfl⟩ ⟨_,ho2,rfl⟩ noFill_list_add seq_list_add PySem.F.slot_list_add PySem.F.entry_list_add (PySem.F.args_list_add_2 _ _) (list_addW l b vs.toArray ws.toArray n n2 dd dd2 sl sl2 (by simpa using hz)) ⟨ho,ho2,h⟩
theorem oQ {X:Cx}:OpR X (binaryOp .Add) (sQ X.K):=by
 intro pins s σ H x y v u Q I rx ry h;obtain ⟨l,b,xs,zs,rfl,rfl,hH,hB,hz,q⟩:=h
 cases rx
 cases ry;obtain ⟨its,r,pl,z⟩:=I.list hH;obtain ⟨its2,r2,pl2,z2⟩:=I.list hB;refine xj pl.isList pl2.isList (by rw [<-r.length,<-r2.length];exact hz) ?_
 exact ⟨.ref _,_,I.lnew (t':=s.toks) (r.append r2) (by rw [length_append];exact hz),rfl,q _ I.fresh⟩
section
variable {K:Fg} {W:XW} {σ:St} {H:Hp} {Q:VK} {D:d9} {fa fb:F1} {fl:FL}
theorem Reps.app {vs ws:List V} {ds es:List KY} (h:Reps K H vs ds) (h':Reps K H ws es):Reps K H (vs++ws) (ds++es):=by
 refine ⟨by rw [length_append,length_append,h.1,h'.1],fun i v d e1 e2=>?_⟩
 by_cases hi:i<vs.length
 ·rw [getElem?_append_left hi] at e1
  rw [getElem?_append_left (by rw [<-h.1];exact hi)] at e2
  exact h.2 i v d e1 e2
 ·rw [getElem?_append_right (by omega)] at e1
  rw [getElem?_append_right (by rw [<-h.1];omega),<-h.1] at e2
  exact h'.2 _ v d e1 e2
theorem Reps.drop {vs:List V} {ds:List KY} (k:Nat) (h:Reps K H vs ds):Reps K H (vs.drop k) (ds.drop k):=by
 refine ⟨by rw [List.length_drop,List.length_drop,h.1],fun i v d e1 e2=>?_⟩
 rw [List.getElem?_drop] at e1 e2
 exact h.2 _ v d e1 e2
theorem DQ {G2 G1 O F:List Addr} (nd:(G2++(G1++O)++F).Nodup):(∀a∈G1,a∉O++F)/\(∀a∈G2,a∉O++F):=by
 rw [append_assoc,append_assoc] at nd;obtain ⟨_,n2,n3⟩:=KO nd;obtain ⟨_,_,n4⟩:=KO n2;exact ⟨fun a ha z=>n4 a ha a z rfl,fun a ha z=>n3 a ha a (KG _ z) rfl⟩
theorem zu {G2 G1 O F:List Addr}:∀a∈O++F,a∈G2++(G1++O)++F:=fun a ha=>by
 rcases KI ha with z | z
 ·exact KH _ (KG _ (KG _ z))
 ·exact KG _ z
theorem Cw {He H1:Hp} {O:List Addr} {Fs Fs1:List (List Addr)} {Γ1:Ev} {v:V} {d:KY} (E:EnvOk K He O Fs1 H1 σ Γ1) (s:Same H H1) (n:∀a∈Fs1.flatten,a∈Fs.flatten\/H a=none)
  (hr:Rep K (du H1 (O++Fs1.flatten)) v d):Aft K He O Fs H σ Γ1 ⟨.leaf,d⟩ v H1 [] Fs1:=
 ⟨s,by rw [nil_append];exact E,by rw [nil_append];exact n,.leaf (by rw [nil_append];exact hr)⟩
theorem sI (h:tE K W (bF fa fb) σ H Q):vo (sQ K) (tE K W fa) (tE K W fb) σ H Q:=by
 refine BM (R:=fun v u H2=>sQ K v u H2 Q) h fun He O Fs Γ2 p q v u H1 H2 G1 G2 Fs2 nd s1 s2 E new o1 o2 w=>?_
 obtain ⟨s,d⟩:=p;obtain ⟨s',d'⟩:=q;dsimp only at w o1 o2
 split at w
 ·rename_i xs ys
  cases hc:(dH ⟨s,.list xs⟩ xs&&dH ⟨s',.list ys⟩ ys&&decide (xs.length+ys.length<=sizeLine)) with
  | false=>rw [hc] at w;exact w.elim
  | true=>
   rw [hc] at w;simp only [Bool.and_eq_true,decide_eq_true_eq] at hc
   obtain ⟨⟨h1,h2⟩,h3⟩:=hc;obtain ⟨d1,d2⟩:=DQ E.nd;obtain ⟨p1,vs,rfl,q1,_,r1⟩:=o1.items (O':=O++Fs2.flatten) h1 zu d1
   obtain ⟨p2,ws,rfl,q2,_,r2⟩:=o2.items (O':=O++Fs2.flatten) h2 zu d2
   refine ⟨p1,p2,vs,ws,rfl,rfl,q1,q2,by rw [r1.1,r2.1];exact h3,fun p' hp'=>w _ _ _ _ (ES (E.drop (fun a ha=>KG _ (KG _ ha)) nd) (s1.trans s2) (fun a ha=>new a (KG _ (KG _ ha))) (r1.app r2) hp')⟩
 ·exact w.elim
end
theorem jO {K:Fg} {H:Hp} {ws:List V} {ns:List Int} (h:Reps K H ws (ns.map .int)):ws=ns.map V.int:=by
 obtain ⟨hwl,hw⟩:=h;apply ext_getElem?
 intro i;by_cases hi:i<ws.length
 ·have hi2:i<ns.length:=by rw [length_map] at hwl;omega
  have q:=hw i (ws[i]'hi) (.int (ns[i]'hi2)) (KL _) (by rw [getElem?_map,KL hi2];rfl)
  rw [KL hi,getElem?_map,KL hi2];generalize ws[i]'hi=u at q
  cases q;rfl
 ·rw [getElem?_eq_none (by omega),getElem?_eq_none (by rw [length_map] at hwl ⊢;omega)]
def gG (k:Str):List (Str×Int)->Option Int
 | []=>none
 | (x,i)::r=>if k=x then some i else gG k r
def Jg (neg:Bool) (tab:List (Str×Int)) (fa:F1):F1:=aU fa fun p Γ=>match p.d with
 | .str k=>.ok ⟨.leaf,.bool (if neg then !(gG k tab).isSome else (gG k tab).isSome)⟩ Γ
 | _=>.no
def DP (tab:List (Str×Int)) (fa:F1):F1:=aU fa fun p Γ=>match p.d with
 | .str k=>(match gG k tab with
  | some i=>.ok ⟨.leaf,.int i⟩ Γ
  | none=>.no)
 | _=>.no
def wI (i:Nat) (q:PV) (Γ:Ev):Out PV:=match Γ[i]?,q.d with
 | some (some ⟨.lst .leaf,.list ds⟩),.int k=>(match eV ds.length k with
  | some j=>(match ds[j]? with
   | some d=>.ok ⟨.leaf,d⟩ Γ
   | none=>.no)
  | none=>.no)
 | _,_=>.no
def fy (i:Nat) (fb:F1):F1:=fun Γ=>if xF Γ[i]? then (fb Γ).bind (wI i) else .no
section
variable {K:Fg} {W:XW} {σ:St} {H:Hp} {Q:VK} {D:d9} {fa fb:F1} {fl:FL}
theorem vO {i:Nat} (h:tE K W (fy i fb) σ H Q):vo (IE K) (fS i) (tE K W fb) σ H Q:=by
 obtain ⟨He,O,Fs,Γ,E,h⟩:=h;unfold fy at h
 cases ho:xF Γ[i]? with
 | false=>rw [ho] at h;exact h.elim
 | true=>
  rw [ho] at h;obtain ⟨ds,e0⟩:=iF ho;obtain ⟨l,vs,h1,h2,h3,_,_⟩:=E.chgF e0;refine ⟨.ref l,h1,?_⟩
  refine xD (k:=wI i) ⟨He,O,Fs,Γ,E,h⟩ fun He O Fs Γ1 q u H1 G Fs1 nd A w=>?_
  unfold wI at w;split at w
  ·rename_i ds1 k e1 e2
   obtain ⟨l1,vs1,q1,q2,q3,q4,_⟩:=A.go.chgF e1;rw [h1] at q1
   cases q1;have r:=A.own.rep
   rw [e2] at r
   cases r
   cases hj:eV ds1.length k with
   | none=>rw [hj] at w;exact w.elim
   | some j=>
    rw [hj] at w;have w:Wants K W He O Fs H σ Q (match ds1[j]? with | some d=>.ok ⟨.leaf,d⟩ Γ1 | none=>.no):=w
    cases hd:ds1[j]? with
    | none=>rw [hd] at w;exact w.elim
    | some d=>
     rw [hd] at w;have hjl:j<vs1.length:=by rw [q3];exact (KP hd).1
     have hv:vs1[j]?=some (vs1[j]'hjl):=KL _
     refine .inl ⟨l,vs1,k,vs1[j]'hjl,rfl,rfl,.of q2,GG q3 hj hv,?_⟩
     exact w _ _ _ _ (Cw A.go A.same A.newF (q4 j _ d hv hd))
  ·exact w.elim
def nH (p:PV):Bool:=match p with
 | ⟨.lst .leaf,.list ds⟩=>ds.all bw
 | _=>false
def yK (n:Nat) (den:List KY->Res) (fl:FL):F1:=fun Γ=>(fl Γ).bind fun ps Γ'=>if ps.length=n then (match den (ps.map (·.d)) with
 | .ok p=>if nH p then .ok p Γ' else .no
 | _=>.no) else .no
theorem sL {n:Nat} {den:List KY->Res} {E:XK} (h:tE K W (yK n den fl) σ H Q):rZ (pG K n den) [] E (tA K W fl) σ H Q:=by
 obtain ⟨He,O,Fs,Γ,E0,h⟩:=h;refine ⟨He,O,Fs,Γ,E0,?_⟩
 unfold yK at h
 cases e:fl Γ with
 | er c Γ'=>rw [e] at h;exact h
 | no=>rw [e] at h;exact h
 | ok ps Γ1=>
  rw [e] at h;intro vs H1 Gs Fs1 A;have h:Wants K W He O Fs H σ Q (if ps.length=n then (match den (ps.map (·.d)) with | .ok p=>if nH p then .ok p Γ1 else .no | _=>.no) else .no):=h
  by_cases hn:ps.length=n
  case neg=>rw [if_neg hn] at h;exact h.elim
  rw [if_pos hn] at h;have hl:(vs++[]).length=n:=by rw [append_nil,A.len1];exact hn
  cases ed:den (ps.map (·.d)) with
  | er c=>rw [ed] at h;exact h.elim
  | no=>rw [ed] at h;exact h.elim
  | ok p=>
   rw [ed] at h;have h:Wants K W He O Fs H σ Q (if nH p then .ok p Γ1 else .no):=h
   have newF:∀a∈Fs1.flatten,a∈Fs.flatten\/H a=none:=fun a ha=>A.new a (KG _ ha)
   cases hc:nH p with
   | false=>rw [hc] at h;exact h.elim
   | true=>
    rw [hc] at h;have h:Wants K W He O Fs H σ Q (.ok p Γ1):=h
    refine ⟨hl,[],ps.map (·.d),nodup_nil,(fun _ z=>nomatch z),by rw [append_nil,Cu];exact A.reps,?_⟩
    rw [ed];intro v H2 G r;unfold nH at hc;split at hc
    ·rename_i ds
     obtain ⟨l,us,rfl,rfl,hp,hul,hr⟩:=r.own.leaves;refine h (.ref l) H2 [l] Fs1 ⟨A.same.trans r.same,A.env.dropL.hide r.same r.nd r.fresh r.inH,fun a ha=>?_,Own.mkLeaves hp hul fun j u d e1 e2=>((hr j u d e1 e2).sc (List.all_eq_true.mp hc d (mem_of_getElem? e2))).rep⟩
     rcases KI ha with z | z
     ·exact .inr (A.same.free (r.fresh a z))
     ·exact newF a z
    ·cases hc
def uL (i:Nat) (a:Int) (p:PV) (Γ:Ev):fK:=match p.d with
 | .int b=>if i<Γ.length then .nx (Γ.set i (KZ (.int (a+b)))) else .no
 | _=>.no
def fT (i:Nat) (f:F1):FS:=fun Γ=>match Γ[i]? with
 | some (some ⟨.leaf,.int a⟩)=>g9 f (uL i a) Γ
 | _=>.no
theorem zT {i:Nat} (h:tS K W (fT i fa) D σ H):C6 i (tE K W fa) (J0 fun i j=>i+j) D σ H:=by
 obtain ⟨He,O,Fs,Γ,E,h⟩:=h;unfold fT at h;split at h
 ·rename_i a e0
  obtain ⟨_,v,F,h1,h2,h3⟩:=E.slot i _ e0;have r:=h3.rep
  cases r;refine ⟨.int a,h1,?_⟩
  refine ic (D:=D) (k:=uL i a) ⟨He,O,Fs,Γ,E,h⟩ fun He O Fs Γ1 p u H1 G Fs1 _ fr A w=>?_
  unfold uL at w;split at w
  ·rename_i b eb
   have r:=A.own.rep
   rw [eb] at r
   cases r;by_cases hi:i<Γ1.length
   ·rw [if_pos hi] at w
    exact ⟨a,b,rfl,rfl,w _ _ _ (EnvOk.put (G:=[]) (p:=⟨.leaf,.int (a+b)⟩) (v:=.int (a+b)) A.go (.leaf (.int _)) rfl (fun a ha=>by simp at ha) hi)⟩
   ·rw [if_neg hi] at w;exact w.elim
  ·exact w.elim
 ·exact h.elim
end
end T
namespace TQ
open PySem PySem.Spec L2 T
open PyProof.Rows hiding St
section
variable {X:Cx} {N gl:List Str} {vs cs ls lo gs:List Nat} {W:XW} {a b c e:Expr} {es:List Expr} {pos p:Pos} {fa fb fc:F1} {fl:FL} {ga gb:FB} {g1 g2 g:FS}
theorem hU (ha:Q (PE X a (tE X.K W fa))) (hb:Q (PE X b (tE X.K W fb))):Q (PE X (.BinOp a .Add b pos) (tE X.K W (bF fa fb))):=⟨have ha:=ha.p;have hb:=hb.p;bc (fU oQ ha hb) fun _ _ _=>sI⟩
theorem Hv (S:Cp X N gl vs cs ls lo gs) (i:Nat) {x:Str} (hi:N[i]?=some x) (hv:vs.contains i=true) (hb:Q (PE X b (tE X.K W fb))) (hs:ED b):Q (PE X (.Subscript (.Name x p) b pos) (tE X.K W (fy i fb))):=⟨by
 have hb:=hb.p
 have m:=S.nm x (mem_of_getElem? hi)
 exact bc (yf tX (qR (by rw [S.hN];exact hi) (S.vis i x hi hv) m.1 m.2) hb hs) fun _ _ _=>vO⟩
theorem ze {x:Str} {n:Nat} {den:List KY->Res} (S:Cp X N gl vs cs ls lo gs) (j:Nat) (hj:gl[j]?=some x) (hg:gs.contains j=true) (C:Ca X x n den) (ha:Q (PA X (e::es) (tA X.K W fl))) (he:starEach (e::es) X.env=(false,eval e X.env)::starEach es X.env) (hpl:(backTo pos (starEach es X.env)).any (·.1)=false):Q (PE X (.Call (.Name x p) (e::es) [] pos) (tE X.K W (yK n den fl))):=⟨by
 have ha:=ha.p
 obtain ⟨k,f,fd,ps,F,hr,hm,hk,hb⟩:=C;exact bc (oP F hr (S.g hj hg).1 hm hk hb .nil yg ha (S.g hj hg).2.1 he hpl) fun _ _ _=>sL⟩
theorem lu (S:Cp X N gl vs cs ls lo gs) (i:Nat) {x:Str} {pos':Pos} (hi:N[i]?=some x) (hl:ls.contains i=true) (ha:Q (PE X a (tE X.K W fa))):Q (PS X (.AugAssign (.Name x pos') .Add a pos) (tS X.K W (fT i fa))):=⟨have ha:=ha.p;cH (Af (by rw [S.hN];exact S.nd) (by rw [S.hN];exact hi) (S.loc i x hi hl).1 ha AS (S.loc i x hi hl).2) fun _ _ _=>zT⟩
theorem rK {tg:Expr} (ha:Q (PE X a (tE X.K W fa))):Q (PI X tg a (tI X.K W (iI fa))):=⟨have ha:=ha.p;mV (Ah ha) fun _ _ _=>vP⟩
end
end TQ
namespace T
open PySem PySem.Spec L2
open PyProof.Rows hiding St
def Gh (x:Str):It where
 go:=fun i _=>i<x.cps.size
 yld:=fun i H v H'=>H'=H/\∃c,x.cps[i]?=some c/\v=.str ⟨#[c]⟩
 stop:=fun i _=>x.cps.size<=i
theorem pD {P:Program} {w:World} {K:Fg} {tg:Expr} (it:Addr) (x:Str) (t:Tok):nT P w K tg (Gh x) [it] it (fun i h=>h.IsStrIter it "str_ascii_iterator" x t i) where
 mem:=by simp
 obj:=fun i h st b hb=>by
  have e:b=it:=by simpa using hb
  subst e;obtain ⟨o,ho,hc,hd⟩:=st;exact ⟨o,ho,fun v z=>by rw [hd] at z;cases z⟩
 keep:=fun i h h' st k=>let ⟨o,ho,r⟩:=st;⟨o,k it (by simp) o ho,r⟩
 item:=by
  intro X hP hw hK hc i pins s σ H E I hf st hg;subst hP hw hK;obtain ⟨f0,f1,f2,f3,f4,f5⟩:=hf it (by simp)
  have W:=Walks.strAscii (prog:=X.prog) (w:=X.w) (I.ok.hd hc) it x t
  refine W.item i s _ _ hg st fun v h' tk hv st' kk=>?_
  obtain ⟨c,u,hx,rfl⟩:=hv;have I1:Inv X pins σ H { s with heap:=h',toks:=tk }:=I.turned (fun b o hb e=>kk b o (by simpa using hb) e) f0 f1 f3 f4 f5
  obtain ⟨o,ho,oc,od⟩:=id st'
  exact ⟨_,rfl,oZ (s:={ s with heap:=h',toks:=tk }) (n := "str_ascii_iterator") ho oc od (by decide) ⟨.str ⟨#[c]⟩,H,I1,⟨u,rfl⟩,⟨rfl,c,hx,rfl⟩,st',fun b hb=>(hf b hb).1⟩⟩
 done:=by
  intro X hP hw hK hc i pins s σ H E I hf st hg;subst hP hw hK;obtain ⟨f0,f1,f2,f3,f4,f5⟩:=hf it (by simp)
  exact wpAny_pyNext_ascii_end (I.ok.hd hc) st (by have:x.cps.size<=i:=hg;simp;omega) fun h' eb=>⟨rfl,I.turned (t':=s.toks) (fun b o hb e=>eb b o hb e) f0 f1 f3 f4 f5⟩
 self:=fun _ _ _ _ _ st h=>wpAny_pyIter_striter_ascii st h
def ui (x:Str):TI:=fun σ H R=>R (Gh x) H
theorem v7 {X:Cx} {tg:Expr} {x:Str} {j:Nat} {pos:Pos} (ha:x.cps.all (·<128)=true):PI X tg (.Constant (.str x) j pos) (ui x):=by
 intro pins s σ H R I h;refine Calls.Constant_str ?_
 refine wpAny_pyIter_ascii ha ?_
 have I1:=I.tok (s.toks+1)
 refine ⟨s.heap.objs.size,[s.heap.objs.size],_,_,H,rfl,I1.kept (t':=s.toks+1) fun b o e=>KU _ e,pD _ x _,⟨_,Heap.get?_push_size _ rfl,rfl,rfl⟩,fun b hb=>?_,h⟩
 have e:b=s.heap.objs.size:=by simpa using hb
 subst e;exact I1.fpOk (KW _) (I1.hok.fresh (KW _))
def yw (x:Str):List V:=x.cps.toList.map fun c=>.str ⟨#[c]⟩
def DY (x:Str):List KY:=x.cps.toList.map fun c=>.str ⟨#[c]⟩
theorem wD {x:Str}:uR (Gh x) (fun _=>True) (yw x):=by
 refine ⟨fun i H v _ hv=>?_,fun H _=>?_⟩
 ·unfold yw at hv
  rw [getElem?_map,Array.getElem?_toList] at hv
  cases e:x.cps[i]? with
  | none=>rw [e] at hv;cases hv
  | some c=>
   rw [e] at hv
   cases hv;refine ⟨(Array.getElem?_eq_some_iff.mp e).1,fun y H' ⟨h1,c',h2,h3⟩=>⟨h1,?_⟩⟩
   rw [e] at h2
   cases h2;exact h3
 ·show x.cps.size<=(yw x).length
  unfold yw;rw [length_map,Array.length_toList];exact KW _
theorem vH {K:Fg} {H:Hp} {x:Str}:Reps K H (yw x) (DY x):=by
 refine ⟨by simp [yw,DY],fun i v d h1 h2=>?_⟩
 unfold yw at h1;unfold DY at h2;rw [getElem?_map] at h1 h2
 cases e:x.cps.toList[i]? with
 | none=>rw [e] at h1;cases h1
 | some c=>
  rw [e] at h1 h2
  cases h1
  cases h2;exact .str _
def iJ (x:Str):FI:=fun Γ=>.ok ⟨DY x,true⟩ Γ
theorem sF {K:Fg} {W:XW} {σ:St} {H:Hp} {R:It->Hp->Prop} {x:Str} (h:tI K W (iJ x) σ H R):ui x σ H R:=by
 obtain ⟨He,O,Fs,Γ,E,h⟩:=h;exact h (Gh x) H Fs (yw x) (fun _=>True) (Same.refl _) E (fun a ha=>.inl ha) wD trivial (fun _ _=>trivial) (fun _ _ _=>trivial) vH
def oC:V->List V->Hp->VK->Prop:=fun x xs H Q=>∃(i j:Str) (k:Nat) (b7:List Nat),x=.str i/\xs=[.str j]/\Builtin.Str.occurrences i j 0 i.length 1=k::b7/\Q (.int k) H
theorem qc {X:Cx}:Ee X "str.index" oC:=by
 intro pins s σ H x xs v us Q I rx rv h;obtain ⟨i,j,k,b7,rfl,rfl,ho,q⟩:=h;obtain ⟨t,rfl⟩:=rx;obtain ⟨u,rfl,ru⟩:=rv.one;obtain ⟨t',rfl⟩:=ru;exact SC.index ho ⟨.int k,H,I.tok _,⟨_,rfl⟩,q⟩
def fX (x:Str):List KY->Option KY
 | [.str j]=>match Builtin.Str.occurrences x j 0 x.length 1 with
  | k::_=>some (.int k)
  | []=>none
 | _=>none
theorem wQ {K:Fg} {x:Str}:GCall K (fun xs H Q=>oC (.str x) xs H Q) (fX x):=by
 intro vs H Q ds d rs e k;unfold fX at e;split at e
 ·rename_i j
  obtain ⟨v,rfl,r⟩:=rs.one
  cases r;split at e
  ·rename_i k' b7 ho
   cases e;exact ⟨x,j,k',b7,rfl,rfl,ho,k _ (.int _)⟩
  ·cases e
 ·cases e
theorem vN {K:Fg} {W:XW} {σ:St} {H:Hp} {Q:VK} {x:Str} {fl:FL} (h:tE K W (bG (fX x) fl) σ H Q):zt K "str" oC (tC (.str x)) (tA K W fl) σ H Q:=
 ⟨rfl,sH wQ h⟩
theorem ce_idxS {X:Cx} {W:XW} {x:Str} {j:Nat} {p apos cpos:Pos} {e:Expr} {fe:F1} (ha:PE X e (tE X.K W fe)) (hs:starEach [e] X.env=[(false,eval e X.env)]) (hline:(apos.endLine==cpos.line)=true) :
  PE X (.Call (.Attribute (.Constant (.str x) j p) "index" apos) [e] [] cpos) (tE X.K W (bG (fX x) (ae fe ah))):=
 bc (jR (T := "str") (r:=oC) F.plainAttrs_str F.slot_str_index F.type_str_index qc tf (da_cons ha da_nil hs) rfl (by rw [hs];rfl) hline hs rfl) fun _ _ _=>vN
end T
namespace TQ
open PySem PySem.Spec L2 T
open PyProof.Rows hiding St
theorem pw {X:Cx} {W:XW} {tg:Expr} {x:Str} {j:Nat} {pos:Pos} (ha:x.cps.all (·<128)=true):Q (PI X tg (.Constant (.str x) j pos) (tI X.K W (iJ x))):=⟨mV (v7 ha) fun _ _ _=>sF⟩
theorem pC {X:Cx} {W:XW} {x:Str} {j:Nat} {p apos cpos:Pos} {e:Expr} {fe:F1} (ha:Q (PE X e (tE X.K W fe))) (hs:starEach [e] X.env=[(false,eval e X.env)]) (hline:(apos.endLine==cpos.line)=true) :
  Q (PE X (.Call (.Attribute (.Constant (.str x) j p) "index" apos) [e] [] cpos) (tE X.K W (bG (fX x) (ae fe ah)))):=⟨T.ce_idxS ha.p hs hline⟩
end TQ
namespace T
open PySem PySem.Spec L2
open PyProof.Rows hiding St
def putN:List Nat->List PV->Ev->Option Ev
 | [],[],Γ=>some Γ
 | i::is,p::ps,Γ=>if decide (i<Γ.length)&&!p.s.isView then putN is ps (Γ.set i (some p)) else none
 | _,_,_=>none
def vz:List Nat->List V->St->St
 | i::is,v::vs,σ=>vz is vs (σ.set i (some v))
 | _,_,σ=>σ
def vY:List Sh->List KY->List PV
 | s::ss,d::ds=>⟨s,d⟩::vY ss ds
 | _,_=>[]
def zg (p:PV):Option (List PV):=match p.s,p.d with
 | .tup ss,.tuple ds=>some (vY ss ds)
 | .leaf,.tuple ds=>some (ds.map fun d=>⟨.leaf,d⟩)
 | _,_=>none
def ir (is:List Nat) (f:F1):FS:=g9 f fun p Γ=>match zg p with
 | some ps=>if ps.length=is.length then (match putN is ps Γ with
  | some Γ'=>.nx Γ'
  | none=>.no) else .no
 | none=>.no
def Gq:List Nat->yB
 | []=>wU
 | i::is=>j1 (gName i) (Gq is)
theorem Hd {H:Hp} {Q:St->Hp->Prop}:∀{is:List Nat} {vs:List V} {σ:St},vs.length=is.length->Q (vz is vs σ) H->Gq is vs σ H Q
 | [],[],_,_,q=>⟨rfl,q⟩
 | i::is,v::vs,σ,hl,q=>⟨v,vs,rfl,Hd (is:=is) (vs:=vs) (by simpa using hl) q⟩
 | [],_::_,_,hl,_=>by simp at hl
 | _::_,[],_,hl,_=>by simp at hl
section
variable {K:Fg} {W:XW} {σ:St} {H:Hp} {D:d9} {fa:F1}
theorem GS {He:Hp} {O:List Addr}:∀{is:List Nat} {ps:List PV} {vs:List V} {Gs:List (List Addr)} {Fs:List (List Addr)} {σ:St} {Γ Γ':Ev},vs.length=ps.length->Gs.length=ps.length->EnvOk K He (Gs.flatten++O) Fs H σ Γ->(∀a∈Gs.flatten,He a=none) ->
  (∀(k:Nat) v p G,vs[k]?=some v->ps[k]?=some p->Gs[k]?=some G->Own K (Gs.flatten++O++Fs.flatten) H p.s G v p.d)->putN is ps Γ=some Γ'->∃Fs',EnvOk K He O Fs' H (vz is vs σ) Γ'
 | [],[],[],[],Fs,σ,Γ,Γ',_,_,E,_,_,h=>by
  cases h;exact ⟨Fs,by simpa [vz] using E⟩
 | i::is,p::ps,v::vs,G::Gs,Fs,σ,Γ,Γ',h1,h2,E,fr,o,h=>by
  unfold putN at h;split at h
  ·rename_i hc
   simp only [Bool.and_eq_true,decide_eq_true_eq,Bool.not_eq_true'] at hc
   obtain ⟨hi,n1⟩:=hc;have fl:(G::Gs).flatten++O=G++(Gs.flatten++O):=by simp [append_assoc]
   rw [fl] at E o
   have E1:=EnvOk.put (i:=i) E (o 0 v p G rfl rfl rfl) n1 (fun a ha=>fr a (by simp [ha])) hi
   refine GS (is:=is) (ps:=ps) (vs:=vs) (Gs:=Gs) (by simpa using h1) (by simpa using h2) E1 (fun a ha=>fr a (KG G ha)) (fun k v' p' G' a1 a2 a3=>?_) h
   refine (o (k+1) v' p' G' (by simpa using a1) (by simpa using a2) (by simpa using a3)).perm fun a ha=>?_
   rcases KI ha with z | z
   ·exact KH _ (KG _ z)
   ·obtain ⟨F,hF⟩:=E.lt hi
    rcases KI ((m7 (G:=G) hF).mem_iff.mp (KG _ z)) with y | y
    ·exact KH _ (KH _ y)
    ·exact KG _ y
  ·cases h
 | [],_::_,_,_,_,_,_,_,_,_,_,_,_,h=>by cases h
 | _::_,[],_,_,_,_,_,_,_,_,_,_,_,h=>by cases h
 | [],[],_::_,_,_,_,_,_,h,_,_,_,_,_=>by simp at h
 | [],[],[],_::_,_,_,_,_,_,h,_,_,_,_=>by simp at h
 | _::_,_::_,[],_,_,_,_,_,h,_,_,_,_,_=>by simp at h
 | _::_,_::_,_::_,[],_,_,_,_,_,h,_,_,_,_=>by simp at h
theorem oG:∀{ss:List Sh} {ds:List KY},ss.length=ds.length->(vY ss ds).length=ds.length
 | [],[],_=>rfl
 | _::ss,_::ds,h=>by simp only [vY,length_cons];rw [oG (ss:=ss) (ds:=ds) (by simpa using h)]
 | [],_::_,h=>by simp at h
 | _::_,[],h=>by simp at h
theorem sS:∀{ss:List Sh} {ds:List KY} {k:Nat} {p:PV},(vY ss ds)[k]?=some p->ss[k]?=some p.s/\ds[k]?=some p.d
 | [],_,k,p,h=>by simp [vY] at h
 | _::_,[],k,p,h=>by simp [vY] at h
 | s::ss,d::ds,0,p,h=>by
  simp only [vY,List.getElem?_cons_zero,Option.some.injEq] at h
  subst h;exact ⟨rfl,rfl⟩
 | s::ss,d::ds,k+1,p,h=>by
  simp only [vY,getElem?_cons_succ] at h ⊢
  exact sS h
theorem GY {n:Nat}:(List.replicate n ([]:List Addr)).flatten=[]:=by
 induction n with
 | zero=>rfl
 | succ n ih=>rw [replicate_succ,flatten_cons,ih];rfl
theorem vI {is:List Nat} (h:tS K W (ir is fa) D σ H):kl (tE K W fa) (wR K is.length (Gq is)) D σ H:=by
 refine ic h fun He O Fs Γ1 p v H1 G Fs1 _ fr A w=>?_
 obtain ⟨s,d⟩:=p;have o:=A.own
 have E:=A.env
 dsimp only at w o
 cases hu:zg ⟨s,d⟩ with
 | none=>rw [hu] at w;exact w.elim
 | some ps=>
  rw [hu] at w;dsimp only at w;by_cases hl:ps.length=is.length
  ·rw [if_pos hl] at w
   cases hp:putN is ps Γ1 with
   | none=>rw [hp] at w;exact w.elim
   | some Γ'=>
    rw [hp] at w
    cases o with
    | view r=>cases hu
    | lst=>cases hu
    | leaf r=>
     cases d with
     | tuple ds=>
      cases hu
      cases r with
      | @tup a vs _ hq hlen hr=>
       obtain ⟨Fs',E'⟩:=GS (is:=is) (vs:=vs) (Gs:=List.replicate ds.length []) (Fs:=Fs1) (by rw [hlen,length_map]) (by rw [List.length_replicate,length_map]) (by rw [GY];exact E) (by rw [GY];intro a ha;simp at ha) (fun k v' p' G' a1 a2 a3=>by
        rw [GY];rw [getElem?_map] at a2
        cases ed:ds[k]? with
        | none=>rw [ed] at a2;cases a2
        | some d'=>
         rw [ed] at a2
         cases a2;have:G'=[]:=List.eq_of_mem_replicate (mem_of_getElem? a3)
         subst this;exact .leaf (hr k v' d' a1 ed)) hp
       exact ⟨a,vs,rfl,iV hid_le hq,by rw [hlen];simpa using hl,Hd (by rw [hlen];simpa using hl) (w _ _ _ E')⟩
     | _=>cases hu
    | @tup ss a vs ds Fs0 hv hpa hn hlen hf hs nd q=>
     cases hu;have pl:=oG hs
     obtain ⟨Fs',E'⟩:=GS (is:=is) (vs:=vs) (Gs:=Fs0) (Fs:=Fs1) (by rw [hlen,pl]) (by rw [hf,pl]) E fr (fun k v' p' G' a1 a2 a3=>by
      obtain ⟨z1,z2⟩:=sS a2;exact q k v' p'.d G' p'.s a1 z2 a3 z1) hp
     have hn2:vs.length=is.length:=by rw [hlen,<-pl];exact hl
     exact ⟨a,vs,rfl,.of hpa,hn2,Hd hn2 (w _ _ _ E')⟩
  ·rw [if_neg hl] at w
   exact w.elim
end
end T
namespace TQ
open PySem PySem.Spec L2 T
open PyProof.Rows hiding St
variable {X:Cx} {N gl:List Str} {vs cs ls lo gs:List Nat} {W:XW} {a:Expr} {pos:Pos} {fa:F1}
end TQ
namespace T
open PySem PySem.Spec L2
open PyProof.Rows hiding St
def cutD (xs:List KY) (lo hi:Option Int):List KY:=(xs.drop (HT.sIx xs.length 0 lo)).take (HT.sIx xs.length xs.length hi-HT.sIx xs.length 0 lo)
theorem Reps.take {K:Fg} {H:Hp} {vs:List V} {ds:List KY} (k:Nat) (h:Reps K H vs ds):Reps K H (vs.take k) (ds.take k):=by
 refine ⟨by rw [length_take,length_take,h.1],fun i v d e1 e2=>?_⟩
 by_cases hi:i<k
 ·rw [List.getElem?_take,if_pos hi] at e1 e2
  exact h.2 _ v d e1 e2
 ·rw [List.getElem?_take,if_neg hi] at e1
  cases e1
theorem Reps.cut {K:Fg} {H:Hp} {vs:List V} {ds:List KY} (lo hi:Option Int) (h:Reps K H vs ds):Reps K H (qD vs lo hi) (cutD ds lo hi):=by
 unfold qD cutD;rw [h.1];exact (h.drop _).take _
def dk (g:Int->Option Int×Option Int) (fa fb:F1):F1:=aU fa fun p=>aU fb fun q=>fun Γ=>match p.d,q.d with
 | .list xs,.int k=>if dH p xs then .ok ⟨.lst .leaf,.list (cutD xs (g k).1 (g k).2)⟩ Γ else .no
 | _,_=>.no
section
variable {K:Fg} {W:XW} {σ:St} {H:Hp} {Q:VK} {fa fb:F1}
theorem sx {g:Int->Option Int×Option Int} (h:tE K W (dk g fa fb) σ H Q):tE K W fa σ H fun v H1=>tE K W fb σ H1 fun u H2=>∃k,u=.int k/\zW K v (g k).1 (g k).2 H2 Q:=by
 refine BM (R:=fun v u H2=>∃k,u=.int k/\zW K v (g k).1 (g k).2 H2 Q) h fun He O Fs Γ2 p q v u H1 H2 G1 G2 Fs2 nd s1 s2 E new o1 o2 w=>?_
 obtain ⟨s,d⟩:=p;obtain ⟨s',d'⟩:=q;dsimp only at w o1 o2
 split at w
 ·rename_i xs k
  cases hc:dH ⟨s,.list xs⟩ xs with
  | false=>rw [hc] at w;exact w.elim
  | true=>
   rw [hc] at w;obtain ⟨d1,d2⟩:=DQ E.nd;obtain ⟨p1,vs,rfl,q1,_,r1⟩:=o1.items (O':=O++Fs2.flatten) hc zu d1
   have ru:=o2.rep
   cases ru;exact ⟨k,rfl,p1,vs,rfl,q1,fun p' hp'=>w _ _ _ _ (ES (E.drop (fun a ha=>KG _ (KG _ ha)) nd) (s1.trans s2) (fun a ha=>new a (KG _ (KG _ ha))) (r1.cut _ _) hp')⟩
 ·exact w.elim
end
end T
namespace TQ
open PySem PySem.Spec L2 T
open PyProof.Rows hiding St
variable {X:Cx} {W:XW} {a b:Expr} {fa fb:F1} {p2 pos:Pos}
theorem BV (ha:Q (PE X a (tE X.K W fa))) (hb:Q (PE X b (tE X.K W fb))):Q (PE X (.Subscript a (.Slice none (some b) none p2) pos) (tE X.K W (dk (fun k=>(none,some k)) fa fb))):=⟨have ha:=ha.p;have hb:=hb.p;bc (lS oh ha oJ (oI hb)) fun _ _ _=>sx⟩
theorem xK (ha:Q (PE X a (tE X.K W fa))) (hb:Q (PE X b (tE X.K W fb))):Q (PE X (.Subscript a (.Slice (some b) none none p2) pos) (tE X.K W (dk (fun k=>(some k,none)) fa fb))):=⟨have ha:=ha.p;have hb:=hb.p;bc (lS oh ha (oI hb) oJ) fun _ _ _=>sx⟩
end TQ
namespace T
open PySem PySem.Spec L2
open PyProof.Rows hiding St
def pQ (K:Fg):V->List V->Hp->VK->Prop:=fun x xs H Q=>∃(l:Addr) (ns:List Int) (k:Int) (j:Nat),x=.ref l/\xs=[.int k]/\SqL K H l (ns.map V.int)/\ns[j]?=some k/\(∀m,m<j->ns[m]?≠some k)/\Q (.int j) H
theorem oX:∀{us:List Value} {ns:List Int} {m:Nat} {u:Value} {k:Int},IntsAre us ns->us[m]?=some u->isInt k u=true->ns[m]?=some k
 | _,_,_,_,_,.nil,h,_=>by simp at h
 | _,_,0,_,_,.cons n t r,h,e=>by
  simp at h
  subst h;simp [isInt] at e
  simp [e]
 | _,_,m+1,_,_,.cons n t r,h,e=>by
  simp only [getElem?_cons_succ] at h ⊢
  exact oX r h e
theorem mj:∀{us:List Value} {ns:List Int} {m:Nat} {u:Value} {k:Int},IntsAre us ns->us[m]?=some u->ns[m]?=some k->isInt k u=true
 | _,_,_,_,_,.nil,h,_=>by simp at h
 | _,_,0,_,_,.cons n t r,h,e=>by
  simp at h e
  subst h e;simp [isInt]
 | _,_,m+1,_,_,.cons n t r,h,e=>by
  simp only [getElem?_cons_succ] at h e
  exact mj r h e
theorem jV {X:Cx}:Ee X "list.index" (pQ X.K):=by
 intro pins s σ H x xs v us Q I rx rv h;obtain ⟨l,ns,k,j,rfl,rfl,hS,hj,hno,q⟩:=h
 cases rx;obtain ⟨u,rfl,ru⟩:=rv.one;obtain ⟨t,rfl⟩:=ru;obtain ⟨its,r,pl,hz⟩:=I.list hS;have hI:=oW r
 have hl:its.length=ns.length:=by rw [<-r.length,length_map]
 have hjl:j<its.toArray.size:=by rw [size_toArray,hl];exact (KP hj).1
 obtain ⟨o,n,ho,hc,hd,hdt⟩:=pl;obtain ⟨ocls,odict,odata,oslots⟩:=o;simp only at hc hd hdt
 subst hc hd hdt;have hsm:(j:Int)<2 ^ 63-1:=by
  rw [length_map] at hz;have h1:sizeLine<2 ^ 62:=by decide
  have:=(KP hj).1
  omega
 refine call_meets F.slot_list_index ⟨_,ho,rfl⟩ F.entry_list_index (F.args_list_index_2 _ _) (SeqAt.list_indexAt l its.toArray n none oslots (.int k t) (isInt k) j hjl hsm ?_ fun m hm hmj=>?_) ⟨ho,fun y hy=>?_,⟨.int j,H,I.tok _,⟨_,rfl⟩,q⟩⟩
 ·exact mj hI (m:=j) (u:=its.toArray[j]) (by simp at hjl ⊢) hj
 ·cases e:isInt k its.toArray[m] with
  | false=>rfl
  | true=>exact absurd (oX hI (m:=m) (u:=its.toArray[m]) (by simp at hm ⊢) e) (hno m hmj)
 ·exact (eq_isInt k t hI y (by simpa using hy)).at _ _
def mi:Option (Option PV)->Bool
 | some (some ⟨.leaf,.list _⟩)=>true
 | _=>false
theorem ua {o:Option (Option PV)} (h:mi o=true):∃ds,o=some (KZ (.list ds)):=by
 unfold mi at h;split at h
 ·exact ⟨_,rfl⟩
 ·cases h
def mh (k:Int):List Int->Option Nat
 | []=>none
 | n::r=>if n=k then some 0 else (mh k r).map (·+1)
theorem Eu {k:Int}:∀{ns:List Int} {j:Nat},mh k ns=some j->ns[j]?=some k/\∀m,m<j->ns[m]?≠some k
 | [],_,h=>by cases h
 | n::r,j,h=>by
  unfold mh at h;by_cases e:n=k
  ·rw [if_pos e] at h
   cases h;exact ⟨by simp [e],fun m hm=>by omega⟩
  ·rw [if_neg e] at h
   cases hr:mh k r with
   | none=>rw [hr] at h;cases h
   | some j'=>
    rw [hr] at h
    cases h;obtain ⟨h1,h2⟩:=Eu hr;refine ⟨by simpa using h1,fun m hm=>?_⟩
    cases m with
    | zero=>simpa using e
    | succ m=>simpa using h2 m (by have:m+1<j'+1:=hm;omega)
def wC (i:Nat) (q:PV):Ev->Out PV:=fun Γ=>match Γ[i]?,q.d with
 | some (some ⟨.leaf,.list ds⟩),.int k=>(match rh ds with
  | some ns=>(match mh k ns with
   | some j=>.ok ⟨.leaf,.int (j:Nat)⟩ Γ
   | none=>.no)
  | none=>.no)
 | _,_=>.no
def nI (i:Nat) (fb:F1):F1:=fun Γ=>if mi Γ[i]? then (fb Γ).bind (wC i) else .no
section
variable {K:Fg} {W:XW} {σ:St} {H:Hp} {Q:VK} {fb:F1}
theorem EH {He:Hp} {O:List Addr} {Fs:List (List Addr)} {Γ:Ev} {i:Nat} {ds:List KY} (E:EnvOk K He O Fs H σ Γ) (h:Γ[i]?=some (KZ (.list ds))):∃l vs,σ[i]?=some (some (.ref l))/\SqL K H l vs/\Reps K H vs ds:=by
 obtain ⟨_,v,F,h1,_,o⟩:=E.slot i _ h;have r:=o.rep
 cases r with
 | @lst a vs _ hq hl hr=>exact ⟨a,vs,h1,hq,hl,hr⟩
theorem zJ {i:Nat} (h:tE K W (nI i fb) σ H Q):zt K "list" (pQ K) (fS i) (tA K W (ae fb ah)) σ H Q:=by
 obtain ⟨He,O,Fs,Γ,E,h⟩:=h;unfold nI at h
 cases ho:mi Γ[i]? with
 | false=>rw [ho] at h;exact h.elim
 | true=>
  rw [ho] at h;obtain ⟨ds,e0⟩:=ua ho;obtain ⟨l,vs,h1,h2,h3⟩:=EH E e0;refine ⟨.ref l,h1,.inl ⟨rfl,vs,h2⟩,Ez ?_⟩
  refine xD (k:=wC i) ⟨He,O,Fs,Γ,E,h⟩ fun He O Fs Γ1 q u H1 G Fs1 nd A w=>?_
  unfold wC at w;split at w
  ·rename_i ds1 k e1 e2
   obtain ⟨l1,vs1,q1,q2,q3⟩:=EH A.go e1;rw [h1] at q1
   cases q1;have r:=A.own.rep
   rw [e2] at r
   cases r
   cases hi:rh ds1 with
   | none=>rw [hi] at w;exact w.elim
   | some ns=>
    rw [hi] at w;dsimp only at w
    cases hj:mh k ns with
    | none=>rw [hj] at w;exact w.elim
    | some j=>
     rw [hj] at w;rw [Hf hi] at q3;have ev:=jO q3
     subst ev;obtain ⟨a1,a2⟩:=Eu hj;exact ⟨l,ns,k,j,rfl,rfl,q2,a1,a2,w _ _ _ _ (Cw A.go A.same A.newF (.int _))⟩
  ·exact w.elim
end
section
variable {X:Cx} {N gl:List Str} {vs cs ls lo gs:List Nat} {W:XW} {e:Expr} {fe:F1} {p:Pos}
theorem ce_ixN (S:Cp X N gl vs cs ls lo gs) (i:Nat) {x:Str} {apos cpos:Pos} (hi:N[i]?=some x) (hv:vs.contains i=true) (ha:PE X e (tE X.K W fe)) (hbase:attributeBase (.Name x p) "index" X.env (eval (.Name x p) X.env)=eval (.Name x p) X.env) (hs:starEach [e] X.env=[(false,eval e X.env)]) (hline:(apos.endLine==cpos.line)=true) :
  PE X (.Call (.Attribute (.Name x p) "index" apos) [e] [] cpos) (tE X.K W (nI i fe)):=by
 have m:=S.nm x (mem_of_getElem? hi)
 exact bc (jR (T := "list") (r:=pQ X.K) F.plainAttrs_list F.slot_list_index F.type_list_index jV (qR (by rw [S.hN];exact hi) (S.vis i x hi hv) m.1 m.2) (da_cons ha da_nil hs) hbase (by rw [hs];rfl) hline hs rfl) fun _ _ _=>zJ
end
end T
namespace TQ
open PySem PySem.Spec L2 T
open PyProof.Rows hiding St
variable {X:Cx} {N gl:List Str} {vs cs ls lo gs:List Nat} {W:XW} {e a:Expr} {fe fa:F1} {p pos:Pos}
theorem rN (S:Cp X N gl vs cs ls lo gs) (i:Nat) {x:Str} {apos cpos:Pos} (hi:N[i]?=some x) (hv:vs.contains i=true) (ha:Q (PE X e (tE X.K W fe))) (hbase:attributeBase (.Name x p) "index" X.env (eval (.Name x p) X.env)=eval (.Name x p) X.env) (hs:starEach [e] X.env=[(false,eval e X.env)]) (hline:(apos.endLine==cpos.line)=true) :
  Q (PE X (.Call (.Attribute (.Name x p) "index" apos) [e] [] cpos) (tE X.K W (nI i fe))):=⟨T.ce_ixN S i hi hv ha.p hbase hs hline⟩
variable {X:Cx} {N gl:List Str} {vs cs ls lo gs:List Nat} {W:XW} {a:Expr} {pos p:Pos} {fa:F1}
end TQ
namespace T
open PySem PySem.Spec L2
open PyProof.Rows hiding St
section
variable {X:Cx} {N gl:List Str} {vs cs ls lo gs:List Nat} {W:XW} {a:Expr} {pos p:Pos} {fa:F1}
theorem cs_setCompE {scope:Scope} {x y z:Str} {px py pt pos' spos cpos:Pos} {kt:Nat} {elt:Expr} {ifs:List Expr} {fe:F1} {fc:FB} {vs' cs' lo' gs':List Nat} (S:Cp X N gl vs cs ls lo gs) (own:Bool) (l:Nat) (s:Sh) (i j:Nat) (hz:N[l]?=some z) (hzl:lo.contains l=true) (hij:(i != j)=true) (hx:N[i]?=some x) (hy:N[j]?=some y) (k:Nat) (hk:gl[k]?=some ("enumerate":Str)) (hg:gs.contains k=true) (hm:X.mg "enumerate"=none)
  (hsl:(pos'.line==pos.line)=true) (hsn:(scope.names.any fun (n,k)=>n==z&&(k==NameKind.local||k==NameKind.cell))=false)
  (h1:yJ N [i,j] cs scope=true) (h2:m5 N gl vs' cs' [i,j] lo' gs' scope=true) (ha:PE X a (tE X.K W fa)) (hs1:starEach [a] X.env=[(false,eval a X.env)])
  (hc:lh X N gl vs' cs' [i,j] lo' gs' fun Y=>PF Y ifs (tT Y.K W0 fc)) (he:lh X N gl vs' cs' [i,j] lo' gs' fun Y=>PE Y elt (tE Y.K W0 fe)) (hs:∀x,foldedSetIterable (.Call (.Name "enumerate" p) [a] [] cpos) X.env x=pure x) :
  PS X (.Assign [.Name z pos'] (.ListComp elt [⟨.Tuple [.Name x px,.Name y py] kt pt,.Call (.Name "enumerate" p) [a] [] cpos,ifs,0⟩] scope pos) spos) (tS X.K W (aC own l (g5 s i j fa fc fe))):=by
 have B:=fun cells C s₀ H₀ ex=>S.blk h2 cells C s₀ H₀ ex
 have L:=fun cells C s₀ H₀ ex=>(B cells C s₀ H₀ ex).loc i x hx (by simp)
 have L2':=fun cells C s₀ H₀ ex=>(B cells C s₀ H₀ ex).loc j y hy (by simp)
 have hN:X.N.Nodup:=by rw [S.hN];exact S.nd
 exact cH (Hr hN (by rw [S.hN];exact hz) (S.loo l z hz hzl) (G7 S h1) S.calm (oM (S.g hk hg).1 hm (da_cons ha da_nil hs1) hs1)
  (fun cells C s₀ H₀ ex=>Ey (X:=blk X scope cells C s₀ H₀ ex) S.calm (u9 (qX (X:=blk X scope cells C s₀ H₀ ex) (i:=i) hN (by show X.N[i]?=_;rw [S.hN];exact hx) (L cells C s₀ H₀ ex).1 (L cells C s₀ H₀ ex).2) (u9 (qX (X:=blk X scope cells C s₀ H₀ ex) (i:=j) hN (by show X.N[j]?=_;rw [S.hN];exact hy) (L2' cells C s₀ H₀ ex).1 (L2' cells C s₀ H₀ ex).2) EJ)))
  (fun cells C s₀ H₀ ex=>hc _ (B cells C s₀ H₀ ex) ⟨rfl,rfl,rfl,rfl,rfl,rfl⟩) (fun cells C s₀ H₀ ex=>he _ (B cells C s₀ H₀ ex) ⟨rfl,rfl,rfl,rfl,rfl,rfl⟩) (Hs S.kind (S.loo l z hz hzl) hsl hsn) hs) fun D σ H h=>by
   have h2:kl (tE X.K W (g5 s i j fa fc fe)) (gName l) D σ H:=BL h
   exact lI (by simpa using hij) h2
end
end T
namespace TQ
open PySem PySem.Spec L2 T
open PyProof.Rows hiding St
variable {X:Cx} {N gl:List Str} {vs cs ls lo gs:List Nat} {W:XW} {a:Expr} {pos p:Pos} {fa:F1}
theorem Fz {scope:Scope} {x y z:Str} {px py pt pos' spos cpos:Pos} {kt:Nat} {elt:Expr} {ifs:List Expr} {fe:F1} {fc:FB} {vs' cs' lo' gs':List Nat} (S:Cp X N gl vs cs ls lo gs) (own:Bool) (l:Nat) (s:Sh) (i j:Nat) (hz:N[l]?=some z) (hzl:lo.contains l=true) (hij:(i != j)=true) (hx:N[i]?=some x) (hy:N[j]?=some y) (k:Nat) (hk:gl[k]?=some ("enumerate":Str)) (hg:gs.contains k=true) (hm:X.mg "enumerate"=none)
  (hsl:(pos'.line==pos.line)=true) (hsn:(scope.names.any fun (n,k)=>n==z&&(k==NameKind.local||k==NameKind.cell))=false)
  (h1:yJ N [i,j] cs scope=true) (h2:m5 N gl vs' cs' [i,j] lo' gs' scope=true) (ha:Q (PE X a (tE X.K W fa))) (hs1:starEach [a] X.env=[(false,eval a X.env)])
  (hc:lh X N gl vs' cs' [i,j] lo' gs' fun Y=>Q (PF Y ifs (tT Y.K W0 fc))) (he:lh X N gl vs' cs' [i,j] lo' gs' fun Y=>Q (PE Y elt (tE Y.K W0 fe))) (hs:∀x,foldedSetIterable (.Call (.Name "enumerate" p) [a] [] cpos) X.env x=pure x) :
  Q (PS X (.Assign [.Name z pos'] (.ListComp elt [⟨.Tuple [.Name x px,.Name y py] kt pt,.Call (.Name "enumerate" p) [a] [] cpos,ifs,0⟩] scope pos) spos) (tS X.K W (aC own l (g5 s i j fa fc fe)))):=⟨T.cs_setCompE S own l s i j hz hzl hij hx hy k hk hg hm hsl hsn h1 h2 ha.p hs1 (fun Y S' F=>(hc Y S' F).p) (fun Y S' F=>(he Y S' F).p) hs⟩
end TQ
namespace T
open PySem PySem.Spec L2
open PyProof.Rows hiding St
theorem BQ:(1000:Nat)<=sizeLine:=by decide
theorem HA {i:Nat} {fc:FB} {fe:F1} {s:Sh} {c:D->Bool} {f:D->PV} {Γ:Ev} (hΓ:Γ.set i none=Γ):∀(r acc:List D),(∀d∈r,fc (Γ.set i (KZ d))=.ok (c d) (Γ.set i (KZ d))) ->
  (∀d∈r,c d=true->fe (Γ.set i (KZ d))=.ok (f d) (Γ.set i (KZ d))/\coer s (f d)=true)->acc.length+r.length<=sizeLine->pf i fc fe s r Γ acc=.ok (acc++((r.filter c).map fun d=>(f d).d)) Γ
 | [],acc,_,_,_=>by simp [pf]
 | d::r,acc,hc,he,hl=>by
  have h1:=hc d mem_cons_self
  have hl1:acc.length<sizeLine:=by simp at hl;omega
  have back:(Γ.set i (KZ d)).set i none=Γ:=by rw [set_set];exact hΓ
  rw [pf,h1]
  cases hcd:c d with
  | false=>
   dsimp only;rw [if_pos hl1,back,HA hΓ r acc (fun d hd=>hc d (KN _ hd)) (fun d hd=>he d (KN _ hd)) (by simp at hl;omega)]
   rw [List.filter_cons_of_neg (by rw [hcd];exact Bool.false_ne_true)]
  | true=>
   obtain ⟨h2,h3⟩:=he d mem_cons_self hcd;dsimp only;rw [h2];dsimp only;rw [h3,decide_eq_true hl1,Bool.and_self,if_pos rfl,back,HA hΓ r (acc++[(f d).d]) (fun d hd=>hc d (KN _ hd)) (fun d hd=>he d (KN _ hd)) (by simp at hl ⊢;omega)]
   rw [List.filter_cons_of_pos hcd,map_cons,append_assoc];rfl
theorem iK {s:Sh} {i:Nat} {fi:FI} {fc:FB} {fe:F1} {c:D->Bool} {f:D->PV} {ds:List D} {st:Bool} {Γ:Ev} (hi:fi Γ=.ok ⟨ds,st⟩ Γ) (hl:i<Γ.length) (hs:s.isView=false) (hn:ds.length<=1000)
  (hc:∀d∈ds,fc (Γ.set i (KZ d))=.ok (c d) (Γ.set i (KZ d))) (he:∀d∈ds,c d=true->fe (Γ.set i (KZ d))=.ok (f d) (Γ.set i (KZ d))/\coer s (f d)=true) :
  aE s i fi fc fe Γ=.ok ⟨.lst s,.list ((ds.filter c).map fun d=>(f d).d)⟩ Γ:=by
 have hb:=BQ
 unfold aE;rw [hi];unfold Out.bind;dsimp only;rw [HA (c:=c) (f:=f) (by rw [set_set]) ds [] (fun d hd=>by rw [set_set];exact hc d hd) (fun d hd=>by rw [set_set];exact he d hd) (by simp;omega)]
 dsimp only;rw [hs,decide_eq_true hl];simp only [Bool.not_false,Bool.and_self,if_true,nil_append,set_set]
 have:Γ.set i (Γ.getD i none)=Γ:=by
  apply va
  rw [KM,KL hl];rfl
 rw [this]
theorem BU {s:Sh} {i:Nat} {fi:FI} {fe:F1} {f:D->PV} {ds:List D} {st:Bool} {Γ:Ev} (hi:fi Γ=.ok ⟨ds,st⟩ Γ) (hl:i<Γ.length) (hs:s.isView=false) (hn:ds.length<=1000)
  (he:∀d∈ds,fe (Γ.set i (KZ d))=.ok (f d) (Γ.set i (KZ d))/\coer s (f d)=true) :
  aE s i fi aL fe Γ=.ok ⟨.lst s,.list (ds.map fun d=>(f d).d)⟩ Γ:=by
 rw [iK (fc:=aL) (c:=fun _=>true) (f:=f) hi hl hs hn (fun d hd=>rfl) fun d hd _=>he d hd,List.filter_eq_self.mpr fun _ _=>rfl]
theorem Fc {P:Nat->Ev->Prop} {i:Nat} {body:FS}:∀(ds:List D) (n:Nat) (Γ:Ev),P n Γ->(∀k d Γ,d∈ds->n<=k->k<n+ds.length->P k Γ->i<Γ.length/\∃Γ',body (Γ.set i (KZ d))=.nx Γ'/\P (k+1) Γ')->∃Γ',dw i body ds Γ=.nx Γ'/\P (n+ds.length) Γ'
 | [],n,Γ,h,_=>⟨Γ,rfl,h⟩
 | d::r,n,Γ,h,st=>by
  obtain ⟨hi,Γ1,e1,h1⟩:=st n d Γ mem_cons_self (KW _) (by simp) h
  obtain ⟨Γ2,e2,h2⟩:=Fc r (n+1) Γ1 h1 fun k d Γ hd a b c=>st k d Γ (KN _ hd) (by omega) (by simp;omega) c
  refine ⟨Γ2,?_,?_⟩
  ·rw [dw,if_pos hi,e1]
   exact e2
  ·rw [length_cons,show n+(r.length+1)=n+1+r.length by omega]
   exact h2
theorem GM {any:Bool} {α:Type} {xs:List α} {f:α->Bool}:m6 (xs.map fun x=>.bool (f x))=some (xs.map f):=by
 induction xs with
 | nil=>rfl
 | cons x r ih=>rw [map_cons,m6,ih];rfl
theorem yN {α:Type} {xs:List α} {f:α->Bool}:eO false [.list (xs.map fun x=>.bool (f x))]=some (.bool (xs.all f)):=by
 show Option.map _ (m6 _)=_
 rw [GM (any:=false)];simp [List.all_map]
section
variable {Γ Γ1 Γ2:Ev} {fa fb fc:F1} {fl:FL} {p q:PV} {ps:List PV} {d e:D} {s s' s2:Sh} {i j n:Nat}
theorem aw (h:Γ[i]?=some (KZ d)):af i Γ=.ok ⟨.leaf,d⟩ Γ:=by unfold af;rw [h]
theorem xU (h:Γ[i]?=some (some ⟨.lst s,d⟩)):af i Γ=.ok ⟨.view,d⟩ Γ:=by unfold af;rw [h]
theorem EB (h:Γ[i]?=some (some p)):cX i Γ=.ok p (Γ.set i none):=by unfold cX;rw [h]
theorem aM:eK d Γ=.ok ⟨.leaf,d⟩ Γ:=rfl
theorem aG {g:D->D->Option D} (ha:fa Γ=.ok p Γ1) (hb:fb Γ1=.ok q Γ2) (hg:g p.d q.d=some d):aD g fa fb Γ=.ok ⟨.leaf,d⟩ Γ2:=by
 unfold aD aU;rw [ha];simp only [Out.bind];rw [hb];simp only [hg]
theorem xT {g:D->Option D} (ha:fa Γ=.ok p Γ1) (hg:g p.d=some d):eU g fa Γ=.ok ⟨.leaf,d⟩ Γ1:=by
 unfold eU aU;rw [ha];simp only [Out.bind,hg]
theorem ax (ha:fa Γ=.ok p Γ1) (hl:fl Γ1=.ok ps Γ2):ae fa fl Γ=.ok (p::ps) Γ2:=by
 unfold ae;rw [ha];simp only [Out.bind];rw [hl]
theorem ai:ah Γ=.ok [] Γ:=rfl
theorem cE {g:List D->Option D} (hl:fl Γ=.ok ps Γ1) (hg:g (ps.map (·.d))=some d):bG g fl Γ=.ok ⟨.leaf,d⟩ Γ1:=by
 unfold bG;rw [hl];simp only [Out.bind];rw [hg]
theorem bY {den:List D->Res} (hl:fl Γ=.ok ps Γ1) (hd:den (ps.map (·.d))=.ok p) (hn:ps.length=n) (hc:ps.all (coer .leaf)=true):av n den fl Γ=.ok p Γ1:=by
 unfold av;rw [hl];simp only [Out.bind,hn,hd,hc,if_true]
theorem dY {ds:List D} {k:Int} (ha:fa Γ=.ok ⟨s,.list ds⟩ Γ1) (hb:fb Γ1=.ok ⟨s',.int k⟩ Γ2) (hi:eV ds.length k=some j) (hd:ds[j]?=some d) (hs:mY s j d=some s2):ak fa fb Γ=.ok ⟨s2,d⟩ Γ2:=by
 unfold ak aU;rw [ha];simp only [Out.bind];rw [hb];simp only [hi,hd,hs]
theorem gJ {ds:List D} {k:Int} (ha:fa Γ=.ok ⟨s,.tuple ds⟩ Γ1) (hb:fb Γ1=.ok ⟨s',.int k⟩ Γ2) (hi:eV ds.length k=some j) (hd:ds[j]?=some d) (hs:mY s j d=some s2):ak fa fb Γ=.ok ⟨s2,d⟩ Γ2:=by
 unfold ak aU;rw [ha];simp only [Out.bind];rw [hb];simp only [hi,hd,hs]
theorem cN (hl:fl Γ=.ok ps Γ1) (hs:s.isView=false) (hc:ps.all (coer s)=true) (hn:decide (ps.length<=1000)=true):az s fl Γ=.ok ⟨.lst s,.list (ps.map (·.d))⟩ Γ1:=by
 have h2:ps.length<=sizeLine:=Nat.le_trans (of_decide_eq_true hn) BQ
 unfold az;rw [hl];simp only [Out.bind,hs,hc,decide_eq_true h2,Bool.not_false,Bool.and_self,if_true]
theorem cG (hl:fl Γ=.ok ps Γ1) (hc:ps.all tok=true) (hn:decide (ps.length<=1000)=true):cb fl Γ=.ok ⟨.tup (ps.map zk),.tuple (ps.map (·.d))⟩ Γ1:=by
 have h2:ps.length<=sizeLine:=Nat.le_trans (of_decide_eq_true hn) BQ
 unfold cb;rw [hl];simp only [Out.bind,hc,decide_eq_true h2,Bool.and_self,if_true]
theorem G4 {ds:List D} (ha:fa Γ=.ok ⟨s,.list ds⟩ Γ1) (ho:dH ⟨s,.list ds⟩ ds=true):rq fa Γ=.ok ⟨.lst .leaf,.list ds⟩ Γ1:=by
 unfold rq aU;rw [ha];simp only [Out.bind,ho,if_true]
theorem v_and {a b:Bool} (ha:fa Γ=.ok ⟨s,.bool a⟩ Γ) (hb:fb Γ=.ok ⟨.leaf,.bool b⟩ Γ):cF fa fb Γ=.ok ⟨.leaf,.bool (a&&b)⟩ Γ:=by
 unfold cF aU;rw [ha];simp only [Out.bind]
 cases a with
 | false=>rfl
 | true=>exact hb
theorem G0 {g g':D->D->Option D} {b b':Bool} (ha:fa Γ=.ok p Γ) (hb:fb Γ=.ok q Γ) (hg:g p.d q.d=some (.bool b)) (hs:bw q.d=true) {z:PV} (hc:fc Γ=.ok z Γ) (hg':g' q.d z.d=some (.bool b')):mX g g' fa fb fc Γ=.ok ⟨.leaf,.bool (b&&b')⟩ Γ:=by
 unfold mX aU;rw [ha];simp only [Out.bind];rw [hb];simp only [hg]
 cases b with
 | false=>rfl
 | true=>simp only [hs,if_true,hc,hg',Bool.true_and]
theorem rR {ds:List D} {k:Int} (ha:fa Γ=.ok ⟨.lst .leaf,.list ds⟩ Γ1) (hb:fb Γ1=.ok ⟨s',.int k⟩ Γ2) (h0:-1000<=k) (h1:k<=1000) (hn:ds.length*k.toNat<=1000):d8 fa fb Γ=.ok ⟨.lst .leaf,.list (List.replicate k.toNat ds).flatten⟩ Γ2:=by
 have h2:ds.length*k.toNat<=sizeLine:=Nat.le_trans hn BQ
 have h3:cD k=true:=by unfold cD;simp only [Bool.and_eq_true,decide_eq_true_eq];omega
 unfold d8 aU;rw [ha];simp only [Out.bind];rw [hb];simp only [h3,decide_eq_true h2,Bool.and_self,if_true]
theorem eD (ha:fa Γ=.ok ⟨s,.bool b⟩ Γ1):aR aA fa Γ=.ok b Γ1:=by unfold aR;rw [ha];rfl
theorem dN (ha:fa Γ=.ok ⟨s,.bool b⟩ Γ1):aR br fa Γ=.ok b Γ1:=by unfold aR;rw [ha];rfl
theorem gh {ga:FB} {b:Bool} (h:ga Γ=.ok b Γ1):dy ga Γ=.ok (!b) Γ1:=by unfold dy;rw [h];rfl
theorem yA {ga gb:FB} {a b:Bool} (ha:ga Γ=.ok a Γ) (hb:gb Γ=.ok b Γ):gk ga gb Γ=.ok (a&&b) Γ:=by
 unfold gk;rw [ha];simp only [Out.bind]
 cases a with
 | false=>rfl
 | true=>exact hb
theorem qL {ga gb:FB} {a b:Bool} (ha:ga Γ=.ok a Γ) (hb:gb Γ=.ok b Γ):mT ga gb Γ=.ok (a||b) Γ:=by
 unfold mT;rw [ha];simp only [Out.bind]
 cases a with
 | false=>exact hb
 | true=>rfl
theorem fg {ds:List D} (ha:fa Γ=.ok ⟨s,.list ds⟩ Γ1) (ho:dH ⟨s,.list ds⟩ ds=true):aZ fa Γ=.ok ⟨ds,!s.isView⟩ Γ1:=by
 unfold aZ;rw [ha];simp only [Out.bind,ho,if_true]
theorem pv {k:Int} (hl:fl Γ=.ok ps Γ1) (hp:ps.map (·.d)=[.int k]) (h0:-1000<=k) (h1:k<=100000):fM fl Γ=.ok ⟨cz 0 k.toNat,true⟩ Γ1:=by
 have h3:cD k=true:=by unfold cD;simp only [Bool.and_eq_true,decide_eq_true_eq];omega
 unfold fM;rw [hl];simp only [Out.bind,hp,jh,h3,if_true]
theorem HL {k m:Int} (hl:fl Γ=.ok ps Γ1) (hp:ps.map (·.d)=[.int k,.int m]) (h0:-1000<=k) (h1:k<=100000) (h2:-1000<=m) (h4:m<=100000):yo fl Γ=.ok ⟨cz k (m-k).toNat,true⟩ Γ1:=by
 have h3:cD k=true:=by unfold cD;simp only [Bool.and_eq_true,decide_eq_true_eq];omega
 have h5:cD m=true:=by unfold cD;simp only [Bool.and_eq_true,decide_eq_true_eq];omega
 unfold yo;rw [hl];simp only [Out.bind,hp,pL,h3,h5,Bool.and_self,if_true]
theorem ao {g1 g2:FS} {o:fK} (h1:g1 Γ=.nx Γ1) (h2:g2 Γ1=o):ay g1 g2 Γ=o:=by unfold ay;rw [h1];exact h2
theorem rj {g1 g2:FS} (h1:g1 Γ=.rt p):ay g1 g2 Γ=.rt p:=by unfold ay;rw [h1]
theorem aO {c:FB} {a b:FS} {t:Bool} {o:fK} (hc:c Γ=.ok t Γ1) (ht:t=true->a Γ1=o) (hf:t=false->b Γ1=o):b2 c a b Γ=o:=by
 unfold b2;rw [hc]
 cases t with
 | true=>exact ht rfl
 | false=>exact hf rfl
theorem bf (h:fa Γ=.ok p Γ1) (hs:p.s.isView=false):ba fa Γ=.rt p:=by
 unfold ba g9;rw [h];simp only [hs];rfl
theorem bQ (h:fa Γ=.ok p Γ1) (hc:coer .leaf p=true) (hi:i<Γ1.length):aC false i fa Γ=.nx (Γ1.set i (KZ p.d)):=by
 unfold aC g9;rw [h];simp only [hi,if_true,hc,Bool.false_and];rfl
theorem yM (h:fa Γ=.ok p Γ1) (hs:p.s.isView=false) (hi:i<Γ1.length):aC true i fa Γ=.nx (Γ1.set i (some p)):=by
 unfold aC g9;rw [h];simp only [hi,if_true,hs,Bool.true_and,Bool.not_false]
theorem CC {ds:List D} (ho:Γ[i]?=some (some ⟨.lst s,.list ds⟩)) (h:fa Γ=.ok p Γ) (hc:coer s p=true) (hn:ds.length<=900):fO i fa Γ=.nx (Γ.set i (some ⟨.lst s,.list (ds++[p.d])⟩)):=by
 have h2:ds.length<sizeLine:=Nat.lt_of_lt_of_le (by omega:ds.length<1000) BQ
 unfold fO BI;rw [ho];simp only [if_true];unfold g9;rw [h];simp only;unfold xp;rw [ho];simp only [hc,decide_eq_true h2,Bool.and_self,if_true]
theorem Cr {ds:List D} {k:Int} (ho:Γ[i]?=some (some ⟨.lst .leaf,.list ds⟩)) (h:fa Γ=.ok p Γ) (hk:fb Γ=.ok ⟨s,.int k⟩ Γ) (hi:eV ds.length k=some j) (hc:coer .leaf p=true):da i fa fb Γ=.nx (Γ.set i (some ⟨.lst .leaf,.list (ds.set j p.d)⟩)):=by
 unfold da xF;rw [ho];simp only [if_true];unfold g9;rw [h];simp only;rw [hk];simp only;unfold zB;rw [ho];simp only [hi,hc,if_true]
theorem xQ {g:FS} {o:fK} (h:Γ[i]?=some (some p)) (hg:g (Γ.set i (KZ p.d))=o):nt i g Γ=o:=by unfold nt;rw [h];exact hg
theorem h9 {fi:FI} {body:FS} {ds:List D} {o:fK} (h:fi Γ=.ok ⟨ds,true⟩ Γ1) (hg:dw i body ds Γ1=o):fI i fi body Γ=o:=by unfold fI;rw [h];exact hg
end
end T
namespace KC
open PySem PySem.Spec L2 T
open PyProof.Rows hiding St
noncomputable def cM:KY:=.tuple [.str "a",.str "b",.str "c",.str "d",.str "e",.str "f"]
noncomputable def bD:KY:=.tuple [.int 0,.int 1]
noncomputable def dR:KY:=.int 24
noncomputable def ma:KY:=.tuple [.str "some until",.str "all until"]
noncomputable def me:KY:=.tuple [.str "some always",.str "all always"]
noncomputable def iE:KY:=.tuple [.str "some next",.str "some until",.str "all always"]
noncomputable def vn:List (Str×Int):=[("yes",0),("not",1),("some next",1),("all next",1),("some always",1),("all always",1),("and",2),("or",2),("some until",2),("all until",2)]
noncomputable def mF:FS:=(ba (bG (eO false) (ae (aE .leaf 1 (yo (ae (eK (.int 1)) (ae (bG bt (ae (af 0) ah)) ah))) aL (aD eN (ak (af 0) (aD gSub (af 1) (eK (.int 1)))) (ak (af 0) (af 1)))) ah)))
noncomputable def dA:List KY->Res:=aH 2 mF
noncomputable def mJ:FS:=(ba (cF (bG (eO false) (ae (aE .leaf 1 (aZ (af 0)) aL (aD (cW false) (af 1) (eK cM))) ah)) (av 1 dA (ae (af 0) ah))))
noncomputable def dC:List KY->Res:=aH 2 mJ
noncomputable def mI:FS:=(ba (cF (bG (eO false) (ae (aE .leaf 2 (aZ (af 0)) aL (mX yt eN (eK (.int 0)) (af 2) (af 1))) ah)) (av 1 dA (ae (af 0) ah))))
noncomputable def bL:List KY->Res:=aH 3 mI
noncomputable def mH:FS:=(ba (cF (aD nG (bG bt (ae (af 0) ah)) (eK (.int 0))) (av 2 bL (ae (af 0) (ae (af 1) ah)))))
noncomputable def dB:List KY->Res:=aH 2 mH
noncomputable def nN:FS:=(ay (aC false 3 (bG bt (ae (af 0) ah)))
  (ay (b2 (mT (aR aA (aD eN (af 3) (eK (.int 1)))) (mT (aR aA (aD nG (af 3) (eK dR))) (mT (aR aA (aD fN (bG bt (ae (af 1) ah)) (af 3))) (aR aA (aD fN (bG bt (ae (af 2) ah)) (af 3)))))) (ba (eK (.bool false))) aS)
  (ay (b2 (dy (aR br (bG (eO false) (ae (aE .leaf 4 (aZ (af 0)) aL (aD (cW false) (af 4) (eK bD))) ah)))) (ba (eK (.bool false))) aS)
  (ba (cF (bG (eO false) (ae (aE .leaf 5 (aZ (af 1)) aL (av 1 dC (ae (af 5) ah))) ah)) (bG (eO false) (ae (aE .leaf 5 (aZ (af 2)) aL (av 2 dB (ae (af 5) (ae (af 3) ah)))) ah)))))))
noncomputable def cL:List KY->Res:=aH 6 nN
noncomputable def jF:FS:=(b2 (dy (aR br (av 3 cL (ae (ak (af 0) (eK (.int 0))) (ae (ak (af 0) (eK (.int 1))) (ae (ak (af 0) (eK (.int 2))) ah)))))) vC aS)
noncomputable def dE:List KY->Res:=aH 1 jF
noncomputable def fD:FS:=(ba (aE .leaf 2 (fM (ae (bG bt (ae (ak (af 0) (eK (.int 0))) ah)) ah)) (aR aA (aD (cW true) (af 2) (af 1))) (af 2)))
noncomputable def bN:List KY->Res:=aH 3 fD
noncomputable def mG:FS:=(ba (kU (aR br (af 0)) (bG (eO true) (ae (af 1) ah)) (bG (eO false) (ae (af 1) ah))))
noncomputable def dM:List KY->Res:=aH 2 mG
noncomputable def fC:FS:=(ay (aC true 4 (az .leaf ah))
  (ay (fI 5 (aZ (af 2))
  (b2 (gk (aR aA (aD (bI false) (ak (af 3) (af 5)) (eK .none))) (aR br (av 2 dM (ae (ak (af 1) (af 5)) (ae (aE .leaf 6 (aZ (ak (ak (af 0) (eK (.int 2))) (af 5))) aL (aD (bI true) (ak (af 3) (af 6)) (eK .none))) ah))))) (fO 4 (af 5)) aS))
  (ba (cX 4))))
noncomputable def b9:List KY->Res:=aH 7 fC
noncomputable def iQ:FS:=(ay (aC true 4 (aE .leaf 8 (aZ (ak (af 0) (eK (.int 0)))) aL (eK .none)))
  (ay (aC false 5 (eK (.int 0)))
  (ay (aC false 6 (af 3))
  (ay (u6 1000 (aR br (af 6))
  (ay (fI 7 (aZ (af 6))
  (da 4 (af 5) (af 7)))
  (ay (fT 5 (eK (.int 1)))
  (aC false 6 (yK 4 b9 (ae (af 0) (ae (af 1) (ae (af 2) (ae (af 4) ah)))))))))
  (ba (cX 4))))))
noncomputable def cn:List KY->Res:=aH 9 iQ
noncomputable def iS:FS:=(ay (b2 (aR aA (aD eN (af 1) (bG bt (ae (af 0) ah)))) (ba (ak (af 0) (af 1))) aS)
  (ba (eK (.int 0))))
noncomputable def aX:List KY->Res:=aH 2 iS
noncomputable def mK:FS:=(ay (b2 (aR aA (aD mv (af 0) (aD jw (eK (.int 10)) (eK (.int 18))))) (ay (aC false 4 (af 0))
  (ay (fI 5 (fM (ae (af 1) ah))
  (aC false 4 (aD qj (af 4) (af 2))))
  (ba (aD dv (af 4) (af 2))))) aS)
  (ay (aC false 3 (aD dv (aD mr (aD aN (aD aN (aD dv (af 0) (eK (.int 1000000007))) (aD mr (eK (.int 1009)) (af 1))) (eK (.int 17))) (eK (.int 69621))) (eK (.int 2147483647))))
  (ay (aC false 3 (aD dv (aD aN (aD aN (aD mr (af 3) (af 3)) (aD mr (eK (.int 40503)) (af 1))) (eK (.int 5))) (eK (.int 2147483629))))
  (ba (aD dv (aD qj (aD dv (aD mr (af 3) (eK (.int 48271))) (eK (.int 2147483647))) (eK (.int 32))) (af 2))))))
noncomputable def aq:List KY->Res:=aH 6 mK
noncomputable def d__law_world:FS:=(ay (aC false 3 (aD aN (eK (.int 1)) (aD dv (av 2 aX (ae (af 0) (ae (af 1) ah))) (af 2))))
  (ay (aC true 4 (az .leaf ah))
  (ay (aC true 5 (az .leaf ah))
  (ay (aC true 6 (az .leaf ah))
  (ay (fI 7 (fM (ae (af 3) ah))
  (ay (aC false 8 (av 2 aX (ae (af 0) (ae (aD aN (aD aN (af 1) (eK (.int 1))) (af 7)) ah))))
  (ay (fO 4 (av 3 aq (ae (af 8) (ae (eK (.int 0)) (ae (eK (.int 2)) ah)))))
  (ay (fO 5 (aE .leaf 11 (fM (ae (eK (.int 3)) ah)) (aR aA (aD bT (av 3 aq (ae (af 8) (ae (aD aN (eK (.int 1)) (af 11)) (ae (eK (.int 2)) ah)))) (eK (.int 1)))) (ak (eK (.str "abc")) (af 11))))
  (ay (aC false 9 (aE .leaf 10 (fM (ae (af 3) ah)) (aR aA (aD bT (av 3 aq (ae (af 8) (ae (aD aN (eK (.int 4)) (af 10)) (ae (aD aN (eK (.int 2)) (bG cV (ae (aD nG (af 3) (eK (.int 3))) ah))) ah)))) (eK (.int 1)))) (af 10)))
  (ay (b2 (aR aA (aD bT (af 9) (az .leaf ah))) (aC false 9 (az .leaf (ae (av 3 aq (ae (af 8) (ae (aD aN (eK (.int 4)) (af 3)) (ae (af 3) ah)))) ah))) aS)
  (fO 6 (af 9))))))))
  (ba (cb (ae (cX 4) (ae (cX 5) (ae (cX 6) ah))))))))))
noncomputable def m__law_world:List KY->Res:=aH 12 d__law_world
open PySem.SeqAt
noncomputable def Dz (a b:D):Bool:=match eN a b with
 | some (.bool t)=>t
 | _=>false
noncomputable def RowI (ds:List D):Prop:=∀a∈ds,∃n,a=.int n
noncomputable def jG (ds:List D):Prop:=∀a∈ds,∃x,a=.str x/\PyData.strOk x=true
noncomputable def Row (ds:List D):Prop:=RowI ds\/jG ds
theorem xC (i:Int):shaped (.int i)=true:=by simp [shaped,PyData.canLay0,PyData.depth]
theorem zx {x:Str} (h:PyData.strOk x=true):shaped (.str x)=true:=by simp [shaped,PyData.canLay0,PyData.depth,h]
theorem Row.lt {ds:List D} {a b:D} (h:Row ds) (ha:a∈ds) (hb:b∈ds):eN a b=some (.bool (Dz a b))/\mv a b=some (.bool (!Dz a b)):=by
 rcases h with h | h
 ·obtain ⟨n,rfl⟩:=h a ha
  obtain ⟨m,rfl⟩:=h b hb;refine ⟨rfl,?_⟩
  show some (PyData.bool (decide (m<=n)))=some (.bool (!decide (n<m)))
  congr 2
  by_cases q:n<m
  ·simp [q,Int.not_le.mpr q]
  ·simp [q,Int.not_lt.mp q]
 ·obtain ⟨n,rfl,_⟩:=h a ha
  obtain ⟨m,rfl,_⟩:=h b hb;exact ⟨rfl,rfl⟩
noncomputable def yi (ds:List D) (d:D):Bool:=match d with
 | .int j=>Dz (ds.getD (j-1).toNat .none) (ds.getD j.toNat .none)
 | _=>false
noncomputable def dz (ds:List D):Bool:=(cz 1 ((ds.length:Int)-1).toNat).all (yi ds)
theorem Cy {lo:Int} {n:Nat} {d:D} (h:d∈cz lo n):∃k:Nat,k<n/\d=.int (lo+k):=by
 unfold cz at h;simp only [mem_map,mem_range] at h
 obtain ⟨k,hk,e⟩:=h;exact ⟨k,hk,e.symm⟩
theorem EO {lo:Int} {n:Nat}:(cz lo n).length=n:=by unfold cz;simp
theorem qQ {n:Nat} {k:Nat} (h:k<n):eV n (k:Int)=some k:=by
 unfold eV;rw [if_pos (by omega),if_pos (by omega)]
 simp
theorem DA {n:Nat} {i:Int} (h0:0<=i) (h1:i<n):eV n i=some i.toNat:=by
 unfold eV;rw [if_pos h0,if_pos h1]
theorem AU {i:Int} (h0:-1000<=i) (h1:i<=100000):cD i=true:=by
 unfold cD;simp only [Bool.and_eq_true,decide_eq_true_eq]
 omega
theorem BG {ds:List D} {k:Nat} (h:k<ds.length):ds[k]?=some (ds.getD k .none):=by
 rw [KM,KL h];rfl
theorem getD_mem {ds:List D} {k:Nat} (h:k<ds.length):ds.getD k .none∈ds:=mem_of_getElem? (BG h)
theorem Dy {ds:List D} {k:Nat} (h:Row ds) (hk:k<((ds.length:Int)-1).toNat):eV ds.length (1+(k:Int)-1)=some k/\eV ds.length (1+(k:Int))=some (k+1)/\ds[k]?=some (ds.getD k .none)/\ds[k+1]?=some (ds.getD (k+1) .none) /\
  eN (ds.getD k .none) (ds.getD (k+1) .none)=some (.bool (yi ds (.int (1+(k:Int)))))/\mv (ds.getD k .none) (ds.getD (k+1) .none)=some (.bool (!yi ds (.int (1+(k:Int))))):=by
 have h1:k<ds.length:=by omega
 have h2:k+1<ds.length:=by omega
 have l:=h.lt (getD_mem h1) (getD_mem h2)
 have e3:yi ds (.int (1+(k:Int)))=Dz (ds.getD k .none) (ds.getD (k+1) .none):=by
  unfold yi;dsimp only;rw [show (1+(k:Int)-1).toNat=k by omega,show (1+(k:Int)).toNat=k+1 by omega]
 rw [e3];exact ⟨by rw [show (1+(k:Int)-1)=k by omega];exact qQ h1,by rw [show (1+(k:Int))=((k+1:Nat):Int) by omega];exact qQ h2,BG h1,BG h2,l.1,l.2⟩
theorem aT {n:Nat} {g:FS} {ds:List D} {p:PV} (h:g (aV n ds)=.rt p):aH n g ds=.ok p:=by unfold aH;rw [h]
theorem eq_int {a b:Int}:bT (.int a) (.int b)=some (.bool (a==b)):=by
 unfold bT;rw [xC,xC,Bool.and_self,if_pos rfl,PyData.eqv]
theorem fA {ds:List D} (h:Row ds) (hl:ds.length<=100):dA [.list ds]=.ok ⟨.leaf,.bool (dz ds)⟩:=by
 have hc:aE .leaf 1 (yo (ae (eK (.int 1)) (ae (bG bt (ae (af 0) ah)) ah))) aL (aD eN (ak (af 0) (aD gSub (af 1) (eK (.int 1)))) (ak (af 0) (af 1))) [KZ (.list ds),none] =
   .ok ⟨.lst .leaf,.list ((cz 1 ((ds.length:Int)-1).toNat).map fun d=>.bool (yi ds d))⟩ [KZ (.list ds),none]:=by
  refine BU (f:=fun d=>⟨.leaf,.bool (yi ds d)⟩) (st:=true) (HL (k:=1) (m:=(ds.length:Int)) (ax aM (ax (cE (ax (aw rfl) ai) rfl) ai)) rfl (by omega) (by omega) (by omega) (by omega)) (by simp) rfl (by rw [EO];omega) fun d hd=>⟨?_,rfl⟩
  obtain ⟨k,hk,rfl⟩:=Cy hd;obtain ⟨e1,e2,e3,e4,e5,e6⟩:=Dy h hk;exact aG (dY (aw rfl) (aG (aw rfl) aM rfl) e1 e3 rfl) (dY (aw rfl) (aw rfl) e2 e4 rfl) e5
 exact aT (bf (cE (ax hc ai) yN) rfl)
noncomputable def yl (a:D):Bool:=[PyData.str "a",.str "b",.str "c",.str "d",.str "e",.str "f"].any fun y=>PyData.eqv y a
noncomputable def wH (a:D):Bool:=[PyData.int 0,.int 1].any fun y=>PyData.eqv y a
noncomputable def inR (n:Int) (a:D):Bool:=match a with
 | .int i=>decide (0<=i)&&decide (i<n)
 | _=>false
noncomputable def wA (d:D):Bool:=match d with
 | .list xs=>xs.all yl&&dz xs
 | _=>false
noncomputable def x5 (n:Int) (d:D):Bool:=match d with
 | .list xs=>decide (0<xs.length)&&(xs.all (inR n)&&dz xs)
 | _=>false
theorem zy:shaped cM=true:=by decide +kernel
theorem x4:shaped bD=true:=by decide +kernel
theorem AV {x:Str} (hx:PyData.strOk x=true):cW false (.str x) cM=some (.bool (yl (.str x))):=by
 unfold cW cM;have:=zy
 unfold cM at this;simp only [zx hx,this,Bool.and_self,if_true]
 rfl
theorem DF {i:Int}:cW false (.int i) bD=some (.bool (wH (.int i))):=by
 unfold cW bD;have:=x4
 unfold bD at this;simp only [xC,this,Bool.and_self,if_true]
 rfl
theorem jC {ds:List D} (h:jG ds) (hl:ds.length<=100):dC [.list ds]=.ok ⟨.leaf,.bool (ds.all yl&&dz ds)⟩:=by
 have hc:aE .leaf 1 (aZ (af 0)) aL (aD (cW false) (af 1) (eK cM)) [KZ (.list ds),none]=.ok ⟨.lst .leaf,.list (ds.map fun d=>.bool (yl d))⟩ [KZ (.list ds),none]:=by
  refine BU (f:=fun d=>⟨.leaf,.bool (yl d)⟩) (fg (aw rfl) rfl) (by simp) rfl (by omega) fun d hd=>⟨?_,rfl⟩
  obtain ⟨x,rfl,hx⟩:=h d hd;exact aG (aw rfl) aM (AV hx)
 exact aT (bf (v_and (cE (ax hc ai) yN) (bY (ax (aw rfl) ai) (fA (.inr h) hl) rfl rfl)) rfl)
theorem chain_ev {i n:Int}:yt (.int 0) (.int i)=some (.bool (decide (0<=i)))/\eN (.int i) (.int n)=some (.bool (decide (i<n))):=⟨rfl,rfl⟩
theorem HH {ds:List D} {n:Int} (h:RowI ds) (hl:ds.length<=100):bL [.list ds,.int n]=.ok ⟨.leaf,.bool (ds.all (inR n)&&dz ds)⟩:=by
 have hc:aE .leaf 2 (aZ (af 0)) aL (mX yt eN (eK (.int 0)) (af 2) (af 1)) [KZ (.list ds),KZ (.int n),none]=.ok ⟨.lst .leaf,.list (ds.map fun d=>.bool (inR n d))⟩ [KZ (.list ds),KZ (.int n),none]:=by
  refine BU (f:=fun d=>⟨.leaf,.bool (inR n d)⟩) (fg (aw rfl) rfl) (by simp) rfl (by omega) fun d hd=>⟨?_,rfl⟩
  obtain ⟨i,rfl⟩:=h d hd;exact G0 aM (aw rfl) (chain_ev (n:=n)).1 rfl (aw rfl) chain_ev.2
 exact aT (bf (v_and (cE (ax hc ai) yN) (bY (ax (aw rfl) ai) (fA (.inl h) hl) rfl rfl)) rfl)
theorem jB {ds:List D} {n:Int} (h:RowI ds) (hl:ds.length<=100):dB [.list ds,.int n]=.ok ⟨.leaf,.bool (decide (0<ds.length)&&(ds.all (inR n)&&dz ds))⟩:=by
 have e:nG (.int (ds.length:Nat)) (.int 0)=some (.bool (decide (0<ds.length))):=by
  show some (PyData.bool (decide ((0:Int)<(ds.length:Int))))=_
  congr 2
  exact decide_eq_decide.mpr (by omega)
 exact aT (bf (v_and (aG (cE (ax (aw rfl) ai) rfl) aM e) (bY (ax (aw rfl) (ax (aw rfl) ai)) (HH h hl) rfl rfl)) rfl)
structure Wk (b:Nat) (os ms ss:List D):Prop where
 o:RowI os
 m:∀r∈ms,∃xs,r=.list xs/\jG xs/\xs.length<=30
 s:∀r∈ss,∃xs,r=.list xs/\RowI xs/\xs.length<=30
 lo:os.length<=b
 lm:ms.length<=b
 ls:ss.length<=b
noncomputable def xn (os ms ss:List D):Bool:=decide ((os.length:Int)<1)||(decide ((24:Int)<os.length)||((!((ms.length:Int)==(os.length:Int)))||(!((ss.length:Int)==(os.length:Int)))))
noncomputable def isW (os ms ss:List D):Bool:=!xn os ms ss&&(os.all wH&&(ms.all wA&&ss.all (x5 os.length)))
theorem ne_int {a b:Int}:fN (.int a) (.int b)=some (.bool (!(a==b))):=by
 unfold fN;rw [xC,xC,Bool.and_self,if_pos rfl,PyData.eqv]
theorem fZ {b:Nat} {os ms ss:List D} (h:Wk b os ms ss) (hb:b<=100):cL [.list os,.list ms,.list ss]=.ok ⟨.leaf,.bool (isW os ms ss)⟩:=by
 have lo:=h.lo
 have lm:=h.lm
 have ls:=h.ls
 refine aT ?_
 refine ao (bQ (cE (ax (aw rfl) ai) rfl) rfl (by simp [aV])) ?_
 have hif:(mT (aR aA (aD eN (af 3) (eK (.int 1)))) (mT (aR aA (aD nG (af 3) (eK dR))) (mT (aR aA (aD fN (bG bt (ae (af 1) ah)) (af 3))) (aR aA (aD fN (bG bt (ae (af 2) ah)) (af 3)))))) [KZ (.list os),KZ (.list ms),KZ (.list ss),KZ (.int (os.length:Nat)),none,none]
   = .ok (xn os ms ss) [KZ (.list os),KZ (.list ms),KZ (.list ss),KZ (.int (os.length:Nat)),none,none]:=
  qL (eD (aG (aw rfl) aM rfl)) (qL (eD (aG (aw rfl) aM rfl)) (qL (eD (aG (cE (ax (aw rfl) ai) rfl) (aw rfl) ne_int)) (eD (aG (cE (ax (aw rfl) ai) rfl) (aw rfl) ne_int))))
 cases hbad:xn os ms ss with
 | true=>
  rw [hbad] at hif;unfold isW;rw [hbad];exact rj (aO hif (fun _=>bf aM rfl) nofun)
 | false=>
  rw [hbad] at hif;refine ao (aO hif nofun (fun _=>rfl)) ?_
  have c1:aE .leaf 4 (aZ (af 0)) aL (aD (cW false) (af 4) (eK bD)) [KZ (.list os),KZ (.list ms),KZ (.list ss),KZ (.int (os.length:Nat)),none,none]
    = .ok ⟨.lst .leaf,.list (os.map fun d=>.bool (wH d))⟩ [KZ (.list os),KZ (.list ms),KZ (.list ss),KZ (.int (os.length:Nat)),none,none]:=by
   refine BU (f:=fun d=>⟨.leaf,.bool (wH d)⟩) (fg (aw rfl) rfl) (by simp) rfl (by omega) fun d hd=>⟨?_,rfl⟩
   obtain ⟨i,rfl⟩:=h.o d hd;exact aG (aw rfl) aM DF
  have c2:aE .leaf 5 (aZ (af 1)) aL (av 1 dC (ae (af 5) ah)) [KZ (.list os),KZ (.list ms),KZ (.list ss),KZ (.int (os.length:Nat)),none,none]
    = .ok ⟨.lst .leaf,.list (ms.map fun d=>.bool (wA d))⟩ [KZ (.list os),KZ (.list ms),KZ (.list ss),KZ (.int (os.length:Nat)),none,none]:=by
   refine BU (f:=fun d=>⟨.leaf,.bool (wA d)⟩) (fg (aw rfl) rfl) (by simp) rfl (by omega) fun d hd=>⟨?_,rfl⟩
   obtain ⟨xs,rfl,hx,hl⟩:=h.m d hd;exact bY (ax (aw rfl) ai) (jC hx (by omega)) rfl rfl
  have c3:aE .leaf 5 (aZ (af 2)) aL (av 2 dB (ae (af 5) (ae (af 3) ah))) [KZ (.list os),KZ (.list ms),KZ (.list ss),KZ (.int (os.length:Nat)),none,none]
    = .ok ⟨.lst .leaf,.list (ss.map fun d=>.bool (x5 os.length d))⟩ [KZ (.list os),KZ (.list ms),KZ (.list ss),KZ (.int (os.length:Nat)),none,none]:=by
   refine BU (f:=fun d=>⟨.leaf,.bool (x5 os.length d)⟩) (fg (aw rfl) rfl) (by simp) rfl (by omega) fun d hd=>⟨?_,rfl⟩
   obtain ⟨xs,rfl,hx,hl⟩:=h.s d hd;exact bY (ax (aw rfl) (ax (aw rfl) ai)) (jB hx (by omega)) rfl rfl
  have t1:=gh (dN (cE (ax c1 ai) yN))
  cases ho:os.all wH with
  | false=>
   rw [ho] at t1;unfold isW;rw [ho,Bool.false_and,Bool.and_false];exact rj (aO t1 (fun _=>bf aM rfl) nofun)
  | true=>
   rw [ho] at t1;refine ao (aO t1 nofun (fun _=>rfl)) ?_
   unfold isW;rw [hbad,ho,Bool.not_false,Bool.true_and,Bool.true_and];exact bf (v_and (cE (ax c2 ai) yN) (cE (ax c3 ai) yN)) rfl
theorem Bo {xs:List D} (h:shaped (.list xs)=true):bT (.list xs) (.list [])=some (.bool (decide (xs.length=0))):=by
 unfold bT;have h2:shaped (.list [])=true:=by decide +kernel
 rw [h,h2,Bool.and_self,if_pos rfl]
 cases xs with
 | nil=>rfl
 | cons a r=>rfl
theorem GZ {xs:List D} (h:RowI xs):shaped (.list xs)=true:=by
 have c:PyData.canLayAll0 xs=true/\PyData.depthAll xs=0:=by
  induction xs with
  | nil=>exact ⟨rfl,rfl⟩
  | cons a r ih=>
   obtain ⟨n,rfl⟩:=h a mem_cons_self;have q:=ih fun x hx=>h x (KN _ hx)
   simp [PyData.canLayAll0,PyData.canLay0,PyData.depthAll,PyData.depth,q.1,q.2]
 simp [shaped,PyData.canLay0,PyData.depth,c.1,c.2]
theorem lt_int {a b:Int}:eN (.int a) (.int b)=some (.bool (decide (a<b))):=rfl
theorem o4 {a b:Int}:mv (.int a) (.int b)=some (.bool (decide (b<=a))):=rfl
theorem add_int' {a b:Int}:aN (.int a) (.int b)=some (.int (a+b)):=rfl
theorem sub_int' {a b:Int}:gSub (.int a) (.int b)=some (.int (a-b)):=rfl
theorem cT {a b:Int} (h:0<b):dv (.int a) (.int b)=some (.int (a % b)):=by
 show (if xl a b then _ else _)=_
 rw [if_pos (by unfold xl;simpa using h)]
theorem o8 {a b:Int} (h:0<b) (h2:b<1073741824):qj (.int a) (.int b)=some (.int (a / b)):=by
 show (if xm a b then _ else _)=_
 rw [if_pos (by unfold xm;simp [h,h2])]
theorem oS {a b:Int} (h:-1000000000000<b) (h2:b<1000000000000):mr (.int a) (.int b)=some (.int (a*b)):=by
 show (if qK a b then _ else _)=_
 rw [if_pos (by unfold qK;simp only [Bool.or_eq_true,Bool.and_eq_true,decide_eq_true_eq];right;omega)]
theorem jU {a b:Int} (h:-1000000000000<a) (h2:a<1000000000000):mr (.int a) (.int b)=some (.int (a*b)):=by
 show (if qK a b then _ else _)=_
 rw [if_pos (by unfold qK;simp only [Bool.or_eq_true,Bool.and_eq_true,decide_eq_true_eq];left;omega)]
theorem lR {b:Int} (h:0<=b) (h2:b<=100):jw (.int 10) (.int b)=some (.int (10 ^ b.toNat)):=by
 show (if xk 10 b then _ else _)=_
 rw [if_pos (by unfold xk;simp only [Bool.and_eq_true,decide_eq_true_eq];exact ⟨⟨h,by omega⟩,by decide⟩)]
theorem E9 {xs:List D} (h:RowI xs) {k:Int} (hk:0<=k):∃c,aX [.list xs,.int k]=.ok ⟨.leaf,.int c⟩:=by
 have t:aR aA (aD eN (af 1) (bG bt (ae (af 0) ah))) [KZ (.list xs),KZ (.int k)]=.ok (decide (k<(xs.length:Int))) [KZ (.list xs),KZ (.int k)]:=
  eD (aG (aw rfl) (cE (ax (aw rfl) ai) rfl) lt_int)
 cases hlt:decide (k<(xs.length:Int)) with
 | true=>
  rw [hlt] at t;have hl:=of_decide_eq_true hlt
  have hk2:k.toNat<xs.length:=by omega
  obtain ⟨c,hc⟩:=h _ (getD_mem hk2);have g:=BG hk2
  rw [hc] at g;exact ⟨c,aT (rj (aO t (fun _=>bf (dY (aw rfl) (aw rfl) (DA hk hl) g rfl) rfl) nofun))⟩
 | false=>
  rw [hlt] at t;exact ⟨0,aT (ao (aO t nofun (fun _=>rfl)) (bf aM rfl))⟩
theorem mD {c k b:Int} (hk:0<=k) (hk2:k<=1000) (hb:1<=b) (hb2:b<=1000):∃r,aq [.int c,.int k,.int b]=.ok ⟨.leaf,.int r⟩/\0<=r/\r<b:=by
 have t:aR aA (aD mv (af 0) (aD jw (eK (.int 10)) (eK (.int 18)))) [KZ (.int c),KZ (.int k),KZ (.int b),none,none,none]=.ok (decide (10 ^ (18:Int).toNat<=c)) [KZ (.int c),KZ (.int k),KZ (.int b),none,none,none]:=
  eD (aG (aw rfl) (aG aM aM (lR (by omega) (by omega))) o4)
 cases hge:decide (10 ^ (18:Int).toNat<=c) with
 | true=>
  rw [hge] at t;obtain ⟨Γ',e,l,x,hΓ⟩:=Fc (P:=fun _ Γ=>∃l x,Γ=[KZ (.int c),KZ (.int k),KZ (.int b),none,KZ (.int l),x]) (i:=5) (body:=aC false 4 (aD qj (af 4) (af 2))) (cz 0 k.toNat) 0
   [KZ (.int c),KZ (.int k),KZ (.int b),none,KZ (.int c),none] ⟨c,none,rfl⟩ (fun m d Γ hd _ _ ⟨l,x,hΓ⟩=>by
    subst hΓ;refine ⟨by simp,_,bQ (aG (aw rfl) (aw rfl) (o8 (by omega) (by omega))) rfl (by simp),_,_,rfl⟩)
  subst hΓ;exact ⟨_,aT (rj (aO t (fun _=>ao (bQ (aw rfl) rfl (by simp)) (ao (h9 (pv (k:=k) (ax (aw rfl) ai) rfl (by omega) (by omega)) e) (bf (aG (aw rfl) (aw rfl) (cT (by omega))) rfl))) nofun)),Int.emod_nonneg _ (by omega),Int.emod_lt_of_pos _ (by omega)⟩
 | false=>
  rw [hge] at t;have m1:∀x:Int,0<=x % 2147483647/\x % 2147483647<2147483647:=fun x=>⟨Int.emod_nonneg _ (by omega),Int.emod_lt_of_pos _ (by omega)⟩
  refine ⟨_,aT (ao (aO t nofun (fun _=>rfl)) (ao (bQ (aG (aG (aG (aG (aG (aw rfl) aM (cT (by omega))) (aG aM (aw rfl) (jU (by omega) (by omega))) add_int') aM add_int') aM (oS (by omega) (by omega))) aM (cT (by omega))) rfl (by simp [aV]))
   (ao (bQ (aG (aG (aG (aG (aw rfl) (aw rfl) (jU ?_ ?_)) (aG aM (aw rfl) (jU (by omega) (by omega))) add_int') aM add_int') aM (cT (by omega))) rfl (by simp [aV]))
   (bf (aG (aG (aG (aG (aw rfl) aM (oS (by omega) (by omega))) aM (cT (by omega))) aM (o8 (by omega) (by omega))) (aw rfl) (cT (by omega))) rfl)))),Int.emod_nonneg _ (by omega),Int.emod_lt_of_pos _ (by omega)⟩
  ·exact Int.lt_of_lt_of_le (by omega) (m1 _).1
  ·exact Int.lt_trans (m1 _).2 (by omega)
noncomputable def dq (c k b:Int):Int:=match aq [.int c,.int k,.int b] with
 | .ok ⟨_,.int r⟩=>r
 | _=>0
theorem xE {c k b:Int} (hk:0<=k) (hk2:k<=1000) (hb:1<=b) (hb2:b<=1000):aq [.int c,.int k,.int b]=.ok ⟨.leaf,.int (dq c k b)⟩:=by
 obtain ⟨r,e,_⟩:=mD (c:=c) hk hk2 hb hb2
 unfold dq;rw [e]
theorem Cm {c k b:Int} (hk:0<=k) (hk2:k<=1000) (hb:1<=b) (hb2:b<=1000):0<=dq c k b/\dq c k b<b:=by
 obtain ⟨r,e,h⟩:=mD (c:=c) hk hk2 hb hb2
 unfold dq;rw [e];exact h
theorem RowI.snoc {xs:List D} {i:Int} (h:RowI xs):RowI (xs++[.int i]):=fun a ha=>by
 rcases KI ha with z | z
 ·exact h a z
 ·exact ⟨i,List.mem_singleton.mp z⟩
noncomputable def abc (d:D):D:=match d with
 | .int k=>(match eY [97,98,99] k with
  | some c=>.str ⟨#[c]⟩
  | none=>.none)
 | _=>.none
theorem tF {c:Nat} (h:c<1000):PyData.strOk ⟨#[c]⟩=true:=by
 unfold PyData.strOk;simp
 omega
noncomputable abbrev eW:FS:=(ay (aC false 8 (av 2 aX (ae (af 0) (ae (aD aN (aD aN (af 1) (eK (.int 1))) (af 7)) ah))))
  (ay (fO 4 (av 3 aq (ae (af 8) (ae (eK (.int 0)) (ae (eK (.int 2)) ah)))))
  (ay (fO 5 (aE .leaf 11 (fM (ae (eK (.int 3)) ah)) (aR aA (aD bT (av 3 aq (ae (af 8) (ae (aD aN (eK (.int 1)) (af 11)) (ae (eK (.int 2)) ah)))) (eK (.int 1)))) (ak (eK (.str "abc")) (af 11))))
  (ay (aC false 9 (aE .leaf 10 (fM (ae (af 3) ah)) (aR aA (aD bT (av 3 aq (ae (af 8) (ae (aD aN (eK (.int 4)) (af 10)) (ae (aD aN (eK (.int 2)) (bG cV (ae (aD nG (af 3) (eK (.int 3))) ah))) ah)))) (eK (.int 1)))) (af 10)))
  (ay (b2 (aR aA (aD bT (af 9) (az .leaf ah))) (aC false 9 (az .leaf (ae (av 3 aq (ae (af 8) (ae (aD aN (eK (.int 4)) (af 3)) (ae (af 3) ah)))) ah))) aS)
  (fO 6 (af 9)))))))
theorem lG {ts:List Int} (h:ts.Pairwise (· < ·)):dz (ts.map .int)=true:=by
 unfold dz;rw [all_eq_true];intro d hd;obtain ⟨k,hk,rfl⟩:=Cy hd;rw [length_map] at hk;have h1:k<ts.length:=by omega
 have h2:k+1<ts.length:=by omega
 unfold yi;dsimp only;rw [show (1+(k:Int)-1).toNat=k by omega,show (1+(k:Int)).toNat=k+1 by omega]
 rw [KM,KM,getElem?_map,getElem?_map,KL h1,KL h2];have:=List.pairwise_iff_getElem.mp h k (k+1) h1 h2 (by omega)
 show decide (ts[k]<ts[k+1])=true
 exact decide_eq_true this
structure Gw (N:Int) (n:Nat) (os ms ss:List D):Prop where
 lo:os.length=n
 lm:ms.length=n
 ls:ss.length=n
 o:∀a∈os,a=.int 0\/a=.int 1
 m:∀r∈ms,∃xs,r=.list xs/\jG xs/\xs.length<=30/\wA r=true
 s:∀r∈ss,∃ts:List Int,r=.list (ts.map .int)/\ts.length<=30/\ts≠[]/\(∀t∈ts,0<=t/\t<N)/\ts.Pairwise (· < ·)
theorem rowI_map {ts:List Int}:RowI (ts.map .int):=fun a ha=>by
 obtain ⟨n,_,e⟩:=List.mem_map.mp ha;exact ⟨n,e.symm⟩
theorem Gw.wk {N:Int} {n b:Nat} {os ms ss:List D} (h:Gw N n os ms ss) (hb:n<=b):Wk b os ms ss:=
 ⟨fun a ha=>(h.o a ha).elim (fun e=>⟨0,e⟩) fun e=>⟨1,e⟩,fun r hr=>let ⟨xs,e,a,b,_⟩:=h.m r hr;⟨xs,e,a,b⟩,fun r hr=>let ⟨ts,e,a,_⟩:=h.s r hr;⟨_,e,rowI_map,by rw [length_map];exact a⟩,by rw [h.lo];exact hb,by rw [h.lm];exact hb,by rw [h.ls];exact hb⟩
theorem Gw.isW {n:Nat} {os ms ss:List D} (h:Gw (n:Int) n os ms ss) (h1:1<=n) (h24:n<=24):isW os ms ss=true:=by
 unfold KC.isW xn;rw [h.lo,h.lm,h.ls];have e1:decide ((n:Int)<1)=false:=decide_eq_false (by omega)
 have e2:decide ((24:Int)<n)=false:=decide_eq_false (by omega)
 rw [e1,e2];simp only [beq_self_eq_true,Bool.not_true,Bool.or_self,Bool.not_false,Bool.true_and,Bool.and_eq_true,all_eq_true]
 refine ⟨fun a ha=>?_,fun r hr=>?_,fun r hr=>?_⟩
 ·rcases h.o a ha with rfl | rfl<;>rfl
 ·obtain ⟨xs,_,_,_,e⟩:=h.m r hr
  exact e
 ·obtain ⟨ts,rfl,h2,h3,h4,h5⟩:=h.s r hr
  unfold x5;simp only [Bool.and_eq_true,decide_eq_true_eq,length_map,all_eq_true]
  refine ⟨by cases ts with | nil=>exact absurd rfl h3 | cons a r=>simp,fun a ha=>?_,lG h5⟩
  obtain ⟨t,ht,rfl⟩:=List.mem_map.mp ha;have:=h4 t ht
  unfold inR;simp only [Bool.and_eq_true,decide_eq_true_eq]
  exact this
theorem IP (c0 c1 c2:Bool):wA (.list (((if c0 then [PyData.str ⟨#[97]⟩] else [])++((if c1 then [PyData.str ⟨#[98]⟩] else [])++(if c2 then [PyData.str ⟨#[99]⟩] else [])))))=true:=by
 cases c0<;>cases c1<;>cases c2<;>decide +kernel
theorem zE (n:Nat) (c:D->Bool):∃ts:List Int,((cz 0 n).filter c).map (fun d=>d)=ts.map .int/\(∀t∈ts,0<=t/\t<(n:Int))/\ts.Pairwise (· < ·)/\ts.length<=n:=by
 refine ⟨((List.range n).map fun i=>(0:Int)+(i:Nat)).filter fun i=>c (.int i),?_,fun t ht=>?_,?_,?_⟩
 ·rw [List.map_id']
  unfold cz;rw [show (fun i:Nat=>PyData.int (0+(i:Int)))=(PyData.int∘fun i:Nat=>(0:Int)+(i:Nat)) from rfl,<-map_map,List.filter_map]
  rfl
 ·obtain ⟨h1,_⟩:=List.mem_filter.mp ht
  obtain ⟨i,hi,rfl⟩:=List.mem_map.mp h1;rw [mem_range] at hi;omega
 ·refine List.Pairwise.filter _ ?_
  rw [List.pairwise_map];exact List.pairwise_lt_range.imp fun h=>by omega
 ·refine Nat.le_trans (length_filter_le _ _) ?_
  simp
noncomputable abbrev W3:Sh:=.tup [.lst .leaf,.lst .leaf,.lst .leaf]
noncomputable abbrev bK (os ms ss:List D):D:=.tuple [.list os,.list ms,.list ss]
theorem fu {n:Nat} {g:FS} {ds:List D} {Γ:Ev} (h:g (aV n ds)=.nx Γ):aH n g ds=.ok ⟨.leaf,.none⟩:=by unfold aH;rw [h]
theorem d7 {Γ Γ1:Ev} {fa:F1} {p:PV} (h:fa Γ=.ok p Γ1):bg fa Γ=.nx Γ1:=by unfold bg g9;rw [h]
theorem qy {b:Nat} {os ms ss:List D} (h:Wk b os ms ss) (hb:b<=100) (hw:isW os ms ss=true):dE [bK os ms ss]=.ok ⟨.leaf,.none⟩:=by
 have t:dy (aR br (av 3 cL (ae (ak (af 0) (eK (.int 0))) (ae (ak (af 0) (eK (.int 1))) (ae (ak (af 0) (eK (.int 2))) ah))))) [KZ (bK os ms ss)]=.ok (!(isW os ms ss)) [KZ (bK os ms ss)]:=
  gh (dN (bY (ax (gJ (j:=0) (aw rfl) aM rfl rfl rfl) (ax (gJ (j:=1) (aw rfl) aM rfl rfl rfl) (ax (gJ (j:=2) (aw rfl) aM rfl rfl rfl) ai))) (fZ h hb) rfl rfl))
 rw [hw] at t;exact fu (aO t nofun (fun _=>rfl))
theorem tO {d:D} (h:shaped d=true):fN d d=some (.bool false):=by
 unfold fN;rw [h,Bool.and_self,if_pos rfl,PySem.SeqAt.eqv_refl _ (canLay_of_shaped h)];rfl
noncomputable def dl (S:List (List Int)):List D:=S.map fun ts=>.list (ts.map .int)
structure Sw (n:Nat) (S:List (List Int)):Prop where
 len:S.length=n
 row:∀ts∈S,ts.length<=30/\(∀t∈ts,0<=t/\t<(n:Int))/\ts.Pairwise (· < ·)
theorem Es {ts:List Int} {i:Int}:cW false (.int i) (.list (ts.map .int))=some (.bool (ts.contains i)):=by
 unfold cW;simp only [xC,GZ rowI_map,Bool.and_self,if_true]
 congr 2
 rw [Bool.eq_iff_iff];simp only [Bool.false_eq_true,if_false,any_eq_true,mem_map,contains_iff_mem]
 constructor
 ·rintro ⟨d,⟨t,ht,rfl⟩,e⟩
  rw [PyData.eqv] at e;have:t=i:=by simpa using e
  rw [<-this];exact ht
 ·intro h
  exact ⟨.int i,⟨i,h,rfl⟩,by rw [PyData.eqv];simp⟩
noncomputable def has (x:Str) (d:D):Bool:=match d with
 | .list xs=>xs.any fun y=>PyData.eqv y (.str x)
 | _=>false
theorem p9 {ts:List Int} {i:Int}:cW true (.int i) (.list (ts.map .int))=some (.bool (!ts.contains i)):=by
 have h:=Es (ts:=ts) (i:=i)
 unfold cW at h ⊢
 simp only [xC,GZ rowI_map,Bool.and_self,if_true,Bool.false_eq_true,if_false] at h ⊢
 have h:=Option.some.inj h
 injection h with h
 rw [h]
end KC
namespace T
open PySem PySem.Spec L2
open PyProof.Rows hiding St
section
variable {Γ Γ1:Ev} {fa fb fc:F1} {fl:FL} {p:PV} {i n:Nat} {ga gb:FB} {g1 g2:FS}
@[simp] theorem Ig:sizeLine=16777216:=rfl
@[simp] theorem xA {α β:Type} {a:α} {e:Ev} {k:α->Ev->Out β}:(Out.ok a e).bind k=k a e:=rfl
@[simp] theorem r_k {d:D}:eK d Γ=.ok ⟨.leaf,d⟩ Γ:=rfl
@[simp] theorem JO:ah Γ=.ok [] Γ:=rfl
@[simp] theorem HY:aL Γ=.ok true Γ:=rfl
@[simp] theorem Ib:aS Γ=.nx Γ:=rfl
@[simp] theorem Iy:ae fa fl Γ=(fa Γ).bind fun p Γ1=>(fl Γ1).bind fun ps Γ2=>.ok (p::ps) Γ2:=rfl
@[simp] theorem Kl {g:D->D->Option D}:aD g fa fb Γ=(fa Γ).bind fun p Γ1=>(fb Γ1).bind fun q Γ2=>match g p.d q.d with | some d=>.ok ⟨.leaf,d⟩ Γ2 | none=>.no:=rfl
@[simp] theorem Kn {g:List D->Option D}:bG g fl Γ=(fl Γ).bind fun ps Γ'=>match g (ps.map (·.d)) with | some d=>.ok ⟨.leaf,d⟩ Γ' | none=>.no:=rfl
@[simp] theorem JW {g:D->Option Bool}:aR g fa Γ=(fa Γ).bind fun p Γ'=>match g p.d with | some b=>.ok b Γ' | none=>.no:=rfl
@[simp] theorem IB:dy ga Γ=(ga Γ).bind fun c Γ'=>.ok (!c) Γ':=rfl
@[simp] theorem IC:gk ga gb Γ=(ga Γ).bind fun c Γ'=>if c then gb Γ' else .ok false Γ':=rfl
@[simp] theorem JV:mT ga gb Γ=(ga Γ).bind fun c Γ'=>if c then .ok true Γ' else gb Γ':=rfl
@[simp] theorem Dh:kU ga fa fb Γ=(ga Γ).bind fun b Γ'=>if b then fa Γ' else fb Γ':=rfl
@[simp] theorem Iv:cF fa fb Γ=(fa Γ).bind fun p Γ=>match p.d with | .bool true=>fb Γ | .bool false=>.ok ⟨.leaf,.bool false⟩ Γ | _=>.no:=rfl
@[simp] theorem Iu:Je fa Γ=(fa Γ).bind fun p Γ=>match p.d with | .bool b=>.ok ⟨.leaf,.bool (!b)⟩ Γ | _=>.no:=rfl
@[simp] theorem oB:ay g1 g2 Γ=match g1 Γ with | .nx Γ'=>g2 Γ' | .rt p=>.rt p | .bk Γ'=>.bk Γ' | .ct Γ'=>.ct Γ' | .er c Γ'=>.er c Γ' | .no=>.no:=by
 unfold ay
 cases g1 Γ<;>rfl
@[simp] theorem vV {k:PV->Ev->fK}:g9 fa k Γ=match fa Γ with | .ok p Γ1=>k p Γ1 | .er c Γ1=>.er c Γ1 | .no=>.no:=by
 unfold g9
 cases fa Γ<;>rfl
@[simp] theorem Km:b2 ga g1 g2 Γ=match ga Γ with | .ok b Γ1=>if b then g1 Γ1 else g2 Γ1 | .er c Γ1=>.er c Γ1 | .no=>.no:=by
 unfold b2
 cases ga Γ<;>rfl
@[simp] theorem FO {b:Bool}:aA (.bool b)=some b:=rfl
@[simp] theorem Io {b:Bool}:br (.bool b)=some b:=rfl
@[simp] theorem FM {xs:List D}:br (.list xs)=some (!xs.isEmpty):=rfl
noncomputable def FU (p:PV):PV:=match p.s with
 | .leaf=>p
 | _=>⟨.view,p.d⟩
@[simp] theorem JK {d:D}:FU ⟨.leaf,d⟩=⟨.leaf,d⟩:=rfl
@[simp] theorem JJ {s:Sh} {d:D}:FU ⟨.lst s,d⟩=⟨.view,d⟩:=rfl
@[simp] theorem JI {s:List Sh} {d:D}:FU ⟨.tup s,d⟩=⟨.view,d⟩:=rfl
@[simp] theorem JF:af i Γ=match Γ[i]? with | some (some p)=>.ok (FU p) Γ | _=>.no:=by
 unfold af
 cases h:Γ[i]? with
 | none=>rfl
 | some o=>
  cases o with
  | none=>rfl
  | some p=>
   obtain ⟨s,d⟩:=p
   cases s<;>rfl
@[simp] theorem Ic:cX i Γ=match Γ[i]? with | some (some p)=>.ok p (Γ.set i none) | _=>.no:=rfl
@[simp] theorem Iz {d:D}:coer .leaf ⟨.leaf,d⟩=true:=rfl
@[simp] theorem FQ {s:Sh} {d:D}:coer .leaf ⟨.lst s,d⟩=true:=rfl
@[simp] theorem FP {s:List Sh} {d:D}:coer .leaf ⟨.tup s,d⟩=true:=rfl
@[simp] theorem FR {i:Int} {s:Sh}:coer .leaf ⟨s,.int i⟩=true:=by cases s<;>rfl
@[simp] theorem FT {b:Bool} {s:Sh}:coer .leaf ⟨s,.bool b⟩=true:=by cases s<;>rfl
@[simp] theorem Ik:Sh.isView .leaf=false:=rfl
@[simp] theorem Ij {s:Sh}:Sh.isView (.lst s)=false:=rfl
@[simp] theorem Ii {s:List Sh}:Sh.isView (.tup s)=false:=rfl
@[simp] theorem Dg {own:Bool}:aC own i fa Γ=match fa Γ with | .ok p Γ1=>(if i<Γ1.length then (if own&&!p.s.isView then .nx (Γ1.set i (some p)) else if T.coer .leaf p then .nx (Γ1.set i (some ⟨.leaf,p.d⟩)) else .no) else .no) | .er c Γ1=>.er c Γ1 | .no=>.no:=by
 unfold aC;rw [vV]
@[simp] theorem lM:ba fa Γ=match fa Γ with | .ok p Γ1=>(if p.s.isView then (if bw p.d then .rt ⟨.leaf,p.d⟩ else .no) else .rt p) | .er c Γ1=>.er c Γ1 | .no=>.no:=by
 unfold ba;rw [vV]
@[simp] theorem Iw:bg fa Γ=match fa Γ with | .ok p Γ1=>.nx Γ1 | .er c Γ1=>.er c Γ1 | .no=>.no:=by
 unfold bg;rw [vV]
@[simp] theorem IA {den:List D->Res}:av n den fl Γ=(fl Γ).bind fun ps Γ'=>if ps.length=n then (match den (ps.map (·.d)) with | .ok p=>if ps.all (T.coer .leaf) then .ok p Γ' else if bw p.d then .ok ⟨.leaf,p.d⟩ Γ' else .ok ⟨.view,p.d⟩ Γ' | _=>.no) else .no:=rfl
@[simp] theorem Ir {a b:Int}:aN (.int a) (.int b)=some (.int (a+b)):=rfl
@[simp] theorem Ip {a b:Int}:gSub (.int a) (.int b)=some (.int (a-b)):=rfl
@[simp] theorem JT {a b:Int}:eN (.int a) (.int b)=some (.bool (decide (a<b))):=rfl
@[simp] theorem JU {a b:Int}:nG (.int a) (.int b)=some (.bool (decide (b<a))):=rfl
@[simp] theorem Iq {ds:List D}:bt [.list ds]=some (.int ds.length):=rfl
@[simp] theorem FN {ds:List D}:bt [.tuple ds]=some (.int ds.length):=rfl
noncomputable def mn (p q:PV):Ev->Out PV:=ak (fun Γ=>.ok p Γ) (fun Γ=>.ok q Γ)
@[simp] theorem lN:ak fa fb Γ=(fa Γ).bind fun p Γ1=>(fb Γ1).bind fun q Γ2=>mn p q Γ2:=by
 unfold mn ak aU
 cases fa Γ with
 | ok p Γ1=>simp only [xA]
 | er c Γ1=>rfl
 | no=>rfl
@[simp] theorem sN {ds:List D} {k:Int} {s:Sh}:mn ⟨.leaf,.tuple ds⟩ ⟨s,.int k⟩ Γ=match eY ds k with | some d=>.ok ⟨.leaf,d⟩ Γ | none=>.no:=by
 unfold mn ak aU eY;simp only [xA]
 cases h:eV ds.length k with
 | none=>rfl
 | some j=>
  simp only [Option.bind_some]
  cases h2:ds[j]? with
  | none=>rfl
  | some d=>rfl
@[simp] theorem yb {ds:List D} {k:Int} {s:Sh}:mn ⟨.leaf,.list ds⟩ ⟨s,.int k⟩ Γ=match eY ds k with | some d=>.ok ⟨.leaf,d⟩ Γ | none=>.no:=by
 unfold mn ak aU eY;simp only [xA]
 cases h:eV ds.length k with
 | none=>rfl
 | some j=>
  simp only [Option.bind_some]
  cases h2:ds[j]? with
  | none=>rfl
  | some d=>rfl
@[simp] theorem JS {ds:List D} {k:Int} {s:Sh}:mn ⟨.view,.list ds⟩ ⟨s,.int k⟩ Γ=match eY ds k with | some d=>.ok ⟨if bw d then .leaf else .view,d⟩ Γ | none=>.no:=by
 unfold mn ak aU eY;simp only [xA]
 cases h:eV ds.length k with
 | none=>rfl
 | some j=>
  simp only [Option.bind_some]
  cases h2:ds[j]? with
  | none=>rfl
  | some d=>rfl
@[simp] theorem yc {α:Type} {a:α} {r:List α}:eY (a::r) 0=some a:=by
 simp [eY,eV]
@[simp] theorem JY {α:Type} {a b:α} {r:List α}:eY (a::b::r) 1=some b:=by
 have:(1:Int)<(r.length:Int)+1+1:=by omega
 simp [eY,eV,this]
@[simp] theorem Di {α:Type} {a b c:α} {r:List α}:eY (a::b::c::r) 2=some c:=by
 have:(2:Int)<(r.length:Int)+1+1+1:=by omega
 simp [eY,eV,this]
theorem yI {α:Type} {xs:List α} {k:Nat} {x:α} (h:xs[k]?=some x):eY xs (k:Int)=some x:=by
 have hk:=(KP h).1
 have:(k:Int)<(xs.length:Int):=by omega
 simp [eY,eV,this,h]
end
section
variable {Γ:Ev} {fa fb:F1} {i:Nat}
@[simp] theorem JP {c:String}:Jf c fa Γ=(fa Γ).bind fun p Γ=>.ok ⟨.leaf,.bool (DD (Jz p.d) c)⟩ Γ:=rfl
@[simp] theorem Ie {s:Sh} {fl:FL}:az s fl Γ=(fl Γ).bind fun ps Γ'=>if !s.isView&&ps.all (T.coer s)&&decide (ps.length<=sizeLine) then .ok ⟨.lst s,.list (ps.map (·.d))⟩ Γ' else .no:=rfl
@[simp] theorem JG {fl:FL}:cb fl Γ=(fl Γ).bind fun ps Γ'=>if ps.all tok&&decide (ps.length<=sizeLine) then .ok ⟨.tup (ps.map zk),.tuple (ps.map (·.d))⟩ Γ' else .no:=rfl
@[simp] theorem Ia {d:D}:tok ⟨.leaf,d⟩=true:=rfl
@[simp] theorem H0 {s:Sh} {d:D}:tok ⟨.lst s,d⟩=true:=rfl
@[simp] theorem HZ {s:List Sh} {d:D}:tok ⟨.tup s,d⟩=true:=rfl
@[simp] theorem JQ {a:D}:bI false a .none=some (.bool (rz a)):=rfl
@[simp] theorem Ih {a:D}:bI true a .none=some (.bool (!rz a)):=rfl
@[simp] theorem JH:Jd fa fb Γ=(fa Γ).bind fun p Γ1=>(fb Γ1).bind fun q Γ2=>match p.d,q.d with | .tuple xs,.int k=>if !p.s.isView&&decide (1<=k)&&decide (k<=xs.length) then .ok ⟨.leaf,.tuple (xs.drop k.toNat)⟩ Γ2 else .no | _,_=>.no:=rfl
@[simp] theorem JR {neg:Bool} {tab:List (Str×Int)}:Jg neg tab fa Γ=(fa Γ).bind fun p Γ=>match p.d with | .str k=>.ok ⟨.leaf,.bool (if neg then !(gG k tab).isSome else (gG k tab).isSome)⟩ Γ | _=>.no:=rfl
@[simp] theorem Im {tab:List (Str×Int)}:DP tab fa Γ=(fa Γ).bind fun p Γ=>match p.d with | .str k=>(match gG k tab with | some i=>.ok ⟨.leaf,.int i⟩ Γ | none=>.no) | _=>.no:=rfl
@[simp] theorem zV:iI fa Γ=(fa Γ).bind fun p Γ'=>match p.d with | .tuple ds=>if dH p ds then .ok ⟨ds,!p.s.isView⟩ Γ' else .no | _=>.no:=rfl
@[simp] theorem Il:aZ fa Γ=(fa Γ).bind fun p Γ'=>match p.d with | .list ds=>if dH p ds then .ok ⟨ds,!p.s.isView⟩ Γ' else .no | _=>.no:=rfl
@[simp] theorem JN {d:D} {ds:List D}:dH ⟨.leaf,d⟩ ds=true:=rfl
@[simp] theorem JM {s:Sh} {d:D} {ds:List D}:dH ⟨.lst s,d⟩ ds=true:=rfl
@[simp] theorem JL {s:List Sh} {d:D} {ds:List D}:dH ⟨.tup s,d⟩ ds=true:=rfl
@[simp] theorem JX {f:F1}:fT i f Γ=match Γ[i]? with | some (some ⟨.leaf,.int a⟩)=>g9 f (uL i a) Γ | _=>.no:=rfl
@[simp] theorem ID {a b:Int} {s:Sh}:uL i a ⟨s,.int b⟩ Γ=if i<Γ.length then .nx (Γ.set i (KZ (.int (a+b)))) else .no:=rfl
theorem Fp {β:Type} {c:FB} {g:FS} {G:β->Ev} {test:β->Bool} {Inv:β->Prop} {meas:β->Nat} (hc:∀b,Inv b->c (G b)=.ok (test b) (G b)) (hg:∀b,Inv b->test b=true->∃b',g (G b)=.nx (G b')/\Inv b'/\meas b'<meas b) :
  ∀(N:Nat) (b:β),Inv b->meas b<N->∃b',rA c g N (G b)=.nx (G b')/\Inv b'/\test b'=false
 | 0,b,_,h=>by omega
 | N+1,b,hi,hm=>by
  rw [rA,hc b hi]
  cases ht:test b with
  | false=>exact ⟨b,rfl,hi,ht⟩
  | true=>
   obtain ⟨b1,h1,h2,h3⟩:=hg b hi ht;obtain ⟨b',e,q⟩:=Fp hc hg N b1 h2 (by omega)
   refine ⟨b',?_,q⟩
   simp only [h1]
   exact e
theorem Bz {fa:F1} {p:PV} {ds:List D} (ho:Γ[i]?=some (some ⟨.lst .leaf,.list ds⟩)) (h:fa Γ=.ok p Γ) (hc:coer .leaf p=true) (hn:ds.length<=9000):fO i fa Γ=.nx (Γ.set i (some ⟨.lst .leaf,.list (ds++[p.d])⟩)):=by
 have hb:(10000:Nat)<=sizeLine:=by decide
 unfold fO BI;rw [ho];simp only [if_true,vV,h]
 unfold xp;rw [ho];have:ds.length<sizeLine:=by omega
 simp only [hc,decide_eq_true this,Bool.and_self,if_true]
end
theorem G8 {α:Type} {en:α->D} {i:Nat} {fc:FB} {fe:F1} {s:Sh} {c:α->Bool} {f:α->PV} {Γ:Ev} (hΓ:Γ.set i none=Γ):∀(r:List α) (acc:List D),(∀x∈r,fc (Γ.set i (KZ (en x)))=.ok (c x) (Γ.set i (KZ (en x)))) ->
  (∀x∈r,c x=true->fe (Γ.set i (KZ (en x)))=.ok (f x) (Γ.set i (KZ (en x)))/\coer s (f x)=true)->acc.length+r.length<=sizeLine->pf i fc fe s (r.map en) Γ acc=.ok (acc++((r.filter c).map fun x=>(f x).d)) Γ
 | [],acc,_,_,_=>by simp [pf]
 | x::r,acc,hc,he,hl=>by
  have h1:=hc x mem_cons_self
  have hl1:acc.length<sizeLine:=by simp only [length_cons] at hl;omega
  have back:(Γ.set i (KZ (en x))).set i none=Γ:=by rw [set_set];exact hΓ
  rw [map_cons,pf,h1]
  cases hcd:c x with
  | false=>
   dsimp only;rw [if_pos hl1,back,G8 hΓ r acc (fun d hd=>hc d (KN _ hd)) (fun d hd=>he d (KN _ hd)) (by simp only [length_cons] at hl;omega)]
   rw [List.filter_cons_of_neg (by rw [hcd];exact Bool.false_ne_true)]
  | true=>
   obtain ⟨h2,h3⟩:=he x mem_cons_self hcd;dsimp only;rw [h2];dsimp only;rw [h3,decide_eq_true hl1,Bool.and_self,if_pos rfl,back,G8 hΓ r (acc++[(f x).d]) (fun d hd=>hc d (KN _ hd)) (fun d hd=>he d (KN _ hd)) (by simp only [length_cons,length_append,List.length_nil] at hl ⊢;omega)]
   rw [List.filter_cons_of_pos hcd,map_cons,append_assoc];rfl
theorem rD {α:Type} (en:α->D) (xs:List α) (c:α->Bool) (f:α->PV) {s:Sh} {i:Nat} {fi:FI} {fc:FB} {fe:F1} {st:Bool} {Γ:Ev} (hi:fi Γ=.ok ⟨xs.map en,st⟩ Γ) (hl:i<Γ.length) (hs:s.isView=false) (hn:xs.length<=10000)
  (hc:∀x∈xs,fc (Γ.set i (KZ (en x)))=.ok (c x) (Γ.set i (KZ (en x)))) (he:∀x∈xs,c x=true->fe (Γ.set i (KZ (en x)))=.ok (f x) (Γ.set i (KZ (en x)))/\coer s (f x)=true) :
  aE s i fi fc fe Γ=.ok ⟨.lst s,.list ((xs.filter c).map fun x=>(f x).d)⟩ Γ:=by
 have hb:(10000:Nat)<=sizeLine:=by decide
 unfold aE;rw [hi];unfold Out.bind;dsimp only;rw [G8 (c:=c) (f:=f) (by rw [set_set]) xs [] (fun d hd=>by rw [set_set];exact hc d hd) (fun d hd=>by rw [set_set];exact he d hd) (by simp;omega)]
 dsimp only;rw [hs,decide_eq_true hl];simp only [Bool.not_false,Bool.and_self,if_true,nil_append,set_set]
 have:Γ.set i (Γ.getD i none)=Γ:=by
  apply va
  rw [KM,KL hl];rfl
 rw [this]
theorem m8 {α:Type} (en:α->D) (xs:List α) (f:α->PV) {s:Sh} {i:Nat} {fi:FI} {fe:F1} {st:Bool} {Γ:Ev} (hi:fi Γ=.ok ⟨xs.map en,st⟩ Γ) (hl:i<Γ.length) (hs:s.isView=false) (hn:xs.length<=10000)
  (he:∀x∈xs,fe (Γ.set i (KZ (en x)))=.ok (f x) (Γ.set i (KZ (en x)))/\coer s (f x)=true):aE s i fi aL fe Γ=.ok ⟨.lst s,.list (xs.map fun x=>(f x).d)⟩ Γ:=by
 rw [rD (fc:=aL) en xs (fun _=>true) f hi hl hs hn (fun _ _=>rfl) fun x hx _=>he x hx,List.filter_eq_self.mpr fun _ _=>rfl]
theorem Fd {α β:Type} (en:α->D) (step:β->α->β) {Inv:β->List α->Prop} {i:Nat} {body:FS} {G:β->Option PV->Ev} (hi:∀b x,i<(G b x).length) (hset:∀b x y,(G b x).set i y=G b y)
  (hb:∀b a r,Inv b (a::r)->body (G b (KZ (en a)))=.nx (G (step b a) (KZ (en a)))/\Inv (step b a) r):∀(xs:List α) (b:β) (x:Option PV),Inv b xs->∃y,dw i body (xs.map en) (G b x)=.nx (G (xs.foldl step b) y)/\Inv (xs.foldl step b) []
 | [],b,x,h=>⟨x,rfl,h⟩
 | a::r,b,x,h=>by
  obtain ⟨h1,h2⟩:=hb b a r h;obtain ⟨y,e,h3⟩:=Fd en step hi hset hb r (step b a) (KZ (en a)) h2
  refine ⟨y,?_,h3⟩
  rw [map_cons,dw,if_pos (hi b x),hset,h1];exact e
end T
namespace KC
open PySem PySem.Spec L2 T PySem.SeqAt
open PyProof.Rows hiding St
noncomputable abbrev rm (t:Nat):D:=.int (t:Int)
noncomputable abbrev aI (r:List Nat):D:=.list (r.map rm)
theorem ER {n:Nat}:cz 0 n=(List.range n).map rm:=by
 unfold cz;simp
theorem Cn {t:Nat} {r:List Nat}:cW false (rm t) (aI r)=some (.bool (r.contains t)):=by
 have h:=Es (ts:=r.map fun t:Nat=>(t:Int)) (i:=t)
 rw [map_map] at h;refine h.trans ?_
 congr 2
 rw [Bool.eq_iff_iff,contains_iff_mem,contains_iff_mem,mem_map];exact ⟨fun ⟨a,h1,h2⟩=>by rw [<-Int.ofNat_inj.mp h2];exact h1,fun h=>⟨t,h,rfl⟩⟩
theorem jT {t:Nat} {r:List Nat}:cW true (rm t) (aI r)=some (.bool (!r.contains t)):=by
 have h:=p9 (ts:=r.map fun t:Nat=>(t:Int)) (i:=t)
 rw [map_map] at h;refine h.trans ?_
 congr 3
 rw [Bool.eq_iff_iff,contains_iff_mem,contains_iff_mem,mem_map];exact ⟨fun ⟨a,h1,h2⟩=>by rw [<-Int.ofNat_inj.mp h2];exact h1,fun h=>⟨t,h,rfl⟩⟩
structure Wd where
 n:Nat
 os:List D
 m:List (List Str)
 s:List (List Nat)
noncomputable def xW (r:List Str):D:=.list (r.map .str)
noncomputable def Wd.enc (w:Wd):D:=bK w.os (w.m.map xW) (w.s.map aI)
structure Wd.Ok (w:Wd):Prop where
 g:Gw (w.n:Int) w.n w.os (w.m.map xW) (w.s.map aI)
 h1:1<=w.n
 h24:w.n<=24
 lm:w.m.length=w.n
 ls:w.s.length=w.n
 st:∀r∈w.s,r≠[]/\r.length<=30/\∀t∈r,t<w.n
 mc:∀r∈w.m,∀c∈r,PyData.strOk c=true
noncomputable def Wd.stp (w:Wd) (r:Nat):List Nat:=w.s.getD r []
noncomputable def Wd.mks (w:Wd) (r:Nat):List Str:=w.m.getD r []
theorem Wd.Ok.at2 {w:Wd} (h:w.Ok) {r:Nat} (hr:r<w.n):eY (w.s.map aI) (r:Int)=some (aI (w.stp r)):=by
 refine yI ?_
 unfold Wd.stp;rw [getElem?_map,KM,KL (by rw [h.ls];exact hr)]
 rfl
theorem Wd.Ok.stp_lt {w:Wd} (h:w.Ok) {r t:Nat} (ht:t∈w.stp r):t<w.n:=by
 unfold Wd.stp at ht;rw [KM] at ht
 cases e:w.s[r]? with
 | none=>rw [e] at ht;simp at ht
 | some x=>rw [e] at ht;exact (h.st x (mem_of_getElem? e)).2.2 t ht
theorem Wd.Ok.stp_ne {w:Wd} (h:w.Ok) {r:Nat} (hr:r<w.n):w.stp r≠[]:=by
 unfold Wd.stp;rw [KM,KL (by rw [h.ls];exact hr)]
 exact (h.st _ (getElem_mem _)).1
theorem d3 {w:Wd} (h:w.Ok) {r:List Nat}:bN [w.enc,aI r]=.ok ⟨.lst .leaf,aI ((List.range w.n).filter fun t=>!r.contains t)⟩:=by
 have lo:=h.g.lo
 have h24:=h.h24
 refine aT ?_
 have e:aE .leaf 2 (fM (ae (bG bt (ae (ak (af 0) (eK (.int 0))) ah)) ah)) (aR aA (aD (cW true) (af 2) (af 1))) (af 2) (aV 3 [w.enc,aI r])=.ok ⟨.lst .leaf,.list (((List.range w.n).filter fun t=>!r.contains t).map fun t=>rm t)⟩ (aV 3 [w.enc,aI r]):=by
  refine rD rm (List.range w.n) (fun t=>!r.contains t) (fun t=>⟨.leaf,rm t⟩) (st:=true) ?_ (by simp [aV]) rfl (by simp;omega) ?_ ?_
  ·refine (pv (k:=(w.n:Int)) (ps:=[⟨.leaf,.int w.n⟩]) ?_ rfl (by omega) (by omega)).trans (by rw [<-ER];rfl)
   simp [aV,Wd.enc,lo]
  ·intro t ht
   simp [aV,jT]
  ·intro t ht _
   simp [aV]
 unfold fD;rw [lM,e];rfl
inductive Wr where
 | yes | mark | not | sn | an | sa | aa | and | or | su | au
 deriving DecidableEq
noncomputable def Wr.t:Wr->Str
 | .yes => "yes" | .mark => "mark" | .not => "not" | .sn => "some next" | .an => "all next" | .sa => "some always" | .aa => "all always" | .and => "and" | .or => "or" | .su => "some until" | .au => "all until"
theorem my (a b:Wr):bT (.str a.t) (.str b.t)=some (.bool (decide (a=b))):=by cases a<;>cases b<;>kernel_rfl
@[simp] theorem Ja (a:Wr):bT (.str a.t) (.str "yes")=some (.bool (decide (a=.yes))):=my a .yes
@[simp] theorem Ga (a:Wr):bT (.str a.t) (.str "mark")=some (.bool (decide (a=.mark))):=my a .mark
@[simp] theorem Jb (a:Wr):bT (.str a.t) (.str "not")=some (.bool (decide (a=.not))):=my a .not
@[simp] theorem Jc (a:Wr):bT (.str a.t) (.str "and")=some (.bool (decide (a=.and))):=my a .and
@[simp] theorem J4 (a:Wr):bT (.str a.t) (.str "or")=some (.bool (decide (a=.or))):=my a .or
@[simp] theorem IR (a:Wr):cW false (.str a.t) ma=some (.bool (decide (a=.su\/a=.au))):=by cases a<;>kernel_rfl
@[simp] theorem F5 (a:Wr):cW true (.str a.t) ma=some (.bool (!decide (a=.su\/a=.au))):=by cases a<;>kernel_rfl
@[simp] theorem IV (a:Wr):cW false (.str a.t) me=some (.bool (decide (a=.sa\/a=.aa))):=by cases a<;>kernel_rfl
@[simp] theorem F8 (a:Wr):cW true (.str a.t) me=some (.bool (!decide (a=.sa\/a=.aa))):=by cases a<;>kernel_rfl
noncomputable def Wr.some (a:Wr):Bool:=decide (a=.sn\/a=.su\/a=.aa)
@[simp] theorem IT (a:Wr):cW false (.str a.t) iE=.some (.bool a.some):=by cases a<;>kernel_rfl
noncomputable def Wr.ar:Wr->Option Int
 | .yes=>Option.some 0 | .mark=>none | .and=>Option.some 2 | .or=>Option.some 2 | .su=>Option.some 2 | .au=>Option.some 2 | _=>Option.some 1
@[simp] theorem F9 (a:Wr):gG a.t vn=a.ar:=by cases a<;>kernel_rfl
inductive U5 where
 | not | sn | an | sa | aa
 deriving DecidableEq
inductive B4 where
 | and | or | su | au
 deriving DecidableEq
noncomputable def U5.w:U5->Wr
 | .not=>.not | .sn=>.sn | .an=>.an | .sa=>.sa | .aa=>.aa
noncomputable def B4.w:B4->Wr
 | .and=>.and | .or=>.or | .su=>.su | .au=>.au
inductive Sn where
 | yes | mk (c:Str) | un (k:U5) (a:Sn) | bi (k:B4) (a b:Sn)
 deriving DecidableEq
noncomputable def Sn.w:Sn->Wr
 | .yes=>.yes | .mk _=>.mark | .un k _=>k.w | .bi k _ _=>k.w
noncomputable def Sn.args:Sn->List Sn
 | .yes=>[] | .mk _=>[] | .un _ a=>[a] | .bi _ a b=>[a,b]
noncomputable def Sn.enc:Sn->D
 | .yes=>.tuple [.str Wr.yes.t] | .mk c=>.tuple [.str Wr.mark.t,.str c] | .un k a=>.tuple [.str k.w.t,a.enc] | .bi k a b=>.tuple [.str k.w.t,a.enc,b.enc]
noncomputable def Sn.size:Sn->Nat
 | .yes=>1 | .mk _=>1 | .un _ a=>a.size+1 | .bi _ a b=>a.size+b.size+1
noncomputable def Sn.dep:Sn->Nat
 | .yes=>1 | .mk _=>1 | .un _ a=>a.dep+1 | .bi _ a b=>max a.dep b.dep+1
noncomputable def wB:List Str:=["a", "b", "c", "d", "e", "f"]
noncomputable def Sn.ok:Sn->Prop
 | .yes=>True | .mk c=>c∈wB | .un _ a=>a.ok | .bi _ a b=>a.ok/\b.ok
noncomputable def Sn.psh:Sn->Sh
 | .mk _=>.tup [] | _=>.leaf
@[simp] theorem JZ (s:Sn):s.psh.isView=false:=by cases s<;>rfl
noncomputable def Ki (l:List Sn):Nat:=(l.map Sn.size).sum
noncomputable def Jh (l:List Sn):Nat:=l.foldr (fun s m=>max s.dep m) 0
structure LS where
 ls:List (List Sn)
 l:List Sn
 many:Nat
structure LI (s:Sn) (b:LS):Prop where
 tot:(b.ls.map List.length).sum+Ki b.l=s.size
 mny:b.many=(b.ls.map List.length).sum
 dep:b.ls.length+Jh b.l=s.dep
 ok:∀a∈b.l,a.ok
end KC
namespace KC
noncomputable def aQ (rk:List (Option Nat)) (t:Nat):Option Nat:=rk.getD t none
noncomputable def led (any:Bool) (l:List Nat) (P:Nat->Prop):Prop:=if any then ∃t∈l,P t else ∀t∈l,P t
theorem led_t {l:List Nat} {P:Nat->Prop}:led true l P↔∃t∈l,P t:=by unfold led;simp
theorem led_f {l:List Nat} {P:Nat->Prop}:led false l P↔∀t∈l,P t:=by unfold led;simp
theorem uW {any:Bool} {l:List Nat} {P Q:Nat->Prop} (h:led any l P) (i:∀t∈l,P t->Q t):led any l Q:=by
 cases any with
 | true=>obtain ⟨t,ht,hp⟩:=led_t.mp h;exact led_t.mpr ⟨t,ht,i t ht hp⟩
 | false=>exact led_f.mpr fun t ht=>i t ht (led_f.mp h t ht)
structure RightG (n:Nat) (st:Nat->List Nat) (ch:Nat->Bool) (thr goal:List Nat) (rk:List (Option Nat)):Prop where
 len:rk.length=n
 g:∀r,r<n->r∈goal->aQ rk r=some 0
 p:∀r k,r<n->r∉goal->aQ rk r=some k->0<k/\r∈thr/\led (ch r) (st r) fun t=>∃j,aQ rk t=some j/\j<k
 z:∀r,r<n->aQ rk r=none->r∉goal/\(r∉thr\/¬led (ch r) (st r) fun t=>aQ rk t≠none)
section
variable {n:Nat} {st:Nat->List Nat} {ch own:Nat->Bool} {thr goal:List Nat} {rk:List (Option Nat)}
theorem RightG.min (h:RightG n st ch thr goal rk) {S:Nat->Prop} (cl:∀r t,t∈st r->t<n) (hg:∀r,r<n->r∈goal->S r) (hs:∀r,r<n->r∈thr->led (ch r) (st r) S->S r) {r:Nat} (hr:r<n) (hk:aQ rk r≠none):S r:=by
 have key:∀k r,r<n->aQ rk r=some k->S r:=by
  intro k;induction k using Nat.strongRecOn with
  | ind k ih=>
   intro r hr hk;by_cases hgo:r∈goal
   ·exact hg r hr hgo
   ·obtain ⟨_,h2,h3⟩:=h.p r k hr hgo hk
    exact hs r hr h2 (uW h3 fun t ht ⟨j,hj,hlt⟩=>ih j hlt t (cl r t ht) hj)
 obtain ⟨k,hk⟩:=Option.ne_none_iff_exists'.mp hk
 exact key k r hr hk
theorem RightG.goal_ok (h:RightG n st ch thr goal rk) {r:Nat} (hr:r<n) (hg:r∈goal):aQ rk r≠none:=by rw [h.g r hr hg];simp
theorem RightG.step_ok (h:RightG n st ch thr goal rk) {r:Nat} (hr:r<n) (ht:r∈thr) (hl:led (ch r) (st r) fun t=>aQ rk t≠none):aQ rk r≠none:=fun z=>by
 rcases (h.z r hr z).2 with q | q
 ·exact q ht
 ·exact q hl
theorem RightG.no (h:RightG n st ch thr goal rk) {r:Nat} (hr:r<n) (ht:r∈thr) (hz:aQ rk r=none):led (!ch r) (st r) fun t=>aQ rk t=none:=by
 rcases (h.z r hr hz).2 with q | q
 ·exact absurd ht q
 ·cases hc:ch r with
  | true=>
   rw [hc,led_t] at q;refine led_f.mpr fun t ht=>?_
   cases e:aQ rk t with
   | none=>rfl
   | some k=>exact absurd ⟨t,ht,by rw [e];simp⟩ q
  | false=>
   rw [hc,led_f] at q;refine led_t.mpr ?_
   exact Classical.byContradiction fun c=>q fun t ht e=>c ⟨t,ht,e⟩
end
noncomputable def inn (st:Nat->List Nat) (L:List Nat) (r:Nat):List Nat:=(st r).filter fun t=>L.contains t
theorem mem_inn {st:Nat->List Nat} {L:List Nat} {r t:Nat}:t∈inn st L r↔t∈st r/\t∈L:=by unfold inn;simp
structure Suff (n:Nat) (st:Nat->List Nat) (own:Nat->Bool) (T X:Nat->Prop):Prop where
 lt:∀r,X r->r<n
 c:∀r,X r->led (own r) (st r) X
 a:∀S:Nat->Prop,(∀r,X r->T r->S r)->(∀r,X r->led (own r) (st r) (fun t=>X t/\S t)->S r)->∀r,X r->S r
section
variable {n:Nat} {st:Nat->List Nat} {own:Nat->Bool} {T T' X:Nat->Prop} {L G lost:List Nat} {rk rk2:List (Option Nat)}
theorem Suff.ranked (h:Suff n st own T X) (hX:∀r,X r->r∈L) (hG:∀r,r∈L->T r->r∈G) (R:RightG n (inn st L) own L G rk) {r:Nat} (hr:X r):aQ rk r≠none:=by
 refine h.a (fun r=>aQ rk r≠none) (fun r hx ht=>R.goal_ok (h.lt r hx) (hG r (hX r hx) ht)) (fun r hx hl=>?_) r hr
 refine R.step_ok (h.lt r hx) (hX r hx) ?_
 cases ho:own r with
 | true=>
  rw [ho] at hl;obtain ⟨t,ht,hxt,hk⟩:=led_t.mp hl;exact led_t.mpr ⟨t,mem_inn.mpr ⟨ht,hX t hxt⟩,hk⟩
 | false=>
  rw [ho] at hl;exact led_f.mpr fun t ht=>(led_f.mp hl t (mem_inn.mp ht).1).2
theorem Suff.stays (h:Suff n st own T X) (cl:∀r t,t∈st r->t<n) (hX:∀r,X r->r∈L) (hl:∀r,X r->r∉lost) (R:RightG n (inn st L) (fun r=>!own r) L lost rk2) {r:Nat} (hr:X r):aQ rk2 r=none:=by
 cases e:aQ rk2 r with
 | none=>rfl
 | some k=>
  exfalso
  refine R.min (S:=fun r=>¬X r) (fun r t ht=>cl r t (mem_inn.mp ht).1) (fun r _ hg hx=>hl r hx hg) (fun r hr' ht hl' hx=>?_) (h.lt r hr) (by rw [e];simp) hr
  have hc:=h.c r hx
  cases ho:own r with
  | true=>
   rw [ho] at hl' hc
   obtain ⟨t,ht,hxt⟩:=led_t.mp hc;exact led_f.mp hl' t (mem_inn.mpr ⟨ht,hX t hxt⟩) hxt
  | false=>
   rw [ho] at hl' hc
   obtain ⟨t,ht,hxt⟩:=led_t.mp hl'
   exact hxt (led_f.mp hc t (mem_inn.mp ht).1)
theorem vv (cl:∀r t,t∈st r->t<n) (hL:∀r∈L,r<n) (hc:∀r∈L,led (own r) (st r) (·∈L)) (hG:∀r,r∈G↔r∈L/\T r) (R:RightG n (inn st L) own L G rk) (hr:∀r∈L,aQ rk r≠none):Suff n st own T (·∈L):=by
 refine ⟨hL,hc,fun S h1 h2 r hx=>?_⟩
 refine R.min (S:=S) (fun r t ht=>cl r t (mem_inn.mp ht).1) (fun r _ hg=>h1 r ((hG r).mp hg).1 ((hG r).mp hg).2) (fun r hr' ht hl=>h2 r ht ?_) (hL r hx) (hr r hx)
 have hc:=hc r ht
 cases ho:own r with
 | true=>
  rw [ho] at hl;obtain ⟨t,ht,hs⟩:=led_t.mp hl;exact led_t.mpr ⟨t,(mem_inn.mp ht).1,(mem_inn.mp ht).2,hs⟩
 | false=>
  rw [ho] at hl hc
  exact led_f.mpr fun t ht=>⟨led_f.mp hc t ht,led_f.mp hl t (mem_inn.mpr ⟨ht,led_f.mp hc t ht⟩)⟩
theorem tR (hL:∀r∈L,r<n) (hc:∀r∈L,led (own r) (st r) (·∈L)) (R:RightG n (inn st L) (fun r=>!own r) L lost rk2) {r:Nat} (hr:r∈L) (hz:aQ rk2 r=none):led (own r) (st r) fun t=>t∈L/\aQ rk2 t=none:=by
 have h:=R.no (hL r hr) hr hz
 have hc:=hc r hr
 cases ho:own r with
 | true=>
  simp only [ho,Bool.not_true,Bool.not_false] at h
  obtain ⟨t,ht,e⟩:=led_t.mp h;exact led_t.mpr ⟨t,(mem_inn.mp ht).1,(mem_inn.mp ht).2,e⟩
 | false=>
  simp only [ho,Bool.not_true,Bool.not_false] at h
  rw [ho] at hc;exact led_f.mpr fun t ht=>⟨led_f.mp hc t ht,led_f.mp h t (mem_inn.mpr ⟨ht,led_f.mp hc t ht⟩)⟩
end
structure Fr {α:Type} (n:Nat) (st:Nat->List Nat) (R:Nat->Prop) (M:List α) (mk:α->Nat->Prop) (X:Nat->Prop):Prop where
 lt:∀r,X r->r<n
 sub:∀r,X r->R r
 c:∀r,X r->∃t∈st r,X t
 a:∀m∈M,∀S:Nat->Prop,(∀r,X r->mk m r->S r)->(∀r,X r->(∃t∈st r,X t/\S t)->S r)->∀r,X r->S r
noncomputable def Std (n:Nat) (L:List Nat):Prop:=∃q:Nat->Bool,L=(List.range n).filter q
theorem Std.lt {n:Nat} {L:List Nat} (h:Std n L):∀r∈L,r<n:=by
 obtain ⟨q,rfl⟩:=h;intro r hr;exact List.mem_range.mp (List.mem_filter.mp hr).1
theorem Std.len {n:Nat} {L:List Nat} (h:Std n L):L.length<=n:=by
 obtain ⟨q,rfl⟩:=h;exact Nat.le_trans (length_filter_le _ _) (by simp)
theorem Std.filter {n:Nat} {L:List Nat} (h:Std n L) (p:Nat->Bool):Std n (L.filter p):=by
 obtain ⟨q,rfl⟩:=h;exact ⟨fun t=>p t&&q t,List.filter_filter ..⟩
theorem Std.range {n:Nat}:Std n (List.range n):=⟨fun _=>true,(List.filter_eq_self.mpr fun _ _=>rfl).symm⟩
theorem Std.of {n:Nat} (q:Nat->Bool):Std n ((List.range n).filter q):=⟨q,rfl⟩
open PySem PySem.Spec L2 T PySem.SeqAt
open PyProof.Rows hiding St
noncomputable def oD:Option Nat->D
 | none=>.none
 | some k=>.int (k:Int)
@[simp] theorem FZ (o:Option Nat):rz (oD o)=o.isNone:=by cases o<;>rfl
@[simp] theorem FX (o:Option Nat):bw (oD o)=true:=by cases o<;>rfl
noncomputable abbrev aW (rk:List (Option Nat)):D:=.list (rk.map oD)
theorem fG {rk:List (Option Nat)} {t:Nat} (h:t<rk.length):eY (rk.map oD) (t:Int)=some (oD (aQ rk t)):=by
 refine yI ?_
 unfold aQ;rw [getElem?_map,KM,KL h];rfl
noncomputable def kG (any:Bool) (bs:List Bool):Bool:=if any then bs.any id else bs.all id
theorem wV {bs:List Bool}:eO true [.list (bs.map .bool)]=some (.bool (bs.any id)):=by
 have h:=GM (any:=true) (xs:=bs) (f:=id)
 show Option.map _ (m6 _)=_
 rw [show (bs.map PyData.bool)=bs.map fun x=>PyData.bool (id x) from rfl,h]
 simp
theorem mw {bs:List Bool}:eO false [.list (bs.map .bool)]=some (.bool (bs.all id)):=by
 have h:=GM (any:=true) (xs:=bs) (f:=id)
 show Option.map _ (m6 _)=_
 rw [show (bs.map PyData.bool)=bs.map fun x=>PyData.bool (id x) from rfl,h]
 simp
theorem w6 {c:Bool} {bs:List Bool}:dM [.bool c,.list (bs.map .bool)]=.ok ⟨.leaf,.bool (kG c bs)⟩:=by
 unfold kG
 cases c<;>simp [dM,aH,mG,aV,wV,mw]
structure Wd.Ok0 (w:Wd):Prop where
 lo:w.os.length=w.n
 h24:w.n<=24
 ls:w.s.length=w.n
 st:∀r∈w.s,r.length<=30/\∀t∈r,t<w.n
theorem Wd.Ok.z {w:Wd} (h:w.Ok):w.Ok0:=⟨h.g.lo,h.h24,h.ls,fun r hr=>(h.st r hr).2⟩
theorem Wd.Ok0.at2 {w:Wd} (h:w.Ok0) {r:Nat} (hr:r<w.n):eY (w.s.map aI) (r:Int)=some (aI (w.stp r)):=by
 refine yI ?_
 unfold Wd.stp;rw [getElem?_map,KM,KL (by rw [h.ls];exact hr)]
 rfl
theorem Wd.Ok0.stp_lt {w:Wd} (h:w.Ok0) {r t:Nat} (ht:t∈w.stp r):t<w.n:=by
 unfold Wd.stp at ht;rw [KM] at ht
 cases e:w.s[r]? with
 | none=>rw [e] at ht;simp at ht
 | some x=>rw [e] at ht;exact (h.st x (mem_of_getElem? e)).2 t ht
theorem Wd.Ok0.len {w:Wd} (h:w.Ok0) {r:Nat}:(w.stp r).length<=10000:=by
 unfold Wd.stp;rw [KM]
 cases e:w.s[r]? with
 | none=>simp
 | some x=>
  have:=(h.st x (mem_of_getElem? e)).1
  simp only [Option.getD_some]
  omega
noncomputable abbrev mQ (cl:List Bool):D:=.list (cl.map .bool)
noncomputable def hJ (cl:List Bool) (r:Nat):Bool:=cl.getD r false
theorem D4 {cl:List Bool} {t:Nat} (h:t<cl.length):eY (cl.map PyData.bool) (t:Int)=some (.bool (hJ cl t)):=by
 refine yI ?_
 unfold hJ;rw [getElem?_map,KM,KL h];rfl
noncomputable def tK (w:Wd) (ch:Nat->Bool) (thr:List Nat) (rk:List (Option Nat)):List Nat:=thr.filter fun r=>(aQ rk r).isNone&&kG (ch r) ((w.stp r).map fun t=>(aQ rk t).isSome)
theorem uA {w:Wd} (h:w.Ok0) {cl:List Bool} {thr:List Nat} {rk:List (Option Nat)} (hcl:cl.length=w.n) (ht:∀r∈thr,r<w.n) (hl:rk.length=w.n) (hn:thr.length<=1000):b9 [w.enc,mQ cl,aI thr,aW rk]=.ok ⟨.lst .leaf,aI (tK w (hJ cl) thr rk)⟩:=by
 obtain ⟨y,e,_⟩:=Fd rm (fun (b:List Nat) r=>if (aQ rk r).isNone&&kG (hJ cl r) ((w.stp r).map fun t=>(aQ rk t).isSome) then b++[r] else b) (Inv:=fun b r=>b.length+r.length<=1000/\∀t∈r,t<w.n) (i:=5)
  (body:=(b2 (gk (aR aA (aD (bI false) (ak (af 3) (af 5)) (eK .none))) (aR br (av 2 dM (ae (ak (af 1) (af 5)) (ae (aE .leaf 6 (aZ (ak (ak (af 0) (eK (.int 2))) (af 5))) aL (aD (bI true) (ak (af 3) (af 6)) (eK .none))) ah))))) (fO 4 (af 5)) aS))
  (G:=fun b x=>[KZ w.enc,KZ (mQ cl),KZ (aI thr),KZ (aW rk),some ⟨.lst .leaf,aI b⟩,x,none])
  (fun _ _=>by simp) (fun _ _ _=>by simp) (fun b r b7 hI=>by
   obtain ⟨h1,h2⟩:=hI;have hr:r<w.n:=h2 r mem_cons_self
   have a1:=fG (rk:=rk) (t:=r) (by omega)
   have a2:=h.at2 hr
   have a4:=D4 (cl:=cl) (t:=r) (by omega)
   simp only [length_cons] at h1
   have c1:aE .leaf 6 (aZ (ak (ak (af 0) (eK (.int 2))) (af 5))) aL (aD (bI true) (ak (af 3) (af 6)) (eK .none)) [KZ w.enc,KZ (mQ cl),KZ (aI thr),KZ (aW rk),some ⟨.lst .leaf,aI b⟩,KZ (rm r),none]
     = .ok ⟨.lst .leaf,.list ((w.stp r).map fun t=>.bool (aQ rk t).isSome)⟩ [KZ w.enc,KZ (mQ cl),KZ (aI thr),KZ (aW rk),some ⟨.lst .leaf,aI b⟩,KZ (rm r),none]:=by
    refine m8 rm (w.stp r) (fun t=>⟨.leaf,.bool (aQ rk t).isSome⟩) (st:=true) (by simp [Wd.enc,a2]) (by simp) rfl h.len fun t ht=>?_
    have a3:=fG (rk:=rk) (t:=t) (by rw [hl];exact h.stp_lt ht)
    simp [a3]
   have dl:=w6 (c:=hJ cl r) (bs:=(w.stp r).map fun t=>(aQ rk t).isSome)
   rw [map_map] at dl;have dl:dM [.bool (hJ cl r),.list ((w.stp r).map fun t=>.bool (aQ rk t).isSome)]=.ok ⟨.leaf,.bool (kG (hJ cl r) ((w.stp r).map fun t=>(aQ rk t).isSome))⟩:=dl
   have ap:fO 4 (af 5) [KZ w.enc,KZ (mQ cl),KZ (aI thr),KZ (aW rk),some ⟨.lst .leaf,aI b⟩,KZ (rm r),none]=.nx [KZ w.enc,KZ (mQ cl),KZ (aI thr),KZ (aW rk),some ⟨.lst .leaf,.list (b.map rm++[rm r])⟩,KZ (rm r),none]:=
    Bz rfl (aw rfl) rfl (by simp;omega)
   refine ⟨?_,?_⟩
   ·cases q1:(aQ rk r).isNone with
    | false=>simp [a1,q1]
    | true=>
     cases q2:kG (hJ cl r) ((w.stp r).map fun t=>(aQ rk t).isSome) with
     | false=>simp [a1,a4,q1,c1,dl,q2]
     | true=>simp [a1,a4,q1,c1,dl,q2,ap]
   ·refine ⟨?_,fun t ht=>h2 t (KN _ ht)⟩
    split
    ·rw [length_append,length_singleton];omega
    ·omega) thr [] none (by simp;exact ⟨hn,ht⟩)
 have ef:∀(l b:List Nat),l.foldl (fun (b:List Nat) r=>if (aQ rk r).isNone&&kG (hJ cl r) ((w.stp r).map fun t=>(aQ rk t).isSome) then b++[r] else b) b=b++tK w (hJ cl) l rk:=by
  intro l;induction l with
  | nil=>intro b;simp [tK]
  | cons r t ih=>
   intro b;rw [foldl_cons,ih];unfold tK;rw [filter_cons];split<;>simp
 rw [ef,nil_append] at e;refine aT ?_
 have e2:=h9 (fi:=aZ (af 2)) (Γ:=[KZ w.enc,KZ (mQ cl),KZ (aI thr),KZ (aW rk),some ⟨.lst .leaf,aI []⟩,none,none]) (fg (ds:=thr.map rm) (aw rfl) rfl) e
 have e1:aC true 4 (az .leaf ah) (aV 7 [w.enc,mQ cl,aI thr,aW rk])=.nx [KZ w.enc,KZ (mQ cl),KZ (aI thr),KZ (aW rk),some ⟨.lst .leaf,aI []⟩,none,none]:=by simp [aV]
 unfold fC;rw [oB,e1];simp only
 rw [oB,e2];simp
theorem led_iff {any:Bool} {l:List Nat} {b:Nat->Bool}:kG any (l.map b)=true↔led any l fun t=>b t=true:=by
 unfold kG led
 cases any<;>simp
structure Kc (w:Wd) (any:Bool) (thr goal:List Nat) (rk:List (Option Nat)):Prop where
 len:rk.length=w.n
 g:∀r,r<w.n->r∈goal->aQ rk r=some 0
 p:∀r k,r<w.n->r∉goal->aQ rk r=some k->0<k/\r∈thr/\led any (w.stp r) fun t=>∃j,aQ rk t=some j/\j<k
 z:∀r,r<w.n->aQ rk r=none->r∉goal/\(r∉thr\/¬led any (w.stp r) fun t=>aQ rk t≠none)
inductive D8 (w:Wd) (any:Bool) (P Q:Nat->Prop):Nat->Prop where
 | now {r:Nat}:Q r->D8 w any P Q r
 | some {r t:Nat}:any=true->P r->t∈w.stp r->D8 w any P Q t->D8 w any P Q r
 | all {r:Nat}:any=false->P r->(∀t∈w.stp r,D8 w any P Q t)->D8 w any P Q r
noncomputable def cJ (rk:List (Option Nat)) (k:Nat) (fr:List Nat):List (Option Nat):=fr.foldl (fun l r=>l.set r (some k)) rk
theorem Hh {k:Nat}:∀(fr:List Nat) (rk:List (Option Nat)),(cJ rk k fr).length=rk.length
 | [],_=>rfl
 | a::r,rk=>by
  show (cJ (rk.set a (some k)) k r).length=_
  rw [Hh,length_set]
theorem vG {rk:List (Option Nat)} {a t:Nat} {o:Option Nat} (h:a<rk.length):aQ (rk.set a o) t=if t=a then o else aQ rk t:=by
 unfold aQ;rw [KM,KM];split
 ·rename_i e;subst e;rw [getElem?_set_self h];rfl
 ·rename_i e;rw [getElem?_set_ne (fun z=>e z.symm)]
theorem ot {k t:Nat}:∀(fr:List Nat) (rk:List (Option Nat)),(∀a∈fr,a<rk.length)->aQ (cJ rk k fr) t=if t∈fr then some k else aQ rk t
 | [],rk,_=>by simp [cJ]
 | a::r,rk,h=>by
  show aQ (cJ (rk.set a (some k)) k r) t=_
  rw [ot r _ (fun b hb=>by rw [length_set];exact h b (KN _ hb)),vG (h a mem_cons_self)]
  by_cases e1:t∈r
  ·simp [e1]
  ·by_cases e2:t=a
   ·simp [e2]
   ·simp [e1,e2]
noncomputable def bX (rk:List (Option Nat)):Nat:=(rk.filter Option.isNone).length
theorem qa {rk:List (Option Nat)} {a k:Nat} (h:rk[a]?=some none):bX (rk.set a (some k))+1=bX rk:=by
 induction rk generalizing a with
 | nil=>simp at h
 | cons x r ih=>
  cases a with
  | zero=>
   simp at h
   subst h;simp [bX]
  | succ a=>
   have:=ih (a:=a) (by simpa using h)
   simp only [bX,List.set_cons_succ,filter_cons] at this ⊢
   cases x with
   | none=>simp only [Option.isNone_none,if_true,length_cons];omega
   | some v=>simpa using this
theorem tM {rk:List (Option Nat)} {a k:Nat}:bX (rk.set a (some k))<=bX rk:=by
 induction rk generalizing a with
 | nil=>simp [bX]
 | cons x r ih=>
  cases a with
  | zero=>cases x<;>simp [bX]
  | succ a=>
   have:=ih (a:=a)
   simp only [bX,List.set_cons_succ,filter_cons] at this ⊢
   cases x with
   | none=>simp only [Option.isNone_none,if_true,length_cons];omega
   | some v=>simpa using this
theorem fW {k:Nat}:∀(fr:List Nat) (rk:List (Option Nat)),bX (cJ rk k fr)<=bX rk
 | [],_=>KW _
 | a::r,rk=>Nat.le_trans (fW r (rk.set a (some k))) tM
theorem qb {k:Nat} {fr:List Nat} {rk:List (Option Nat)} (hne:fr≠[]) (h:∀a∈fr,rk[a]?=some none):bX (cJ rk k fr)<bX rk:=by
 cases fr with
 | nil=>exact absurd rfl hne
 | cons a r=>
  have h1:=qa (k:=k) (h a mem_cons_self)
  have h2:=fW (k:=k) r (rk.set a (some k))
  show bX (cJ (rk.set a (some k)) k r)<_
  omega
structure RS where
 rk:List (Option Nat)
 k:Nat
 fr:List Nat
 x8:Option PV
structure RI (w:Wd) (ch:Nat->Bool) (thr goal:List Nat) (b:RS):Prop where
 len:b.rk.length=w.n
 frn:∀r∈b.fr,r<w.n/\aQ b.rk r=none
 frl:b.fr.length<=1000
 lt:∀r j,aQ b.rk r=some j->j<b.k
 zero:b.k=0->b.fr=goal
 g:0<b.k->∀r,r∈goal->aQ b.rk r=some 0
 p:∀r j,r<w.n->r∉goal->aQ b.rk r=some j->0<j/\r∈thr/\led (ch r) (w.stp r) fun t=>∃i,aQ b.rk t=some i/\i<j
 nx:0<b.k->b.fr=tK w ch thr b.rk
 m1:∀r,r∈thr->aQ b.rk r=none->¬led (ch r) (w.stp r) fun t=>∃i,aQ b.rk t=some i/\i+1<b.k
 m2:∀r j,r∉goal->aQ b.rk r=some j->¬led (ch r) (w.stp r) fun t=>∃i,aQ b.rk t=some i/\i+1<j
noncomputable def Jv (st:Nat->List Nat) (ch:Nat->Bool) (goal:List Nat) (rk:List (Option Nat)):Prop:=∀r j,r∉goal->aQ rk r=some j->¬led (ch r) (st r) fun t=>∃i,aQ rk t=some i/\i+1<j
theorem RI.right {w:Wd} {ch:Nat->Bool} {thr goal:List Nat} {b:RS} (hne:∀r∈thr,w.stp r≠[]) (I:RI w ch thr goal b) (he:b.fr=[]):RightG w.n w.stp ch thr goal b.rk:=by
 refine ⟨I.len,fun r hr hg=>?_,I.p,fun r hr hz=>?_⟩
 ·rcases Nat.eq_zero_or_pos b.k with h | h
  ·rw [<-I.zero h,he] at hg;simp at hg
  ·exact I.g h r hg
 ·rcases Nat.eq_zero_or_pos b.k with h | h
  ·have hg:goal=[]:=by rw [<-I.zero h];exact he
   refine ⟨by rw [hg];simp,?_⟩
   by_cases ht:r∈thr
   case neg=>exact .inl ht
   refine .inr fun hl=>?_
   have no:∀t,aQ b.rk t=none:=fun t=>by
    cases e:aQ b.rk t with
    | none=>rfl
    | some j=>have:=I.lt t j e;omega
   cases hc:ch r with
   | true=>
    rw [hc] at hl;obtain ⟨t,_,z⟩:=led_t.mp hl;exact z (no t)
   | false=>
    rw [hc] at hl;obtain ⟨t,ht'⟩:=exists_mem_of_ne_nil _ (hne r ht);exact led_f.mp hl t ht' (no t)
  ·refine ⟨fun hg=>(by rw [I.g h r hg] at hz;cases hz),?_⟩
   by_cases ht:r∈thr
   ·refine .inr fun hl=>?_
    have hx:=I.nx h
    rw [he] at hx;have:r∈tK w ch thr b.rk:=by
     unfold tK;refine List.mem_filter.mpr ⟨ht,?_⟩
     rw [hz];simp only [Option.isNone_none,Bool.true_and]
     exact led_iff.mpr (uW hl fun t _ z=>by cases e:aQ b.rk t with | none=>exact absurd e z | some j=>rfl)
    rw [<-hx] at this;simp at this
   ·exact .inl ht
theorem RI.step {w:Wd} {ch:Nat->Bool} {thr goal:List Nat} (hne0:∀r∈thr,w.stp r≠[]) {b:RS} {y:Option PV} (hthr:∀r∈thr,r<w.n) (hl:thr.length<=1000) (I:RI w ch thr goal b) (hne:b.fr≠[]) :
  RI w ch thr goal ⟨cJ b.rk b.k b.fr,b.k+1,tK w ch thr (cJ b.rk b.k b.fr),y⟩/\bX (cJ b.rk b.k b.fr)<bX b.rk:=by
 have hfl:∀a∈b.fr,a<b.rk.length:=fun a ha=>by rw [I.len];exact (I.frn a ha).1
 have pt:∀t,aQ (cJ b.rk b.k b.fr) t=if t∈b.fr then some b.k else aQ b.rk t:=fun t=>ot _ _ hfl
 refine ⟨⟨by rw [Hh];exact I.len,fun r hr=>?_,?_,fun r j e=>?_,fun z=>absurd z (Nat.succ_ne_zero _),fun _ r hg=>?_,fun r j hr hg e=>?_,fun _=>rfl,fun r ht hz hl=>?_,fun r j hg e hl=>?_⟩,qb hne fun a ha=>?_⟩
 ·obtain ⟨h1,h2⟩:=List.mem_filter.mp hr
  simp only [Bool.and_eq_true,Option.isNone_iff_eq_none] at h2
  exact ⟨hthr r h1,h2.1⟩
 ·exact Nat.le_trans (length_filter_le _ _) hl
 ·rw [pt] at e
  show j<b.k+1
  split at e
  ·cases e;omega
  ·have:=I.lt r j e;omega
 ·show aQ (cJ b.rk b.k b.fr) r=some 0
  rw [pt];rcases Nat.eq_zero_or_pos b.k with h | h
  ·rw [I.zero h,if_pos hg,h]
  ·have:=I.g h r hg
   split
   ·rename_i z;rw [(I.frn r z).2] at this;cases this
   ·exact this
 ·have e:aQ (cJ b.rk b.k b.fr) r=some j:=e
  rw [pt] at e;split at e
  ·rename_i hm
   cases e;have hk:0<b.k:=by
    rcases Nat.eq_zero_or_pos b.k with h | h
    ·rw [I.zero h] at hm;exact absurd hm hg
    ·exact h
   have hx:=I.nx hk
   rw [hx] at hm;obtain ⟨h1,h2⟩:=List.mem_filter.mp hm;simp only [Bool.and_eq_true] at h2
   refine ⟨hk,h1,uW (led_iff.mp h2.2) fun t _ z=>?_⟩
   cases e:aQ b.rk t with
   | none=>rw [e] at z;cases z
   | some i=>
    refine ⟨i,?_,I.lt t i e⟩
    show aQ (cJ b.rk b.k b.fr) t=_
    rw [pt,if_neg (fun q=>by rw [(I.frn t q).2] at e;cases e),e]
  ·obtain ⟨h1,h2,h3⟩:=I.p r j hr hg e
   refine ⟨h1,h2,uW h3 fun t _ ⟨i,hi,hlt⟩=>⟨i,?_,hlt⟩⟩
   show aQ (cJ b.rk b.k b.fr) t=_
   rw [pt,if_neg (fun q=>by rw [(I.frn t q).2] at hi;cases hi),hi]
 ·have hz:aQ (cJ b.rk b.k b.fr) r=none:=hz
  rw [pt] at hz;split at hz
  ·cases hz
  rename_i hf;have hl:led (ch r) (w.stp r) fun t=>∃i,aQ (cJ b.rk b.k b.fr) t=some i/\i+1<b.k+1:=hl
  have hl:led (ch r) (w.stp r) fun t=>∃i,aQ b.rk t=some i/\i<b.k:=uW hl fun t _ ⟨i,hi,hlt⟩=>by
   rw [pt] at hi;split at hi
   ·cases hi;omega
   ·exact ⟨i,hi,by omega⟩
  rcases Nat.eq_zero_or_pos b.k with h | h
  ·cases hc:ch r with
   | true=>
    rw [hc] at hl;obtain ⟨t,_,i,_,z⟩:=led_t.mp hl;omega
   | false=>
    rw [hc] at hl;obtain ⟨t,ht'⟩:=exists_mem_of_ne_nil _ (hne0 r ht);obtain ⟨i,_,z⟩:=led_f.mp hl t ht'
    omega
  ·refine hf ?_
   rw [I.nx h];refine List.mem_filter.mpr ⟨ht,?_⟩
   rw [hz];simp only [Option.isNone_none,Bool.true_and]
   exact led_iff.mpr (uW hl fun t _ ⟨i,hi,_⟩=>by rw [hi];rfl)
 ·have e:aQ (cJ b.rk b.k b.fr) r=some j:=e
  have hl:led (ch r) (w.stp r) fun t=>∃i,aQ (cJ b.rk b.k b.fr) t=some i/\i+1<j:=hl
  have hj:j<=b.k:=by
   rw [pt] at e;split at e
   ·cases e;omega
   ·have:=I.lt r j e;omega
  have hl:led (ch r) (w.stp r) fun t=>∃i,aQ b.rk t=some i/\i+1<j:=uW hl fun t _ ⟨i,hi,hlt⟩=>by
   rw [pt] at hi;split at hi
   ·cases hi;omega
   ·exact ⟨i,hi,hlt⟩
  rw [pt] at e;split at e
  ·rename_i hm
   cases e;have hk:0<b.k:=by
    rcases Nat.eq_zero_or_pos b.k with h | h
    ·rw [I.zero h] at hm;exact absurd hm hg
    ·exact h
   have hm':=hm
   rw [I.nx hk] at hm';exact I.m1 r (List.mem_filter.mp hm').1 (I.frn r hm).2 hl
  ·exact I.m2 r j hg e hl
 ·obtain ⟨h1,h2⟩:=I.frn a ha
  unfold aQ at h2;rw [KM,KL (by rw [I.len];exact h1)] at h2
  rw [KL (by rw [I.len];exact h1)]
  simpa using h2
noncomputable abbrev GR (w:Wd) (cl:List Bool) (thr goal:List Nat) (b:RS):Ev:=[KZ w.enc,KZ (mQ cl),KZ (aI thr),KZ (aI goal),some ⟨.lst .leaf,aW b.rk⟩,KZ (.int (b.k:Int)),KZ (aI b.fr),b.x8,none]
noncomputable abbrev kC:FS:=(ay (fI 7 (aZ (af 6))
  (da 4 (af 5) (af 7)))
  (ay (fT 5 (eK (.int 1)))
  (aC false 6 (yK 4 b9 (ae (af 0) (ae (af 1) (ae (af 2) (ae (af 4) ah))))))))
theorem vF {w:Wd} (ok:w.Ok0) {cl:List Bool} {thr goal:List Nat} {b:RS} (hcl:cl.length=w.n) (hne0:∀r∈thr,w.stp r≠[]) (hthr:∀r∈thr,r<w.n) (hl:thr.length<=1000) (I:RI w (hJ cl) thr goal b) (hne:b.fr≠[]) :
  ∃b',kC (GR w cl thr goal b)=.nx (GR w cl thr goal b')/\RI w (hJ cl) thr goal b'/\bX b'.rk<bX b.rk:=by
 obtain ⟨y,e,_⟩:=Fd rm (fun (l:List (Option Nat)) r=>l.set r (some b.k)) (Inv:=fun l r=>l.length=w.n/\∀t∈r,t<w.n) (i:=7) (body:=da 4 (af 5) (af 7))
  (G:=fun l x=>[KZ w.enc,KZ (mQ cl),KZ (aI thr),KZ (aI goal),some ⟨.lst .leaf,aW l⟩,KZ (.int (b.k:Int)),KZ (aI b.fr),x,none])
  (fun _ _=>by simp) (fun _ _ _=>by simp) (fun l r b7 ⟨h1,h2⟩=>by
   have hr:=h2 r mem_cons_self
   refine ⟨?_,by rw [length_set];exact h1,fun t ht=>h2 t (KN _ ht)⟩
   rw [Cr (ds:=l.map oD) (j:=r) (k:=(r:Int)) rfl (aw rfl) (aw rfl) (qQ (by rw [length_map,h1];exact hr)) rfl]
   simp [List.map_set,oD]) b.fr b.rk b.x8 ⟨I.len,fun t ht=>(I.frn t ht).1⟩
 obtain ⟨I',hm⟩:=RI.step (y:=y) hne0 hthr hl I hne
 refine ⟨⟨cJ b.rk b.k b.fr,b.k+1,tK w (hJ cl) thr (cJ b.rk b.k b.fr),y⟩,?_,I',hm⟩
 have e2:=h9 (fi:=aZ (af 6)) (Γ:=GR w cl thr goal b) (fg (ds:=b.fr.map rm) (aw rfl) rfl) e
 have dn:=uA ok (cl:=cl) (thr:=thr) (rk:=cJ b.rk b.k b.fr) hcl hthr (by rw [Hh];exact I.len) hl
 unfold kC;rw [oB,e2];have fr:nH ⟨.lst .leaf,aI (tK w (hJ cl) thr (cJ b.rk b.k b.fr))⟩=true:=by
  unfold nH;simp [bw]
 have ec:∀Γ:Ev,Γ=[KZ w.enc,KZ (mQ cl),KZ (aI thr),KZ (aI goal),some ⟨.lst .leaf,aW (cJ b.rk b.k b.fr)⟩,KZ (.int ((b.k:Int)+1)),KZ (aI b.fr),y,none] ->
   yK 4 b9 (ae (af 0) (ae (af 1) (ae (af 2) (ae (af 4) ah)))) Γ=.ok ⟨.lst .leaf,aI (tK w (hJ cl) thr (cJ b.rk b.k b.fr))⟩ Γ:=fun Γ hΓ=>by
  subst hΓ;unfold yK;simp [dn,fr]
 have pu:b.fr.foldl (fun l r=>l.set r (some b.k)) b.rk=cJ b.rk b.k b.fr:=rfl
 rw [pu];simp [ec _ rfl]
theorem Hy {w:Wd} (ok:w.Ok0) {cl:List Bool} {thr goal:List Nat} (hcl:cl.length=w.n) (hne0:∀r∈thr,w.stp r≠[]) (hthr:∀r∈thr,r<w.n) (hl:thr.length<=1000) (hgoal:∀r∈goal,r<w.n) (hgl:goal.length<=1000) :
  ∃rk,cn [w.enc,mQ cl,aI thr,aI goal]=.ok ⟨.lst .leaf,aW rk⟩/\RightG w.n w.stp (hJ cl) thr goal rk/\Jv w.stp (hJ cl) goal rk:=by
 have lo:=ok.lo
 have h24:=ok.h24
 have i0:RI w (hJ cl) thr goal ⟨w.os.map fun _=>none,0,goal,none⟩:=by
  have z:∀r,aQ (w.os.map fun _=>none) r=none:=fun r=>by
   unfold aQ;rw [KM,getElem?_map]
   cases w.os[r]?<;>rfl
  refine ⟨by simp [lo],fun r hr=>⟨hgoal r hr,z r⟩,hgl,fun r j e=>(by rw [z] at e;cases e),fun _=>rfl,fun h=>absurd h (by simp),fun r j _ _ e=>(by rw [z] at e;cases e),fun h=>absurd h (by simp),fun r ht _ hl=>?_,fun r j _ e=>(by rw [z] at e;cases e)⟩
  have hl:led (hJ cl r) (w.stp r) fun t=>∃i,aQ (w.os.map fun _=>none) t=some i/\i+1<0:=hl
  cases hc:hJ cl r with
  | true=>
   rw [hc] at hl;obtain ⟨t,_,i,_,z⟩:=led_t.mp hl;omega
  | false=>
   rw [hc] at hl;obtain ⟨t,ht'⟩:=exists_mem_of_ne_nil _ (hne0 r ht);obtain ⟨i,_,z⟩:=led_f.mp hl t ht'
   omega
 obtain ⟨b',e,I,hf⟩:=Fp (c:=aR br (af 6)) (g:=kC) (G:=GR w cl thr goal) (test:=fun b=>!b.fr.isEmpty) (Inv:=RI w (hJ cl) thr goal) (meas:=fun b=>bX b.rk) (fun b I=>by simp) (fun b I hb=>vF ok hcl hne0 hthr hl I (by intro z;rw [z] at hb;simp at hb)) 1000 _ i0 (by
  have:bX (w.os.map fun _=>none)<=w.os.length:=by unfold bX;exact Nat.le_trans (length_filter_le _ _) (by simp)
  show bX (w.os.map fun _=>none)<1000
  omega)
 refine ⟨b'.rk,?_,I.right hne0 (by simpa using hf),I.m2⟩
 refine aT ?_
 have co:∀Γ:Ev,Γ.length=9->Γ[0]?=some (KZ w.enc)->aE .leaf 8 (aZ (ak (af 0) (eK (.int 0)))) aL (eK .none) Γ=.ok ⟨.lst .leaf,.list (w.os.map fun _=>.none)⟩ Γ:=fun Γ h1 h2=>by
  have:=m8 (fun d:D=>d) w.os (fun _=>⟨.leaf,.none⟩) (s:=.leaf) (i:=8) (fi:=aZ (ak (af 0) (eK (.int 0)))) (fe:=eK .none) (st:=true) (Γ:=Γ) (by simp [h2,Wd.enc]) (by omega) rfl (by omega) (fun x hx=>by simp)
  simpa using this
 have e:rA (aR br (af 6)) kC 1000 [KZ w.enc,KZ (mQ cl),KZ (aI thr),KZ (aI goal),some ⟨.lst .leaf,.list (w.os.map fun _=>.none)⟩,KZ (.int 0),KZ (aI goal),none,none]=.nx (GR w cl thr goal b'):=by
  have q:aW (w.os.map fun _=>none)=.list (w.os.map fun _=>.none):=by
   unfold aW;rw [map_map];rfl
  rw [<-q];exact e
 unfold iQ;rw [oB,Dg,co _ rfl rfl];simp [aV]
 unfold u6;rw [e];simp
theorem CS {Γ Γ1:Ev} {fl:FL} {ps:List PV} {k:Int} (hl:fl Γ=.ok ps Γ1) (hp:ps.map (·.d)=[.int k]) (h0:0<=k) (h1:k<=1000):uw fl Γ=.ok ⟨.lst .leaf,.list (cz 0 k.toNat)⟩ Γ1:=by
 have h3:cD k=true:=AU (by omega) (by omega)
 have hb:=BQ
 have h4:k<=(sizeLine:Int):=by omega
 unfold uw;rw [hl];simp only [Out.bind,hp,jh,h3,if_true,h4]
theorem Ef {w:Wd} (ok:w.Ok) {Γ:Ev} (h0:Γ[0]?=some (KZ w.enc)):uw (ae (bG bt (ae (ak (af 0) (eK (.int 0))) ah)) ah) Γ=.ok ⟨.lst .leaf,aI (List.range w.n)⟩ Γ:=by
 have lo:=ok.g.lo
 have h24:=ok.h24
 rw [CS (Γ1:=Γ) (ps:=[⟨.leaf,.int w.n⟩]) (k:=(w.n:Int)) (by simp [h0,Wd.enc,lo]) rfl (by omega) (by omega),Int.toNat_natCast,ER]
theorem Wd.Ok.check {w:Wd} (ok:w.Ok):dE [w.enc]=.ok ⟨.leaf,.none⟩:=qy (ok.g.wk (b:=24) ok.h24) (by omega) (ok.g.isW ok.h1 ok.h24)
end KC
namespace T
open PySem PySem.Spec L2
open PyProof.Rows hiding St
theorem j2 {α:Type} (en:α->D) {i:Nat} {body:FS} {Inv:List α->Ev->Prop} (hb:∀a r Γ,Inv (a::r) Γ->i<Γ.length/\∃Γ',body (Γ.set i (KZ (en a)))=.nx Γ'/\Inv r Γ'):∀(xs:List α) (Γ:Ev),Inv xs Γ->∃Γ',dw i body (xs.map en) Γ=.nx Γ'/\Inv [] Γ'
 | [],Γ,h=>⟨Γ,rfl,h⟩
 | a::r,Γ,h=>by
  obtain ⟨hi,Γ1,h1,h2⟩:=hb a r Γ h;obtain ⟨Γ2,e,h3⟩:=j2 en hb r Γ1 h2;refine ⟨Γ2,?_,h3⟩
  rw [map_cons,dw,if_pos hi,h1];exact e
theorem EA {Γ:Ev} {i j:Nat} {fb:F1} {s:Sh} {k:Int} {ds:List D} {d:D} (ho:Γ[i]?=some (some ⟨.lst .leaf,.list ds⟩)) (hb:fb Γ=.ok ⟨s,.int k⟩ Γ) (hi:eV ds.length k=some j) (hd:ds[j]?=some d):fy i fb Γ=.ok ⟨.leaf,d⟩ Γ:=by
 unfold fy xF;rw [ho];simp only [if_true,hb,xA]
 unfold wI;rw [ho];simp only [hi,hd]
theorem cQ {Γ Γ1 Γ2:Ev} {fa fb:F1} {s s':Sh} {xs ys:List D} (ha:fa Γ=.ok ⟨s,.list xs⟩ Γ1) (hb:fb Γ1=.ok ⟨s',.list ys⟩ Γ2) (h1:dH ⟨s,.list xs⟩ xs=true) (h2:dH ⟨s',.list ys⟩ ys=true) (hn:xs.length+ys.length<=10000):bF fa fb Γ=.ok ⟨.lst .leaf,.list (xs++ys)⟩ Γ2:=by
 have hb':(10000:Nat)<=sizeLine:=by decide
 have:xs.length+ys.length<=sizeLine:=Nat.le_trans hn hb'
 unfold bF aU;rw [ha];simp only [xA]
 rw [hb];simp only [xA,h1,h2,decide_eq_true this,Bool.and_self,if_true]
end T
namespace KC
open PySem PySem.Spec L2 T PySem.SeqAt
open PyProof.Rows hiding St
theorem CU {n:Nat} {os ms ss:List D} (g:Gw (n:Int) n os ms ss) (h1:1<=n) (h24:n<=24):∃w:Wd,w.Ok/\w.enc=bK os ms ss/\w.n=n:=by
 have hm:∀l:List D,(∀r∈l,∃xs,r=.list xs/\jG xs)->∃M:List (List Str),l=M.map xW/\∀r∈M,∀c∈r,PyData.strOk c=true:=by
  have one:∀xs:List D,jG xs->∃r:List Str,xs=r.map .str/\∀c∈r,PyData.strOk c=true:=by
   intro xs;induction xs with
   | nil=>intro _;exact ⟨[],rfl,by simp⟩
   | cons a r ih=>
    intro h;obtain ⟨x,rfl,hx⟩:=h a mem_cons_self;obtain ⟨t,rfl,ht⟩:=ih fun b hb=>h b (KN _ hb)
    exact ⟨x::t,rfl,fun c hc=>(KJ hc).elim (fun e=>by rw [e];exact hx) (ht c)⟩
  intro l;induction l with
  | nil=>intro _;exact ⟨[],rfl,by simp⟩
  | cons a r ih=>
   intro h;obtain ⟨xs,rfl,hx⟩:=h a mem_cons_self;obtain ⟨x,rfl,hx2⟩:=one xs hx;obtain ⟨M,rfl,hM⟩:=ih fun b hb=>h b (KN _ hb)
   exact ⟨x::M,rfl,fun c hc=>(KJ hc).elim (fun e=>by rw [e];exact hx2) (hM c)⟩
 have hs:∀l:List D,(∀r∈l,∃ts:List Int,r=.list (ts.map .int)/\ts.length<=30/\ts≠[]/\(∀t∈ts,0<=t/\t<(n:Int))/\ts.Pairwise (· < ·))->∃S:List (List Nat),l=S.map aI/\∀r∈S,r≠[]/\r.length<=30/\∀t∈r,t<n:=by
  have one:∀ts:List Int,(∀t∈ts,0<=t/\t<(n:Int))->∃r:List Nat,ts.map PyData.int=r.map rm/\r.length=ts.length/\∀t∈r,t<n:=by
   intro ts;induction ts with
   | nil=>intro _;exact ⟨[],rfl,rfl,by simp⟩
   | cons a r ih=>
    intro h;have ha:=h a mem_cons_self
    obtain ⟨t,e,el,ht⟩:=ih fun b hb=>h b (KN _ hb)
    refine ⟨a.toNat::t,?_,by simp [el],fun c hc=>(KJ hc).elim (fun e=>by omega) (ht c)⟩
    rw [map_cons,map_cons,e];congr 2
    omega
  intro l;induction l with
  | nil=>intro _;exact ⟨[],rfl,by simp⟩
  | cons a r ih=>
   intro h;obtain ⟨ts,rfl,t1,t2,t3,_⟩:=h a mem_cons_self;obtain ⟨x,e,el,hx⟩:=one ts t3;obtain ⟨S,rfl,hS⟩:=ih fun b hb=>h b (KN _ hb)
   refine ⟨x::S,by rw [map_cons,e],fun c hc=>(KJ hc).elim (fun e=>by
    subst e;exact ⟨fun z=>t2 (List.length_eq_zero_iff.mp (by rw [<-el,z];rfl)),by omega,hx⟩) (hS c)⟩
 obtain ⟨M,eM,hM⟩:=hm ms fun r hr=>let ⟨xs,a,b,_⟩:=g.m r hr;⟨xs,a,b⟩
 obtain ⟨S,eS,hS⟩:=hs ss g.s;subst eM eS;refine ⟨⟨n,os,M,S⟩,⟨g,h1,h24,?_,?_,hS,hM⟩,rfl,rfl⟩
 ·have:=g.lm;simpa using this
 ·have:=g.ls;simpa using this
@[simp] theorem IU (a:Wr):cW false (.str a.t) (.tuple [.str "and",.str "or",.str "some until",.str "all until"])=some (.bool (decide (a=.and\/a=.or\/a=.su\/a=.au))):=by cases a<;>kernel_rfl
structure Mad (made:List Sn):Prop where
 ne:0<made.length
 ok:∀s∈made,s.ok
 dp:∀s∈made,s.dep<=made.length
theorem zf {Γ:Ev} {fl:FL} {ps:List PV} (hl:fl Γ=.ok ps Γ) (hc:ps.all tok=true:=by rfl) (hn:decide (ps.length<=1000)=true:=by rfl):iI (cb fl) Γ=.ok ⟨ps.map (·.d),true⟩ Γ:=by
 rw [zV,cG hl hc hn];rfl
theorem iH (l:List Int):rh (l.map .int)=some l:=by
 induction l with
 | nil=>rfl
 | cons a r ih=>rw [map_cons,rh,ih];rfl
end KC
namespace KQ
open PySem PySem.Spec L2 T PySem.SeqAt KC
open PyProof.Rows hiding St
noncomputable def d__law_world:FS:=(ay (aC false 3 (aD aN (eK (.int 1)) (aD dv (av 2 aX (ae (af 0) (ae (af 1) ah))) (af 2))))
  (ay (aC true 4 (az .leaf ah))
  (ay (aC true 5 (az .leaf ah))
  (ay (aC true 6 (az .leaf ah))
  (ay (fI 7 (fM (ae (af 3) ah))
  (ay (aC false 8 (av 2 aX (ae (af 0) (ae (aD aN (aD aN (af 1) (eK (.int 1))) (af 7)) ah))))
  (ay (fO 4 (av 3 aq (ae (af 8) (ae (eK (.int 0)) (ae (eK (.int 2)) ah)))))
  (ay (fO 5 (aE .leaf 11 (iJ "abc") (aR aA (aD bT (av 3 aq (ae (af 8) (ae (aD aN (eK (.int 1)) (bG (fX "abc") (ae (af 11) ah))) (ae (eK (.int 2)) ah)))) (eK (.int 1)))) (af 11)))
  (ay (aC false 9 (aE .leaf 10 (fM (ae (af 3) ah)) (aR aA (aD bT (av 3 aq (ae (af 8) (ae (aD aN (eK (.int 4)) (af 10)) (ae (aD aN (eK (.int 2)) (bG cV (ae (aD nG (af 3) (eK (.int 3))) ah))) ah)))) (eK (.int 1)))) (af 10)))
  (ay (b2 (aR aA (aD bT (af 9) (az .leaf ah))) (aC false 9 (az .leaf (ae (av 3 aq (ae (af 8) (ae (aD aN (eK (.int 4)) (af 3)) (ae (af 3) ah)))) ah))) aS)
  (fO 6 (af 9))))))))
  (ba (cb (ae (cX 4) (ae (cX 5) (ae (cX 6) ah))))))))))
noncomputable def m__law_world:List KY->Res:=aH 12 d__law_world
noncomputable abbrev eW:FS:=(ay (aC false 8 (av 2 aX (ae (af 0) (ae (aD aN (aD aN (af 1) (eK (.int 1))) (af 7)) ah))))
  (ay (fO 4 (av 3 aq (ae (af 8) (ae (eK (.int 0)) (ae (eK (.int 2)) ah)))))
  (ay (fO 5 (aE .leaf 11 (iJ "abc") (aR aA (aD bT (av 3 aq (ae (af 8) (ae (aD aN (eK (.int 1)) (bG (fX "abc") (ae (af 11) ah))) (ae (eK (.int 2)) ah)))) (eK (.int 1)))) (af 11)))
  (ay (aC false 9 (aE .leaf 10 (fM (ae (af 3) ah)) (aR aA (aD bT (av 3 aq (ae (af 8) (ae (aD aN (eK (.int 4)) (af 10)) (ae (aD aN (eK (.int 2)) (bG cV (ae (aD nG (af 3) (eK (.int 3))) ah))) ah)))) (eK (.int 1)))) (af 10)))
  (ay (b2 (aR aA (aD bT (af 9) (az .leaf ah))) (aC false 9 (az .leaf (ae (av 3 aq (ae (af 8) (ae (aD aN (eK (.int 4)) (af 3)) (ae (af 3) ah)))) ah))) aS)
  (fO 6 (af 9)))))))
noncomputable def uY (k:Nat):D:=.str ⟨#[97+k]⟩
theorem uO {Γ:Ev}:iJ "abc" Γ=.ok ⟨[0,1,2].map uY,true⟩ Γ:=by
 have:DY "abc"=[0,1,2].map uY:=by kernel_rfl
 unfold iJ;rw [this]
theorem tQ {k:Nat} (h:k∈[0,1,2]):k<3:=by
 simp at h
 omega
theorem AO {k:Nat} (h:k∈[0,1,2]):fX "abc" [uY k]=some (.int (k:Int)):=by
 simp at h
 rcases h with rfl | rfl | rfl<;>kernel_rfl
theorem nS {xs os ms ss:List D} {at' lim many:Int} {n:Nat} {x8 x9:Option PV} (hx:RowI xs) (ha:0<=at') (hm:1<=many) (hm2:many<=24) (h:Gw many n os ms ss) (hn:n<=30) {r:Nat} :
  ∃os' ms' ss' x8' x9',eW [KZ (.list xs),KZ (.int at'),KZ (.int lim),KZ (.int many),some ⟨.lst .leaf,.list os⟩,some ⟨.lst .leaf,.list ms⟩,some ⟨.lst .leaf,.list ss⟩,KZ (.int (r:Nat)),x8,x9,none,none]
   = .nx [KZ (.list xs),KZ (.int at'),KZ (.int lim),KZ (.int many),some ⟨.lst .leaf,.list os'⟩,some ⟨.lst .leaf,.list ms'⟩,some ⟨.lst .leaf,.list ss'⟩,KZ (.int (r:Nat)),x8',x9',none,none]/\Gw many (n+1) os' ms' ss':=by
 obtain ⟨c,hc⟩:=E9 hx (k:=at'+1+(r:Int)) (by omega)
 have lo:=h.lo
 have lm:=h.lm
 have ls:=h.ls
 have c5:∀(Γ:Ev),Γ.length=12->Γ[8]?=some (KZ (.int c))->(aE .leaf 11 (iJ "abc") (aR aA (aD bT (av 3 aq (ae (af 8) (ae (aD aN (eK (.int 1)) (bG (fX "abc") (ae (af 11) ah))) (ae (eK (.int 2)) ah)))) (eK (.int 1)))) (af 11)) Γ
   = .ok ⟨.lst .leaf,.list (([0,1,2].filter fun k:Nat=>dq c (1+(k:Int)) 2==1).map uY)⟩ Γ:=fun Γ hl h8=>by
  refine rD uY [0,1,2] (fun k:Nat=>dq c (1+(k:Int)) 2==1) (fun k=>⟨.leaf,uY k⟩) (st:=true) uO (by omega) rfl (by simp) (fun k hk=>?_) fun k hk _=>?_
  ·have g11:(Γ.set 11 (KZ (uY k)))[11]?=some (KZ (uY k)):=by rw [getElem?_set_self (by omega)]
   have g8:(Γ.set 11 (KZ (uY k)))[8]?=some (KZ (.int c)):=by rw [getElem?_set_ne (by omega)];exact h8
   exact eD (aG (bY (ax (aw g8) (ax (aG aM (cE (ax (aw g11) ai) (AO hk)) add_int') (ax aM ai))) (xE (by omega) (by have:=tQ hk;omega) (by omega) (by omega)) rfl rfl) aM eq_int)
  ·exact ⟨aw (by rw [getElem?_set_self (by omega)]),rfl⟩
 generalize hM:(([0,1,2].filter fun k:Nat=>dq c (1+(k:Int)) 2==1).map uY)=M at c5
 have rM:jG M/\M.length<=30/\wA (.list M)=true:=by
  refine ⟨?_,?_,?_⟩
  ·rw [<-hM]
   intro a ha;obtain ⟨k,hk,rfl⟩:=List.mem_map.mp ha;have:=tQ (List.mem_filter.mp hk).1
   exact ⟨_,rfl,tF (by omega)⟩
  ·rw [<-hM,length_map]
   exact Nat.le_trans (length_filter_le _ _) (by simp)
  ·rw [<-hM]
   simp only [filter_cons,List.filter_nil]
   have:=IP (dq c (1+((0:Nat):Int)) 2==1) (dq c (1+((1:Nat):Int)) 2==1) (dq c (1+((2:Nat):Int)) 2==1)
   revert this
   cases (dq c (1+((0:Nat):Int)) 2==1)<;>cases (dq c (1+((1:Nat):Int)) 2==1)<;>cases (dq c (1+((2:Nat):Int)) 2==1)<;>exact fun h=>h
 have c6:∀(Γ:Ev),Γ.length=12->Γ[8]?=some (KZ (.int c))->Γ[3]?=some (KZ (.int many))->aE .leaf 10 (fM (ae (af 3) ah)) (aR aA (aD bT (av 3 aq (ae (af 8) (ae (aD aN (eK (.int 4)) (af 10)) (ae (aD aN (eK (.int 2)) (bG cV (ae (aD nG (af 3) (eK (.int 3))) ah))) ah)))) (eK (.int 1)))) (af 10) Γ
   = .ok ⟨.lst .leaf,.list (((cz 0 many.toNat).filter fun d=>match d with | .int k=>dq c (4+k) (2+(if decide (3<many) then 1 else 0))==1 | _=>false).map fun d=>d)⟩ Γ:=fun Γ hl h8 h3=>by
  refine iK (c:=fun d=>match d with | .int k=>dq c (4+k) (2+(if decide (3<many) then 1 else 0))==1 | _=>false) (f:=fun d=>⟨.leaf,d⟩) (st:=true) (pv (k:=many) (ax (aw h3) ai) rfl (by omega) (by omega)) (by omega) rfl (by rw [EO];omega) (fun d hd=>?_) fun d hd _=>?_
  ·obtain ⟨k,hk,rfl⟩:=Cy hd
   have g10:(Γ.set 10 (KZ (.int (0+(k:Int)))))[10]?=some (KZ (.int (0+(k:Int)))):=by rw [getElem?_set_self (by omega)]
   have g8:(Γ.set 10 (KZ (.int (0+(k:Int)))))[8]?=some (KZ (.int c)):=by rw [getElem?_set_ne (by omega)];exact h8
   have g3:(Γ.set 10 (KZ (.int (0+(k:Int)))))[3]?=some (KZ (.int many)):=by rw [getElem?_set_ne (by omega)];exact h3
   have b1:(1:Int)<=2+(if decide (3<many) then 1 else 0)/\(2:Int)+(if decide (3<many) then 1 else 0)<=1000:=by split<;>omega
   exact eD (aG (bY (ax (aw g8) (ax (aG aM (aw g10) add_int') (ax (aG aM (cE (ax (aG (aw g3) aM rfl) ai) rfl) add_int') ai))) (xE (by omega) (by omega) b1.1 b1.2) rfl rfl) aM eq_int)
  ·obtain ⟨k,hk,rfl⟩:=Cy hd
   exact ⟨aw (by rw [getElem?_set_self (by omega)]),rfl⟩
 obtain ⟨ts,hT,hts1,hts2,hts3⟩:=zE many.toNat (fun d=>match d with | .int k=>dq c (4+k) (2+(if decide (3<many) then 1 else 0))==1 | _=>false)
 rw [hT] at c6;have fin:∀(Γ:Ev) (T:List Int),(T.length<=30/\T≠[]/\(∀t∈T,0<=t/\t<many)/\T.Pairwise (· < ·))->Γ=[KZ (.list xs),KZ (.int at'),KZ (.int lim),KZ (.int many),some ⟨.lst .leaf,.list (os++[.int (dq c 0 2)])⟩,some ⟨.lst .leaf,.list (ms++[.list M])⟩,some ⟨.lst .leaf,.list ss⟩,KZ (.int (r:Nat)),KZ (.int c),KZ (.list (T.map .int)),none,none] ->
   ∃os' ms' ss' x8' x9',fO 6 (af 9) Γ=.nx [KZ (.list xs),KZ (.int at'),KZ (.int lim),KZ (.int many),some ⟨.lst .leaf,.list os'⟩,some ⟨.lst .leaf,.list ms'⟩,some ⟨.lst .leaf,.list ss'⟩,KZ (.int (r:Nat)),x8',x9',none,none]/\Gw many (n+1) os' ms' ss':=fun Γ T hT2 hΓ=>by
  subst hΓ;refine ⟨os++[.int (dq c 0 2)],ms++[.list M],ss++[.list (T.map .int)],_,_,CC rfl (aw rfl) rfl (by omega),by simp;omega,by simp;omega,by simp;omega,fun a ha=>?_,fun a ha=>?_,fun a ha=>?_⟩
  ·rcases KI ha with z | z
   ·exact h.o a z
   ·have:=Cm (c:=c) (k:=0) (b:=2) (by omega) (by omega) (by omega) (by omega)
    rw [List.mem_singleton.mp z];rcases (by omega:dq c 0 2=0\/dq c 0 2=1) with e | e
    ·exact .inl (by rw [e])
    ·exact .inr (by rw [e])
  ·rcases KI ha with z | z
   ·exact h.m a z
   ·exact ⟨M,List.mem_singleton.mp z,rM.1,rM.2.1,by rw [List.mem_singleton.mp z];exact rM.2.2⟩
  ·rcases KI ha with z | z
   ·exact h.s a z
   ·exact ⟨T,List.mem_singleton.mp z,hT2⟩
 have e1:=bQ (i:=8) (bY (fl:=ae (af 0) (ae (aD aN (aD aN (af 1) (eK (.int 1))) (af 7)) ah)) (Γ:=[KZ (.list xs),KZ (.int at'),KZ (.int lim),KZ (.int many),some ⟨.lst .leaf,.list os⟩,some ⟨.lst .leaf,.list ms⟩,some ⟨.lst .leaf,.list ss⟩,KZ (.int (r:Nat)),x8,x9,none,none]) (ax (aw rfl) (ax (aG (aG (aw rfl) aM add_int') (aw rfl) add_int') ai)) hc rfl rfl) rfl (by simp)
 have e2:fO 4 (av 3 aq (ae (af 8) (ae (eK (.int 0)) (ae (eK (.int 2)) ah)))) [KZ (.list xs),KZ (.int at'),KZ (.int lim),KZ (.int many),some ⟨.lst .leaf,.list os⟩,some ⟨.lst .leaf,.list ms⟩,some ⟨.lst .leaf,.list ss⟩,KZ (.int (r:Nat)),KZ (.int c),x9,none,none]=_:=
  CC rfl (bY (ax (aw rfl) (ax aM (ax aM ai))) (xE (by omega) (by omega) (by omega) (by omega)) rfl rfl) rfl (by omega)
 have e3:=CC (i:=5) (Γ:=[KZ (.list xs),KZ (.int at'),KZ (.int lim),KZ (.int many),some ⟨.lst .leaf,.list (os++[.int (dq c 0 2)])⟩,some ⟨.lst .leaf,.list ms⟩,some ⟨.lst .leaf,.list ss⟩,KZ (.int (r:Nat)),KZ (.int c),x9,none,none]) rfl (c5 _ rfl rfl) rfl (by omega)
 have e4:=bQ (i:=9) (Γ:=[KZ (.list xs),KZ (.int at'),KZ (.int lim),KZ (.int many),some ⟨.lst .leaf,.list (os++[.int (dq c 0 2)])⟩,some ⟨.lst .leaf,.list (ms++[.list M])⟩,some ⟨.lst .leaf,.list ss⟩,KZ (.int (r:Nat)),KZ (.int c),x9,none,none]) (c6 _ rfl rfl rfl) rfl (by simp)
 have t:aR aA (aD bT (af 9) (az .leaf ah)) [KZ (.list xs),KZ (.int at'),KZ (.int lim),KZ (.int many),some ⟨.lst .leaf,.list (os++[.int (dq c 0 2)])⟩,some ⟨.lst .leaf,.list (ms++[.list M])⟩,some ⟨.lst .leaf,.list ss⟩,KZ (.int (r:Nat)),KZ (.int c),KZ (.list (ts.map .int)),none,none]
   = .ok (decide ((ts.map PyData.int).length=0)) _:=eD (aG (aw rfl) (cN (s:=.leaf) ai rfl rfl rfl) (Bo (GZ rowI_map)))
 cases hz:decide ((ts.map PyData.int).length=0) with
 | true=>
  rw [hz] at t;obtain ⟨o',m',s',y8,y9,f1,f2⟩:=fin _ [dq c (4+many) many] ⟨by simp,by simp,fun t ht=>by rw [List.mem_singleton.mp ht];exact Cm (by omega) (by omega) (by omega) (by omega),List.pairwise_singleton _ _⟩ rfl
  exact ⟨o',m',s',y8,y9,ao e1 (ao e2 (ao e3 (ao e4 (ao (aO t (fun _=>bQ (cN (s:=.leaf) (ax (bY (ax (aw rfl) (ax (aG aM (aw rfl) add_int') (ax (aw rfl) ai))) (xE (by omega) (by omega) (by omega) (by omega)) rfl rfl) ai) rfl rfl rfl) rfl (by simp)) nofun) f1)))),f2⟩
 | false=>
  rw [hz] at t;obtain ⟨o',m',s',y8,y9,f1,f2⟩:=fin _ ts ⟨by omega,(fun z=>by rw [z] at hz;cases hz),(fun t ht=>by have:=hts1 t ht;omega),hts2⟩ rfl
  exact ⟨o',m',s',y8,y9,ao e1 (ao e2 (ao e3 (ao e4 (ao (aO t nofun (fun _=>rfl)) f1)))),f2⟩
theorem qw {xs:List D} {at' lim:Int} (hx:RowI xs) (ha:0<=at') (hl:1<=lim) (hl2:lim<=24):∃(n:Nat) (os ms ss:List D),m__law_world [.list xs,.int at',.int lim]=.ok ⟨W3,bK os ms ss⟩/\Gw (n:Int) n os ms ss/\1<=n/\(n:Int)<=lim:=by
 obtain ⟨c,hc⟩:=E9 hx (k:=at') ha
 have b0:0<=c % lim:=Int.emod_nonneg _ (by omega)
 have b1:c % lim<lim:=Int.emod_lt_of_pos _ (by omega)
 generalize hmm:1+c % lim=many at *
 have e0:aC false 3 (aD aN (eK (.int 1)) (aD dv (av 2 aX (ae (af 0) (ae (af 1) ah))) (af 2))) [KZ (.list xs),KZ (.int at'),KZ (.int lim),none,none,none,none,none,none,none,none,none]
   = .nx [KZ (.list xs),KZ (.int at'),KZ (.int lim),KZ (.int many),none,none,none,none,none,none,none,none]:=by
  rw [<-hmm];exact bQ (aG aM (aG (bY (ax (aw rfl) (ax (aw rfl) ai)) hc rfl rfl) (aw rfl) (cT (by omega))) add_int') rfl (by simp)
 obtain ⟨Γ',e,os,ms,ss,x7,x8,x9,hΓ,hw⟩:=Fc (P:=fun n Γ=>∃os ms ss x7 x8 x9,Γ=[KZ (.list xs),KZ (.int at'),KZ (.int lim),KZ (.int many),some ⟨.lst .leaf,.list os⟩,some ⟨.lst .leaf,.list ms⟩,some ⟨.lst .leaf,.list ss⟩,x7,x8,x9,none,none]/\Gw many n os ms ss) (i:=7) (body:=eW) (cz 0 many.toNat) 0
  [KZ (.list xs),KZ (.int at'),KZ (.int lim),KZ (.int many),some ⟨.lst .leaf,.list []⟩,some ⟨.lst .leaf,.list []⟩,some ⟨.lst .leaf,.list []⟩,none,none,none,none,none] ⟨[],[],[],none,none,none,rfl,rfl,rfl,rfl,fun a ha=>(nomatch ha),fun a ha=>(nomatch ha),fun a ha=>(nomatch ha)⟩ (fun m d Γ hd h1 h2 ⟨os,ms,ss,x7,x8,x9,hΓ,hw⟩=>by
   subst hΓ;obtain ⟨k,hk,rfl⟩:=Cy hd;rw [EO] at h2;rw [Int.zero_add];obtain ⟨os',ms',ss',y8,y9,f1,f2⟩:=nS (at':=at') (lim:=lim) (many:=many) (x8:=x8) (x9:=x9) hx ha (by omega) (by omega) hw (by omega) (r:=k)
   exact ⟨by simp,_,f1,os',ms',ss',_,y8,y9,rfl,f2⟩)
 subst hΓ;rw [EO,Nat.zero_add] at hw;have en:((many.toNat:Nat):Int)=many:=by omega
 refine ⟨many.toNat,os,ms,ss,aT (ao e0 (ao (yM (cN (s:=.leaf) ai rfl rfl rfl) rfl (by simp)) (ao (yM (cN (s:=.leaf) ai rfl rfl rfl) rfl (by simp)) (ao (yM (cN (s:=.leaf) ai rfl rfl rfl) rfl (by simp)) (ao (h9 (pv (k:=many) (ax (aw rfl) ai) rfl (by omega) (by omega)) e) (bf (cG (ax (EB (p:=⟨.lst .leaf,.list os⟩) rfl) (ax (EB (p:=⟨.lst .leaf,.list ms⟩) rfl) (ax (EB (p:=⟨.lst .leaf,.list ss⟩) rfl) ai))) rfl rfl) rfl)))))),by rw [en];exact hw,by omega,by omega⟩
end KQ
namespace KC
open PySem PySem.Spec L2 T
open PyProof.Rows hiding St
noncomputable def dU:FS:=(ba (cF (aD (bI true) (af 0) (eK .none)) (cF (aD (bI true) (af 1) (eK .none)) (aD eN (af 0) (af 1)))))
noncomputable def dt:List KY->Res:=aH 2 dU
noncomputable def fE:FS:=(ba (aE .leaf 3 (aZ (ak (ak (af 0) (eK (.int 2))) (af 2))) (aR br (av 2 dt (ae (ak (af 1) (af 3)) (ae (ak (af 1) (af 2)) ah)))) (af 3)))
noncomputable def cO:List KY->Res:=aH 4 fE
noncomputable def eR:FS:=(b2 (aR aA (aD (cW true) (af 0) (eK bD))) vC aS)
noncomputable def eJ:List KY->Res:=aH 1 eR
noncomputable def fF:FS:=(b2 (dy (aR br (av 2 bL (ae (af 1) (ae (bG bt (ae (ak (af 0) (eK (.int 0))) ah)) ah))))) vC aS)
noncomputable def fx:List KY->Res:=aH 2 fF
noncomputable def eQ:FS:=(ba (aD gSub (eK (.int 1)) (af 0)))
noncomputable def bE:List KY->Res:=aH 1 eQ
noncomputable def kM:FS:=(ay (b2 (aR aA (aD fN (bG bt (ae (af 2) ah)) (bG bt (ae (ak (af 0) (eK (.int 0))) ah)))) (ba (eK (.bool false))) aS)
  (ay (aC false 3 (g5 .leaf 4 5 (af 2) (aR aA (aD (bI true) (af 5) (eK .none))) (af 4)))
  (ba (bG (eO false) (ae (aE .leaf 4 (aZ (af 3)) aL (cF (aD bT (ak (ak (af 0) (eK (.int 0))) (af 4)) (af 1)) (aD (cW false) (ak (af 2) (af 4)) (ak (ak (af 0) (eK (.int 2))) (af 4))))) ah)))))
noncomputable def aB:List KY->Res:=aH 6 kM
noncomputable def j7:FS:=(ba (g5 .leaf 3 4 (af 2) aL (kU (gk (aR br (af 4)) (aR aA (aD bT (ak (ak (af 0) (eK (.int 0))) (af 3)) (af 1)))) (ak (af 4) (eK (.int 0))) (eK .none))))
noncomputable def bW:List KY->Res:=aH 5 j7
noncomputable def gf:FS:=(ay (bg (av 1 dE (ae (af 0) ah)))
  (ay (bg (av 1 eJ (ae (af 1) ah)))
  (bg (av 2 fx (ae (af 0) (ae (af 2) ah))))))
noncomputable def dj:List KY->Res:=aH 3 gf
noncomputable def qC:FS:=(ay (aC false 3 (bG bt (ae (ak (af 0) (eK (.int 0))) ah)))
  (ay (aC false 4 (av 4 cn (ae (af 0) (ae (aE .leaf 5 (aZ (ak (af 0) (eK (.int 0)))) aL (aD bT (af 5) (af 1))) (ae (uw (ae (af 3) ah)) (ae (af 2) ah))))))
  (ba (cb (ae (af 4) (ae (av 3 bW (ae (af 0) (ae (af 1) (ae (aE .leaf 6 (fM (ae (af 3) ah)) aL (av 3 cO (ae (af 0) (ae (af 4) (ae (af 6) ah))))) ah)))) ah))))))
noncomputable def dm:List KY->Res:=aH 7 qC
noncomputable def o9:FS:=(ay (bg (av 3 dj (ae (af 0) (ae (af 1) (ae (af 2) ah)))))
  (ba (av 3 dm (ae (af 0) (ae (af 1) (ae (af 2) ah))))))
noncomputable def wx:List KY->Res:=aH 3 o9
noncomputable def jE:FS:=(ba (cb (ae (ak (af 0) (eK (.int 0))) (ae (ak (af 0) (eK (.int 1))) (ae (aE .leaf 2 (aZ (ak (af 0) (eK (.int 2)))) aL (aE .leaf 3 (aZ (af 2)) (aR aA (aD (cW false) (af 3) (af 1))) (af 3))) ah)))))
noncomputable def bO:List KY->Res:=aH 4 jE
noncomputable def jD:FS:=(ay (aC false 4 (aE .leaf 5 (aZ (af 3)) (aR aA (aD (cW false) (af 5) (af 2))) (af 5)))
  (ba (av 4 cn (ae (av 2 bO (ae (af 0) (ae (af 3) ah))) (ae (aE .leaf 6 (aZ (ak (af 0) (eK (.int 0)))) aL (aD bT (af 6) (af 1))) (ae (af 3) (ae (af 4) ah)))))))
noncomputable def b8:List KY->Res:=aH 7 jD
noncomputable def kL:FS:=(ay (aC false 4 (av 4 b8 (ae (af 0) (ae (af 1) (ae (af 2) (ae (af 3) ah))))))
  (ba (aE .leaf 5 (aZ (af 3)) (aR aA (aD (bI false) (ak (af 4) (af 5)) (eK .none))) (af 5))))
noncomputable def cB:List KY->Res:=aH 6 kL
noncomputable def gB:FS:=(ay (aC true 3 (aE .leaf 9 (aZ (ak (af 0) (eK (.int 0)))) aL (eK .none)))
  (ay (aC false 4 (uw (ae (bG bt (ae (ak (af 0) (eK (.int 0))) ah)) ah)))
  (ay (aC false 5 (eK (.int 0)))
  (ay (aC false 6 (av 4 cB (ae (af 0) (ae (af 1) (ae (af 2) (ae (af 4) ah))))))
  (ay (u6 1000 (aR br (af 6))
  (ay (aC false 7 (av 4 cn (ae (av 2 bO (ae (af 0) (ae (af 4) ah))) (ae (aE .leaf 9 (aZ (ak (af 0) (eK (.int 0)))) aL (aD fN (af 9) (af 1))) (ae (af 4) (ae (af 6) ah))))))
  (ay (fI 8 (aZ (af 4))
  (b2 (aR aA (aD (bI true) (ak (af 7) (af 8)) (eK .none))) (da 3 (cb (ae (af 5) (ae (ak (af 7) (af 8)) ah))) (af 8)) aS))
  (ay (fT 5 (eK (.int 1)))
  (ay (aC false 4 (aE .leaf 8 (aZ (af 4)) (aR aA (aD (bI false) (ak (af 3) (af 8)) (eK .none))) (af 8)))
  (aC false 6 (av 4 cB (ae (af 0) (ae (af 1) (ae (af 2) (ae (af 4) ah)))))))))))
  (ba (cb (ae (cX 3) (ae (af 4) ah)))))))))
noncomputable def bV:List KY->Res:=aH 10 gB
noncomputable def fJ:FS:=(ba (kU (aR aA (aD bT (ak (af 0) (af 1)) (eK (.int 0)))) (aD (bI true) (ak (af 0) (af 2)) (eK .none)) (av 2 dt (ae (ak (af 0) (af 2)) (ae (ak (af 0) (af 1)) ah)))))
noncomputable def dr:List KY->Res:=aH 3 fJ
noncomputable def dS:FS:=(ay (aC false 3 (ak (af 0) (af 1)))
  (ay (aC false 4 (ak (af 0) (af 2)))
  (ay (b2 (mT (aR aA (aD (bI false) (af 3) (eK .none))) (aR aA (aD (bI false) (af 4) (eK .none)))) (ba (eK (.bool false))) aS)
  (ay (b2 (aR aA (aD fN (ak (af 3) (eK (.int 0))) (ak (af 4) (eK (.int 0))))) (ba (aD eN (ak (af 4) (eK (.int 0))) (ak (af 3) (eK (.int 0))))) aS)
  (ba (DO (aD eN (ak (af 4) (eK (.int 1))) (ak (af 3) (eK (.int 1)))) (cF (aD bT (ak (af 3) (eK (.int 1))) (eK (.int 0))) (aD bT (ak (af 4) (eK (.int 1))) (eK (.int 0))))))))))
noncomputable def cC:List KY->Res:=aH 5 dS
noncomputable def xg:FS:=(ay (bg (av 3 dj (ae (af 0) (ae (af 1) (ae (af 2) ah)))))
  (ay (aC false 3 (av 3 bV (ae (af 0) (ae (af 1) (ae (af 2) ah)))))
  (ay (aC false 4 (ak (af 3) (eK (.int 0))))
  (ay (aC false 5 (av 4 b8 (ae (af 0) (ae (af 1) (ae (af 2) (ae (ak (af 3) (eK (.int 1))) ah))))))
  (ay (aC false 6 (g5 .leaf 9 10 (ak (af 0) (eK (.int 2))) aL (aE .leaf 8 (aZ (af 10)) (aR br (av 3 dr (ae (af 5) (ae (af 9) (ae (af 8) ah))))) (af 8))))
  (ay (aC false 7 (g5 .leaf 9 10 (ak (af 0) (eK (.int 2))) aL (aE .leaf 8 (aZ (af 10)) (aR br (av 3 cC (ae (af 4) (ae (af 9) (ae (af 8) ah))))) (af 8))))
  (ba (cb (ae (af 5) (ae (av 3 bW (ae (af 0) (ae (af 1) (ae (af 6) ah)))) (ae (af 4) (ae (av 3 bW (ae (af 0) (ae (av 1 bE (ae (af 1) ah)) (ae (af 7) ah)))) ah))))))))))))
noncomputable def wz:List KY->Res:=aH 11 xg
noncomputable def d5:FS:=(ba (g5 .leaf 1 2 (af 0) (aR aA (aD (bI false) (af 2) (eK .none))) (af 1)))
noncomputable def cg:List KY->Res:=aH 3 d5
noncomputable def eP:FS:=(ba (aE .leaf 3 (aZ (ak (ak (af 0) (eK (.int 2))) (af 2))) (gk (aR aA (aD (cW false) (af 2) (af 1))) (aR aA (aD (cW false) (af 3) (af 1)))) (af 3)))
noncomputable def bS:List KY->Res:=aH 4 eP
noncomputable def Bu:FS:=(ay (bg (av 3 dj (ae (af 0) (ae (af 1) (ae (af 2) ah)))))
  (ay (aC false 3 (av 3 dm (ae (af 0) (ae (av 1 bE (ae (af 1) ah)) (ae (av 2 bN (ae (af 0) (ae (af 2) ah))) ah)))))
  (ay (aC false 4 (av 1 cg (ae (ak (af 3) (eK (.int 0))) ah)))
  (ay (aC false 5 (av 3 bW (ae (af 0) (ae (af 1) (ae (aE .leaf 6 (fM (ae (bG bt (ae (ak (af 0) (eK (.int 0))) ah)) ah)) aL (av 3 bS (ae (af 0) (ae (af 4) (ae (af 6) ah))))) ah)))))
  (ba (cb (ae (af 4) (ae (af 5) (ae (ak (af 3) (eK (.int 0))) (ae (ak (af 3) (eK (.int 1))) ah))))))))))
noncomputable def AG:List KY->Res:=aH 7 Bu
open PySem.SeqAt
theorem Da {α:Type} {l:List α} {n:Nat} (d:α) (h:l.length=n):l=(List.range n).map fun r=>l.getD r d:=by
 apply ext_getElem?
 intro k;rw [getElem?_map];by_cases hk:k<n
 ·rw [getElem?_range hk]
  show l[k]?=some (l.getD k d)
  rw [KM,KL (by omega)]
  rfl
 ·rw [getElem?_eq_none (by omega),getElem?_eq_none (by simp;omega)]
  rfl
theorem mU {n:Nat} {fl:FL} {Γ:Ev} {s:Sh} (hn:n<=1000) (h:fl Γ=.ok [⟨s,.int (n:Int)⟩] Γ):fM fl Γ=.ok ⟨(List.range n).map rm,true⟩ Γ:=by
 rw [pv (k:=(n:Int)) h rfl (by omega) (by omega),Int.toNat_natCast,ER]
theorem yD {n:Nat} {fl:FL} {Γ:Ev} {s:Sh} (hn:n<=1000) (h:fl Γ=.ok [⟨s,.int (n:Int)⟩] Γ):uw fl Γ=.ok ⟨.lst .leaf,aI (List.range n)⟩ Γ:=by
 rw [CS (k:=(n:Int)) h rfl (by omega) (by omega),Int.toNat_natCast,ER]
section
variable {i j:Nat} {fc:FB} {fe:F1} {s:Sh} {Γ:Ev} {e:Nat->D} {c:Nat->Bool} {f:Nat->PV}
noncomputable abbrev Γ2 (Γ:Ev) (i j:Nat) (e:Nat->D) (r:Nat):Ev:=(Γ.set i (KZ (.int (r:Nat)))).set j (KZ (e r))
theorem Ho (hij:i≠j) (hΓ:(Γ.set i none).set j none=Γ):∀(m k:Nat) (acc:List D),(∀r,k<=r->r<k+m->fc (Γ2 Γ i j e r)=.ok (c r) (Γ2 Γ i j e r)) ->
  (∀r,k<=r->r<k+m->c r=true->fe (Γ2 Γ i j e r)=.ok (f r) (Γ2 Γ i j e r)/\coer s (f r)=true)->acc.length+m<=sizeLine->rl i j fc fe s k ((List.range' k m).map e) Γ acc=.ok (acc++(((List.range' k m).filter c).map fun r=>(f r).d)) Γ
 | 0,k,acc,_,_,_=>by simp [rl]
 | m+1,k,acc,hc,he,hl=>by
  have h1:=hc k (KW _) (by omega)
  have hl1:acc.length<sizeLine:=by omega
  have back:((Γ2 Γ i j e k).set i none).set j none=Γ:=by
   unfold Γ2;rw [List.set_comm _ _ (Ne.symm hij),set_set,set_set];exact hΓ
  rw [List.range'_succ,map_cons,rl];have h1:fc ((Γ.set i (KZ (.int (k:Nat)))).set j (KZ (e k)))=_:=h1
  rw [h1]
  cases hcd:c k with
  | false=>
   dsimp only;rw [if_pos hl1,back,Ho hij hΓ m (k+1) acc (fun r h1 h2=>hc r (by omega) (by omega)) (fun r h1 h2=>he r (by omega) (by omega)) (by omega)]
   rw [List.filter_cons_of_neg (by rw [hcd];exact Bool.false_ne_true)]
  | true=>
   obtain ⟨h2,h3⟩:=he k (KW _) (by omega) hcd
   dsimp only;rw [h2];dsimp only;rw [h3,decide_eq_true hl1,Bool.and_self,if_pos rfl,back,Ho hij hΓ m (k+1) (acc++[(f k).d]) (fun r h1 h2=>hc r (by omega) (by omega)) (fun r h1 h2=>he r (by omega) (by omega)) (by simp only [length_append,length_cons,List.length_nil];omega)]
   rw [List.filter_cons_of_pos hcd,map_cons,append_assoc];rfl
theorem EX (e:Nat->D) (n:Nat) (c:Nat->Bool) (f:Nat->PV) {fa:F1} {st:Bool} (hi:aZ fa Γ=.ok ⟨(List.range n).map e,st⟩ Γ) (h1:Γ[i]?=some none) (h2:Γ[j]?=some none) (hij:i≠j) (hs:s.isView=false) (hn:n<=10000)
  (hc:∀r,r<n->fc (Γ2 Γ i j e r)=.ok (c r) (Γ2 Γ i j e r)) (he:∀r,r<n->c r=true->fe (Γ2 Γ i j e r)=.ok (f r) (Γ2 Γ i j e r)/\coer s (f r)=true) :
  g5 s i j fa fc fe Γ=.ok ⟨.lst s,.list (((List.range n).filter c).map fun r=>(f r).d)⟩ Γ:=by
 have hb:(10000:Nat)<=sizeLine:=by decide
 unfold g5;rw [hi];unfold Out.bind;dsimp only;rw [h1,h2,hs];have hΓ:(Γ.set i none).set j none=Γ:=by rw [va h1,va h2]
 rw [List.range_eq_range',Ho (c:=c) (f:=f) hij hΓ n 0 [] (fun r _ h=>hc r (by omega)) (fun r _ h=>he r (by omega)) (by simp;omega)]
 rfl
theorem Ff (e:Nat->D) (n:Nat) (f:Nat->PV) {fa:F1} {st:Bool} (hi:aZ fa Γ=.ok ⟨(List.range n).map e,st⟩ Γ) (h1:Γ[i]?=some none) (h2:Γ[j]?=some none) (hij:i≠j) (hs:s.isView=false) (hn:n<=10000)
  (he:∀r,r<n->fe (Γ2 Γ i j e r)=.ok (f r) (Γ2 Γ i j e r)/\coer s (f r)=true) :
  g5 s i j fa aL fe Γ=.ok ⟨.lst s,.list ((List.range n).map fun r=>(f r).d)⟩ Γ:=by
 have:=EX (fc:=aL) e n (fun _=>true) f hi h1 h2 hij hs hn (fun _ _=>rfl) fun r hr _=>he r hr
 rw [this,List.filter_eq_self.mpr fun _ _=>rfl]
end
theorem gA {p:Int} (h:p=0\/p=1):eJ [.int p]=.ok ⟨.leaf,.none⟩:=by
 have:cW true (.int p) bD=some (.bool false):=by rcases h with rfl | rfl<;>kernel_rfl
 refine fu (Γ:=aV 1 [.int p]) ?_
 simp [eR,aV,this]
theorem rms_int {r:List Nat}:r.map rm=(r.map fun t:Nat=>(t:Int)).map PyData.int:=by rw [map_map];rfl
theorem Std.sorted {n:Nat} {L:List Nat} (h:Std n L):L.Pairwise (· < ·):=by
 obtain ⟨q,rfl⟩:=h;exact List.Pairwise.filter _ List.pairwise_lt_range
theorem fY {n:Nat} (h24:n<=24) {R:List Nat} (h:Std n R):bL [aI R,.int (n:Int)]=.ok ⟨.leaf,.bool true⟩:=by
 have hl:=h.len
 rw [aI,rms_int,HH rowI_map (by simp;omega)]
 have h1:((R.map fun t:Nat=>(t:Int)).map PyData.int).all (inR (n:Int))=true:=by
  rw [all_eq_true];intro d hd;obtain ⟨i,hi,rfl⟩:=List.mem_map.mp hd;obtain ⟨t,ht,rfl⟩:=List.mem_map.mp hi;have:=h.lt t ht
  simp [inR]
  omega
 have h2:dz ((R.map fun t:Nat=>(t:Int)).map PyData.int)=true:=lG (by
  rw [List.pairwise_map];exact h.sorted.imp fun h=>by omega)
 rw [h1,h2];rfl
theorem gZ {w:Wd} (ok:w.Ok) {R:List Nat} (h:Std w.n R):fx [w.enc,aI R]=.ok ⟨.leaf,.none⟩:=by
 have lo:=ok.g.lo
 have:=fY ok.h24 h
 refine fu (Γ:=aV 2 [w.enc,aI R]) ?_
 simp [fF,aV,Wd.enc,bK,lo,this]
theorem B2 {w:Wd} (ok:w.Ok) {p:Int} (hp:p=0\/p=1) {R:List Nat} (h:Std w.n R):dj [w.enc,.int p,aI R]=.ok ⟨.leaf,.none⟩:=by
 have c1:=ok.check
 have c2:=gA hp
 have c3:=gZ ok h
 refine fu (Γ:=aV 3 [w.enc,.int p,aI R]) ?_
 simp [gf,aV,c1,c2,c3]
theorem Wd.Ok0.s_range {w:Wd} (ok:w.Ok0):w.s.map aI=(List.range w.n).map fun r=>aI (w.stp r):=by
 conv=>lhs;rw [Da (l:=w.s) [] ok.ls]
 rw [map_map];rfl
noncomputable def qh (p:Int):D->Bool
 | .int o=>o==p
 | _=>false
noncomputable def own (w:Wd) (p:Int):Nat->Bool:=hJ (w.os.map (qh p))
theorem Wd.Ok.o_at {w:Wd} (ok:w.Ok) {r:Nat} (hr:r<w.n):∃o:Int,(o=0\/o=1)/\eY w.os (r:Int)=some (.int o)/\∀p,own w p r=(o==p):=by
 have hl:r<w.os.length:=by rw [ok.g.lo];exact hr
 have hm:=ok.g.o _ (getElem_mem hl)
 have key:∀o:Int,w.os[r]=.int o->eY w.os (r:Int)=some (.int o)/\∀p,own w p r=(o==p):=fun o e=>by
  refine ⟨yI (by rw [KL hl,e]),fun p=>?_⟩
  unfold own hJ;rw [KM,getElem?_map,KL hl,e];rfl
 rcases hm with e | e
 ·exact ⟨0,.inl rfl,key 0 e⟩
 ·exact ⟨1,.inr rfl,key 1 e⟩
theorem RightG.congr {n:Nat} {st:Nat->List Nat} {ch ch':Nat->Bool} {thr goal:List Nat} {rk:List (Option Nat)} (h:RightG n st ch thr goal rk) (e:∀r,r<n->ch r=ch' r):RightG n st ch' thr goal rk:=
 ⟨h.len,h.g,fun r k hr hg hk=>by rw [<-e r hr];exact h.p r k hr hg hk,fun r hr hz=>by rw [<-e r hr];exact h.z r hr hz⟩
noncomputable def nE:Option Nat->Option Nat->Bool
 | some a,some b=>decide (a<b)
 | _,_=>false
theorem j4 {a b:Option Nat}:dt [oD a,oD b]=.ok ⟨.leaf,.bool (nE a b)⟩:=by
 refine aT ?_
 cases a with
 | none=>simp [dU,aV,oD,nE,rz]
 | some a=>
  cases b with
  | none=>simp [dU,aV,oD,nE,rz]
  | some b=>simp [dU,aV,oD,nE,rz]
noncomputable def ju (w:Wd) (rk:List (Option Nat)) (r:Nat):List Nat:=(w.stp r).filter fun t=>nE (aQ rk t) (aQ rk r)
theorem gY {w:Wd} (ok:w.Ok) {rk:List (Option Nat)} (hl:rk.length=w.n) {r:Nat} (hr:r<w.n):cO [w.enc,aW rk,rm r]=.ok ⟨.lst .leaf,aI (ju w rk r)⟩:=by
 have a2:=ok.at2 hr
 have a1:=fG (rk:=rk) (t:=r) (by omega)
 have e:aE .leaf 3 (aZ (ak (ak (af 0) (eK (.int 2))) (af 2))) (aR br (av 2 dt (ae (ak (af 1) (af 3)) (ae (ak (af 1) (af 2)) ah)))) (af 3) (aV 4 [w.enc,aW rk,rm r])=.ok ⟨.lst .leaf,.list ((ju w rk r).map fun t=>rm t)⟩ (aV 4 [w.enc,aW rk,rm r]):=by
  refine rD rm (w.stp r) (fun t=>nE (aQ rk t) (aQ rk r)) (fun t=>⟨.leaf,rm t⟩) (st:=true) (by simp [aV,Wd.enc,bK,a2]) (by simp [aV]) rfl ok.z.len (fun t ht=>?_) (fun t ht _=>?_)
  ·have a3:=fG (rk:=rk) (t:=t) (by rw [hl];exact ok.stp_lt ht)
   have dl:=j4 (a:=aQ rk t) (b:=aQ rk r)
   simp [aV,a1,a3,dl]
  ·simp [aV]
 refine aT ?_
 unfold fE;rw [lM,e];rfl
noncomputable def dD (w:Wd) (p:Int) (sd:Nat->List Nat):List (Option Nat):=(List.range w.n).map fun r=>if own w p r then (sd r).head? else none
theorem FC {w:Wd} (ok:w.Ok) {p:Int} {sd:Nat->List Nat}:bW [w.enc,.int p,.list ((List.range w.n).map fun r=>aI (sd r))]=.ok ⟨.lst .leaf,aW (dD w p sd)⟩:=by
 have h24:=ok.h24
 have e:g5 .leaf 3 4 (af 2) aL (kU (gk (aR br (af 4)) (aR aA (aD bT (ak (ak (af 0) (eK (.int 0))) (af 3)) (af 1)))) (ak (af 4) (eK (.int 0))) (eK .none)) (aV 5 [w.enc,.int p,.list ((List.range w.n).map fun r=>aI (sd r))])=.ok ⟨.lst .leaf,.list ((List.range w.n).map fun r=>(⟨.leaf,oD (if own w p r then (sd r).head? else none)⟩:PV).d)⟩ (aV 5 [w.enc,.int p,.list ((List.range w.n).map fun r=>aI (sd r))]):=by
  refine Ff (fun r=>aI (sd r)) w.n (fun r=>⟨.leaf,oD (if own w p r then (sd r).head? else none)⟩) (st:=true) (by simp [aV]) rfl rfl (by omega) rfl (by omega) (fun r hr=>⟨?_,rfl⟩)
  obtain ⟨o,_,a0,ho⟩:=ok.o_at hr;rw [ho p]
  cases hs:sd r with
  | nil=>simp [Γ2,aV,hs,oD]
  | cons t l=>
   by_cases eo:o=p
   ·simp [Γ2,aV,hs,Wd.enc,bK,a0,eq_int,eo,oD]
   ·simp [Γ2,aV,hs,Wd.enc,bK,a0,eq_int,eo,oD]
 refine aT ?_
 unfold j7;rw [lM,e];simp [dD]
theorem gH {w:Wd} (ok:w.Ok) {p:Int} {R:List Nat} (hR:Std w.n R) :
  ∃rk,dm [w.enc,.int p,aI R]=.ok ⟨.tup [.leaf,.lst .leaf],.tuple [aW rk,aW (dD w p (ju w rk))]⟩/\RightG w.n w.stp (own w p) (List.range w.n) R rk/\Jv w.stp (own w p) R rk:=by
 have lo:=ok.g.lo
 have h24:=ok.h24
 obtain ⟨rk,e,Rt,fw⟩:=Hy ok.z (cl:=w.os.map (qh p)) (thr:=List.range w.n) (goal:=R) (by rw [length_map];exact lo) (fun r hr=>ok.stp_ne (List.mem_range.mp hr)) (fun r hr=>List.mem_range.mp hr) (by simp;omega) hR.lt (by have:=hR.len;omega)
 refine ⟨rk,?_,Rt,fw⟩
 have c1:aE .leaf 5 (aZ (ak (af 0) (eK (.int 0)))) aL (aD bT (af 5) (af 1)) [KZ w.enc,KZ (.int p),KZ (aI R),KZ (.int (w.n:Int)),none,none,none]=.ok ⟨.lst .leaf,mQ (w.os.map (qh p))⟩ [KZ w.enc,KZ (.int p),KZ (aI R),KZ (.int (w.n:Int)),none,none,none]:=by
  have:=m8 (fun d:D=>d) w.os (fun d=>⟨.leaf,.bool (qh p d)⟩) (s:=.leaf) (i:=5) (fi:=aZ (ak (af 0) (eK (.int 0)))) (fe:=aD bT (af 5) (af 1)) (st:=true) (Γ:=[KZ w.enc,KZ (.int p),KZ (aI R),KZ (.int (w.n:Int)),none,none,none]) (by simp [Wd.enc,bK]) (by simp) rfl (by omega) (fun d hd=>by
   rcases ok.g.o d hd with rfl | rfl<;>simp [eq_int,qh])
  rw [this];simp
 have c2:uw (ae (af 3) ah) [KZ w.enc,KZ (.int p),KZ (aI R),KZ (.int (w.n:Int)),none,none,none]=.ok ⟨.lst .leaf,aI (List.range w.n)⟩ [KZ w.enc,KZ (.int p),KZ (aI R),KZ (.int (w.n:Int)),none,none,none]:=by
  exact yD (s:=.leaf) (n:=w.n) (by omega) (by simp)
 have c3:aE .leaf 6 (fM (ae (af 3) ah)) aL (av 3 cO (ae (af 0) (ae (af 4) (ae (af 6) ah)))) [KZ w.enc,KZ (.int p),KZ (aI R),KZ (.int (w.n:Int)),KZ (aW rk),none,none]=.ok ⟨.lst .leaf,.list ((List.range w.n).map fun r=>aI (ju w rk r))⟩ [KZ w.enc,KZ (.int p),KZ (aI R),KZ (.int (w.n:Int)),KZ (aW rk),none,none]:=by
  refine m8 rm (List.range w.n) (fun r=>⟨.lst .leaf,aI (ju w rk r)⟩) (st:=true) ?_ (by simp) rfl (by simp;omega) (fun r hr=>⟨?_,rfl⟩)
  ·exact mU (s:=.leaf) (n:=w.n) (by omega) (by simp)
  ·have:=gY ok Rt.len (List.mem_range.mp hr)
   simp [this]
 have pl:=FC ok (p:=p) (sd:=ju w rk)
 refine aT (ao (Γ1:=[KZ w.enc,KZ (.int p),KZ (aI R),KZ (.int (w.n:Int)),none,none,none]) (by simp [aV,Wd.enc,bK,lo]) (ao (bQ (bY (ax (aw rfl) (ax c1 (ax c2 (ax (aw rfl) ai)))) e rfl rfl) rfl (by simp)) (bf (cG (ax (aw rfl) (ax (bY (ax (aw rfl) (ax (aw rfl) (ax c3 ai))) pl rfl rfl) ai)) rfl rfl) rfl)))
theorem qz {w:Wd} (ok:w.Ok) {p:Int} (hp:p=0\/p=1) {R:List Nat} (hR:Std w.n R) :
  ∃rk,wx [w.enc,.int p,aI R]=.ok ⟨.tup [.leaf,.lst .leaf],.tuple [aW rk,aW (dD w p (ju w rk))]⟩/\RightG w.n w.stp (own w p) (List.range w.n) R rk/\Jv w.stp (own w p) R rk:=by
 obtain ⟨rk,e,h⟩:=gH ok (p:=p) hR
 refine ⟨rk,?_,h⟩
 have c:=B2 ok hp hR
 refine aT ?_
 simp [o9,aV,c,e]
noncomputable def uX (n:Nat) (rk:List (Option Nat)):List Nat:=(List.range n).filter fun r=>(aQ rk r).isNone
theorem Fl {rk:List (Option Nat)} {n:Nat} (h:rk.length=n):rk.map oD=(List.range n).map fun r=>oD (aQ rk r):=by
 conv=>lhs;rw [Da (l:=rk) none h]
 rw [map_map];rfl
theorem mz {n:Nat} {rk:List (Option Nat)} (h:rk.length=n) (hn:n<=1000):cg [aW rk]=.ok ⟨.lst .leaf,aI (uX n rk)⟩:=by
 have e:g5 .leaf 1 2 (af 0) (aR aA (aD (bI false) (af 2) (eK .none))) (af 1) (aV 3 [aW rk])=.ok ⟨.lst .leaf,.list ((uX n rk).map fun r=>rm r)⟩ (aV 3 [aW rk]):=by
  refine EX (fun r=>oD (aQ rk r)) n (fun r=>(aQ rk r).isNone) (fun r=>⟨.leaf,rm r⟩) (st:=true) ?_ rfl rfl (by omega) rfl (by omega) (fun r hr=>?_) (fun r hr _=>?_)
  ·simp only [aV,aW,Fl h]
   simp
  ·simp [Γ2,aV]
  ·simp [Γ2,aV]
 refine aT ?_
 unfold d5;rw [lM,e];rfl
noncomputable def pk (w:Wd) (K:List Nat) (r:Nat):List Nat:=(w.stp r).filter fun t=>K.contains r&&K.contains t
theorem mB {w:Wd} (ok:w.Ok) {K:List Nat} {r:Nat} (hr:r<w.n):bS [w.enc,aI K,rm r]=.ok ⟨.lst .leaf,aI (pk w K r)⟩:=by
 have a2:=ok.at2 hr
 have e:aE .leaf 3 (aZ (ak (ak (af 0) (eK (.int 2))) (af 2))) (gk (aR aA (aD (cW false) (af 2) (af 1))) (aR aA (aD (cW false) (af 3) (af 1)))) (af 3) (aV 4 [w.enc,aI K,rm r])=.ok ⟨.lst .leaf,.list ((pk w K r).map fun t=>rm t)⟩ (aV 4 [w.enc,aI K,rm r]):=by
  refine rD rm (w.stp r) (fun t=>K.contains r&&K.contains t) (fun t=>⟨.leaf,rm t⟩) (st:=true) (by simp [aV,Wd.enc,bK,a2]) (by simp [aV]) rfl ok.z.len (fun t ht=>?_) (fun t ht _=>?_)
  ·exact yA (eD (s:=.leaf) (aG (aw rfl) (aw rfl) Cn)) (eD (s:=.leaf) (aG (aw rfl) (aw rfl) Cn))
  ·simp [aV]
 refine aT ?_
 unfold eP;rw [lM,e];rfl
theorem HF {p:Int}:bE [.int p]=.ok ⟨.leaf,.int (1-p)⟩:=by
 refine aT ?_
 simp [eQ,aV]
theorem uB {w:Wd} (ok:w.Ok) {p:Int} (hp:p=0\/p=1) {R:List Nat} (hR:Std w.n R) :
  ∃rk,AG [w.enc,.int p,aI R]=.ok ⟨.tup [.leaf,.leaf,.leaf,.leaf],.tuple [aI (uX w.n rk),aW (dD w p (pk w (uX w.n rk))),aW rk,aW (dD w (1-p) (ju w rk))]⟩/\RightG w.n w.stp (own w (1-p)) (List.range w.n) ((List.range w.n).filter fun t=>!R.contains t) rk:=by
 have lo:=ok.g.lo
 have h24:=ok.h24
 obtain ⟨rk,e,Rt,_⟩:=gH ok (p:=1-p) (R:=(List.range w.n).filter fun t=>!R.contains t) (Std.of _)
 refine ⟨rk,?_,Rt⟩
 have c:=B2 ok hp hR
 have co:=d3 ok (r:=R)
 have cp:=HF (p:=p)
 have cw:=mz Rt.len (by omega)
 have pl:=FC ok (p:=p) (sd:=pk w (uX w.n rk))
 have c3:aE .leaf 6 (fM (ae (bG bt (ae (ak (af 0) (eK (.int 0))) ah)) ah)) aL (av 3 bS (ae (af 0) (ae (af 4) (ae (af 6) ah)))) [KZ w.enc,KZ (.int p),KZ (aI R),KZ (.tuple [aW rk,aW (dD w (1-p) (ju w rk))]),KZ (aI (uX w.n rk)),none,none]=.ok ⟨.lst .leaf,.list ((List.range w.n).map fun r=>aI (pk w (uX w.n rk) r))⟩ [KZ w.enc,KZ (.int p),KZ (aI R),KZ (.tuple [aW rk,aW (dD w (1-p) (ju w rk))]),KZ (aI (uX w.n rk)),none,none]:=by
  refine m8 rm (List.range w.n) (fun r=>⟨.lst .leaf,aI (pk w (uX w.n rk) r)⟩) (st:=true) ?_ (by simp) rfl (by simp;omega) (fun r hr=>⟨?_,rfl⟩)
  ·exact mU (s:=.leaf) (n:=w.n) (by omega) (by simp [Wd.enc,bK,lo])
  ·have:=mB ok (K:=uX w.n rk) (List.mem_range.mp hr)
   simp [this]
 refine aT (ao (d7 (bY (ax (aw rfl) (ax (aw rfl) (ax (aw rfl) ai))) c rfl rfl)) (ao (bQ (bY (ax (aw rfl) (ax (bY (ax (aw rfl) ai) cp rfl rfl) (ax (bY (ax (aw rfl) (ax (aw rfl) ai)) co rfl rfl) ai))) e rfl rfl) rfl (by simp [aV])) (ao (bQ (bY (ax (gJ (j:=0) (aw rfl) aM rfl rfl rfl) ai) cw rfl rfl) rfl (by simp [aV])) (ao (bQ (bY (ax (aw rfl) (ax (aw rfl) (ax c3 ai))) pl rfl rfl) rfl (by simp [aV])) (bf (cG (ax (aw rfl) (ax (aw rfl) (ax (gJ (j:=0) (aw rfl) aM rfl rfl rfl) (ax (gJ (j:=1) (aw rfl) aM rfl rfl rfl) ai)))) rfl rfl) rfl)))))
structure iW (w:Wd) (p:Int) (pl:List (Option Nat)):Prop where
 len:pl.length=w.n
 st:∀r t,r<w.n->aQ pl r=some t->own w p r=true/\t∈w.stp r
noncomputable def IZ (w:Wd) (pl:List (Option Nat)):Wd:=⟨w.n,w.os,w.m,(List.range w.n).map fun r=>match aQ pl r with | some t=>[t] | none=>w.stp r⟩
theorem FA {w:Wd} (ok:w.Ok) {p:Int} {pl:List (Option Nat)} (h:iW w p pl):aB [w.enc,.int p,aW pl]=.ok ⟨.leaf,.bool true⟩:=by
 have lo:=ok.g.lo
 have h24:=ok.h24
 have hl:=h.len
 have e1:g5 .leaf 4 5 (af 2) (aR aA (aD (bI true) (af 5) (eK .none))) (af 4) [KZ w.enc,KZ (.int p),KZ (aW pl),none,none,none]=.ok ⟨.lst .leaf,.list (((List.range w.n).filter fun r=>!(aQ pl r).isNone).map fun r=>rm r)⟩ [KZ w.enc,KZ (.int p),KZ (aW pl),none,none,none]:=by
  refine EX (fun r=>oD (aQ pl r)) w.n (fun r=>!(aQ pl r).isNone) (fun r=>⟨.leaf,rm r⟩) (st:=true) ?_ rfl rfl (by omega) rfl (by omega) (fun r hr=>?_) (fun r hr _=>?_)
  ·simp only [aW,Fl h.len]
   simp
  ·simp [Γ2]
  ·simp [Γ2]
 have e2:aE .leaf 4 (aZ (af 3)) aL (cF (aD bT (ak (ak (af 0) (eK (.int 0))) (af 4)) (af 1)) (aD (cW false) (ak (af 2) (af 4)) (ak (ak (af 0) (eK (.int 2))) (af 4)))) [KZ w.enc,KZ (.int p),KZ (aW pl),KZ (aI ((List.range w.n).filter fun r=>!(aQ pl r).isNone)),none,none]=.ok ⟨.lst .leaf,.list (((List.range w.n).filter fun r=>!(aQ pl r).isNone).map fun r=>.bool true)⟩ [KZ w.enc,KZ (.int p),KZ (aW pl),KZ (aI ((List.range w.n).filter fun r=>!(aQ pl r).isNone)),none,none]:=by
  refine m8 rm _ (fun r=>⟨.leaf,.bool true⟩) (st:=true) (by simp) (by simp) rfl (Nat.le_trans (length_filter_le _ _) (by simp;omega)) (fun r hr=>⟨?_,rfl⟩)
  obtain ⟨h1,h2⟩:=List.mem_filter.mp hr;have h1:=List.mem_range.mp h1
  obtain ⟨o,_,a0,ho⟩:=ok.o_at h1;have a1:=fG (rk:=pl) (t:=r) (by omega)
  have a2:=ok.at2 h1
  cases e:aQ pl r with
  | none=>rw [e] at h2;simp at h2
  | some t=>
   obtain ⟨q1,q2⟩:=h.st r t h1 e;rw [ho p] at q1;have q1:o=p:=by simpa using q1
   subst q1;rw [e] at a1;have i1:cW false (rm t) (aI (w.stp r))=some (.bool true):=by rw [Cn];simp [q2]
   refine v_and (s:=.leaf) (b:=true) (a:=true) ?_ ?_
   ·simp [Wd.enc,bK,a0,eq_int]
   ·simp [Wd.enc,bK,a1,a2,oD,i1]
 have g1:eO false [.list (((List.range w.n).filter fun r=>!(aQ pl r).isNone).map fun r=>PyData.bool true)]=some (.bool true):=by
  have:=mw (bs:=((List.range w.n).filter fun r=>!(aQ pl r).isNone).map fun _=>true)
  rw [map_map] at this;refine this.trans ?_
  simp
 refine aT (ao (Γ1:=aV 6 [w.enc,.int p,aW pl]) ?_ (ao (bQ e1 rfl (by simp)) (bf (cE (ax e2 ai) g1) rfl)))
 simp [aV,Wd.enc,bK,lo,hl,ne_int]
end KC
namespace T
open PySem PySem.Spec L2
open PyProof.Rows hiding St
def Jr (K:Fg) (a b:Addr):It:=
 ⟨fun i H=>∃xs ys x y,SqL K H a xs/\SqL K H b ys/\xs[i]?=some x/\ys[i]?=some y,fun i H x H'=>∃T v w,x=.ref T/\H T=none/\H'=bZ H T (.tup [v,w])/\∀xs ys,SqL K H a xs->SqL K H b ys->xs[i]?=some v/\ys[i]?=some w,fun i H=>∃xs ys,SqL K H a xs/\SqL K H b ys/\i=min xs.length ys.length⟩
theorem rS {P:Program} {w:World} {K:Fg} {elts:List Expr} {k:Nat} {pos:Pos} (a b z TI TO i1 i2:Addr) (D:ZipApart z TI TO i1 i2 a b) :
  nT P w K (.Tuple elts k pos) (Jr K a b) [z,TI,TO,i1,i2] z (fun i h=>IsZip h z TI TO .none/\IsPair h TI (.ref i1) (.ref i2)/\(∃a b,IsPair h TO a b)/\h.IsListIter i1 a i/\h.IsListIter i2 b i) where
 mem:=by simp
 obj:=fun i h st c hc=>by
  obtain ⟨hz,hTI,⟨u,v,hTO⟩,⟨o1,e1,c1,d1⟩,⟨o2,e2,c2,d2⟩⟩:=st;simp only [mem_cons,not_mem_nil,or_false] at hc
  rcases hc with rfl | rfl | rfl | rfl | rfl
  ·exact ⟨_,hz,fun v z=>by
    have z':Data.fields _=Data.cell v:=z
    cases z'⟩
  ·exact ⟨_,hTI,fun v z=>by
    have z':Data.seq _ _=Data.cell v:=z
    cases z'⟩
  ·exact ⟨_,hTO,fun v z=>by
    have z':Data.seq _ _=Data.cell v:=z
    cases z'⟩
  ·exact ⟨o1,e1,fun v z=>by rw [d1] at z;cases z⟩
  ·exact ⟨o2,e2,fun v z=>by rw [d2] at z;cases z⟩
 keep:=fun i h h' st kk=>by
  obtain ⟨hz,hTI,⟨u,v,hTO⟩,h1,h2⟩:=st;exact ⟨kk z (by simp) _ hz,kk TI (by simp) _ hTI,⟨u,v,kk TO (by simp) _ hTO⟩,h1.at fun o q=>kk i1 (by simp) o q,h2.at fun o q=>kk i2 (by simp) o q⟩
 item:=by
  intro X hP hw hK hc i pins s σ H E I hf st hg;subst hP hw hK;obtain ⟨xs,ys,x,y,hq,hq2,hx,hy⟩:=hg;obtain ⟨its,rv,p,hz⟩:=I.list hq;obtain ⟨its2,rv2,p2,hz2⟩:=I.list hq2;obtain ⟨u,hu,ru⟩:=rv.get hx;obtain ⟨u2,hu2,ru2⟩:=rv2.get hy;have W:=WalksT.zip2 (prog:=X.prog) (w:=X.w) (A:=X.A) (I.ok.hd hc) z TI TO i1 i2 a b D its.toArray its2.toArray
  have hil:i<min its.toArray.size its2.toArray.size:=by
   have h1:=(KP hu).1
   have h2:=(KP hu2).1
   rw [size_toArray,size_toArray];omega
  refine W.item i s _ _ hil ⟨st.1,st.2.1,st.2.2.1,st.2.2.2.1,st.2.2.2.2,p.isList,p2.isList⟩ fun T vals h' tk hv hT hTT hMid kk=>?_
  obtain ⟨y1,y2,e1,e2,rfl⟩:=hv;have ey:y1=u:=by
   rw [getElem?_toArray,hu] at e1;exact (Option.some.inj e1).symm
  have ey2:y2=u2:=by
   rw [getElem?_toArray,hu2] at e2;exact (Option.some.inj e2).symm
  subst ey ey2;refine ⟨.ref T,rfl,W.go elts k pos i T _ _ _ hMid fun h2 st2 kk2=>?_⟩
  have hTn:H T=none:=I.hok.fresh hT
  have hTw:T∉[z,TO,i1,i2]:=W.apart i T _ hMid
  have sub:∀c∈[z,TO,i1,i2],c∈[z,TI,TO,i1,i2]:=fun c hc=>by
   simp only [mem_cons,not_mem_nil,or_false] at hc ⊢
   rcases hc with h | h | h | h<;>simp [h]
  have kAll:∀c o,c∉[z,TI,TO,i1,i2]->s.heap.get? c=some o->h2.get? c=some o:=fun c o hb q=>kk2 c o (fun q=>hb (sub c q)) (kk c o (fun q=>hb (sub c q)) q)
  have I1:L2.Inv X pins σ H { s with heap:=h2,toks:=tk }:=Inv.turnedL I kAll hf
  have tT:h2.IsTuple T #[y1,y2]:=by
   obtain ⟨o,q1,q2⟩:=hTT;exact ⟨o,kk2 T o hTw q1,q2⟩
  have hvs:Vals [x,y] [y1,y2]:=.cons ru (.cons ru2 .nil)
  have I3:L2.Inv X pins σ (bZ H T (.tup [x,y])) { s with heap:=h2,toks:=tk }:=Inv.turnedT (t':=tk) I kAll hf hT ⟨by show 2<=sizeLine;decide,[y1,y2],hvs,(show IsTup h2 T _ from tT)⟩
  have hTI:T≠TI:=fun q=>by
   have:=Heap.lt_size st.2.1
   rw [<-q] at this;exact absurd (Nat.lt_of_lt_of_le this hT) (Nat.lt_irrefl _)
  refine ⟨.ref T,bZ H T (.tup [x,y]),I3,rfl,⟨T,x,y,rfl,hTn,rfl,fun xs' ys' h1 h2=>by rw [I.list_inj h1 hq,I.list_inj h2 hq2];exact ⟨hx,hy⟩⟩,⟨st2.1,st2.2.1,st2.2.2.1,st2.2.2.2.1,st2.2.2.2.2.1⟩,fun c hb=>?_⟩
  have hbT:c≠T:=fun q=>by
   subst q;simp only [mem_cons,not_mem_nil,or_false] at hb hTw
   rcases hb with h | h | h | h | h
   ·exact hTw (.inl h)
   ·exact hTI h
   ·exact hTw (.inr (.inl h))
   ·exact hTw (.inr (.inr (.inl h)))
   ·exact hTw (.inr (.inr (.inr h)))
  rw [eZ hbT];exact (hf c hb).1
 done:=by
  intro X hP hw hK hc i pins s σ H E I hf st hg;subst hP hw hK;obtain ⟨xs,ys,hq,hq2,hx⟩:=hg;obtain ⟨its,rv,p,hz⟩:=I.list hq;obtain ⟨its2,rv2,p2,hz2⟩:=I.list hq2;have W:=WalksT.zip2 (prog:=X.prog) (w:=X.w) (A:=X.A) (I.ok.hd hc) z TI TO i1 i2 a b D its.toArray its2.toArray
  have hi:i=min its.toArray.size its2.toArray.size:=by
   rw [size_toArray,size_toArray,<-rv.length,<-rv2.length];exact hx
  subst hi;refine W.done s _ _ ⟨st.1,st.2.1,st.2.2.1,st.2.2.2.1,st.2.2.2.2,p.isList,p2.isList⟩ fun h' tk hk=>⟨rfl,Inv.turnedL (t':=tk) I (fun c o hb q=>hk c o (fun y=>hb ?_) q) hf⟩
  simp only [mem_cons,not_mem_nil,or_false] at y ⊢
  rcases y with h | h | h | h<;>simp [h]
 self:=fun _ _ _ _ _ st h=>wpAny_pyIter_zip st.1 h
def DH (K:Fg) (ta:TA):TI:=fun σ H R=>ta σ H fun vs H1=>∃a b,vs=[.ref a,.ref b]/\(∃xs,SqL K H1 a xs)/\(∃ys,SqL K H1 b ys)/\R (Jr K a b) H1
theorem boot_zip:bootBuiltins "zip"=some (.type "zip"):=by decide +kernel
theorem Ag {X:Cx} {elts:List Expr} {kt:Nat} {ptg:Pos} {l m:Expr} {ta:TA} {p pos:Pos} (hg:Gl X "zip") (hm:X.mg "zip"=none) (ha:PA X [l,m] ta) (hs:starEach [l,m] X.env=(false,eval l X.env)::starEach [m] X.env) (hpl:(backTo pos (starEach [m] X.env)).any (·.1)=false) :
  PI X (.Tuple elts kt ptg) (.Call (.Name "zip" p) [l,m] [] pos) (DH X.K ta):=by
 intro pins s σ H R I h;refine Call_ (u4 I hg hm boot_zip (PyProof.Rows.callWith_type1 (bM (ha pos pins s σ H _ I h) fun us s1 ⟨vs,H1,I1,r1,q1⟩=>?_) hs hpl))
 obtain ⟨a,b,e,⟨xs,hq⟩,⟨ys,hq2⟩,q⟩:=q1;subst e;obtain ⟨u1,u2,rfl,ru,ru2⟩:∃u1 u2,us=[u1,u2]/\RelV (.ref a) u1/\RelV (.ref b) u2:=by
  cases r1 with
  | cons p q=>
   cases q with
   | cons p' q'=>
    cases q'
    exact ⟨_,_,rfl,p,p'⟩
 cases ru
 cases ru2;obtain ⟨its,rv,pl,hz⟩:=I1.list hq;obtain ⟨its2,rv2,pl2,hz2⟩:=I1.list hq2;refine call_zip_2 pl.isList pl2.isList fun h' hZ hTI hTO hi1 hi2 hsz hk=>?_
 have ha1:a<s1.heap.objs.size:=by
  obtain ⟨o,q1,_⟩:=pl.isList;exact Heap.lt_size q1
 have hb1:b<s1.heap.objs.size:=by
  obtain ⟨o,q1,_⟩:=pl2.isList;exact Heap.lt_size q1
 refine wpAny_pyIter_zip (s:={ s1 with heap:=h' }) hZ ?_
 have I2:L2.Inv X pins σ H1 { s1 with heap:=h' }:=I1.kept (t':=s1.toks) hk
 have D:ZipApart (s1.heap.objs.size+4) (s1.heap.objs.size+2) (s1.heap.objs.size+3) s1.heap.objs.size (s1.heap.objs.size+1) a b:=by
  constructor<;>first | exact Nat.ne_of_lt (by omega) | exact Nat.ne_of_gt (by omega) | exact Nat.ne_of_lt (Nat.lt_of_lt_of_le ha1 (by omega)) | exact Nat.ne_of_lt (Nat.lt_of_lt_of_le hb1 (by omega))
 refine ⟨s1.heap.objs.size+4,[s1.heap.objs.size+4,s1.heap.objs.size+2,s1.heap.objs.size+3,s1.heap.objs.size,s1.heap.objs.size+1],_,Jr X.K a b,H1,rfl,I2,rS a b _ _ _ _ _ D,⟨hZ,hTI,⟨_,_,hTO⟩,hi1,hi2⟩,fun c hb=>?_,q⟩
 simp only [mem_cons,not_mem_nil,or_false] at hb
 have hb2:s1.heap.objs.size<=c:=by
  rcases hb with z | z | z | z | z<;>rw [z]<;>first | exact Nat.le_add_right _ _ | exact KW _
 exact I1.fpOk hb2 (I1.hok.fresh hb2)
def rn (i j:Nat) (fc:FB) (fe:F1) (s:Sh):List (KY×KY)->Ev->List KY->Out (List KY)
 | [],Γ,acc=>.ok acc Γ
 | (d,d2)::r,Γ,acc=>match fc ((Γ.set i (KZ d)).set j (KZ d2)) with
  | .ok true Γ1=>(match fe Γ1 with
   | .ok p Γ2=>if T.coer s p&&decide (acc.length<sizeLine) then rn i j fc fe s r ((Γ2.set i none).set j none) (acc++[p.d]) else .no
   | _=>.no)
  | .ok false Γ1=>if acc.length<sizeLine then rn i j fc fe s r ((Γ1.set i none).set j none) acc else .no
  | _=>.no
def u0 (s:Sh) (i j:Nat) (fc:FB) (fe:F1) (ps:List PV) (Γ1:Ev):Out PV:=match ps with
 | [⟨s1,.list ds⟩,⟨s2,.list ds2⟩]=>if dH ⟨s1,.list ds⟩ ds&&dH ⟨s2,.list ds2⟩ ds2&&decide (ds.length=ds2.length)&&nV Γ1[i]?&&nV Γ1[j]?&&!s.isView then (match rn i j fc fe s (ds.zip ds2) Γ1 [] with
  | .ok ds Γ2=>.ok ⟨.lst s,.list ds⟩ Γ2
  | _=>.no) else .no
 | _=>.no
def xx (s:Sh) (i j:Nat) (fl:FL) (fc:FB) (fe:F1):F1:=fun Γ=>(fl Γ).bind (u0 s i j fc fe)
section
variable {K:Fg} {W:XW} {σ:St} {H:Hp} {Q:VK} {fl:FL} {fe:F1} {fc:FB} {s:Sh} {i j:Nat}
theorem sG (hij:i≠j) (h:tE K W (xx s i j fl fc fe) σ H Q):jM [i,j] (DH K (tA K W fl)) (wR K 2 (j1 (gName i) (j1 (gName j) wU))) (tT K W0 fc) (tE K W0 fe) σ H Q:=by
 obtain ⟨He,O,Fs,Γ,E,h⟩:=h;refine ⟨He,O,Fs,Γ,E,?_⟩
 unfold xx at h
 cases e:fl Γ with
 | er c Γ1=>rw [e] at h;exact h
 | no=>rw [e] at h;exact h
 | ok ps Γ1=>
  rw [e] at h;intro us H1 Gs0 Fs1 A;have hz:Wants K W He O Fs H σ Q (u0 s i j fc fe ps Γ1):=h
  clear h;unfold u0 at hz;split at hz
  case h_2=>exact hz.elim
  rename_i s1 ds s2 ds2;have h:=hz
  clear hz;by_cases hn:(dH ⟨s1,.list ds⟩ ds&&dH ⟨s2,.list ds2⟩ ds2&&decide (ds.length=ds2.length)&&nV Γ1[i]?&&nV Γ1[j]?&&!s.isView)=true
  case neg=>rw [if_neg hn] at h;exact h.elim
  rw [if_pos hn] at h;simp only [Bool.and_eq_true,Bool.not_eq_true',decide_eq_true_eq] at hn
  obtain ⟨⟨⟨⟨⟨hc1,hc2⟩,hdl⟩,hni⟩,hnj⟩,hsv⟩:=hn;have hni:=Fh hni
  have hnj:=Fh hnj
  match us,A.len1,Gs0,A.len2,A with
  | [v1,v2],_,[G1,G2],_,A=>
    cases eg:rn i j fc fe s (ds.zip ds2) Γ1 [] with
    | er c Γ'=>rw [eg] at h;exact h.elim
    | no=>rw [eg] at h;exact h.elim
    | ok ds' Γ2=>
     rw [eg] at h;have h:Wants K W He O Fs H σ Q (.ok ⟨.lst s,.list ds'⟩ Γ2):=h
     have nd0:=A.env.nd
     have dis:∀a∈[G1,G2].flatten,a∉O++Fs1.flatten:=fun a ha z=>by
      obtain ⟨n1,n2,n3⟩:=KO nd0;rcases KI z with y | y
      ·exact (KO n1).2.2 a ha a y rfl
      ·exact n3 a (KH _ ha) a y rfl
     have sub:∀a∈O++Fs1.flatten,a∈[G1,G2].flatten++O++Fs1.flatten:=fun a ha=>by
      rcases KI ha with z | z
      ·exact KH _ (KG _ z)
      ·exact KG _ z
     obtain ⟨p,vs,rfl,hq,hst,hr⟩:=(A.own 0 v1 _ G1 rfl rfl rfl).items (O':=O++Fs1.flatten) hc1 sub (fun a ha=>dis a (by simp [ha]))
     obtain ⟨p2,vs2,rfl,hq2,hst2,hr2⟩:=(A.own 1 v2 _ G2 rfl rfl rfl).items (O':=O++Fs1.flatten) hc2 sub (fun a ha=>dis a (by simp [ha]))
     have E1:EnvOk K He O Fs1 H1 σ Γ1:=A.env.dropL
     have hlen:vs.length=ds.length:=hr.1
     have hlen2:vs2.length=ds2.length:=hr2.1
     have hi:i<Γ1.length:=(KP hni).1
     have hj:j<Γ1.length:=(KP hnj).1
     refine ⟨p,p2,rfl,⟨vs,hq⟩,⟨vs2,hq2⟩,fun A0 hD=>?_⟩
     have hHeD:He A0=none:=E1.same.free hD
     have E0':EnvOk K He (A0::([]:List (List Addr)).flatten++O) Fs1 (bZ H1 A0 (.lst [])) (bx [i,j] σ) Γ1:=
      (E1.blank2 hni hnj).hide (G:=[A0]) (iY hD) (by simp) (fun a ha=>by simp at ha;rw [ha];exact hD) (fun a ha=>by simp at ha;rw [ha,gr];exact Option.some_ne_none _)
     refine ⟨fun k m ys H'=>m=vs.length-k/\k<=vs.length/\∃Γk Fk Gs acc,yE K He O Fs1 H1 σ i j s A0 Γ1.length ys H' Γk Fk Gs acc/\rn i j fc fe s ((ds.zip ds2).drop k) Γk acc=.ok ds' Γ2,⟨vs.length,by simp,Nat.zero_le _,Γ1,Fs1,[],[],⟨E0',iY hD,gr,fun a ha=>.inl (by simpa using ha),rfl,rfl,fun m v d G h1=>by simp at h1,rfl⟩,by simpa using eg⟩,?_⟩
     rintro k m ys H' ⟨rfl,hk,Γk,Fk,Gs,acc,g,eg'⟩
     refine ⟨g.at_,?_⟩
     have hPk:SqL K H' p vs:=g.same.seq hq
     have hPk2:SqL K H' p2 vs2:=g.same.seq hq2
     by_cases hlt:k<vs.length
     case neg=>
      left
      have:(ds.zip ds2).drop k=[]:=drop_eq_nil_of_le (by rw [List.length_zip];omega)
      rw [this] at eg';have eg'':(Out.ok acc Γk:Out (List KY))=.ok ds' Γ2:=eg'
      injection eg'' with e1 e2
      subst e1;subst e2;refine ⟨⟨vs,vs2,hPk,hPk2,by omega⟩,?_⟩
      obtain ⟨n1',_,n3'⟩:=KO g.env.ndO;refine h (.ref A0) H' (A0::Gs.flatten) Fk ⟨A.same.trans g.same,g.env.unblank2,fun a ha=>?_,?_⟩
      ·have up:a∈Fs1.flatten\/H1 a=none->a∈Fs.flatten\/H a=none:=fun z=>z.elim (fun y=>A.new a (KG _ y)) fun y=>.inr (A.same.free y)
       rcases KI ha with z | z
       ·rcases KJ z with z | z
        ·exact up (.inr (by rw [z];exact hD))
        ·exact up (g.new a (KH _ z))
       ·exact up (g.new a (KG _ z))
      ·exact .lst hsv g.at_ g.l1 g.l2 n1' fun m v d G h1 h2 h3=>g.own m v d G h1 h2 h3
     case pos=>
      right
      have hv:vs[k]?=some vs[k]:=KL hlt
      have hkd:k<ds.length:=by omega
      have hd:ds[k]?=some ds[k]:=KL hkd
      have hv2:vs2[k]?=some (vs2[k]'(by omega)):=KL _
      have hd2:ds2[k]?=some (ds2[k]'(by omega)):=KL _
      have hdr:(ds.zip ds2).drop k=(ds[k],ds2[k]'(by omega))::(ds.zip ds2).drop (k+1):=by
       rw [drop_eq_getElem_cons (by rw [List.length_zip];omega),List.getElem_zip]
      rw [hdr] at eg';generalize hdk:ds[k]=d at hd eg'
      generalize hvk:vs[k]=v at hv
      generalize hdk2:ds2[k]'(by omega)=d2 at hd2 eg'
      generalize hvk2:vs2[k]'(by omega)=w2 at hv2
      simp only [rn] at eg'
      have hik:i<Γk.length:=by rw [g.len];exact hi
      have hjk:j<Γk.length:=by rw [g.len];exact hj
      have hsl:ys.length<sizeLine:=by
       rw [g.l1]
       cases ec:fc ((Γk.set i (KZ d)).set j (KZ d2)) with
       | no=>rw [ec] at eg';cases eg'
       | er c Γ'=>rw [ec] at eg';cases eg'
       | ok b Γa=>
        rw [ec] at eg'
        cases b with
        | false=>
         dsimp only at eg'
         split at eg'
         ·assumption
         ·cases eg'
        | true=>
         dsimp only at eg'
         split at eg'
         ·split at eg'
          ·rename_i z
           simp only [Bool.and_eq_true,decide_eq_true_eq] at z
           exact z.2
          ·cases eg'
         ·cases eg'
      refine ⟨⟨vs,vs2,v,w2,hPk,hPk2,hv,hv2⟩,hsl,?_⟩
      rintro x Hx ⟨T,v',u',rfl,hTn,rfl,hv'⟩
      have ev:v'=v:=Option.some.inj ((hv' vs vs2 hPk hPk2).1.symm.trans hv)
      subst ev;have eu:u'=w2:=Option.some.inj ((hv' vs vs2 hPk hPk2).2.symm.trans hv2)
      subst eu;refine ⟨T,[v',u'],rfl,.of gr,rfl,v',[u'],rfl,u',[],rfl,rfl,?_⟩
      have sT:Same H' (bZ H' T (.tup [v',u'])):=iY hTn
      have Eg:=g.env.grow sT
      have reps:∀(x:V) (e:KY),Rep K (du H1 (O++Fs1.flatten)) x e->Rep K (du (bZ H' T (.tup [v',u'])) (A0::Gs.flatten++O++Fk.flatten)) x e:=fun x e hxe=>hxe.mono (qS (g.same.trans sT) fun a ha=>by
       rcases KI ha with z | z
       ·rcases KI z with z | z
        ·rcases KJ z with z | z
         ·rw [z];exact .inr hD
         ·exact (g.new a (KH _ z)).elim (fun y=>.inl (KG _ y)) .inr
        ·exact .inl (KH _ z)
       ·exact (g.new a (KG _ z)).elim (fun y=>.inl (KG _ y)) .inr)
      have rep:=reps _ _ (hr.2 k v' d hv hd)
      have rep2:=reps _ _ (hr2.2 k u' d2 hv2 hd2)
      have lF:Fk.length=Γk.length:=g.env.len2
      have Ep:=EnvOk.put (G:=[]) (i:=i) (p:=⟨.leaf,d⟩) (v:=v') Eg (.leaf rep) rfl (fun a ha=>by simp at ha) hik
      have fk:∀a∈(Fk.set i []).flatten,a∈Fk.flatten:=fun a ha=>Fb (by omega) ha
      have Eq:=EnvOk.put (G:=[]) (i:=j) (p:=⟨.leaf,d2⟩) (v:=u') Ep (.leaf (rep2.mono (qS (Same.refl _) fun a ha=>.inl (by
       rcases KI ha with z | z
       ·exact KH _ z
       ·exact KG _ (fk a z))))) rfl (fun a ha=>by simp at ha) (by rw [length_set];exact hjk)
      have fkk:∀a∈((Fk.set i []).set j []).flatten,a∈Fk.flatten:=fun a ha=>fk a (Fb (by rw [length_set];omega) ha)
      refine ⟨⟨by rw [length_set,length_set],fun m u hm=>?_⟩,?_⟩
      ·have:=(CA hm).1
       simp only [mem_cons,not_mem_nil,or_false,not_or] at this
       rw [getElem?_set_ne (Ne.symm this.2),getElem?_set_ne (Ne.symm this.1)];exact hm
      refine ⟨He,_,_,_,Eq,?_⟩
      cases ec:fc ((Γk.set i (KZ d)).set j (KZ d2)) with
      | no=>rw [ec] at eg';cases eg'
      | er c Γ'=>rw [ec] at eg';cases eg'
      | ok b Γa=>
       rw [ec] at eg';intro H3 Fs3 s3' E3 n3
       have s3:Same H' H3:=sT.trans s3'
       have lena:Γa.length=Γ1.length:=by
        have:=E3.len1
        rw [length_set,length_set,uV,E1.len1] at this;exact this.symm
       have n3':∀a∈Fs3.flatten,a∈Fs1.flatten\/H1 a=none:=fun a ha=>(n3 a ha).elim (fun z=>g.new a (KG _ (fkk a z))) fun z=>.inr (g.same.free (sT.free z))
       have n3k:∀a∈Fs3.flatten,a∈Fk.flatten\/H' a=none:=fun a ha=>(n3 a ha).elim (fun z=>.inl (fkk a z)) fun z=>.inr (sT.free z)
       cases b with
       | false=>
        dsimp only at eg'
        split at eg'
        case isFalse=>cases eg'
        refine gU ⟨vs.length-(k+1),by omega,rfl,hlt,(Γa.set i none).set j none,Fs3,Gs,acc,⟨E3.forget2,g.same.trans s3,s3 _ _ g.at_,fun a ha=>?_,g.l1,g.l2,fun m v d G h1 h2 h3=>(g.own m v d G h1 h2 h3).mono s3 fun a ha=>?_,by rw [length_set,length_set];exact lena⟩,eg'⟩
        ·rcases KI ha with z | z
         ·exact g.new a (KH _ z)
         ·exact n3' a z
        ·rcases KI ha with z | z
         ·exact .inl (KH _ z)
         ·exact (n3k a z).elim (fun y=>.inl (KG _ y)) .inr
       | true=>
        refine jv ⟨He,_,_,_,E3,?_⟩
        dsimp only at eg'
        cases ee:fe Γa with
        | no=>rw [ee] at eg';cases eg'
        | er c Γ'=>rw [ee] at eg';cases eg'
        | ok p Γb=>
         rw [ee] at eg';dsimp only at eg'
         split at eg'
         case isFalse=>cases eg'
         rename_i hco;simp only [Bool.and_eq_true,decide_eq_true_eq] at hco
         obtain ⟨hco,_⟩:=hco;intro u H4 G Fs4 A4;have lenb:Γb.length=Γ1.length:=by
          have:=A4.env.len1
          rw [length_set,length_set,uV,E1.len1] at this;exact this.symm
         have at4:H4 A0=some (.lst ys):=A4.same _ _ (s3 _ _ g.at_)
         have s14:Same H1 H4:=(g.same.trans s3).trans A4.same
         have new4:∀a∈G++Fs4.flatten,a∈Fs1.flatten\/H1 a=none:=fun a ha=>(A4.new a ha).elim (n3' a) fun z=>.inr ((g.same.trans s3).free z)
         have hG':∀a∈aP s G,a∈G:=fun a ha=>EY ha
         obtain ⟨k1,k2,k3⟩:=KO A4.env.ndO;have ndk:(aP s G).Nodup:=by
          cases s<;>first | exact nodup_nil | exact k1
         have pmO:(A0::(Gs++[aP s G]).flatten++O).Perm (aP s G++(A0::Gs.flatten++O)):=by
          rw [qZ];show (A0::((Gs.flatten++aP s G)++O)).Perm _
          refine List.Perm.trans ?_ List.perm_middle.symm
          refine List.Perm.cons _ ?_
          rw [append_assoc];exact jP _ _ _
         have E5:EnvOk K He (aP s G++(A0::Gs.flatten++O)) Fs4 H4 (((bx [i,j] σ).set i (some v')).set j (some u')) Γb:=A4.env.drop (fun a ha=>by
          rcases KI ha with z | z
          ·exact KH _ (hG' a z)
          ·exact KG _ z) (List.nodup_append.mpr ⟨ndk,k2,fun a ha b hb=>k3 a (hG' a ha) b hb⟩)
         have E6:=(E5.perm pmO).forget2
         have hDin:A0∈A0::(Gs++[aP s G]).flatten++O:=mem_cons_self
         have E7:=E6.mutO (o:=.lst (ys++[u])) hDin at4 hHeD
         have subH:∀a∈A0::(Gs++[aP s G]).flatten++O++Fs4.flatten,a∈G++(A0::Gs.flatten++O)++Fs4.flatten:=fun a ha=>by
          rcases KI ha with z | z
          ·rcases KI (pmO.mem_iff.mp z) with y | y
           ·exact KH _ (KH _ (hG' a y))
           ·exact KH _ (KG _ y)
          ·exact KG _ z
         have Dnot:∀{m:Nat} {Gj:List Addr},Gs[m]?=some Gj->A0∉Gj:=fun {m Gj} hj z=>by
          have nd:=g.env.ndO
          exact (List.nodup_cons.mp nd).1 (KH _ (kS hj z))
         refine ⟨at4,vs.length-(k+1),by omega,rfl,hlt,(Γb.set i none).set j none,Fs4,Gs++[aP s G],acc++[p.d],⟨E7,fun b o hb=>?_,gr,fun a ha=>?_,by simp [g.l1],by simp [g.l2],fun m w d' G' h1 h2 h3=>?_,by rw [length_set,length_set];exact lenb⟩,eg'⟩
         ·rw [eZ (rC hb hD)]
          exact s14 b o hb
         ·rcases KI ha with z | z
          ·rw [qZ] at z
           rcases KI z with z | z
           ·exact g.new a (KH _ z)
           ·exact new4 a (KH _ (hG' a z))
          ·exact new4 a (KG _ z)
         ·by_cases hm:m<ys.length
          ·rw [getElem?_append_left hm] at h1
           rw [getElem?_append_left (by rw [<-g.l1];exact hm)] at h2
           rw [getElem?_append_left (by rw [g.l2,<-g.l1];exact hm)] at h3
           have o1:=g.own m w d' G' h1 h2 h3
           have o2:=o1.mono (O':=A0::(Gs++[aP s G]).flatten++O++Fs4.flatten) (s3.trans A4.same) fun a ha=>by
            have up:a∈G++Fs4.flatten->a∈A0::Gs.flatten++O++Fk.flatten\/H' a=none:=fun z=>(A4.new a z).elim (fun y=>(n3k a y).elim (fun y=>.inl (KG _ y)) .inr) fun y=>.inr (s3.free y)
            rcases KI (subH a ha) with z | z
            ·rcases KI z with z | z
             ·exact up (KH _ z)
             ·exact .inl (KH _ z)
            ·exact up (KG _ z)
           exact o2.mut hsv (KH _ hDin) (Dnot h3) at4
          ·have hm':m=ys.length:=by
            have:=(KP h1).1
            rw [length_append,length_singleton] at this;omega
           subst hm'
           rw [getElem?_append_right (KW _),Nat.sub_self] at h1;rw [getElem?_append_right (by rw [g.l1];exact KW _),show ys.length-acc.length=0 by rw [g.l1];exact Nat.sub_self _] at h2
           rw [getElem?_append_right (by rw [g.l2,g.l1];exact KW _),show ys.length-Gs.length=0 by rw [g.l2,g.l1];exact Nat.sub_self _] at h3
           cases h1
           cases h2
           cases h3;have o3:=A4.own.coer (s:=s) (O':=A0::(Gs++[aP s G]).flatten++O++Fs4.flatten) hco subH fun a ha hO=>by
            cases s with
            | leaf=>
             exfalso
             have hO':a∈(A0::Gs.flatten++O)++Fs4.flatten:=by
              rw [qZ] at hO;simpa [aP] using hO
             rcases KI hO' with z | z
             ·exact k3 a ha a z rfl
             ·have nd:=A4.env.nd
              exact (KO nd).2.2 a (KH _ ha) a z rfl
            | view=>cases hsv
            | lst s=>exact ha
            | tup ss=>exact ha
           refine o3.mut hsv (KH _ hDin) (fun z=>?_) at4
           exact k3 A0 (hG' A0 z) A0 mem_cons_self rfl
end
section
variable {X:Cx} {N gl:List Str} {vs cs ls lo gs:List Nat} {W:XW} {a b:Expr} {pos p:Pos} {fl:FL}
theorem cs_setCompZ {scope:Scope} {x y z:Str} {px py pt pos' spos cpos:Pos} {kt:Nat} {elt:Expr} {ifs:List Expr} {fe:F1} {fc:FB} {vs' cs' lo' gs':List Nat} (S:Cp X N gl vs cs ls lo gs) (own:Bool) (l:Nat) (s:Sh) (i j:Nat) (hz:N[l]?=some z) (hzl:lo.contains l=true) (hij:(i != j)=true) (hx:N[i]?=some x) (hy:N[j]?=some y) (k:Nat) (hk:gl[k]?=some ("zip":Str)) (hg:gs.contains k=true) (hm:X.mg "zip"=none)
  (hsl:(pos'.line==pos.line)=true) (hsn:(scope.names.any fun (n,k)=>n==z&&(k==NameKind.local||k==NameKind.cell))=false)
  (h1:yJ N [i,j] cs scope=true) (h2:m5 N gl vs' cs' [i,j] lo' gs' scope=true) (ha:PA X [a,b] (tA X.K W fl)) (hs1:starEach [a,b] X.env=(false,eval a X.env)::starEach [b] X.env) (hpl:(backTo cpos (starEach [b] X.env)).any (·.1)=false)
  (hc:lh X N gl vs' cs' [i,j] lo' gs' fun Y=>PF Y ifs (tT Y.K W0 fc)) (he:lh X N gl vs' cs' [i,j] lo' gs' fun Y=>PE Y elt (tE Y.K W0 fe)) (hs:∀x,foldedSetIterable (.Call (.Name "zip" p) [a,b] [] cpos) X.env x=pure x) :
  PS X (.Assign [.Name z pos'] (.ListComp elt [⟨.Tuple [.Name x px,.Name y py] kt pt,.Call (.Name "zip" p) [a,b] [] cpos,ifs,0⟩] scope pos) spos) (tS X.K W (aC own l (xx s i j fl fc fe))):=by
 have B:=fun cells C s₀ H₀ ex=>S.blk h2 cells C s₀ H₀ ex
 have L:=fun cells C s₀ H₀ ex=>(B cells C s₀ H₀ ex).loc i x hx (by simp)
 have L2':=fun cells C s₀ H₀ ex=>(B cells C s₀ H₀ ex).loc j y hy (by simp)
 have hN:X.N.Nodup:=by rw [S.hN];exact S.nd
 exact cH (Hr hN (by rw [S.hN];exact hz) (S.loo l z hz hzl) (G7 S h1) S.calm (Ag (S.g hk hg).1 hm ha hs1 hpl)
  (fun cells C s₀ H₀ ex=>Ey (X:=blk X scope cells C s₀ H₀ ex) S.calm (u9 (qX (X:=blk X scope cells C s₀ H₀ ex) (i:=i) hN (by show X.N[i]?=_;rw [S.hN];exact hx) (L cells C s₀ H₀ ex).1 (L cells C s₀ H₀ ex).2) (u9 (qX (X:=blk X scope cells C s₀ H₀ ex) (i:=j) hN (by show X.N[j]?=_;rw [S.hN];exact hy) (L2' cells C s₀ H₀ ex).1 (L2' cells C s₀ H₀ ex).2) EJ)))
  (fun cells C s₀ H₀ ex=>hc _ (B cells C s₀ H₀ ex) ⟨rfl,rfl,rfl,rfl,rfl,rfl⟩) (fun cells C s₀ H₀ ex=>he _ (B cells C s₀ H₀ ex) ⟨rfl,rfl,rfl,rfl,rfl,rfl⟩) (Hs S.kind (S.loo l z hz hzl) hsl hsn) hs) fun D σ H h=>by
   have h2:kl (tE X.K W (xx s i j fl fc fe)) (gName l) D σ H:=BL h
   exact sG (by simpa using hij) h2
end
end T
namespace TQ
open PySem PySem.Spec L2 T
open PyProof.Rows hiding St
variable {X:Cx} {N gl:List Str} {vs cs ls lo gs:List Nat} {W:XW} {a b:Expr} {pos p:Pos} {fl:FL}
theorem i6 {scope:Scope} {x y z:Str} {px py pt pos' spos cpos:Pos} {kt:Nat} {elt:Expr} {ifs:List Expr} {fe:F1} {fc:FB} {vs' cs' lo' gs':List Nat} (S:Cp X N gl vs cs ls lo gs) (own:Bool) (l:Nat) (s:Sh) (i j:Nat) (hz:N[l]?=some z) (hzl:lo.contains l=true) (hij:(i != j)=true) (hx:N[i]?=some x) (hy:N[j]?=some y) (k:Nat) (hk:gl[k]?=some ("zip":Str)) (hg:gs.contains k=true) (hm:X.mg "zip"=none)
  (hsl:(pos'.line==pos.line)=true) (hsn:(scope.names.any fun (n,k)=>n==z&&(k==NameKind.local||k==NameKind.cell))=false)
  (h1:yJ N [i,j] cs scope=true) (h2:m5 N gl vs' cs' [i,j] lo' gs' scope=true) (ha:Q (PA X [a,b] (tA X.K W fl))) (hs1:starEach [a,b] X.env=(false,eval a X.env)::starEach [b] X.env) (hpl:(backTo cpos (starEach [b] X.env)).any (·.1)=false)
  (hc:lh X N gl vs' cs' [i,j] lo' gs' fun Y=>Q (PF Y ifs (tT Y.K W0 fc))) (he:lh X N gl vs' cs' [i,j] lo' gs' fun Y=>Q (PE Y elt (tE Y.K W0 fe))) (hs:∀x,foldedSetIterable (.Call (.Name "zip" p) [a,b] [] cpos) X.env x=pure x) :
  Q (PS X (.Assign [.Name z pos'] (.ListComp elt [⟨.Tuple [.Name x px,.Name y py] kt pt,.Call (.Name "zip" p) [a,b] [] cpos,ifs,0⟩] scope pos) spos) (tS X.K W (aC own l (xx s i j fl fc fe)))):=⟨T.cs_setCompZ S own l s i j hz hzl hij hx hy k hk hg hm hsl hsn h1 h2 ha.p hs1 hpl (fun Y S' F=>(hc Y S' F).p) (fun Y S' F=>(he Y S' F).p) hs⟩
end TQ
namespace T
open PySem PySem.Spec L2
open PyProof.Rows hiding St
section
variable {K:Fg} {W:XW} {σ:St} {H:Hp} {Q:VK} {D:d9} {fa fb:F1} {fl:FL}
open Classical in
end
end T
namespace KC
open PySem PySem.Spec L2 T PySem.SeqAt
open PyProof.Rows hiding St
noncomputable def Wd.inn (w:Wd) (L:List Nat):Wd:=⟨w.n,w.os,w.m,w.s.map fun row=>row.filter fun t=>L.contains t⟩
theorem GE {w:Wd} {L:List Nat}:(w.inn L).stp=inn w.stp L:=by
 funext r
 unfold Wd.stp Wd.inn inn;simp only
 rw [KM,getElem?_map,KM]
 cases w.s[r]?<;>rfl
theorem ud {w:Wd} (ok:w.Ok) {L:List Nat}:(w.inn L).Ok0:=by
 refine ⟨ok.g.lo,ok.h24,by simp [Wd.inn,ok.ls],fun x hx=>?_⟩
 obtain ⟨l,hl,rfl⟩:=List.mem_map.mp hx;obtain ⟨_,h2,h3⟩:=ok.st l hl;exact ⟨Nat.le_trans (length_filter_le _ _) h2,fun t ht=>h3 t (List.mem_filter.mp ht).1⟩
theorem j5 {w:Wd} (ok:w.Ok) {L:List Nat}:bO [w.enc,aI L]=.ok ⟨.tup [.leaf,.leaf,.lst .leaf],(w.inn L).enc⟩:=by
 have h24:=ok.h24
 have ls:=ok.ls
 have e:aE .leaf 2 (aZ (ak (af 0) (eK (.int 2)))) aL (aE .leaf 3 (aZ (af 2)) (aR aA (aD (cW false) (af 3) (af 1))) (af 3)) (aV 4 [w.enc,aI L])=.ok ⟨.lst .leaf,.list (w.s.map fun row=>aI (row.filter fun t=>L.contains t))⟩ (aV 4 [w.enc,aI L]):=by
  refine m8 aI w.s (fun row=>⟨.lst .leaf,aI (row.filter fun t=>L.contains t)⟩) (st:=true) (by simp [aV,Wd.enc,bK]) (by simp [aV]) rfl (by omega) (fun row hrow=>⟨?_,rfl⟩)
  refine rD rm row (fun t=>L.contains t) (fun t=>⟨.leaf,rm t⟩) (st:=true) (by simp [aV]) (by simp [aV]) rfl (by have:=(ok.st row hrow).2.1;omega) (fun t ht=>?_) (fun t ht _=>?_)
  ·exact eD (s:=.leaf) (aG (aw rfl) (aw rfl) Cn)
  ·simp [aV]
 have e3:(w.inn L).enc=.tuple [.list w.os,.list (w.m.map xW),.list (w.s.map fun row=>aI (row.filter fun t=>L.contains t))]:=by
  unfold Wd.inn Wd.enc bK;simp
 rw [e3];refine aT (bf (cG (ax (gJ (j:=0) (aw rfl) aM rfl rfl rfl) (ax (gJ (j:=1) (aw rfl) aM rfl rfl rfl) (ax e ai))) rfl rfl) rfl)
theorem ue {w:Wd} (ok:w.Ok) {p:Int} {L:List Nat} (hL:∀r∈L,r<w.n) (hc:∀r∈L,led (own w p r) (w.stp r) (·∈L)):∀r∈L,(w.inn L).stp r≠[]:=fun r hr=>by
 rw [GE];have h:=hc r hr
 cases ho:own w p r with
 | true=>
  rw [ho] at h;obtain ⟨t,ht,hl⟩:=led_t.mp h;exact List.ne_nil_of_mem (mem_inn.mpr ⟨ht,hl⟩)
 | false=>
  rw [ho] at h;obtain ⟨t,ht⟩:=exists_mem_of_ne_nil _ (ok.stp_ne (hL r hr));exact List.ne_nil_of_mem (mem_inn.mpr ⟨ht,led_f.mp h t ht⟩)
noncomputable abbrev gl (T L:List Nat):List Nat:=L.filter fun r=>T.contains r
theorem j6 {w:Wd} (ok:w.Ok) {p:Int} {T L:List Nat} (hs:Std w.n L) (hc:∀r∈L,led (own w p r) (w.stp r) (·∈L)) :
  ∃rk,b8 [w.enc,.int p,aI T,aI L]=.ok ⟨.lst .leaf,aW rk⟩/\RightG w.n (inn w.stp L) (own w p) L (gl T L) rk:=by
 have lo:=ok.g.lo
 have h24:=ok.h24
 have hl:=hs.len
 obtain ⟨rk,e,Rt,_⟩:=Hy (ud ok (L:=L)) (cl:=w.os.map (qh p)) (thr:=L) (goal:=gl T L) (by rw [length_map];exact lo) (ue ok hs.lt hc) hs.lt (by omega) (fun r hr=>hs.lt r (List.mem_filter.mp hr).1) (Nat.le_trans (length_filter_le _ _) (by omega))
 rw [GE] at Rt;refine ⟨rk,?_,Rt⟩
 have c0:aE .leaf 5 (aZ (af 3)) (aR aA (aD (cW false) (af 5) (af 2))) (af 5) (aV 7 [w.enc,.int p,aI T,aI L])=.ok ⟨.lst .leaf,.list ((gl T L).map fun t=>rm t)⟩ (aV 7 [w.enc,.int p,aI T,aI L]):=by
  refine rD rm L (fun r=>T.contains r) (fun t=>⟨.leaf,rm t⟩) (st:=true) (by simp [aV]) (by simp [aV]) rfl (by omega) (fun t ht=>?_) (fun t ht _=>?_)
  ·exact eD (s:=.leaf) (aG (aw rfl) (aw rfl) Cn)
  ·simp [aV]
 have c1:aE .leaf 6 (aZ (ak (af 0) (eK (.int 0)))) aL (aD bT (af 6) (af 1)) [KZ w.enc,KZ (.int p),KZ (aI T),KZ (aI L),KZ (aI (gl T L)),none,none]=.ok ⟨.lst .leaf,mQ (w.os.map (qh p))⟩ [KZ w.enc,KZ (.int p),KZ (aI T),KZ (aI L),KZ (aI (gl T L)),none,none]:=by
  have:=m8 (fun d:D=>d) w.os (fun d=>⟨.leaf,.bool (qh p d)⟩) (s:=.leaf) (i:=6) (fi:=aZ (ak (af 0) (eK (.int 0)))) (fe:=aD bT (af 6) (af 1)) (st:=true) (Γ:=[KZ w.enc,KZ (.int p),KZ (aI T),KZ (aI L),KZ (aI (gl T L)),none,none]) (by simp [Wd.enc,bK]) (by simp) rfl (by omega) (fun d hd=>by
   rcases ok.g.o d hd with rfl | rfl<;>simp [eq_int,qh])
  rw [this];simp
 refine aT (ao (bQ c0 rfl (by simp [aV])) (bf (bY (ax (bY (ax (aw rfl) (ax (aw rfl) ai)) (j5 ok) rfl rfl) (ax c1 (ax (aw rfl) (ax (aw rfl) ai)))) e rfl rfl) rfl))
noncomputable abbrev lst (rk:List (Option Nat)) (L:List Nat):List Nat:=L.filter fun r=>(aQ rk r).isNone
theorem mC {w:Wd} (ok:w.Ok) {p:Int} {T L:List Nat} (hs:Std w.n L) (hc:∀r∈L,led (own w p r) (w.stp r) (·∈L)) :
  ∃rk,cB [w.enc,.int p,aI T,aI L]=.ok ⟨.lst .leaf,aI (lst rk L)⟩/\RightG w.n (inn w.stp L) (own w p) L (gl T L) rk:=by
 have h24:=ok.h24
 have hl:=hs.len
 obtain ⟨rk,e,Rt⟩:=j6 ok (T:=T) hs hc
 refine ⟨rk,?_,Rt⟩
 have c0:aE .leaf 5 (aZ (af 3)) (aR aA (aD (bI false) (ak (af 4) (af 5)) (eK .none))) (af 5) [KZ w.enc,KZ (.int p),KZ (aI T),KZ (aI L),KZ (aW rk),none]=.ok ⟨.lst .leaf,.list ((lst rk L).map fun t=>rm t)⟩ [KZ w.enc,KZ (.int p),KZ (aI T),KZ (aI L),KZ (aW rk),none]:=by
  refine rD rm L (fun r=>(aQ rk r).isNone) (fun t=>⟨.leaf,rm t⟩) (st:=true) (by simp) (by simp) rfl (by omega) (fun t ht=>?_) (fun t ht _=>?_)
  ·have a1:=fG (rk:=rk) (t:=t) (by rw [Rt.len];exact hs.lt t ht)
   simp [a1]
  ·simp
 refine aT (ao (bQ (bY (ax (aw rfl) (ax (aw rfl) (ax (aw rfl) (ax (aw rfl) ai)))) e rfl rfl) rfl (by simp [aV])) (bf c0 rfl))
noncomputable def tD:Option (Nat×Nat)->D
 | none=>.none
 | some (a,b)=>.tuple [.int (a:Int),.int (b:Int)]
@[simp] theorem FH (o:Option (Nat×Nat)):rz (tD o)=o.isNone:=by cases o<;>rfl
noncomputable abbrev fH (tn:List (Option (Nat×Nat))):D:=.list (tn.map tD)
noncomputable def eF (tn:List (Option (Nat×Nat))) (t:Nat):Option (Nat×Nat):=tn.getD t none
theorem uM {tn:List (Option (Nat×Nat))} {t:Nat} (h:t<tn.length):eY (tn.map tD) (t:Int)=some (tD (eF tn t)):=by
 refine yI ?_
 unfold eF;rw [getElem?_map,KM,KL h];rfl
noncomputable def cK (rk:List (Option Nat)) (k:Nat) (tn:List (Option (Nat×Nat))) (r:Nat):List (Option (Nat×Nat)):=match aQ rk r with
 | some j=>tn.set r (some (k,j))
 | none=>tn
theorem GQ {rk:List (Option Nat)} {k:Nat} {tn:List (Option (Nat×Nat))} {r:Nat}:(cK rk k tn r).length=tn.length:=by
 unfold cK;split
 ·exact length_set
 ·rfl
theorem vZ {rk:List (Option Nat)} {k:Nat} {tn:List (Option (Nat×Nat))} {r t:Nat} (hr:r<tn.length):eF (cK rk k tn r) t=if t=r then (match aQ rk t with | some j=>some (k,j) | none=>eF tn t) else eF tn t:=by
 unfold cK;split
 ·rename_i j e
  unfold eF;rw [KM,KM];split
  ·rename_i z
   subst z;rw [getElem?_set_self hr,e];rfl
  ·rename_i z
   rw [getElem?_set_ne (fun y=>z y.symm)]
 ·rename_i e
  split
  ·rename_i z
   subst z;rw [e]
  ·rfl
theorem GW {rk:List (Option Nat)} {k t:Nat}:∀(L:List Nat) (tn:List (Option (Nat×Nat))),(∀r∈L,r<tn.length)->L.Nodup->eF (L.foldl (cK rk k) tn) t=if t∈L then (match aQ rk t with | some j=>some (k,j) | none=>eF tn t) else eF tn t
 | [],tn,_,_=>by simp
 | a::r,tn,h,nd=>by
  rw [foldl_cons,GW r _ (fun b hb=>by rw [GQ];exact h b (KN _ hb)) (List.nodup_cons.mp nd).2,vZ (h a mem_cons_self)]
  by_cases e1:t=a
  ·subst e1
   have:t∉r:=(List.nodup_cons.mp nd).1
   simp [this]
  ·simp [e1]
theorem Hi {rk:List (Option Nat)} {k:Nat}:∀(L:List Nat) (tn:List (Option (Nat×Nat))),(L.foldl (cK rk k) tn).length=tn.length
 | [],_=>rfl
 | a::r,tn=>by rw [foldl_cons,Hi,GQ]
noncomputable def qO (tn:List (Option (Nat×Nat))) (a b t:Nat):Prop:=∃a' b',eF tn t=some (a',b')/\(a'<a\/(a'=a/\(b'<b\/(b=0/\b'=0))))
structure TS where
 tn:List (Option (Nat×Nat))
 L:List Nat
 k:Nat
 lost:List Nat
 x7:Option PV
 x8:Option PV
structure TI (w:Wd) (p:Int) (T:List Nat) (b:TS):Prop where
 len:b.tn.length=w.n
 std:Std w.n b.L
 mem:∀r,r<w.n->(r∈b.L↔eF b.tn r=none)
 c:∀r∈b.L,led (own w p r) (w.stp r) (·∈b.L)
 big:∀X,Suff w.n w.stp (own w p) (·∈T) X->∀r,X r->r∈b.L
 los:∃rk,RightG w.n (inn w.stp b.L) (own w p) b.L (gl T b.L) rk/\b.lost=lst rk b.L
 tk:∀r a j,eF b.tn r=some (a,j)->a<b.k
 td:∀r a j,r<w.n->eF b.tn r=some (a,j)->(j=0->r∉T)/\led (!own w p r) (w.stp r) (qO b.tn a j)
theorem TI.step {w:Wd} (ok:w.Ok) {p:Int} {T:List Nat} {b:TS} (I:TI w p T b) {rk2:List (Option Nat)} (R2:RightG w.n (inn w.stp b.L) (fun r=>!own w p r) b.L b.lost rk2) (hne:b.lost≠[]) {rk:List (Option Nat)} {y7 y8:Option PV}
  (hR:(∀r∈b.L.filter (fun r=>(aQ rk2 r).isNone),led (own w p r) (w.stp r) (·∈b.L.filter (fun r=>(aQ rk2 r).isNone)))->RightG w.n (inn w.stp (b.L.filter fun r=>(aQ rk2 r).isNone)) (own w p) (b.L.filter fun r=>(aQ rk2 r).isNone) (gl T (b.L.filter fun r=>(aQ rk2 r).isNone)) rk) :
  TI w p T ⟨b.L.foldl (cK rk2 b.k) b.tn,b.L.filter fun r=>(aQ rk2 r).isNone,b.k+1,lst rk (b.L.filter fun r=>(aQ rk2 r).isNone),y7,y8⟩/\(b.L.filter fun r=>(aQ rk2 r).isNone).length<b.L.length:=by
 have hL:=I.std.lt
 have nd:b.L.Nodup:=I.std.sorted.imp fun h=>by omega
 have pt:∀t,eF (b.L.foldl (cK rk2 b.k) b.tn) t=if t∈b.L then (match aQ rk2 t with | some j=>some (b.k,j) | none=>eF b.tn t) else eF b.tn t:=fun t=>GW _ _ (fun r hr=>by rw [I.len];exact hL r hr) nd
 have hm:∀r,r∈b.L.filter (fun r=>(aQ rk2 r).isNone)↔r∈b.L/\aQ rk2 r=none:=fun r=>by simp
 obtain ⟨rk1,R1,el⟩:=I.los;have hlost:∀r,r∈b.lost↔r∈b.L/\aQ rk1 r=none:=fun r=>by rw [el];simp
 have hc':∀r∈b.L.filter (fun r=>(aQ rk2 r).isNone),led (own w p r) (w.stp r) (·∈b.L.filter (fun r=>(aQ rk2 r).isNone)):=fun r hr=>by
  obtain ⟨h1,h2⟩:=(hm r).mp hr;exact uW (tR hL I.c R2 h1 h2) fun t _ h=>(hm t).mpr h
 have keep:∀r v,eF b.tn r=some v->eF (b.L.foldl (cK rk2 b.k) b.tn) r=some v:=fun r v e=>by
  rw [pt];split
  ·rename_i hr
   have:=(I.mem r (hL r hr)).mp hr
   rw [this] at e
   cases e
  ·exact e
 refine ⟨⟨by rw [Hi];exact I.len,I.std.filter _,fun r hr=>?_,hc',fun X hX r hx=>?_,⟨rk,hR hc',rfl⟩,fun r a j e=>?_,fun r a j hr e=>?_⟩,?_⟩
 ·show r∈b.L.filter (fun r=>(aQ rk2 r).isNone)↔eF (b.L.foldl (cK rk2 b.k) b.tn) r=none
  rw [hm,pt];constructor
  ·rintro ⟨h1,h2⟩
   rw [if_pos h1,h2];exact (I.mem r hr).mp h1
  ·intro h
   split at h
   ·rename_i h1
    cases e:aQ rk2 r with
    | none=>exact ⟨h1,rfl⟩
    | some j=>rw [e] at h;cases h
   ·rename_i h1
    exact absurd ((I.mem r hr).mpr h) h1
 ·show r∈b.L.filter (fun r=>(aQ rk2 r).isNone)
  refine (hm r).mpr ⟨I.big X hX r hx,?_⟩
  refine hX.stays (fun r t ht=>ok.stp_lt ht) (I.big X hX) (fun r hx hl=>?_) R2 hx
  exact hX.ranked (I.big X hX) (fun r h1 h2=>List.mem_filter.mpr ⟨h1,by simpa using h2⟩) R1 hx ((hlost r).mp hl).2
 ·have e:eF (b.L.foldl (cK rk2 b.k) b.tn) r=some (a,j):=e
  show a<b.k+1
  rw [pt] at e;split at e
  ·cases e2:aQ rk2 r with
   | none=>rw [e2] at e;have:=I.tk r a j e;omega
   | some i=>rw [e2] at e;cases e;omega
  ·have:=I.tk r a j e;omega
 ·have e:eF (b.L.foldl (cK rk2 b.k) b.tn) r=some (a,j):=e
  have old:eF b.tn r=some (a,j)->(j=0->r∉T)/\led (!own w p r) (w.stp r) (qO (b.L.foldl (cK rk2 b.k) b.tn) a j):=fun e=>by
   obtain ⟨h1,h2⟩:=I.td r a j hr e;exact ⟨h1,uW h2 fun t _ ⟨a',b',e',h⟩=>⟨a',b',keep t _ e',h⟩⟩
  rw [pt] at e;split at e
  case isFalse=>exact old e
  rename_i hrL
  cases e2:aQ rk2 r with
  | none=>rw [e2] at e;exact old e
  | some i=>
   rw [e2] at e;have e:=Option.some.inj e
   have ea:=(Prod.mk.inj e).1
   have ej:=(Prod.mk.inj e).2
   subst ea;subst ej;have out:∀t∈w.stp r,t∉b.L->qO (b.L.foldl (cK rk2 b.k) b.tn) b.k i t:=fun t ht hn=>by
    have htn:=ok.stp_lt ht
    cases e3:eF b.tn t with
    | none=>exact absurd ((I.mem t htn).mpr e3) hn
    | some v=>
     obtain ⟨a',b'⟩:=v;exact ⟨a',b',keep t _ e3,.inl (I.tk t a' b' e3)⟩
   have yl:∀t,t∈b.L->∀i',aQ rk2 t=some i'->eF (b.L.foldl (cK rk2 b.k) b.tn) t=some (b.k,i'):=fun t ht i' e3=>by rw [pt,if_pos ht,e3]
   by_cases hl:r∈b.lost
   ·have h0:i=0:=by have:=R2.g r hr hl;rw [e2] at this;cases this;rfl
    subst h0;obtain ⟨_,hz⟩:=(hlost r).mp hl;refine ⟨fun _ hT=>(R1.z r hr hz).1 (List.mem_filter.mpr ⟨hrL,by simpa using hT⟩),?_⟩
    have hno:=R1.no hr hrL hz
    have good:∀t∈inn w.stp b.L r,aQ rk1 t=none->qO (b.L.foldl (cK rk2 b.k) b.tn) b.k 0 t:=fun t ht z=>by
     obtain ⟨h1,h2⟩:=mem_inn.mp ht;exact ⟨b.k,0,yl t h2 0 (R2.g t (hL t h2) ((hlost t).mpr ⟨h2,z⟩)),.inr ⟨rfl,.inr ⟨rfl,rfl⟩⟩⟩
    cases ho:own w p r with
    | true=>
     rw [ho] at hno;refine led_f.mpr fun t ht=>?_
     by_cases h:t∈b.L
     ·have:=mem_inn.mpr ⟨ht,h⟩
      exact good t this (led_f.mp hno t this)
     ·exact out t ht h
    | false=>
     rw [ho] at hno;obtain ⟨t,ht,z⟩:=led_t.mp hno;exact led_t.mpr ⟨t,(mem_inn.mp ht).1,good t ht z⟩
   ·obtain ⟨h1,_,h3⟩:=R2.p r i hr hl e2
    refine ⟨fun z=>by omega,?_⟩
    have good:∀t∈inn w.stp b.L r,(∃i',aQ rk2 t=some i'/\i'<i)->qO (b.L.foldl (cK rk2 b.k) b.tn) b.k i t:=fun t ht ⟨i',z1,z2⟩=>⟨b.k,i',yl t (mem_inn.mp ht).2 i' z1,.inr ⟨rfl,.inl z2⟩⟩
    cases ho:own w p r with
    | true=>
     simp only [ho,Bool.not_true] at h3
     refine led_f.mpr fun t ht=>?_
     by_cases h:t∈b.L
     ·have:=mem_inn.mpr ⟨ht,h⟩
      exact good t this (led_f.mp h3 t this)
     ·exact out t ht h
    | false=>
     simp only [ho,Bool.not_false] at h3
     obtain ⟨t,ht,z⟩:=led_t.mp h3;exact led_t.mpr ⟨t,(mem_inn.mp ht).1,good t ht z⟩
 ·obtain ⟨x,hx⟩:=exists_mem_of_ne_nil _ hne
  have hxL:=((hlost x).mp hx).1
  have h0:=R2.g x (hL x hxL) hx
  have:(b.L.filter fun r=>(aQ rk2 r).isNone).length≠b.L.length:=fun e=>by
   have:=List.length_filter_eq_length_iff.mp e x hxL
   rw [h0] at this
   cases this
  have:=length_filter_le (fun r=>(aQ rk2 r).isNone) b.L
  omega
noncomputable abbrev xv (w:Wd) (p:Int) (T:List Nat) (b:TS):Ev:=[KZ w.enc,KZ (.int p),KZ (aI T),some ⟨.lst .leaf,fH b.tn⟩,KZ (aI b.L),KZ (.int (b.k:Int)),KZ (aI b.lost),b.x7,b.x8,none]
noncomputable abbrev xX:FS:=(b2 (aR aA (aD (bI true) (ak (af 7) (af 8)) (eK .none))) (da 3 (cb (ae (af 5) (ae (ak (af 7) (af 8)) ah))) (af 8)) aS)
noncomputable abbrev nh:FS:=(ay (aC false 7 (av 4 cn (ae (av 2 bO (ae (af 0) (ae (af 4) ah))) (ae (aE .leaf 9 (aZ (ak (af 0) (eK (.int 0)))) aL (aD fN (af 9) (af 1))) (ae (af 4) (ae (af 6) ah))))))
  (ay (fI 8 (aZ (af 4)) xX)
  (ay (fT 5 (eK (.int 1)))
  (ay (aC false 4 (aE .leaf 8 (aZ (af 4)) (aR aA (aD (bI false) (ak (af 3) (af 8)) (eK .none))) (af 8)))
  (aC false 6 (av 4 cB (ae (af 0) (ae (af 1) (ae (af 2) (ae (af 4) ah))))))))))
theorem vm {w:Wd} (ok:w.Ok) {p:Int} {T:List Nat} {b:TS} (I:TI w p T b) (hne:b.lost≠[]):∃b',nh (xv w p T b)=.nx (xv w p T b')/\TI w p T b'/\b'.L.length<b.L.length:=by
 have lo:=ok.g.lo
 have h24:=ok.h24
 have hl:=I.std.len
 have hL:=I.std.lt
 obtain ⟨rk1,R1,el⟩:=I.los;have hlo:∀r∈b.lost,r<w.n:=fun r hr=>by rw [el] at hr;exact hL r (List.mem_filter.mp hr).1
 have hll:b.lost.length<=1000:=by rw [el];exact Nat.le_trans (length_filter_le _ _) (by omega)
 obtain ⟨rk2,e2,R2,_⟩:=Hy (ud ok (L:=b.L)) (cl:=w.os.map fun d=>!qh p d) (thr:=b.L) (goal:=b.lost) (by rw [length_map];exact lo) (ue ok hL I.c) hL (by omega) hlo hll
 rw [GE] at R2;have R2:RightG w.n (inn w.stp b.L) (fun r=>!own w p r) b.L b.lost rk2:=R2.congr fun r hr=>by
  have hr:r<w.n:=hr
  unfold own hJ;rw [KM,KM,getElem?_map,getElem?_map,KL (by omega)]
  rfl
 have hc':∀r∈b.L.filter (fun r=>(aQ rk2 r).isNone),led (own w p r) (w.stp r) (·∈b.L.filter (fun r=>(aQ rk2 r).isNone)):=fun r hr=>by
  obtain ⟨h1,h2⟩:=List.mem_filter.mp hr;exact uW (tR hL I.c R2 h1 (by simpa using h2)) fun t _ h=>List.mem_filter.mpr ⟨h.1,by simpa using h.2⟩
 obtain ⟨rk,e3,R3⟩:=mC ok (T:=T) (I.std.filter fun r=>(aQ rk2 r).isNone) hc'
 have c1:aE .leaf 9 (aZ (ak (af 0) (eK (.int 0)))) aL (aD fN (af 9) (af 1)) (xv w p T b)=.ok ⟨.lst .leaf,mQ (w.os.map fun d=>!qh p d)⟩ (xv w p T b):=by
  have:=m8 (fun d:D=>d) w.os (fun d=>⟨.leaf,.bool (!qh p d)⟩) (s:=.leaf) (i:=9) (fi:=aZ (ak (af 0) (eK (.int 0)))) (fe:=aD fN (af 9) (af 1)) (st:=true) (Γ:=xv w p T b) (by simp [Wd.enc,bK]) (by simp) rfl (by omega) (fun d hd=>by
   rcases ok.g.o d hd with rfl | rfl<;>simp [ne_int,qh])
  rw [this];simp
 have s1:aC false 7 (av 4 cn (ae (av 2 bO (ae (af 0) (ae (af 4) ah))) (ae (aE .leaf 9 (aZ (ak (af 0) (eK (.int 0)))) aL (aD fN (af 9) (af 1))) (ae (af 4) (ae (af 6) ah))))) (xv w p T b)=.nx [KZ w.enc,KZ (.int p),KZ (aI T),some ⟨.lst .leaf,fH b.tn⟩,KZ (aI b.L),KZ (.int (b.k:Int)),KZ (aI b.lost),KZ (aW rk2),b.x8,none]:=bQ (bY (ax (bY (ax (aw rfl) (ax (aw rfl) ai)) (j5 ok) rfl rfl) (ax c1 (ax (aw rfl) (ax (aw rfl) ai)))) e2 rfl rfl) rfl (by simp)
 obtain ⟨y,f1,_⟩:=Fd rm (cK rk2 b.k) (Inv:=fun l r=>l.length=w.n/\∀t∈r,t<w.n) (i:=8) (body:=xX)
  (G:=fun l x=>[KZ w.enc,KZ (.int p),KZ (aI T),some ⟨.lst .leaf,fH l⟩,KZ (aI b.L),KZ (.int (b.k:Int)),KZ (aI b.lost),KZ (aW rk2),x,none])
  (fun _ _=>by simp) (fun _ _ _=>by simp) (fun l r b7 ⟨h1,h2⟩=>by
   have hr:=h2 r mem_cons_self
   refine ⟨?_,by rw [GQ];exact h1,fun t ht=>h2 t (KN _ ht)⟩
   have a1:=fG (rk:=rk2) (t:=r) (by rw [R2.len];exact hr)
   have b1:aR aA (aD (bI true) (ak (af 7) (af 8)) (eK .none)) [KZ w.enc,KZ (.int p),KZ (aI T),some ⟨.lst .leaf,fH l⟩,KZ (aI b.L),KZ (.int (b.k:Int)),KZ (aI b.lost),KZ (aW rk2),KZ (rm r),none]=.ok (!(aQ rk2 r).isNone) [KZ w.enc,KZ (.int p),KZ (aI T),some ⟨.lst .leaf,fH l⟩,KZ (aI b.L),KZ (.int (b.k:Int)),KZ (aI b.lost),KZ (aW rk2),KZ (rm r),none]:=by simp [a1]
   refine aO b1 (fun z=>?_) (fun z=>?_)
   ·cases e:aQ rk2 r with
    | none=>rw [e] at z;cases z
    | some j=>
     rw [e] at a1;rw [Cr (ds:=l.map tD) (j:=r) (k:=(r:Int)) (p:=⟨.tup [.leaf,.leaf],.tuple [.int (b.k:Int),.int (j:Int)]⟩) (s:=.leaf) rfl ?_ (aw rfl) (qQ (by rw [length_map,h1];exact hr)) rfl]
     ·simp [cK,e,List.map_set,tD]
     ·refine cG (ps:=[⟨.leaf,.int (b.k:Int)⟩,⟨.leaf,.int (j:Int)⟩]) (ax (aw rfl) (ax ?_ ai)) rfl rfl
      simp [a1,oD]
   ·cases e:aQ rk2 r with
    | none=>simp [cK,e]
    | some j=>rw [e] at z;cases z) b.L b.tn b.x8 ⟨I.len,hL⟩
 have f2:=h9 (fi:=aZ (af 4)) (Γ:=[KZ w.enc,KZ (.int p),KZ (aI T),some ⟨.lst .leaf,fH b.tn⟩,KZ (aI b.L),KZ (.int (b.k:Int)),KZ (aI b.lost),KZ (aW rk2),b.x8,none]) (fg (ds:=b.L.map rm) (aw rfl) rfl) f1
 obtain ⟨I',hm⟩:=I.step ok R2 hne (rk:=rk) (y7:=some ⟨.leaf,aW rk2⟩) (y8:=y) (fun _=>R3)
 refine ⟨_,?_,I',hm⟩
 have hmem:∀r∈b.L,eF (b.L.foldl (cK rk2 b.k) b.tn) r=(match aQ rk2 r with | some j=>some (b.k,j) | none=>none):=fun r hr=>by
  rw [GW _ _ (fun r hr=>by rw [I.len];exact hL r hr) (I.std.sorted.imp fun h=>by omega),if_pos hr]
  cases aQ rk2 r with
  | none=>exact (I.mem r (hL r hr)).mp hr
  | some j=>rfl
 have ag:fT 5 (eK (.int 1)) [KZ w.enc,KZ (.int p),KZ (aI T),some ⟨.lst .leaf,fH (b.L.foldl (cK rk2 b.k) b.tn)⟩,KZ (aI b.L),KZ (.int (b.k:Int)),KZ (aI b.lost),KZ (aW rk2),y,none]=.nx [KZ w.enc,KZ (.int p),KZ (aI T),some ⟨.lst .leaf,fH (b.L.foldl (cK rk2 b.k) b.tn)⟩,KZ (aI b.L),KZ (.int ((b.k+1:Nat):Int)),KZ (aI b.lost),KZ (aW rk2),y,none]:=by simp
 have c4:aE .leaf 8 (aZ (af 4)) (aR aA (aD (bI false) (ak (af 3) (af 8)) (eK .none))) (af 8) [KZ w.enc,KZ (.int p),KZ (aI T),some ⟨.lst .leaf,fH (b.L.foldl (cK rk2 b.k) b.tn)⟩,KZ (aI b.L),KZ (.int ((b.k+1:Nat):Int)),KZ (aI b.lost),KZ (aW rk2),y,none]=.ok ⟨.lst .leaf,.list ((b.L.filter fun r=>(aQ rk2 r).isNone).map fun t=>rm t)⟩ [KZ w.enc,KZ (.int p),KZ (aI T),some ⟨.lst .leaf,fH (b.L.foldl (cK rk2 b.k) b.tn)⟩,KZ (aI b.L),KZ (.int ((b.k+1:Nat):Int)),KZ (aI b.lost),KZ (aW rk2),y,none]:=by
  refine rD rm b.L (fun r=>(aQ rk2 r).isNone) (fun t=>⟨.leaf,rm t⟩) (st:=true) (by simp) (by simp) rfl (by omega) (fun t ht=>?_) (fun t ht _=>?_)
  ·have a1:=uM (tn:=b.L.foldl (cK rk2 b.k) b.tn) (t:=t) (by rw [Hi,I.len];exact hL t ht)
   have:(eF (b.L.foldl (cK rk2 b.k) b.tn) t).isNone=(aQ rk2 t).isNone:=by
    rw [hmem t ht]
    cases aQ rk2 t<;>rfl
   simp [a1,this]
  ·simp
 exact ao s1 (ao f2 (ao ag (ao (bQ c4 rfl (by simp)) (bQ (bY (ax (aw rfl) (ax (aw rfl) (ax (aw rfl) (ax (aw rfl) ai)))) e3 rfl rfl) rfl (by simp)))))
structure El (w:Wd) (p:Int) (T:List Nat) (tn:List (Option (Nat×Nat))) (L:List Nat):Prop where
 len:tn.length=w.n
 std:Std w.n L
 mem:∀r,r<w.n->(r∈L↔eF tn r=none)
 c:∀r∈L,led (own w p r) (w.stp r) (·∈L)
 suff:Suff w.n w.stp (own w p) (·∈T) (·∈L)
 big:∀X,Suff w.n w.stp (own w p) (·∈T) X->∀r,X r->r∈L
 td:∀r a j,r<w.n->eF tn r=some (a,j)->(j=0->r∉T)/\led (!own w p r) (w.stp r) (qO tn a j)
theorem qx {w:Wd} (ok:w.Ok) {p:Int} {T:List Nat} (hT:Std w.n T):∃tn L,bV [w.enc,.int p,aI T]=.ok ⟨.tup [.lst .leaf,.leaf],.tuple [fH tn,aI L]⟩/\El w p T tn L:=by
 have lo:=ok.g.lo
 have h24:=ok.h24
 have z:∀r,eF (w.os.map fun _=>none) r=none:=fun r=>by
  unfold eF;rw [KM,getElem?_map]
  cases w.os[r]?<;>rfl
 have hc:∀r∈List.range w.n,led (own w p r) (w.stp r) (·∈List.range w.n):=fun r hr=>by
  have hr:=List.mem_range.mp hr
  cases own w p r with
  | true=>
   obtain ⟨t,ht⟩:=exists_mem_of_ne_nil _ (ok.stp_ne hr);exact led_t.mpr ⟨t,ht,List.mem_range.mpr (ok.stp_lt ht)⟩
  | false=>exact led_f.mpr fun t ht=>List.mem_range.mpr (ok.stp_lt ht)
 obtain ⟨rk,e0,R0⟩:=mC ok (T:=T) (L:=List.range w.n) Std.range hc
 have i0:TI w p T ⟨w.os.map fun _=>none,List.range w.n,0,lst rk (List.range w.n),none,none⟩:=by
  refine ⟨by simp [lo],Std.range,fun r hr=>⟨fun _=>z r,fun _=>List.mem_range.mpr hr⟩,hc,fun X hX r hx=>List.mem_range.mpr (hX.lt r hx),⟨rk,R0,rfl⟩,fun r a j e=>?_,fun r a j _ e=>?_⟩
  ·have e:eF (w.os.map fun _=>none) r=some (a,j):=e
   rw [z] at e;cases e
  ·have e:eF (w.os.map fun _=>none) r=some (a,j):=e
   rw [z] at e;cases e
 obtain ⟨b,e,I,hf⟩:=Fp (c:=aR br (af 6)) (g:=nh) (G:=xv w p T) (test:=fun b=>!b.lost.isEmpty) (Inv:=TI w p T) (meas:=fun b=>b.L.length) (fun b I=>by simp) (fun b I hb=>vm ok I (by intro z;rw [z] at hb;simp at hb)) 1000 _ i0 (by
  show (List.range w.n).length<1000
  simp
  omega)
 have hf:b.lost=[]:=by simpa using hf
 obtain ⟨rk1,R1,el⟩:=I.los;have hall:∀r∈b.L,aQ rk1 r≠none:=fun r hr hz=>by
  have:r∈b.lost:=by rw [el];exact List.mem_filter.mpr ⟨hr,by simp [hz]⟩
  rw [hf] at this;simp at this
 refine ⟨b.tn,b.L,?_,I.len,I.std,I.mem,I.c,vv (fun r t ht=>ok.stp_lt ht) I.std.lt I.c (fun r=>by simp [gl]) R1 hall,I.big,I.td⟩
 have co:aE .leaf 9 (aZ (ak (af 0) (eK (.int 0)))) aL (eK .none) (aV 10 [w.enc,.int p,aI T])=.ok ⟨.lst .leaf,fH (w.os.map fun _=>none)⟩ (aV 10 [w.enc,.int p,aI T]):=by
  have:=m8 (fun d:D=>d) w.os (fun _=>⟨.leaf,.none⟩) (s:=.leaf) (i:=9) (fi:=aZ (ak (af 0) (eK (.int 0)))) (fe:=eK .none) (st:=true) (Γ:=aV 10 [w.enc,.int p,aI T]) (by simp [aV,Wd.enc,bK]) (by simp [aV]) rfl (by omega) (fun x hx=>by simp)
  rw [this];unfold fH;rw [map_map];rfl
 have lr:=Ef ok (Γ:=[KZ w.enc,KZ (.int p),KZ (aI T),some ⟨.lst .leaf,fH (w.os.map fun _=>none)⟩,none,none,none,none,none,none]) rfl
 have wh:u6 1000 (aR br (af 6)) nh (xv w p T ⟨w.os.map fun _=>none,List.range w.n,0,lst rk (List.range w.n),none,none⟩)=.nx (xv w p T b):=by
  unfold u6;rw [e]
 refine aT (ao (yM co rfl (by simp [aV])) (ao (bQ lr rfl (by simp [aV])) (ao (bQ aM rfl (by simp [aV])) (ao (bQ (bY (ax (aw rfl) (ax (aw rfl) (ax (aw rfl) (ax (aw rfl) ai)))) e0 rfl rfl) rfl (by simp [aV])) (ao wh (bf (cG (ax (EB (p:=⟨.lst .leaf,fH b.tn⟩) rfl) (ax (aw rfl) ai)) rfl rfl) rfl))))))
noncomputable def FW (rk:List (Option Nat)) (h t:Nat):Bool:=if aQ rk h=some 0 then !(aQ rk t).isNone else nE (aQ rk t) (aQ rk h)
theorem kK {rk:List (Option Nat)} {h t:Nat} (hh:h<rk.length) (ht:t<rk.length):dr [aW rk,rm h,rm t]=.ok ⟨.leaf,.bool (FW rk h t)⟩:=by
 have a1:=fG (rk:=rk) hh
 have a2:=fG (rk:=rk) ht
 have dl:=j4 (a:=aQ rk t) (b:=aQ rk h)
 have e:∀o:Option Nat,bT (oD o) (.int 0)=some (.bool (decide (o=some 0))):=fun o=>by
  cases o with
  | none=>kernel_rfl
  | some k=>
   show bT (.int (k:Int)) (.int 0)=_
   rw [eq_int];congr 2
   rw [Bool.eq_iff_iff];simp
 refine aT ?_
 unfold FW;by_cases q:aQ rk h=some 0
 ·simp [fJ,aV,a1,a2,e,q]
 ·simp [fJ,aV,a1,a2,e,q,dl]
theorem v_or {Γ:Ev} {fa fb:F1} {s:Sh} {a b:Bool} (ha:fa Γ=.ok ⟨s,.bool a⟩ Γ) (hb:fb Γ=.ok ⟨.leaf,.bool b⟩ Γ):DO fa fb Γ=.ok ⟨.leaf,.bool (a||b)⟩ Γ:=by
 unfold DO aU;rw [ha]
 cases a with
 | true=>cases s<;>rfl
 | false=>exact hb
noncomputable def Gc (tn:List (Option (Nat×Nat))) (h t:Nat):Bool:=match eF tn h,eF tn t with
 | some (a,b),some (a',b')=>if a=a' then decide (b'<b)||(decide (b=0)&&decide (b'=0)) else decide (a'<a)
 | _,_=>false
theorem iP {tn:List (Option (Nat×Nat))} {h t:Nat} (hh:h<tn.length) (ht:t<tn.length):cC [fH tn,rm h,rm t]=.ok ⟨.leaf,.bool (Gc tn h t)⟩:=by
 have a1:=uM (tn:=tn) hh
 have a2:=uM (tn:=tn) ht
 refine aT ?_
 unfold Gc
 cases e1:eF tn h with
 | none=>rw [e1] at a1;simp [dS,aV,a1,a2]
 | some v=>
  obtain ⟨a,b⟩:=v
  cases e2:eF tn t with
  | none=>rw [e1] at a1;rw [e2] at a2;simp [dS,aV,a1,a2]
  | some u=>
   obtain ⟨a',b'⟩:=u;rw [e1] at a1;rw [e2] at a2;simp only [tD] at a1 a2
   have g1:∀x y:Nat,fN (.int (x:Int)) (.int (y:Int))=some (.bool (!decide (x=y))):=fun x y=>by
    rw [ne_int];congr 3
    rw [Bool.eq_iff_iff];simp
    omega
   have g2:∀x:Nat,bT (.int (x:Int)) (.int 0)=some (.bool (decide (x=0))):=fun x=>by
    rw [eq_int];congr 2
    rw [Bool.eq_iff_iff];simp
   have g3:∀x y:Nat,eN (.int (x:Int)) (.int (y:Int))=some (.bool (decide (x<y))):=fun x y=>by
    rw [lt_int];congr 2
    rw [Bool.eq_iff_iff];simp
   have s1:aC false 3 (ak (af 0) (af 1)) (aV 5 [fH tn,rm h,rm t])=.nx [KZ (fH tn),KZ (rm h),KZ (rm t),KZ (.tuple [.int (a:Int),.int (b:Int)]),none]:=by simp [aV,a1]
   have s2:aC false 4 (ak (af 0) (af 2)) [KZ (fH tn),KZ (rm h),KZ (rm t),KZ (.tuple [.int (a:Int),.int (b:Int)]),none]=.nx [KZ (fH tn),KZ (rm h),KZ (rm t),KZ (.tuple [.int (a:Int),.int (b:Int)]),KZ (.tuple [.int (a':Int),.int (b':Int)])]:=by simp [a2]
   refine ao s1 (ao s2 (ao (aO (t:=false) (qL (a:=false) (b:=false) (eD (s:=.leaf) (aG (aw rfl) aM rfl)) (eD (s:=.leaf) (aG (aw rfl) aM rfl))) nofun (fun _=>rfl)) ?_))
   have t1:aR aA (aD fN (ak (af 3) (eK (.int 0))) (ak (af 4) (eK (.int 0)))) [KZ (fH tn),KZ (rm h),KZ (rm t),KZ (.tuple [.int (a:Int),.int (b:Int)]),KZ (.tuple [.int (a':Int),.int (b':Int)])]=.ok (!decide (a=a')) [KZ (fH tn),KZ (rm h),KZ (rm t),KZ (.tuple [.int (a:Int),.int (b:Int)]),KZ (.tuple [.int (a':Int),.int (b':Int)])]:=by simp [g1]
   by_cases q:a=a'
   ·dsimp only
    rw [if_pos q];rw [decide_eq_true q] at t1;refine ao (aO t1 nofun (fun _=>rfl)) (bf (v_or (s:=.leaf) (aG (gJ (j:=1) (aw rfl) aM rfl rfl rfl) (gJ (j:=1) (aw rfl) aM rfl rfl rfl) (g3 _ _)) (v_and (s:=.leaf) (aG (gJ (j:=1) (aw rfl) aM rfl rfl rfl) aM (g2 _)) (aG (gJ (j:=1) (aw rfl) aM rfl rfl rfl) aM (g2 _)))) rfl)
   ·dsimp only
    rw [if_neg q];rw [decide_eq_false q] at t1;refine rj (aO t1 (fun _=>bf (aG (gJ (j:=0) (aw rfl) aM rfl rfl rfl) (gJ (j:=0) (aw rfl) aM rfl rfl rfl) (g3 _ _)) rfl) nofun)
noncomputable def B6 (w:Wd) (rk:List (Option Nat)) (r:Nat):List Nat:=(w.stp r).filter fun t=>FW rk r t
noncomputable def Gb (w:Wd) (tn:List (Option (Nat×Nat))) (r:Nat):List Nat:=(w.stp r).filter fun t=>Gc tn r t
theorem qA {w:Wd} (ok:w.Ok) {p:Int} (hp:p=0\/p=1) {T:List Nat} (hT:Std w.n T):∃rk tn L,wz [w.enc,.int p,aI T]=.ok ⟨.tup [.leaf,.lst .leaf,.leaf,.lst .leaf],.tuple [aW rk,aW (dD w p (B6 w rk)),fH tn,aW (dD w (1-p) (Gb w tn))]⟩/\El w p T tn L/\RightG w.n (inn w.stp L) (own w p) L (gl T L) rk:=by
 have h24:=ok.h24
 have c1:=B2 ok hp hT
 obtain ⟨tn,L,e1,A⟩:=qx ok (p:=p) hT
 obtain ⟨rk,e2,R⟩:=j6 ok (T:=T) A.std A.c
 refine ⟨rk,tn,L,?_,A,R⟩
 have p1:=FC ok (p:=p) (sd:=B6 w rk)
 have p2:=FC ok (p:=1-p) (sd:=Gb w tn)
 have o1:=HF (p:=p)
 have k1:g5 .leaf 9 10 (ak (af 0) (eK (.int 2))) aL (aE .leaf 8 (aZ (af 10)) (aR br (av 3 dr (ae (af 5) (ae (af 9) (ae (af 8) ah))))) (af 8)) [KZ w.enc,KZ (.int p),KZ (aI T),KZ (.tuple [fH tn,aI L]),KZ (fH tn),KZ (aW rk),none,none,none,none,none]=.ok ⟨.lst .leaf,.list ((List.range w.n).map fun r=>aI (B6 w rk r))⟩ [KZ w.enc,KZ (.int p),KZ (aI T),KZ (.tuple [fH tn,aI L]),KZ (fH tn),KZ (aW rk),none,none,none,none,none]:=by
  refine Ff (fun r=>aI (w.stp r)) w.n (fun r=>⟨.lst .leaf,aI (B6 w rk r)⟩) (st:=true) ?_ rfl rfl (by omega) rfl (by omega) (fun r hr=>⟨?_,rfl⟩)
  ·simp [Wd.enc,bK,ok.z.s_range]
  ·refine rD rm (w.stp r) (fun t=>FW rk r t) (fun t=>⟨.leaf,rm t⟩) (st:=true) (by simp [Γ2]) (by simp [Γ2]) rfl ok.z.len (fun t ht=>?_) (fun t ht _=>?_)
   ·have:=kK (rk:=rk) (h:=r) (t:=t) (by rw [R.len];exact hr) (by rw [R.len];exact ok.stp_lt ht)
    simp [Γ2,this]
   ·simp [Γ2]
 have k2:g5 .leaf 9 10 (ak (af 0) (eK (.int 2))) aL (aE .leaf 8 (aZ (af 10)) (aR br (av 3 cC (ae (af 4) (ae (af 9) (ae (af 8) ah))))) (af 8)) [KZ w.enc,KZ (.int p),KZ (aI T),KZ (.tuple [fH tn,aI L]),KZ (fH tn),KZ (aW rk),KZ (.list ((List.range w.n).map fun r=>aI (B6 w rk r))),none,none,none,none]=.ok ⟨.lst .leaf,.list ((List.range w.n).map fun r=>aI (Gb w tn r))⟩ [KZ w.enc,KZ (.int p),KZ (aI T),KZ (.tuple [fH tn,aI L]),KZ (fH tn),KZ (aW rk),KZ (.list ((List.range w.n).map fun r=>aI (B6 w rk r))),none,none,none,none]:=by
  refine Ff (fun r=>aI (w.stp r)) w.n (fun r=>⟨.lst .leaf,aI (Gb w tn r)⟩) (st:=true) ?_ rfl rfl (by omega) rfl (by omega) (fun r hr=>⟨?_,rfl⟩)
  ·simp [Wd.enc,bK,ok.z.s_range]
  ·refine rD rm (w.stp r) (fun t=>Gc tn r t) (fun t=>⟨.leaf,rm t⟩) (st:=true) (by simp [Γ2]) (by simp [Γ2]) rfl ok.z.len (fun t ht=>?_) (fun t ht _=>?_)
   ·have:=iP (tn:=tn) (h:=r) (t:=t) (by rw [A.len];exact hr) (by rw [A.len];exact ok.stp_lt ht)
    simp [Γ2,this]
   ·simp [Γ2]
 refine aT (ao (d7 (bY (ax (aw rfl) (ax (aw rfl) (ax (aw rfl) ai))) c1 rfl rfl)) (ao (bQ (bY (ax (aw rfl) (ax (aw rfl) (ax (aw rfl) ai))) e1 rfl rfl) rfl (by simp [aV])) (ao (bQ (gJ (j:=0) (aw rfl) aM rfl rfl rfl) rfl (by simp [aV])) (ao (bQ (bY (ax (aw rfl) (ax (aw rfl) (ax (aw rfl) (ax (gJ (j:=1) (aw rfl) aM rfl rfl rfl) ai)))) e2 rfl rfl) rfl (by simp [aV])) (ao (bQ k1 rfl (by simp [aV])) (ao (bQ k2 rfl (by simp [aV])) (bf (cG (ax (aw rfl) (ax (bY (ax (aw rfl) (ax (aw rfl) (ax (aw rfl) ai))) p1 rfl rfl) (ax (aw rfl) (ax (bY (ax (aw rfl) (ax (bY (ax (aw rfl) ai) o1 rfl rfl) (ax (aw rfl) ai))) p2 rfl rfl) ai)))) rfl rfl) rfl)))))))
noncomputable abbrev IL (w:Wd) (c:Str) (r:Nat):Prop:=c∈w.mks r
noncomputable abbrev gm (w:Wd) (c:Str) (L:List Nat):List Nat:=L.filter fun r=>(w.mks r).contains c
structure Ed (w:Wd) (M:List Str) (L off:List Nat):Prop where
 ne:off≠[]
 sub:∀r∈off,r∈L
 no:∀(R:Nat->Prop) X,Fr w.n w.stp R M (IL w) X->(∀r,X r->r∈L)->∀r∈off,¬X r
structure Ei (w:Wd) (M:List Str) (L:List Nat):Prop where
 c:∀r∈L,∃t∈w.stp r,t∈L
 a:∀m∈M,∀S:Nat->Prop,(∀r,r∈L->IL w m r->S r)->(∀r,r∈L->(∃t∈w.stp r,t∈L/\S t)->S r)->∀r,r∈L->S r
structure KB where
 rows:List D
 L:List Nat
 row:D
structure FI (w:Wd) (R:List Nat) (M:List Str) (b:KB):Prop where
 std:Std w.n b.L
 sub:∀r∈b.L,r∈R
 cnt:b.rows.length+b.L.length<=w.n
 big:∀X,Fr w.n w.stp (·∈R) M (IL w) X->∀r,X r->r∈b.L
 row:(b.row=.none/\Ei w M b.L)\/(∃off o,b.row=.tuple [aI off,o]/\Ed w M b.L off)
theorem za {is:List Nat} {f:F1} {Γ Γ1 Γ':Ev} {p:PV} {ps:List PV} (h:f Γ=.ok p Γ1) (hu:zg p=some ps) (hl:ps.length=is.length) (hp:putN is ps Γ1=some Γ'):ir is f Γ=.nx Γ':=by
 unfold ir g9;rw [h];simp only [hu,hl,if_true,hp]
noncomputable def Gm (w:Wd):List Nat->Prop
 | a::b::r=>b∈w.stp a/\Gm w (b::r)
 | _=>True
structure Las (w:Wd) (p:List Nat):Prop where
 ch:Gm w p
 nd:p.Nodup
 bk:∃z t,p.getLast?=some z/\t∈w.stp z/\t∈p
theorem BJ:∀{n:Nat} {p:List Nat},p.Nodup->(∀x∈p,x<n)->p.length<=n
 | 0,[],_,_=>KW _
 | 0,a::p,_,h=>absurd (h a (by simp)) (Nat.not_lt_zero _)
 | n+1,p,nd,h=>by
  by_cases hn:n∈p
  ·have:=BJ (n:=n) (nd.erase n) fun x hx=>by
    obtain ⟨h1,h2⟩:=nd.mem_erase_iff.mp hx;have:=h x h2
    omega
   rw [List.length_erase_of_mem hn] at this;omega
  ·have:=BJ (n:=n) nd fun x hx=>by
    have h1:=h x hx
    have:x≠n:=fun e=>hn (e▸hx)
    omega
   omega
theorem oR {p:List Nat} {t:Nat} (h:p.Nodup) (ht:t∉p):(p++[t]).Nodup:=by
 rw [List.nodup_append];refine ⟨h,by simp,fun a ha b hb=>?_⟩
 rw [List.mem_singleton.mp hb];exact fun e=>ht (e▸ha)
theorem ia {Γ Γ1 Γ2:Ev} {g:Int->Option Int×Option Int} {fa fb:F1} {s s':Sh} {xs:List D} {k:Int} (ha:fa Γ=.ok ⟨s,.list xs⟩ Γ1) (hb:fb Γ1=.ok ⟨s',.int k⟩ Γ2) (ho:dH ⟨s,.list xs⟩ xs=true):dk g fa fb Γ=.ok ⟨.lst .leaf,.list (T.cutD xs (g k).1 (g k).2)⟩ Γ2:=by
 unfold dk aU;rw [ha];simp only [Out.bind]
 rw [hb];simp only [ho,if_true]
theorem tH {s:Sh} {l:List Nat}:dH ⟨s,aI l⟩ (l.map rm)=true:=by
 unfold dH;simp [bw]
theorem C8 {l:List Nat} {k:Nat}:T.cutD (l.map rm) none (some (k:Int))=(l.take k).map rm:=by
 unfold T.cutD;rw [HT.sIx_none,HT.sIx_nat,List.drop_zero,length_map,Nat.sub_zero,List.map_take];by_cases h:k<=l.length
 ·rw [Nat.min_eq_left h]
 ·rw [Nat.min_eq_right (by omega),take_of_length_le (by simp),take_of_length_le (by simp;omega)]
theorem vx {l:List Nat} {k:Nat}:T.cutD (l.map rm) (some (k:Int)) none=(l.drop k).map rm:=by
 unfold T.cutD;rw [HT.sIx_none,HT.sIx_nat,length_map,List.map_drop];by_cases h:k<=l.length
 ·rw [Nat.min_eq_left h,take_of_length_le (by simp)]
 ·rw [Nat.min_eq_right (by omega),drop_of_length_le (by simp),drop_of_length_le (by simp;omega)]
  simp
theorem vy {n d k:Nat} (h:1<=k):HT.sIx n d (some (-(k:Int)))=n-k:=by
 unfold HT.sIx;simp only
 rw [if_pos (by omega)]
 omega
noncomputable abbrev wy (F R:List Nat):D:=.tuple [aI F,aI R]
structure Kg (w:Wd) (F R:List Nat):Prop where
 ne:R≠[]
 lt:∀x∈F++R,x<w.n
 ch:Gm w (F++R++R.take 1)
 len:F.length+R.length<=1000
theorem Hm {w:Wd} (ok:w.Ok) {Γ:Ev} {i:Nat} {fb:F1} {s:Sh} {r:Nat} (h0:Γ[i]?=some (KZ w.enc)) (hb:fb Γ=.ok ⟨s,rm r⟩ Γ) (hr:r<w.n):ak (ak (af i) (eK (.int 2))) fb Γ=.ok ⟨.leaf,aI (w.stp r)⟩ Γ:=by
 rw [lN,lN,aw h0];simp only [Out.bind,aM,Wd.enc,bK,sN,Di]
 rw [hb];simp only [yb]
 rw [ok.at2 hr]
theorem xG {w:Wd} (ok:w.Ok) {Γ:Ev} {i:Nat} (h0:Γ[i]?=some (KZ w.enc)):bG bt (ae (ak (af i) (eK (.int 0))) ah) Γ=.ok ⟨.leaf,.int (w.n:Int)⟩ Γ:=by
 have e:ak (af i) (eK (.int 0)) Γ=.ok ⟨.leaf,.list w.os⟩ Γ:=by
  rw [lN,aw h0];simp only [Out.bind,aM,Wd.enc,bK,sN,yc]
 refine cE (ax e ai) ?_
 simp [ok.g.lo]
end KC
namespace KQ
open PySem PySem.Spec L2 T PySem.SeqAt KC
open PyProof.Rows hiding St
structure Wg (w:Wd) (r:Nat) (l:List Nat):Prop where
 hd:l.head?=some r
 lt:∀x∈l,x<w.n
 ch:Gm w l
end KQ
namespace KC
open PySem PySem.Spec L2 T
open PyProof.Rows hiding St
noncomputable def jY:KY:=.tuple [.str "some next",.str "some until",.str "some always"]
noncomputable def tW:KY:=.tuple [.str "all next",.str "all until",.str "all always"]
noncomputable def mE:FS:=(ay (aC true 2 (az .leaf ah))
  (ay (aC false 3 (af 1))
  (ay (u6 100 (gk (aR aA (aD (bI true) (af 3) (eK .none))) (aR aA (aD (cW true) (af 3) (af 2))))
  (ay (fO 2 (af 3))
  (aC false 3 (ak (af 0) (af 3)))))
  (ay (b2 (aR aA (aD (bI false) (af 3) (eK .none))) (ba (eK .none)) aS)
  (nt 2 (ay (aC false 4 (nI 2 (af 3)))
  (ba (cb (ae (dk (fun k=>(none,some k)) (af 2) (af 4)) (ae (dk (fun k=>(some k,none)) (af 2) (af 4)) ah))))))))))
noncomputable def eI:List KY->Res:=aH 5 mE
open PySem.SeqAt
noncomputable def Wr.ofS (a:Wr):Bool:=decide (a=.sn\/a=.su\/a=.sa)
noncomputable def Wr.ofA (a:Wr):Bool:=decide (a=.an\/a=.au\/a=.aa)
@[simp] theorem IS (a:Wr):cW false (.str a.t) jY=some (.bool a.ofS):=by cases a<;>kernel_rfl
@[simp] theorem F6 (a:Wr):cW true (.str a.t) jY=some (.bool (!a.ofS)):=by cases a<;>kernel_rfl
@[simp] theorem F7 (a:Wr):cW true (.str a.t) tW=some (.bool (!a.ofA)):=by cases a<;>kernel_rfl
noncomputable def Sn.tm (s:Sn):Bool:=s.w.ofS||s.w.ofA
end KC
namespace KC
open PySem PySem.Spec L2 T PySem.SeqAt
open PyProof.Rows hiding St
theorem yh {w:Wd} (ok:w.Ok) {Γ:Ev} {i:Nat} {fb:F1} {s:Sh} {r:Nat} (h0:Γ[i]?=some (KZ w.enc)) (hb:fb Γ=.ok ⟨s,rm r⟩ Γ) (hr:r<w.n):∃o:Int,ak (ak (af i) (eK (.int 0))) fb Γ=.ok ⟨.leaf,.int o⟩ Γ/\∀p,own w p r=(o==p):=by
 obtain ⟨o,_,a0,ho⟩:=ok.o_at hr;refine ⟨o,?_,ho⟩
 rw [lN,lN,aw h0];simp only [Out.bind,aM,Wd.enc,bK,sN,yc]
 rw [hb];simp only [yb]
 rw [a0]
noncomputable def Eh (ch:List (Option Nat)):List Nat->Prop
 | a::b::r=>aQ ch a=some b/\Eh ch (b::r)
 | _=>True
theorem GL {ch:List (Option Nat)} {z t:Nat} (ht:aQ ch z=some t):∀{p:List Nat},Eh ch p->p.getLast?=some z->Eh ch (p++[t])
 | [],_,h=>by simp at h
 | [a],_,h=>by
  simp at h
  subst h;exact ⟨ht,trivial⟩
 | a::b::r,h,e=>⟨h.1,GL ht h.2 (by simpa using e)⟩
structure yC (n:Nat) (ch:List (Option Nat)) (r:Nat) (F R:List Nat):Prop where
 ne:R≠[]
 lt:∀x∈F++R,x<n
 nd:(F++R).Nodup
 hd:(F++R).head?=some r
 fc:Eh ch (F++R++R.take 1)
noncomputable abbrev GA (ch:List (Option Nat)) (r:Nat) (b:List Nat×Option Nat):Ev:=[KZ (aW ch),KZ (rm r),some ⟨.lst .leaf,aI b.1⟩,KZ (oD b.2),none]
structure AI (n:Nat) (ch:List (Option Nat)) (r:Nat) (b:List Nat×Option Nat):Prop where
 nd:b.1.Nodup
 lt:∀x∈b.1,x<n
 hl:∀t,b.2=some t->t<n
 fc:Eh ch b.1
 st:(b.1=[]/\b.2=some r)\/(b.1.head?=some r/\∃z,b.1.getLast?=some z/\b.2=aQ ch z)
theorem mf {t:Nat}:∀{p:List Nat} {j:Nat},mh (t:Int) (p.map fun x:Nat=>(x:Int))=some j->j<p.length/\p.getD j 0=t
 | [],j,h=>by simp [mh] at h
 | a::r,j,h=>by
  unfold mh at h;simp only [map_cons] at h
  by_cases e:(a:Int)=(t:Int)
  ·rw [if_pos e] at h
   cases h;exact ⟨by simp,by simp;omega⟩
  ·rw [if_neg e] at h
   cases hr:mh (t:Int) (r.map fun x:Nat=>(x:Int)) with
   | none=>rw [hr] at h;cases h
   | some j'=>
    rw [hr] at h
    cases h;obtain ⟨h1,h2⟩:=mf hr;exact ⟨by simp;omega,by simpa using h2⟩
theorem oU {t:Nat}:∀{p:List Nat},t∈p->∃j,mh (t:Int) (p.map fun x:Nat=>(x:Int))=some j
 | [],h=>by simp at h
 | a::r,h=>by
  unfold mh;simp only [map_cons]
  by_cases e:(a:Int)=(t:Int)
  ·exact ⟨0,by rw [if_pos e]⟩
  ·rw [if_neg e]
   obtain ⟨j,hj⟩:=oU (p:=r) (by
    rcases KJ h with z | z
    ·exact absurd (by rw [z]) e
    ·exact z)
   exact ⟨j+1,by rw [hj];rfl⟩
theorem uc {p:List Nat}:rh (p.map rm)=some (p.map fun x:Nat=>(x:Int)):=by
 have:=iH (p.map fun x:Nat=>(x:Int))
 rw [map_map] at this;exact this
noncomputable abbrev rH:FB:=gk (aR aA (aD (bI true) (af 3) (eK .none))) (aR aA (aD (cW true) (af 3) (af 2)))
noncomputable abbrev zd:FS:=ay (fO 2 (af 3)) (aC false 3 (ak (af 0) (af 3)))
theorem nM {n:Nat} (hn:n<=24) {ch:List (Option Nat)} (hl:ch.length=n) (hc:∀r,r<n->∃t,aQ ch r=some t/\t<n) {r:Nat} (hr:r<n):∃F R,eI [aW ch,rm r]=.ok ⟨.tup [.lst .leaf,.lst .leaf],wy F R⟩/\yC n ch r F R:=by
 obtain ⟨b',e1,I,ht⟩:=Fp (β:=List Nat×Option Nat) (c:=rH) (g:=zd) (G:=GA ch r) (test:=fun b=>match b.2 with | some t=>!b.1.contains t | none=>false) (Inv:=AI n ch r) (meas:=fun b=>n-b.1.length)
  (fun b I=>by
   obtain ⟨met,here⟩:=b
   cases here with
   | none=>
    have e:aR aA (aD (bI true) (af 3) (eK .none)) (GA ch r (met,none))=.ok false (GA ch r (met,none)):=eD (s:=.leaf) (aG (aw rfl) aM rfl)
    unfold rH gk;rw [e];rfl
   | some t=>exact yA (a:=true) (eD (s:=.leaf) (aG (aw rfl) aM rfl)) (eD (s:=.leaf) (aG (aw (d:=rm t) rfl) (xU rfl) jT)))
  (fun b I h=>by
   obtain ⟨met,here⟩:=b
   cases here with
   | none=>cases h
   | some t=>
    simp only [Bool.not_eq_true',Bool.eq_false_iff,ne_eq,contains_iff_mem] at h
    have htn:=I.hl t rfl
    have hml:=BJ I.nd I.lt
    have hml':=BJ (oR I.nd h) (n:=n) fun x hx=>by
     rcases KI hx with z | z
     ·exact I.lt x z
     ·rw [List.mem_singleton.mp z];exact htn
    simp only [length_append,length_singleton] at hml hml'
    obtain ⟨u,hu,hun⟩:=hc t htn;have ap:=CC (i:=2) (s:=.leaf) (ds:=met.map rm) (fa:=af 3) (p:=⟨.leaf,rm t⟩) (Γ:=GA ch r (met,some t)) rfl (aw rfl) rfl (by simp;omega)
    have a1:(ch.map oD)[t]?=some (oD (aQ ch t)):=by
     rw [getElem?_map,KL (by omega),aQ,KM,KL (by omega)]
     rfl
    refine ⟨(met++[t],aQ ch t),ao (Γ1:=GA ch r (met++[t],some t)) (ap.trans ?_) (bQ (dY (j:=t) (aw rfl) (aw (d:=rm t) rfl) (qQ (by rw [length_map];omega)) a1 rfl) (by cases aQ ch t<;>rfl) (by simp)),⟨oR I.nd h,fun x hx=>?_,fun v hv=>?_,?_,.inr ⟨?_,t,by simp,rfl⟩⟩,?_⟩
    ·simp [aI]
    ·rcases KI hx with z | z
     ·exact I.lt x z
     ·rw [List.mem_singleton.mp z];exact htn
    ·rw [hu] at hv
     cases hv;exact hun
    ·rcases I.st with ⟨e,_⟩ | ⟨_,z,hz,ez⟩
     ·simp only at e
      rw [e];trivial
     ·exact GL ez.symm I.fc hz
    ·rcases I.st with ⟨e,e2⟩ | ⟨hh,_⟩
     ·simp only at e e2
      rw [e];simpa using e2
     ·simp only at hh ⊢
      cases met with
      | nil=>simp at hh
      | cons a s=>simpa using hh
    ·simp only [length_append,length_singleton]
     omega) 100 ([],some r) ⟨by simp,by simp,fun t e=>by cases e;exact hr,trivial,.inl ⟨rfl,rfl⟩⟩ (by simp;omega)
 obtain ⟨met,here⟩:=b'
 obtain ⟨t,eh,htm,hh,z,hz,ez⟩:∃t,here=some t/\t∈met/\met.head?=some r/\∃z,met.getLast?=some z/\here=aQ ch z:=by
  rcases I.st with ⟨e,e2⟩ | ⟨hh,z,hz,ez⟩
  ·simp only at e e2
   subst e e2;simp at ht
  ·simp only at hh hz ez
   obtain ⟨t,hu,_⟩:=hc z (I.lt z (List.mem_of_getLast? hz))
   rw [hu] at ez;subst ez;simp only [Bool.not_eq_false',contains_iff_mem] at ht
   exact ⟨t,rfl,ht,hh,z,hz,hu.symm⟩
 subst eh;obtain ⟨j,hj⟩:=oU htm;obtain ⟨hjl,hjt⟩:=mf hj;have mlen:=BJ I.nd I.lt
 simp only at mlen
 have hz0:aC true 2 (az .leaf ah) (aV 5 [aW ch,rm r])=.nx [KZ (aW ch),KZ (rm r),some ⟨.lst .leaf,aI []⟩,none,none]:=yM (cN ai rfl rfl rfl) rfl (by simp [aV])
 have tk:met.take j++met.drop j=met:=List.take_append_drop _ _
 have hd1:(met.drop j).take 1=[t]:=by
  rw [drop_eq_getElem_cons hjl];rw [KM,KL hjl] at hjt;exact congrArg (fun x=>[x]) hjt
 refine ⟨met.take j,met.drop j,?_,⟨?_,?_,?_,?_,?_⟩⟩
 ·refine aT ?_
  refine ao hz0 ?_
  refine ao (Γ1:=GA ch r ([],some r)) (bQ (aw rfl) rfl (by simp)) ?_
  refine ao (Γ1:=GA ch r (met,some t)) ?_ ?_
  ·unfold u6
   exact e1
  refine ao (aO (t:=false) (eD (s:=.leaf) (aG (aw rfl) aM rfl)) nofun fun _=>rfl) ?_
  refine xQ (p:=⟨.lst .leaf,aI met⟩) rfl ?_
  have ix:nI 2 (af 3) [KZ (aW ch),KZ (rm r),KZ (aI met),KZ (rm t),none]=.ok ⟨.leaf,.int (j:Int)⟩ [KZ (aW ch),KZ (rm r),KZ (aI met),KZ (rm t),none]:=by
   unfold nI;simp only [getElem?_cons_succ,List.getElem?_cons_zero,mi,if_true]
   rw [aw (d:=rm t) rfl];simp only [Out.bind,wC,getElem?_cons_succ,List.getElem?_cons_zero]
   rw [uc];simp only
   rw [hj]
  refine ao (Γ1:=[KZ (aW ch),KZ (rm r),KZ (aI met),KZ (rm t),KZ (.int (j:Int))]) (bQ ix rfl (by simp)) ?_
  have q1:=ia (g:=fun k=>(none,some k)) (Γ:=[KZ (aW ch),KZ (rm r),KZ (aI met),KZ (rm t),KZ (.int (j:Int))]) (fa:=af 2) (fb:=af 4) (k:=(j:Int)) (aw rfl) (aw rfl) tH
  have q2:=ia (g:=fun k=>(some k,none)) (Γ:=[KZ (aW ch),KZ (rm r),KZ (aI met),KZ (rm t),KZ (.int (j:Int))]) (fa:=af 2) (fb:=af 4) (k:=(j:Int)) (aw rfl) (aw rfl) tH
  simp only at q1 q2
  rw [C8] at q1;rw [vx] at q2;exact bf (cG (ax q1 (ax q2 ai)) rfl rfl) rfl
 ·intro e
  rw [e] at hd1;simp at hd1
 ·rw [tk];exact I.lt
 ·rw [tk];exact I.nd
 ·rw [tk];exact hh
 ·rw [tk,hd1]
  exact GL ez.symm I.fc hz
structure Det (w:Wd):Prop where
 d:∀x,x<w.n->∃t,w.stp x=[t]
noncomputable def Sn.pl:Sn->Bool
 | .yes=>true | .mk _=>true | .un .not a=>a.pl | .bi .and a b=>a.pl&&b.pl | .bi .or a b=>a.pl&&b.pl | _=>false
structure Tmd (s a b:Sn):Prop where
 tm:s.tm=true
 ar:∀x∈s.args,x=a\/x=b
 sz:s.size<=a.size+b.size+1
 dp:s.dep<=max a.dep b.dep+1
 ok:a.ok->b.ok->s.ok
end KC
namespace KQ
open PySem PySem.Spec L2 T PySem.SeqAt KC
open PyProof.Rows hiding St
theorem qv {c k:Int} {b:Nat} (h0:0<=k) (h1:k<=1000) (hb:1<=b) (hb2:b<=1000):∃r:Nat,r<b/\aq [.int c,.int k,.int (b:Int)]=.ok ⟨.leaf,rm r⟩:=by
 have d:=xE (c:=c) (k:=k) (b:=(b:Int)) h0 h1 (by omega) (by omega)
 have i:=Cm (c:=c) (k:=k) (b:=(b:Int)) h0 h1 (by omega) (by omega)
 refine ⟨(dq c k b).toNat,by omega,?_⟩
 rw [d];show _=Res.ok ⟨.leaf,.int ((dq c k b).toNat:Int)⟩
 rw [Int.toNat_of_nonneg i.1]
end KQ
namespace KC
open PySem PySem.Spec L2 T PySem.SeqAt
open PyProof.Rows hiding St
section
variable {i j:Nat} {fe:F1} {s:Sh} {Γ:Ev} {e1 e2:Nat->D} {f:Nat->PV}
noncomputable abbrev Γz (Γ:Ev) (i j:Nat) (e1 e2:Nat->D) (r:Nat):Ev:=(Γ.set i (KZ (e1 r))).set j (KZ (e2 r))
theorem iT (hij:i≠j) (hΓ:(Γ.set i none).set j none=Γ):∀(m k:Nat) (acc:List D),(∀r,k<=r->r<k+m->fe (Γz Γ i j e1 e2 r)=.ok (f r) (Γz Γ i j e1 e2 r)/\coer s (f r)=true)->acc.length+m<=sizeLine->rn i j aL fe s ((List.range' k m).map fun r=>(e1 r,e2 r)) Γ acc=.ok (acc++((List.range' k m).map fun r=>(f r).d)) Γ
 | 0,k,acc,_,_=>by simp [rn]
 | m+1,k,acc,he,hl=>by
  have hl1:acc.length<sizeLine:=by omega
  have back:((Γz Γ i j e1 e2 k).set i none).set j none=Γ:=by
   unfold Γz;rw [List.set_comm _ _ (Ne.symm hij),set_set,set_set];exact hΓ
  rw [List.range'_succ,map_cons,rn];obtain ⟨h2,h3⟩:=he k (KW _) (by omega)
  have h2:fe ((Γ.set i (KZ (e1 k))).set j (KZ (e2 k)))=_:=h2
  show (match fe ((Γ.set i (KZ (e1 k))).set j (KZ (e2 k))) with
   | .ok p Γ2=>if T.coer s p&&decide (acc.length<sizeLine) then rn i j aL fe s _ ((Γ2.set i none).set j none) (acc++[p.d]) else .no
   | _=>.no)=_
  rw [h2];dsimp only;rw [h3,decide_eq_true hl1,Bool.and_self,if_pos rfl,back,iT hij hΓ m (k+1) (acc++[(f k).d]) (fun r h1 h2=>he r (by omega) (by omega)) (by simp only [length_append,length_cons,List.length_nil];omega)]
  rw [map_cons,append_assoc];rfl
end
noncomputable def iC (a b:List (Option Nat)) (r:Nat):Option Nat:=if (aQ a r).isNone then aQ b r else aQ a r
noncomputable def lY (n:Nat) (a b:List (Option Nat)):List (Option Nat):=(List.range n).map (iC a b)
theorem wu {n:Nat} {a b:List (Option Nat)} {r:Nat} (h:r<n):aQ (lY n a b) r=iC a b r:=by
 unfold lY aQ;rw [KM,getElem?_map,getElem?_range h];rfl
theorem xV {c:FB} {fa fb:F1} {Γ:Ev} {t:Bool} {p:PV} (hc:c Γ=.ok t Γ) (ha:t=true->fa Γ=.ok p Γ) (hb:t=false->fb Γ=.ok p Γ):kU c fa fb Γ=.ok p Γ:=by
 unfold kU;rw [hc];simp only [xA]
 cases t with
 | true=>exact ha rfl
 | false=>exact hb rfl
end KC
namespace T
open PySem PySem.Spec L2
open PyProof.Rows hiding St
theorem p8 {P:Program} {w:World} {H:Hp} {h:Heap} {a:Addr} {o:HO} (x:ObjOk P w H h a o):∃u,h.get? a=some u:=by
 cases o with
 | lst xs=>obtain ⟨_,_,_,_,e⟩:=x;exact ⟨_,e⟩
 | tup xs=>obtain ⟨_,_,_,_,e,_⟩:=x;exact ⟨_,e⟩
 | dK kvs=>obtain ⟨_,_,_,_,o,_,_,e,_⟩:=x;exact ⟨_,e⟩
 | dT kvs=>obtain ⟨_,_,_,_,o,_,_,e,_⟩:=x;exact ⟨_,e⟩
 | set S n=>obtain ⟨o,_,_,_,e,_⟩:=x;exact ⟨_,e⟩
 | ins C dx fs=>obtain ⟨_,_,_,e,_⟩:=x;exact ⟨_,e⟩
 | own y=>obtain ⟨_,e⟩:=x;exact ⟨_,e⟩
 | xd fs=>obtain ⟨_,⟨_,_,_,e,_⟩,_⟩:=x;exact ⟨_,e⟩
 | rng lo hi=>obtain ⟨_,_,_,e⟩:=x;exact ⟨_,e⟩
 | frz ob u=>obtain ⟨e,_⟩:=x;exact ⟨_,e⟩
 | tbl ps=>exact ⟨_,show h.get? a=some _ from x⟩
 | met f y=>exact ⟨_,show h.get? a=some _ from x⟩
 | ext φ=>obtain ⟨_,⟨_,e⟩,_⟩:=x;exact ⟨_,e⟩
structure BF (P:Program) (w:World) (outer:List Env) (H:Hp) (s:Shared) (H':Hp) (C a:Addr) (s':Shared):Prop where
 os:s'.os=s.os
 bare:AllBare s'.gens
 un:Un (gz outer) [] H H' s.heap s'.heap
 hok:HOk P w H' s'.heap
 fly:∃B a0,Heap.FlyingW B outer a (.ref C) a0 s'.heap/\(∀b o,H' b=some o->∃u,B.get? b=some u)/\(∀b o,s.heap.get? b=some o->b∉gz outer->∃u,B.get? b=some u)
def rf (P:Program) (w:World):pe:=fun outer H s E e s'=>∃a C H',e=.ref a/\BF P w outer H s H' C a s'/\E (.ref C) none H'
section
variable {X:Cx} {pins:List (Addr×Obj)} {σ:St} {H H':Hp} {s s':Shared} {B h2:Heap} {C a:Addr} {a0:Value} {E:XK}
theorem uu (I:Inv X pins σ H s) (hex:X.ex=[]) (hst:X.stack=X.env::X.outer) (hf:X.env.frame=some X.env.locals)
  (un:Un (gz X.stack) [] H H' s.heap h2) (hok:HOk X.prog X.w H' h2) (st:B.StaysIn h2) (c1:∀b o,H' b=some o->∃u,B.get? b=some u) (c2:∀b o,s.heap.get? b=some o->b∉gz X.stack->∃u,B.get? b=some u)
  (ff:h2.FunFrames B X.stack) (fl:Heap.FlyingW B X.outer a (.ref C) a0 s'.heap) (up:h2.UpToSlots s'.heap) (os:s'.os=s.os) (bare:AllBare s'.gens):BF X.prog X.w X.outer X.H₀ X.s₀ H' C a s':=by
 have hfs:gz X.stack=X.env.locals::X.fs:=by
  rw [hst];show List.filterMap _ _=_
  rw [filterMap_cons,hf];rfl
 have hx:∀b:Addr,b∉X.ex:=fun b=>by rw [hex];exact nofun
 have hn:∀b:Addr,b∉([]:List Addr):=fun b z=>nomatch z
 have old:∀b o,X.s₀.heap.get? b=some o->b∉X.fs->b∉gz X.stack:=fun b o q hb z=>by
  rw [hfs] at z;rcases KJ z with z | z
  ·have l1:=Heap.lt_size q
   have l2:=I.ok.above
   rw [<-z] at l2;exact absurd l1 (Nat.not_lt.mpr l2)
  ·exact hb z
 have keepB:∀b o u,B.get? b=some u->h2.get? b=some o->s'.heap.get? b=some o:=fun b o u e1 e2=>by
  have e3:=st b u e1
  rw [e2] at e3
  cases e3;exact fl.1 b o e1
 have ffo:=fl.2.2.1
 refine ⟨os.trans I.os,bare,⟨fun b o q n hb _=>?_,fun b o q n hb _=>?_,fun b o q n _=>?_,fun b o q _=>?_,fun b xs q=>un.tups b xs (I.base.tups b xs q),fun b o u q=>un.frzs b o u (I.base.frzs b o u q),fun b ps q=>?_⟩,fun b o e=>?_,B,a0,fl,c1,fun b o q hb=>?_⟩
 ·have q1:=I.base.keep b o q n hb (hx b)
  have n1:=I.base.free b o q n (hx b)
  have hb':=old b o q hb
  obtain ⟨u,e⟩:=c2 b o q1 hb'
  exact keepB b o u e (un.keep b o q1 n1 hb' (hn b))
 ·obtain ⟨sl,q1⟩:=I.base.slot b o q n hb (hx b)
  have n1:=I.base.free b o q n (hx b)
  have hb':b∈gz X.stack:=by rw [hfs];exact KN _ hb
  obtain ⟨sl2,q2⟩:=un.slot b _ q1 n1 hb' (hn b)
  obtain ⟨_,o',e,d⟩:=ff.mem hb'
  rw [q2] at e
  cases e;obtain ⟨sl3,q3⟩:=up b _ q2 d;exact ⟨sl3,q3⟩
 ·obtain ⟨o1,q1⟩:=I.base.there b o q (hx b)
  exact un.free b o1 q1 (I.base.free b o q n (hx b)) (hn b)
 ·obtain ⟨o1,q1⟩:=I.base.there b o q (hx b)
  by_cases hb:b∈X.fs
  ·obtain ⟨_,o',e,_⟩:=ffo.mem hb
   exact ⟨o',e⟩
  ·obtain ⟨u,e⟩:=c2 b o1 q1 (old b o q hb)
   exact ⟨u,fl.1 b u e⟩
 ·obtain ⟨m1,e1⟩:=I.base.tbls b ps q
  obtain ⟨m2,e2⟩:=un.tbls b _ e1;exact ⟨m1++m2,by rw [e2,Array.append_assoc]⟩
 ·refine (hok b o e).stay (fun c u hc q=>?_) (fun _ q=>q) fun _ _ q=>q
  have hc':∃o',H' c=some o':=by
   rcases hc with z | z
   ·exact ⟨o,by rw [z];exact e⟩
   ·exact ⟨_,z⟩
  obtain ⟨o',z⟩:=hc'
  obtain ⟨v,e1⟩:=c1 c o' z
  exact keepB c u v e1 q
 ·obtain ⟨o1,q1⟩:=I.base.there b o q (hx b)
  exact c2 b o1 q1 (old b o q hb)
theorem Bl {M:Model} {A:Around} {E2:Value->Shared->Prop} {Q:Unit->Shared->Prop} (I:Inv X pins σ H s) (hex:X.ex=[]) (hst:X.stack=X.env::X.outer) (hf:X.env.frame=some X.env.locals) (hA:A.frames=some X.stack) (f:BF X.prog X.w X.stack H s H' C a s')
  (hQ:∀h',BF X.prog X.w X.outer X.H₀ X.s₀ H' C a { s' with heap:=h' }->Q () { s' with heap:=h' }):wpAny M A (leaving X.env (.ref a)) Q E2 s':=by
 obtain ⟨os,bare,un,hok,B,a0,fl,c1,c2⟩:=f;refine wpAny_leaves_onW (by rw [hA,hst]) hf (by rw [<-hst];exact fl) fun h' fl' up=>hQ h' ?_
 exact uu (s':={ s' with heap:=h' }) I hex hst hf un hok fl.1 c1 c2 fl.2.2.1 fl' up os bare
theorem uv {M:Model} {A:Around} {E2:Value->Shared->Prop} {Q:Unit->Shared->Prop} {h1:Heap} {args:List Value} (I:Inv X pins σ H s) (hex:X.ex=[]) (hst:X.stack=X.env::X.outer) (hf:X.env.frame=some X.env.locals) (hA:A.frames=some X.stack)
  (hx:Heap.MadeExcOf s.heap h1 a (.ref C) args) (hQ:∀h',BF X.prog X.w X.outer X.H₀ X.s₀ H C a { s with heap:=h' }->Q () { s with heap:=h' }):wpAny M A (leaving X.env (.ref a)) Q E2 { s with heap:=h1 }:=by
 have ff:s.heap.FunFrames (PySem.W.hideAll s.heap (gz X.stack)) X.stack:=PySem.W.funFrames_hide I.stack fun env he b hb=>List.mem_filterMap.mpr ⟨env,he,hb⟩
 refine wpAny_leaves_madeW (base:=PySem.W.hideAll s.heap (gz X.stack)) (h:=s.heap) (env:=X.env) (outer:=X.outer) (by rw [hA,hst]) hf (fun b o q=>PySem.W.of_hideAll _ q) (by rw [<-hst];exact ff) hx fun h' t fl _ _ up=>hQ h' ?_
 refine uu (h2:=s.heap) (s':={ s with heap:=h' }) I hex hst hf (Un.kept fun b o q=>q) I.hok (fun b o q=>PySem.W.of_hideAll _ q) (fun b o e=>?_) (fun b o q hb=>⟨o,PySem.W.hideAll_get _ q hb⟩) ff fl ((Heap.UpToSlots.of_keeps hx.keeps).trans up) rfl I.bare
 by_cases hb:b∈gz X.stack
 ·have:=I.stkFree b hb
  rw [this] at e
  cases e
 ·obtain ⟨u,hu⟩:∃u,s.heap.get? b=some u:=by
   exact p8 (I.hok b o e)
  exact ⟨u,PySem.W.hideAll_get _ hu hb⟩
end
theorem Dq {P:Program} {w:World} {K:Fg} {mg:Str->Option Value} {base:Heap} {N:List Str} {qual:Str} {sc:Scope} {f:Addr} {cd:Value} {A:Around} {outer:List Env} {s:Shared} {H:Hp} {E E':XK}
  (h:∀u d H',E' u d H'->E u d H'):Em (rf P w) (eX (rf P w) P w K mg base N qual sc f cd A outer s H E) E':=by
 intro pins σ H1 s1 e s2 I h2;obtain ⟨a,C,H',rfl,fl,hE⟩:=h2;exact Bl I rfl rfl rfl I.ok.frames fl fun h' fl'=>⟨a,C,H',rfl,fl',h _ _ _ hE⟩
def Makes (X:Cx) (E:XK):Prop:=∀(pins:List (Addr×Obj)) (σ:St) (H:Hp) (s:Shared) (h1:Heap) (a C:Addr) (args:List Value),Inv X pins σ H s->Heap.MadeExcOf s.heap h1 a (.ref C) args->E (.ref C) none H->X.xe (.ref a) { s with heap:=h1 }
theorem AF {P:Program} {w:World} {K:Fg} {mg:Str->Option Value} {base:Heap} {N:List Str} {qual:Str} {sc:Scope} {f:Addr} {cd:Value} {A:Around} {outer:List Env} {s:Shared} {H:Hp} {E E':XK}
  (h:∀u d H',E' u d H'->E u d H'):Makes (eX (rf P w) P w K mg base N qual sc f cd A outer s H E) E':=by
 intro pins σ H1 s1 h1 a C args I hx hE;exact uv I rfl rfl rfl I.ok.frames hx fun h' fl=>⟨a,C,H1,rfl,fl,h _ _ _ hE⟩
section
variable {X:Cx} {x:Str} {C:Addr} {B Bn newId nid initId inN:String} {bm bmN:List Value} {np cpos pos:Pos} {e:Expr} {es:List Expr} {t:TA} {E:XK}
def zq (C:Addr) (E:XK) (t:TA):TS:=fun _ σ H=>t σ H fun vs H1=>vs.length<=sizeLine/\E (.ref C) none H1
theorem sY (hc:X.calm=true) (O:OwnCls x C bm newId X.mg X.base) (Fn:ExcBaseFacts Bn newId inN bmN) (hBn:bm.contains (.type Bn)=true) (FB:ExcBaseFacts B nid initId bm) (hg:Gl X x) (hM:Makes X E) (ha:PA X (e::es) t)
  (he:starEach (e::es) X.env=(false,eval e X.env)::starEach es X.env:=by rfl) (hplain:(backTo cpos (starEach es X.env)).any (·.1)=false:=by rfl) (hd:(x==("__debug__":Str))=false:=by decide) :
  PS X (.Raise (some (.Call (.Name x np) (e::es) [] cpos)) none pos) (zq C E t):=by
 intro pins s σ H D I h;obtain ⟨tl,N,nm,q,bs,hdct,sn,sub,ab,col,dd,k0,k1,k2,k3,k5,mN,hC,hN,hni,T⟩:=O.obj;refine wpAny_Raise_call_subU (C:=C) (nm:=nm) (q:=q) (N:=N) (bs:=bs) (bm:=tl) (hdct:=hdct) (sn:=sn) (sub:=sub) (ab:=ab) (col:=col) (dd:=dd) (k0:=k0) (k1:=k1) (k2:=k2) (k3:=k3) (k5:=k5)
  Fn hBn FB (mN:=mN) (T.hasType FB.hasBase) (I.ok.hd hc) (by rw [he];show (false||(backTo cpos (starEach es X.env)).any (·.1))=false;rw [hplain];rfl) hni (Cv I hg O.bound ⟨rfl,?_⟩ hd)
 have h2:=ha cpos pins s σ H _ I h
 rw [he] at h2 ⊢;refine Calls.evalArgs_plain (wpAny_mono h2 (fun vs s₂ h₂=>?_) fun _ _ y=>y)
 obtain ⟨ws,H1,I1,r,hl,hE⟩:=h₂;exact ⟨rfl,by rw [<-r.length];exact hl,I1.bk _ _ hC,hN.keeps I1.bk,T.keeps I1.bk,fun h' a hx=>hM pins σ H1 s₂ h' a C vs I1 hx hE⟩
end
def EC (CX:pe) (X:Cx) (EE:St->XK):Prop:=∀(pins:List (Addr×Obj)) (σ:St) (H:Hp) (s:Shared) (e:Value) (s':Shared),Inv X pins σ H s->CX X.stack H s (EE σ) e s'->X.xe e s'
def rY (sp:Sp) (EE:St->XK) (t:TA):TE:=fun σ H Q=>t σ H fun vs H1=>sp vs H1 Q (EE σ)
section
variable {X:Cx} {CX:pe} {k:Nat} {f:Addr} {fd:FuncData} {ps:List Str} {sp:Sp} {EE:St->XK} {x:Str} {p pos:Pos} {e:Expr} {es:List Expr} {t:TA}
theorem vD {pins:List (Addr×Obj)} {σ:St} {H:Hp} {s:Shared} {Q:VK} {us:List Value} {vs:List V} (F:dO X.prog X.w X.K X.mg X.base CX k f fd ps sp) (hr:Room k X.A) (hb:Binds X.K fd ps []) (hx:EC CX X EE)
  (I:Inv X pins σ H s) (r:Vals vs us) (h:sp vs H Q (EE σ)):wpAny (model X.prog X.w) X.A (call (.ref f) us) (EP X pins σ Q) X.xe s:=by
 have hl:us.length=ps.length:=by rw [<-r.length];exact F.len _ _ _ _ h
 have hb2:=hb s us I.kIn (by rw [append_nil];exact hl)
 rw [append_nil] at hb2;refine wpAny_call (codeAny_mono (F.run X.A X.stack s H ⟨us,[]⟩ us vs Q (EE σ) hr I.env0 hb2 r h) fun r s' hq=>?_)
 cases r with
 | error e=>exact hx pins σ H s e s' I hq
 | ok fl=>
  cases fl with
  | ret u=>exact I.after hq
  | next=>exact False.elim hq
  | brk=>exact False.elim hq
  | cont=>exact False.elim hq
theorem tv (F:dO X.prog X.w X.K X.mg X.base CX k f fd ps sp) (hr:Room k X.A) (hg:Gl X x) (hm:X.mg x=some (.ref f)) (hk:PySem.W.keepIn X.K (.ref f)=true) (hb:Binds X.K fd ps []) (hx:EC CX X EE)
  (ha:PA X (e::es) t) (hdb:(x==("__debug__":Str))=false:=by decide) (he:starEach (e::es) X.env=(false,eval e X.env)::starEach es X.env:=by rfl) (hpl:(backTo pos (starEach es X.env)).any (·.1)=false:=by rfl) :
  PE X (.Call (.Name x p) (e::es) [] pos) (rY sp EE t):=by
 intro pins s σ H Q I h;refine wpAny_Call_Name_kw (Cv I hg hm ?_ hdb)
 refine PySem.W.callWith_K (h₀:=X.base) I.ok.mod.kin hk (bM (ha pos pins s σ H _ I h) fun us s1 ⟨vs,H1,I1,r,q⟩=>⟨I1.kIn,?_⟩) he hpl
 exact vD F hr hb hx I1 r q
end
def eL (X:Cx) (pins:List (Addr×Obj)) (W:Addr->St->Hp->Prop):Cx:=
 { X with pn:=X.pn++pins,xe:=fun e s'=>∃(ps:List (Addr×Obj)) (σ:St) (H H':Hp) (s:Shared) (a C:Addr),e=.ref a/\Inv X (pins++ps) σ H s/\BF X.prog X.w X.stack H s H' C a s'/\W C σ H' }
section
variable {X:Cx} {pins ps:List (Addr×Obj)} {W:Addr->St->Hp->Prop} {σ:St} {H:Hp} {s:Shared}
theorem uh (ok:X.Ok):(eL X pins W).Ok:=⟨ok.mod,ok.kind,ok.glob,ok.blt,ok.above,ok.inj,ok.has,ok.cab,ok.hd,ok.frames,ok.stk,ok.exf,ok.bs,ok.bsz,ok.noex,ok.exfs,ok.funs,ok.frf⟩
theorem uf (ok:(eL X pins W).Ok):X.Ok:=⟨ok.mod,ok.kind,ok.glob,ok.blt,ok.above,ok.inj,ok.has,ok.cab,ok.hd,ok.frames,ok.stk,ok.exf,ok.bs,ok.bsz,ok.noex,ok.exfs,ok.funs,ok.frf⟩
theorem ug (I:Inv X (pins++ps) σ H s):Inv (eL X pins W) ps σ H s:=⟨uh I.ok,I.os,I.bare,I.base,I.loc,I.cell,I.free,I.freeC,fun p hp=>I.pin p (by rw [<-append_assoc];exact hp),I.hok,I.len⟩
theorem ml (I:Inv (eL X pins W) ps σ H s):Inv X (pins++ps) σ H s:=⟨uf I.ok,I.os,I.bare,I.base,I.loc,I.cell,I.free,I.freeC,fun p hp=>I.pin p (by rw [<-append_assoc] at hp;exact hp),I.hok,I.len⟩
theorem Inv.less (I:Inv X (pins++ps) σ H s):Inv X pins σ H s:=⟨I.ok,I.os,I.bare,I.base,I.loc,I.cell,I.free,I.freeC,fun p hp=>I.pin p (by rw [<-append_assoc];exact KH _ hp),I.hok,I.len⟩
theorem kH:EC (rf X.prog X.w) (eL X pins W) fun σ=>fun u _ H'=>∃C,u=.ref C/\W C σ H':=by
 intro qs σ H s e s' I h
 obtain ⟨a,C,H',rfl,fl,C',hC,hW⟩:=h
 cases hC;exact ⟨qs,σ,H,H',s,a,C,rfl,ml I,fl,hW⟩
end
end T
namespace T
open PySem
def Rs (xs:Array Nat):Prop:=xs.toList.Pairwise (· < ·)
structure Tb (b:Bool) (t:SetTable):Prop where
 led:b=false->t.led=true
 rs:Rs t.place
 nd:t.dummies=#[]
open PySem.Spec L2
open PyProof.Rows hiding St
end T
namespace TQ
open PySem PySem.Spec L2 T
open PyProof.Rows hiding St
variable {X:Cx} {N gl:List Str} {vs cs ls lo gs:List Nat} {W:XW} {a b:Expr} {pos p:Pos} {fl:FL}
end TQ
namespace T
open PySem PySem.Spec L2
open PyProof.Rows hiding St
section
variable {K:Fg} {W:XW} {He H:Hp} {O:List Addr} {Fs:List (List Addr)} {σ:St} {Γ:Ev} {D:d9}
theorem EnvOk.nm {j:Nat} {x:Option V} (E:EnvOk K He O Fs H σ Γ) (hj:∀p,Γ[j]?≠some (some p)):EnvOk K He O Fs H (σ.set j x) Γ:=
 ⟨by rw [length_set];exact E.len1,E.len2,E.same,E.nd,E.inH,E.fresh,fun m p hm=>by
  have hne:j≠m:=fun z=>hj p (by rw [z];exact hm)
  obtain ⟨a,v,F,b,c,d⟩:=E.slot m p hm;exact ⟨a,v,F,by rw [getElem?_set_ne hne];exact b,c,d⟩⟩
end
section
variable {X:Cx} {N gl:List Str} {vs cs ls lo gs:List Nat} {W:XW}
structure Ap (X:Cx) (o a:Expr) (apos cpos:Pos) (epos:Pos):Prop where
 hbase:attributeBase o "append" X.env (eval o X.env)=eval o X.env
 hline:(apos.endLine==cpos.line)=true
 hfew:((backTo cpos (starEach [a] X.env)).all (fun x=>!x.1)&&(backToKw cpos (keywordEach [] X.env)).all (fun x=>x.1.isSome)&&decide ([a].length+([]:List Keyword).length+(if ([]:List Keyword).isEmpty then 0 else 1)<30))=true
 hsw:swapsWith (.Call (.Attribute o "append" apos) [a] [] cpos) none epos.line X.env=pure false
 hst:starEach [a] X.env=[(false,eval a X.env)]
end
def D7 (L:List Nat) (σ σ':St):Prop:=∀i∈L,σ'[i]?=σ[i]?
def nD (L:List Nat) (D:d9) (σ:St):d9:={ D with nx:=fun σ' H'=>D7 L σ σ'->D.nx σ' H' }
def tN (L:List Nat) (K:Fg) (W:XW) (g:FS):TS:=fun D σ H=>tS K W g (nD L D σ) σ H
section
variable {K:Fg} {W:XW} {σ:St} {H:Hp} {D:d9} {fa fb fk:F1} {g g1 g2:FS} {c:FB} {L:List Nat}
theorem xr {i:Nat} {x:Option V} (h:i∉L):D7 L σ (σ.set i x):=fun j hj=>getElem?_set_ne (fun z:i=j=>h (by rw [z];exact hj))
theorem wq:(nD L D σ).nx σ=D.nx σ:=funext fun _=>propext ⟨fun h=>h fun _ _=>rfl,fun h _=>h⟩
theorem II {R:(Hp->Prop)->Prop} (h:R ((nD L D σ).nx σ)):R (D.nx σ):=wq (L:=L) (D:=D) (σ:=σ)▸h
theorem nZ {D':d9} (h:tS K W g D σ H) (h1:∀σ' H',D.nx σ' H'->D'.nx σ' H') (h2:D'.rt=D.rt) (h3:D'.bk=D.bk) (h4:D'.ct=D.ct):tS K W g D' σ H:=by
 obtain ⟨He,O,Fs,Γ,E,h⟩:=h;refine ⟨He,O,Fs,Γ,E,?_⟩
 cases e:g Γ with
 | nx Γ'=>rw [e] at h;exact fun σ' H' Fs' E'=>h1 _ _ (h σ' H' Fs' E')
 | bk Γ'=>rw [e] at h;exact fun σ' H' Fs' E'=>by rw [h3];exact h σ' H' Fs' E'
 | ct Γ'=>rw [e] at h;exact fun σ' H' Fs' E'=>by rw [h4];exact h σ' H' Fs' E'
 | rt p=>rw [e] at h;exact fun v H' G r=>by rw [h2];exact h v H' G r
 | er c Γ'=>rw [e] at h;exact h
 | no=>rw [e] at h;exact h
theorem AE {σ1:St} (h:D7 L σ σ1):nD L D σ1=nD L D σ:=by
 unfold nD;congr 1
 funext σ' H'
 have:D7 L σ1 σ'↔D7 L σ σ':=⟨fun z i hi=>(z i hi).trans (h i hi),fun z i hi=>(z i hi).trans (h i hi).symm⟩
 rw [propext this]
theorem vL (h:tN L K W (ay g1 g2) D σ H):zo (tN L K W g1) (tN L K W g2) D σ H:=by
 have h:=sy h
 refine nZ (D':=nD L { D with nx:=tN L K W g2 D } σ) h (fun σ1 H1 z a=>?_) rfl rfl rfl
 show tS K W g2 (nD L D σ1) σ1 H1
 rw [AE a];exact z
theorem sC (h:tN L K W aS D σ H):rV D σ H:=II (L:=L) (R:=fun P=>P H) (ow h)
theorem zM (h:tN L K W (b2 c g1 g2) D σ H):zr (tT K W c) (tN L K W g1) (tN L K W g2) D σ H:=sE h
theorem vJ {own:Bool} {i:Nat} (hi:i∉L) (h:tN L K W (aC own i fa) D σ H):kl (tE K W fa) (L2.gName i) D σ H:=by
 have h:tE K W fa σ H fun v H1=>(nD L D σ).nx (σ.set i (some v)) H1:=BL h
 have e:(fun v H1=>(nD L D σ).nx (σ.set i (some v)) H1)=fun v H1=>D.nx (σ.set i (some v)) H1:=funext fun v=>funext fun H1=>propext ⟨fun z=>z (xr hi),fun z _=>z⟩
 rw [e] at h;exact h
end
structure Jp (K:Fg) (He:Hp) (O:List Addr) (ss:List Sh) (vs:List V) (ds:List KY) (H:Hp) (Gs:List (List Addr)):Prop where
 same:Same He H
 lg:Gs.length=ss.length
 ld:ds.length=ss.length
 nd:Gs.flatten.Nodup
 inH:∀a∈Gs.flatten,H a≠none
 fresh:∀a∈Gs.flatten,He a=none
 own:∀(i:Nat) v d G s,vs[i]?=some v->ds[i]?=some d->Gs[i]?=some G->ss[i]?=some s->Own K (Gs.flatten++O) H s G v d
abbrev yH (x:Str) (s:Stmt) (ps:List Str) (us:List Value):Prop:=∀(kV doc pm:Value) (an:Option Addr) (cdv ct:Value),bindArgs (PySem.W.fnOf x x (BN s) (pj s) (g6 s) .none kV doc pm an cdv ct) ⟨us,[]⟩=pure (ps.zip us)
abbrev qP (x:Str) (s:Stmt) (ps:List Str):Prop:=∀us:List Value,us.length=ps.length->yH x s ps us
section
variable {x:Str} {s:Stmt} {p1 p2 p3 p4 p5 p6:Str}
theorem yy (h:∀a,yH x s [p1] [a]:=by exact fun _ _ _ _ _ _ _=>rfl):qP x s [p1]:=fun us hl=>match us,hl with | [_],_=>h _
theorem uJ (h:∀a b,yH x s [p1,p2] [a,b]:=by exact fun _ _ _ _ _ _ _ _=>rfl):qP x s [p1,p2]:=fun us hl=>match us,hl with | [_,_],_=>h _ _
theorem kW (h:∀a b c,yH x s [p1,p2,p3] [a,b,c]:=by exact fun _ _ _ _ _ _ _ _ _=>rfl):qP x s [p1,p2,p3]:=fun us hl=>match us,hl with | [_,_,_],_=>h _ _ _
theorem yx (h:∀a b c d,yH x s [p1,p2,p3,p4] [a,b,c,d]:=by exact fun _ _ _ _ _ _ _ _ _ _=>rfl):qP x s [p1,p2,p3,p4]:=fun us hl=>match us,hl with | [_,_,_,_],_=>h _ _ _ _
theorem J7 (h:∀a b c d e,yH x s [p1,p2,p3,p4,p5] [a,b,c,d,e]:=by exact fun _ _ _ _ _ _ _ _ _ _ _=>rfl):qP x s [p1,p2,p3,p4,p5]:=fun us hl=>match us,hl with | [_,_,_,_,_],_=>h _ _ _ _ _
theorem J6 (h:∀a b c d e f,yH x s [p1,p2,p3,p4,p5,p6] [a,b,c,d,e,f]:=by exact fun _ _ _ _ _ _ _ _ _ _ _ _=>rfl):qP x s [p1,p2,p3,p4,p5,p6]:=fun us hl=>match us,hl with | [_,_,_,_,_,_],_=>h _ _ _ _ _ _
end
def Ft (K:Fg) (mg:Str->Option Value) (n:Str) (s:Stmt):Prop:=∃f fd,mg n=some (.ref f)/\Fun K n n s f fd
theorem ft {K:Fg} {h:Heap} {mg:Str->Option Value} {n:Str} {s:Stmt} {f:Addr} {od an:Option Addr} {sl:Array (Option Value)} {oc kV dc pm cd ct:Value} (X:K.In h) (G:h.Ns mainGlobals mg) (a:PySem.W.nsIn K mainGlobals n=some (some (.ref f))) (l:K.lookup f=some ⟨oc,od,.func (PySem.W.fnOf n n (BN s) (pj s) (g6 s) .none kV dc pm an cd ct),sl⟩) (c:PySem.W.codeIn K cd n=true) (k:PySem.W.keepIn K (.ref f)=true):Ft K mg n s:=⟨f,_,PySem.W.mg_of X G a,Bi (st:=s) l c k⟩
theorem En {K:Fg} {x:Str} {st:Stmt} {f:Addr} {fd:FuncData} {ps:List Str} (F:Fun K x x st f fd) (b:qP x st ps):Binds K fd ps []:=F.binds fun kV doc pm an cdv ct us hl=>b us hl kV doc pm an cdv ct
def nC (vs cs:List Nat):List Nat:=vs.filter fun i=>!cs.contains i
def fB (N gl ps:List Str) (vs cs gs:List Nat) (s:Stmt):Bool:=m5 N gl vs cs vs (nC vs cs) gs (g6 s)&&B7 N gl&&(!(g6 s).isCoroutine&&!(g6 s).isGenerator&&decide (N.take ps.length=ps)&&(ps.all fun x=>xy (g6 s) [.local,.cell] (some x))&&((g6 s).names.all fun y=>!decide (y.2=.free)))
theorem o5 {N gl ps:List Str} {vs cs gs:List Nat} {s:Stmt} (h:fB N gl ps vs cs gs s=true):m5 N gl vs cs vs (nC vs cs) gs (g6 s)=true/\B7 N gl=true/\dW N ps (g6 s):=by
 unfold fB at h;simp only [Bool.and_eq_true,decide_eq_true_eq,all_eq_true,Bool.not_eq_true',decide_eq_false_iff_not] at h
 obtain ⟨⟨h1,h2⟩,⟨⟨⟨h3,h4⟩,h5⟩,h6⟩,h7⟩:=h;refine ⟨h1,h2,(Ci h1).kind,h3,h4,(Ew h2).1,h5,fun x hx=>?_,h7⟩
 obtain ⟨k,hk,q⟩:=B3 (h6 x hx);simp only [mem_cons,not_mem_nil,or_false] at hk
 rcases hk with rfl | rfl
 ·exact .inl q
 ·exact .inr q
structure In (p:Fg->(Str->Option Value)->Prop) (X:Cx) (P:Program) (w:World) (K:Fg) (mg:Str->Option Value) (base:Heap) (k:Nat):Prop where
 e1:X.prog=P
 e2:X.w=w
 e3:X.K=K
 e4:X.mg=mg
 e5:X.base=base
 rm:Room k X.A
 pp:p K mg
section
variable {p:Fg->(Str->Option Value)->Prop} {X Y:Cx} {P:Program} {w:World} {K:Fg} {mg:Str->Option Value} {base:Heap} {j k n:Nat} {x:Str} {s:Stmt} {ps:List Str} {g:FS} {den:List KY->Res} {ss:List Sh}
theorem In.r (I:In p X P w K mg base k):Rm X:=I.rm.units
theorem In.e (I:In p X P w K mg base k):p X.K X.mg:=by rw [I.e3,I.e4];exact I.pp
theorem In.c (I:In p X P w K mg base k) (h:DefOk P w K mg base j x n den) (hj:decide (j<=k)=true:=by first | exact rfl | exact decide_eq_true (by omega)):Ca X x n den:=by
 obtain ⟨rfl,rfl,rfl,rfl,rfl,r,_⟩:=I;exact h.cal r hj
theorem Fx.i (F:Fx X Y) (I:In p X P w K mg base k):In p Y P w K mg base k:=⟨F.prog.trans I.e1,F.w.trans I.e2,F.K.trans I.e3,F.mg.trans I.e4,F.base.trans I.e5,by rw [F.A];exact I.rm,I.pp⟩
abbrev Bd (p:Fg->(Str->Option Value)->Prop) (P:Program) (w:World) (K:Fg) (mg:Str->Option Value) (base:Heap) (k:Nat) (N gl:List Str) (vs cs gs:List Nat) (s:Stmt) (g:FS):Prop:=∀X:Cx,Cp X N gl vs cs vs (nC vs cs) gs->In p X P w K mg base k->PassesOwn (model X.prog X.w) X.A X.env X.xe->TQ.Q (PSs X (pj s) (tS X.K W0 g))
theorem Kq {f:Addr} {fd:FuncData} (F:Fun K x x s f fd) (e:p K mg) (N gl:List Str) (vs cs gs:List Nat) (h:fB N gl ps vs cs gs s=true) (hb:Bd p P w K mg base k N gl vs cs gs s g):dO P w K mg base kR (k+1) f fd ps (pG K ps.length (aH N.length g)):=by
 obtain ⟨h1,h2,h3⟩:=o5 h;exact ur F h3 fun cdv A outer s H E hr=>(hb _ (Cp.fn h1 h2) ⟨rfl,rfl,rfl,rfl,rfl,hr,e⟩ PassesOwn.never).p
theorem mk (F:Ft K mg x s) (e:p K mg) (ps:List Str) (b:qP x s ps) (rs gl:List Str) (vs cs gs:List Nat) (hb:Bd p P w K mg base k (ps++rs) gl vs cs gs s g) (h:fB (ps++rs) gl ps vs cs gs s=true:=by kernel_rfl):DefOk P w K mg base (k+1) x ps.length (aH (ps++rs).length g):=by
 obtain ⟨f,fd,hm,F⟩:=F;exact ⟨f,fd,ps,Kq F e _ gl vs cs gs h hb,hm,F.kp,En F b⟩
section
variable {h:Heap} {a:Addr} {dd:Option Addr} {its:Array Value} {n:Nat} {sl:Array (Option Value)} {ds:List KY} (KX:K.In h) (G:h.Ns mainGlobals mg)
include KX G
theorem gn (z:PySem.W.nsIn K mainGlobals x=some none):mg x=none:=PySem.W.mg_none_of KX G z
theorem gi {i:Int} {t:Tok} (z:PySem.W.nsIn K mainGlobals x=some (some (.int i t))):nU K mg x (.int i):=xi (PySem.W.mg_of KX G z)
theorem gt (z:PySem.W.nsIn K mainGlobals x=some (some (.ref a))) (l:K.lookup a=some ⟨.type "tuple",dd,.seq its n,sl⟩) (c:Bv its ds=true):nU K mg x (.tuple ds):=xh (PySem.W.mg_of KX G z) l c
end
theorem walkG {m:List KY->Res} {l:PySem.W.OpenLaw} {q:Program} {loose:List Str} {XP:(Str->Option Value)->Heap->Prop} {YP:World->Heap->Prop} {d:DefRec} {K:Params->Fg} (lt:∀ns:List Int,ns.length<=63->m [.list (ns.map .int)]=.ok ⟨.leaf,.bool true⟩) (hr:Room j callerA) (hn:l.most=some 63) (hdf:d.params.defaults=[])
  (hY:∀(w:World) (h:Heap),YP w h->(K w.params).In h)
  (F:∀(w:World) (mg:Str->Option Value) (fa:Addr) (h:Heap),(K w.params).In h->h.Ns mainGlobals mg->mg d.name=some (.ref fa) ->
   ∃fd:FuncData,(∀(s:Shared) (u:Value),BindsTo s fd ⟨[u],[]⟩ [("script",u)])/\∀base:Heap,(K w.params).In base->base.Ns mainGlobals mg->dO l.prog w (K w.params) mg base kR j fa fd ["script"] (pG (K w.params) 1 m)) :
  PySem.W.WalkO q loose XP YP l.row.toRowW d [] (fun f vs=>PySem.call f vs):=
 L2.walk_of (n:=63) (k:=j) (x := "script") (CX:=fun _=>kR) (sp:=fun w=>pG (K w.params) 1 m) hn (by decide) hdf hr hY F (fun _ _ a ns hl _ hS=>AH (lt ns hl) hS) fun _ _ _ _ _ z=>z
end
end T
namespace TQ
open PySem PySem.Spec L2 T
open PyProof.Rows hiding St
section
variable {X:Cx} {N gl:List Str} {vs cs ls lo gs:List Nat} {W:XW} {a b c e:Expr} {es:List Expr} {pos p:Pos} {fa fb fc:F1} {fl:FL} {ga gb:FB} {g1 g2 g:FS}
theorem aj (S:Cp X N gl vs cs ls lo gs) (i:Nat) {x:Str} (hN:N[i]?=some x:=by exact rfl) (hv:vs.contains i=true:=by exact rfl):Q (PE X (.Name x pos) (tE X.K W (af i))):=HM S i hN hv
theorem aF (ha:Q (PE X e (tE X.K W fa))) (hr:Q (PA X es (tA X.K W fl))) (hs:uT e=false:=by exact rfl):Q (PA X (e::es) (tA X.K W (ae fa fl))):=jK ha hr (gv hs)
theorem aJ (ha:Q (PE X e (tE X.K W fa))) (hs:uT e=false:=by exact rfl):Q (PA X [e] (tA X.K W (ae fa ah))):=jK ha iZ (gv hs)
theorem bu (ha:Q (PE X a (tE X.K W fa))) (hb:Q (PE X b (tE X.K W fb))) (hs:ED b:=by exact fun _ _=>rfl):Q (PE X (.Subscript a b pos) (tE X.K W (ak fa fb))):=rL ha hb hs
theorem bR {x:Str} {n:Nat} {den:List KY->Res} (S:Cp X N gl vs cs ls lo gs) (j:Nat) (C:Ca X x n den) (ha:Q (PA X (e::es) (tA X.K W fl))) (hj:gl[j]?=some x:=by exact rfl) (hg:gs.contains j=true:=by exact rfl) (he:uT e=false:=by exact rfl) (hpl:(backTo pos (starEach es X.env)).any (·.1)=false:=by exact rfl):Q (PE X (.Call (.Name x p) (e::es) [] pos) (tE X.K W (av n den fl))):=HR S j hj hg C ha (gv he) hpl
theorem cy (S:Cp X N gl vs cs ls lo gs) (own:Bool) (i:Nat) {x:Str} {pos':Pos} (ha:Q (PE X a (tE X.K W fa))) (hi:N[i]?=some x:=by exact rfl) (hl:ls.contains i=true:=by exact rfl) (hs:swapsWith a (some (.Name x pos')) pos.line X.env=pure false:=by exact rfl):Q (PS X (.Assign [.Name x pos'] a pos) (tS X.K W (aC own i fa))):=lp S own i hi hl hs ha
theorem g7 (S:Cp X N gl vs cs ls lo gs) (j:Nat) (hm:X.mg "len"=none) (ha:Q (PA X (e::es) (tA X.K W fl))) (hj:gl[j]?=some ("len":Str):=by exact rfl) (hg:gs.contains j=true:=by exact rfl) (he:uT e=false:=by exact rfl) (hpl:(backTo pos (starEach es X.env)).any (·.1)=false:=by exact rfl):Q (PE X (.Call (.Name "len" p) (e::es) [] pos) (tE X.K W (bG bt fl))):=rP S j hj hg hm ha (gv he) hpl
theorem cR {op:CmpOp} {r:R2} {g:KY->KY->Option KY} (k:Ck X op r g) (ha:Q (PE X a (tE X.K W fa))) (hb:Q (PE X b (tE X.K W fb))) (hm:behindInMarks op b=false:=by with_unfolding_all rfl):Q (PT X (.Compare a [op] [b] pos) (tT X.K W (aR aA (aD g fa fb)))):=HN k ha hb hm
theorem ib {op:CmpOp} {r:R2} {g:KY->KY->Option KY} (k:Ck X op r g) (ha:Q (PE X a (tE X.K W fa))) (hb:Q (PE X b (tE X.K W fb))) (hm:behindInMarks op b=false:=by with_unfolding_all rfl):Q (PE X (.Compare a [op] [b] pos) (tE X.K W (aD g fa fb))):=HQ k ha hb hm
theorem cI (ha:Q (PE X a (tE X.K W fa))):Q (PSs X [.Return (some a) pos] (tS X.K W (ba fa))):=cZ (rJ ha)
theorem gO {scope:Scope} {x:Str} {px:Pos} {iter elt:Expr} {ifs:List Expr} {fi:FI} {fe:F1} {fc:FB} (vs' cs' gs':List Nat) (S:Cp X N gl vs cs ls lo gs) (i:Nat) (hi':Q (PI X (.Name x px) iter (tI X.K W fi))) (hc:lh X N gl vs' cs' [i] [] gs' fun Y=>Q (PF Y ifs (tT Y.K W0 fc))) (he:lh X N gl vs' cs' [i] [] gs' fun Y=>Q (PE Y elt (tE Y.K W0 fe))) (hx:N[i]?=some x:=by exact rfl) (h1:ka N i cs scope=true:=by kernel_rfl) (h2:m5 N gl vs' cs' [i] [] gs' scope=true:=by kernel_rfl) (hs:∀x,foldedSetIterable iter X.env x=pure x:=by exact fun _=>rfl):Q (PE X (.ListComp elt [⟨.Name x px,iter,ifs,0⟩] scope pos) (tE X.K W (aE .leaf i fi fc fe))):=HP S .leaf i hx h1 h2 hi' hc he hs
end
end TQ
namespace T
open PySem PySem.Spec L2
open PyProof.Rows hiding St
def wX (mg:Str->Option Value) (E:XK):XW:=fun c _ H'=>∀C,mg c=some (.ref C)->E (.ref C) none H'
def FK (K:Fg) (mg:Str->Option Value) (n:Nat) (den:List KY->Res):Sp:=fun vs H Q E=>vs.length=n/\∃O ds,O.Nodup/\(∀a∈O,H a≠none)/\Reps K (du H O) vs ds/\match den ds with
 | .ok p=>∀v H' G,RetOk K H O p v H' G->Q v H'
 | .er c=>∀C H',mg c=some (.ref C)->Same H H'->E (.ref C) none H'
 | .no=>False
section
variable {P:Program} {w:World} {K:Fg} {mg:Str->Option Value} {base:Heap}
theorem wW {x qual:Str} {st:Stmt} {f:Addr} {fd:FuncData} {N ps:List Str} {k:Nat} {g:FS} (F:Fun K x qual st f fd) (S:dW N ps (g6 st))
  (hb:∀(cdv:Value) (A:Around) (outer:List Env) (s:Shared) (H:Hp) (E:XK),Room k (A.deeper (envOfC qual (g6 st) s.heap.objs.size f cdv)) ->
   PSs (eX (rf P w) P w K mg base N qual (g6 st) f cdv A outer s H E) (pj st) (tS K (wX mg E) g)):dO P w K mg base (rf P w) (k+1) f fd ps (FK K mg ps.length (aH N.length g)):=by
 have hpl:ps.length<=N.length:=by have:=congrArg List.length S.pre;rw [length_take] at this;omega
 obtain ⟨oc,od,kV,doc,pm,an,cdv,ct,osl,rfl,lk,hcd⟩:=F.ex;refine yv lk hcd S (fun vs H Q E h=>h.1) fun A outer s H vs Q E hr h=>⟨_,hb cdv A outer s H E hr,?_⟩
 obtain ⟨hl,O,ds,nd,inH,rs,w⟩:=h;refine ⟨H,O,List.replicate N.length [],aV N.length ds,j3 (by omega) nd inH rs,?_⟩
 unfold aH at w
 cases e:g (aV N.length ds) with
 | nx Γ'=>
  rw [e] at w;exact fun σ' H' Fs' E'=>w .non H' [] ⟨E'.same,(fun _ z=>nomatch z),(fun _ z=>nomatch z),nodup_nil,.leaf .non,rfl⟩
 | rt p=>rw [e] at w;exact w
 | bk Γ'=>rw [e] at w;exact w.elim
 | ct Γ'=>rw [e] at w;exact w.elim
 | er c Γ'=>rw [e] at w;exact fun σ' H' Fs' E' C hC=>w C H' hC E'.same
 | no=>rw [e] at w;exact w.elim
end
def DefOkX (P:Program) (w:World) (K:Fg) (mg:Str->Option Value) (base:Heap) (j:Nat) (x:Str) (n:Nat) (den:List KY->Res):Prop:=
 ∃(f:Addr) (fd:FuncData) (ps:List Str),dO P w K mg base (rf P w) j f fd ps (FK K mg n den)/\mg x=some (.ref f)/\PySem.W.keepIn K (.ref f)=true/\Binds K fd ps []
def xw (X:Cx) (x:Str) (n:Nat) (den:List KY->Res):Prop:=∃(k:Nat) (f:Addr) (fd:FuncData) (ps:List Str),dO X.prog X.w X.K X.mg X.base (rf X.prog X.w) k f fd ps (FK X.K X.mg n den)/\Room k X.A/\X.mg x=some (.ref f)/\PySem.W.keepIn X.K (.ref f)=true/\Binds X.K fd ps []
theorem DefOkX.cal {X:Cx} {j k n:Nat} {x:Str} {den:List KY->Res} (h:DefOkX X.prog X.w X.K X.mg X.base j x n den) (hr:Room k X.A) (hj:decide (j<=k)=true):xw X x n den:=by
 obtain ⟨f,fd,ps,F,a,b,c⟩:=h;exact ⟨j,f,fd,ps,F,hr.mono (of_decide_eq_true hj),a,b,c⟩
def dX (n:Nat) (den:List KY->Res) (fl:FL):F1:=fun Γ=>(fl Γ).bind fun ps Γ'=>if ps.length=n then (match den (ps.map (·.d)) with
 | .ok p=>if ps.all (T.coer .leaf) then .ok p Γ' else if bw p.d then .ok ⟨.leaf,p.d⟩ Γ' else .ok ⟨.view,p.d⟩ Γ'
 | .er c=>.er c Γ'
 | .no=>.no) else .no
section
variable {K:Fg} {W:XW} {σ:St} {H:Hp} {Q:VK} {fl:FL}
theorem sJ {mg:Str->Option Value} {n:Nat} {den:List KY->Res} {EE:St->XK} (hW:∀c σ H' C,W c σ H'->mg c=some (.ref C)->EE σ (.ref C) none H') (h:tE K W (dX n den fl) σ H Q):rY (FK K mg n den) EE (tA K W fl) σ H Q:=by
 obtain ⟨He,O,Fs,Γ,E0,h⟩:=h;refine ⟨He,O,Fs,Γ,E0,?_⟩
 unfold dX at h
 cases e:fl Γ with
 | er c Γ'=>rw [e] at h;exact h
 | no=>rw [e] at h;exact h
 | ok ps Γ1=>
  rw [e] at h;intro vs H1 Gs Fs1 A;have h:Wants K W He O Fs H σ Q (if ps.length=n then (match den (ps.map (·.d)) with | .ok p=>if ps.all (T.coer .leaf) then .ok p Γ1 else if bw p.d then .ok ⟨.leaf,p.d⟩ Γ1 else .ok ⟨.view,p.d⟩ Γ1 | .er c=>.er c Γ1 | .no=>.no) else .no):=h
  by_cases hn:ps.length=n
  case neg=>rw [if_neg hn] at h;exact h.elim
  rw [if_pos hn] at h;have hl:vs.length=n:=by rw [A.len1];exact hn
  cases ed:den (ps.map (·.d)) with
  | er c=>
   rw [ed] at h;have h:Wants K W He O Fs H σ Q (.er c Γ1):=h
   refine ⟨hl,[],ps.map (·.d),nodup_nil,(fun _ z=>nomatch z),by rw [Cu];exact A.reps,?_⟩
   rw [ed];exact fun C H' hC sm=>hW c σ H' C (h H' Fs1 (A.same.trans sm) (A.env.dropL.grow sm)) hC
  | no=>rw [ed] at h;exact h.elim
  | ok p=>
   rw [ed] at h;have h:Wants K W He O Fs H σ Q (if ps.all (T.coer .leaf) then .ok p Γ1 else if bw p.d then .ok ⟨.leaf,p.d⟩ Γ1 else .ok ⟨.view,p.d⟩ Γ1):=h
   obtain ⟨n1,n2,n3⟩:=KO A.env.nd;obtain ⟨m1,m2,m3⟩:=KO n1;have newF:∀a∈Fs1.flatten,a∈Fs.flatten\/H a=none:=fun a ha=>A.new a (KG _ ha)
   cases hc:ps.all (T.coer .leaf) with
   | true=>
    rw [hc] at h;have h:Wants K W He O Fs H σ Q (.ok p Γ1):=h
    refine ⟨hl,O++Fs1.flatten,ps.map (·.d),A.env.dropL.nd,A.env.dropL.inH,?_,?_⟩
    ·refine ⟨A.reps.1,fun i v d h1 h2=>?_⟩
     rw [getElem?_map] at h2
     cases e2:ps[i]? with
     | none=>rw [e2] at h2;cases h2
     | some q=>
      rw [e2] at h2
      cases h2;have hi:=(KP e2).1
      have e3:Gs[i]?=some (Gs[i]'(by rw [A.len2];exact hi)):=KL _
      have o:=A.own i v q _ h1 e2 e3
      have o2:=o.coer (s:=.leaf) (O':=O++Fs1.flatten) (List.all_eq_true.mp hc q (mem_of_getElem? e2)) km fun a ha z=>by
       exfalso
       have hG:=kS e3 ha
       rcases KI z with y | y
       ·exact m3 a hG a y rfl
       ·exact n3 a (KH _ hG) a y rfl
      cases o2 with
      | leaf r=>exact r
    ·rw [ed]
     intro v H2 G r;refine h v H2 G Fs1 ⟨A.same.trans r.same,A.env.dropL.hide r.same r.nd r.fresh r.inH,fun a ha=>?_,by rw [append_assoc];exact r.own⟩
     rcases KI ha with z | z
     ·exact .inr (A.same.free (r.fresh a z))
     ·exact newF a z
   | false=>
    rw [hc] at h;have h:Wants K W He O Fs H σ Q (if bw p.d then .ok ⟨.leaf,p.d⟩ Γ1 else .ok ⟨.view,p.d⟩ Γ1):=h
    refine ⟨hl,[],ps.map (·.d),nodup_nil,(fun _ z=>nomatch z),by rw [Cu];exact A.reps,?_⟩
    rw [ed];intro v H2 G r
    cases hs:bw p.d with
    | true=>
     rw [hs] at h;exact Wants.scal h (r.own.rep.sc hs) (A.same.trans r.same) (A.env.dropL.grow r.same) (fun a ha=>ha) E0.ndO newF
    | false=>
     rw [hs] at h;have h:Wants K W He O Fs H σ Q (.ok ⟨.view,p.d⟩ Γ1):=h
     exact h v H2 [] Fs1 ⟨A.same.trans r.same,by simpa using A.env.dropL.grow r.same,by simpa using newF,.view r.own.rep⟩
end
def D9 (X:Cx) (W:XW):Prop:=∃EE:St->XK,EC (rf X.prog X.w) X EE/\∀c σ H' C,W c σ H'->X.mg c=some (.ref C)->EE σ (.ref C) none H'
def Gg (X:Cx) (W:XW):Prop:=∃E:XK,Makes X E/\∀c σ H' C,W c σ H'->X.mg c=some (.ref C)->E (.ref C) none H'
theorem HW {P:Program} {w:World} {K:Fg} {mg:Str->Option Value} {base:Heap} {N:List Str} {qual:Str} {sc:Scope} {f:Addr} {cd:Value} {A:Around} {outer:List Env} {s:Shared} {H:Hp} {E:XK} :
  D9 (eX (rf P w) P w K mg base N qual sc f cd A outer s H E) (wX mg E):=
 ⟨fun _=>E,fun pins σ H s e s' I h=>Dq (fun _ _ _ z=>z) pins σ H s e s' I h,fun c σ H' C h hC=>h C hC⟩
theorem IK {P:Program} {w:World} {K:Fg} {mg:Str->Option Value} {base:Heap} {N:List Str} {qual:Str} {sc:Scope} {f:Addr} {cd:Value} {A:Around} {outer:List Env} {s:Shared} {H:Hp} {E:XK} :
  Gg (eX (rf P w) P w K mg base N qual sc f cd A outer s H E) (wX mg E):=
 ⟨E,AF fun _ _ _ z=>z,fun c σ H' C h hC=>h C hC⟩
section
variable {X:Cx} {N gl:List Str} {vs cs ls lo gs:List Nat} {W:XW} {a b c e:Expr} {es:List Expr} {pos p:Pos} {fa fb fc:F1} {fl:FL}
theorem Jl {x:Str} {n:Nat} {den:List KY->Res} (S:Cp X N gl vs cs ls lo gs) (j:Nat) (hj:gl[j]?=some x) (hg:gs.contains j=true) (C:xw X x n den) (th:D9 X W) (ha:PA X (e::es) (tA X.K W fl)) (he:starEach (e::es) X.env=(false,eval e X.env)::starEach es X.env) (hpl:(backTo pos (starEach es X.env)).any (·.1)=false) :
  PE X (.Call (.Name x p) (e::es) [] pos) (tE X.K W (dX n den fl)):=by
 obtain ⟨k,f,fd,ps,F,hr,hm,hk,hb⟩:=C;obtain ⟨EE,hx,hW⟩:=th;exact bc (tv F hr (S.g hj hg).1 hm hk hb hx ha (S.g hj hg).2.1 he hpl) fun _ _ _=>sJ hW
def qM (mg:Str->Option Value) (base:Heap) (x:Str):Prop:=∃C,OwnCls x C [.type "ValueError",.type "Exception",.type "BaseException",.type "object"] "ValueError.__new__" mg base
def xB (c:Str):FS:=fun Γ=>.er c Γ
theorem uF {x m:Str} {np cpos mp:Pos} {mk:Nat} (S:Cp X N gl vs cs ls lo gs) (j:Nat) (hj:gl[j]?=some x) (hg:gs.contains j=true) (R:qM X.mg X.base x) (mk':Gg X W) :
  PS X (.Raise (some (.Call (.Name x np) [.Constant (.str m) mk mp] [] cpos)) none pos) (tS X.K W (xB x)):=by
 obtain ⟨C,O⟩:=R;obtain ⟨E,hM,hW⟩:=mk'
 have ha:PA X [.Constant (.str m) mk mp] (tA X.K W (ae (eK (.str m)) ah)):=da_cons de_str da_nil rfl
 refine cH (sY S.calm O F.excBase_ValueError (by decide) F.excBase_ValueError (S.g hj hg).1 hM ha rfl rfl (S.g hj hg).2.1) fun D σ H h=>?_
 obtain ⟨He,O',Fs,Γ,E0,h⟩:=h;refine ⟨He,O',Fs,Γ,E0,?_⟩
 show ∀vs H1 Gs Fs1,_->_
 intro vs H1 Gs Fs1 A;refine ⟨?_,hW x σ H1 C (h σ H1 Fs1 A.env.dropL) O.bound⟩
 rw [A.len1];exact (by decide:1<=sizeLine)
end
theorem Cp.fnX {P:Program} {w:World} {K:Fg} {mg:Str->Option Value} {base:Heap} {N gl:List Str} {vs cs ls lo gs:List Nat} {qual:Str} {sc:Scope} {f:Addr} {cd:Value} {A:Around} {outer:List Env} {s:Shared} {H:Hp} {E:XK}
  (h:m5 N gl vs cs ls lo gs sc=true) (h':B7 N gl=true):Cp (eX (rf P w) P w K mg base N qual sc f cd A outer s H E) N gl vs cs ls lo gs:=by
 obtain ⟨a,b,c⟩:=Ew h'
 have q:=Ci h
 exact ⟨rfl,a,b,c,q.vis,q.cel,fun i x e hi=>⟨q.loc i x e hi,.inl rfl⟩,q.loo,q.glb,rfl,q.kind⟩
section
variable {p:Fg->(Str->Option Value)->Prop} {X Y:Cx} {P:Program} {w:World} {K:Fg} {mg:Str->Option Value} {base:Heap} {j k n:Nat} {y:Str} {s:Stmt} {ps:List Str} {g:FS} {den:List KY->Res}
theorem In.x (I:In p X P w K mg base k) (h:DefOkX P w K mg base j y n den) (hj:decide (j<=k)=true:=by first | exact rfl | exact decide_eq_true (by omega)):xw X y n den:=by
 obtain ⟨rfl,rfl,rfl,rfl,rfl,r,_⟩:=I;exact h.cal r hj
theorem In.ra (I:In p X P w K mg base k) (h:qM mg base y):qM X.mg X.base y:=by rw [I.e4,I.e5];exact h
abbrev KF (p:Fg->(Str->Option Value)->Prop) (P:Program) (w:World) (K:Fg) (mg:Str->Option Value) (base:Heap) (k:Nat) (N gl:List Str) (vs cs gs:List Nat) (s:Stmt) (g:FS):Prop:=∀(X:Cx) (W:XW),Cp X N gl vs cs vs (nC vs cs) gs->In p X P w K mg base k->D9 X W->Gg X W->TQ.Q (PSs X (pj s) (tS X.K W g))
theorem mZ (F:Ft K mg y s) (e:p K mg) (ps:List Str) (b:qP y s ps) (rs gl:List Str) (vs cs gs:List Nat) (hb:KF p P w K mg base k (ps++rs) gl vs cs gs s g) (h:fB (ps++rs) gl ps vs cs gs s=true:=by kernel_rfl):DefOkX P w K mg base (k+1) y ps.length (aH (ps++rs).length g):=by
 obtain ⟨f,fd,hm,F⟩:=F;obtain ⟨h1,h2,h3⟩:=o5 h;exact ⟨f,fd,ps,wW F h3 fun cdv A outer s H E hr=>(hb _ _ (Cp.fnX h1 h2) ⟨rfl,rfl,rfl,rfl,rfl,hr,e⟩ HW IK).p,hm,F.kp,En F b⟩
theorem vU {h:Heap} {C:Addr} (KX:K.In base) (G:base.Ns mainGlobals mg) (e:PySem.W.nsIn K mainGlobals y=some (some (.ref C))) (q:PySem.W.excIn K C [.type "ValueError",.type "Exception",.type "BaseException",.type "object"] "ValueError.__new__"=true):qM mg base y:=by
 refine ⟨C,PySem.W.mg_of KX G e,?_⟩
 unfold PySem.W.excIn at q;split at q
 ·rename_i dd cd sl ho
  split at q
  ·rename_i C' bm k0 k1 k2 k3 n k5 hm hs
   simp only [Bool.and_eq_true,beq_iff_eq,Bool.not_eq_true'] at q
   obtain ⟨⟨⟨⟨⟨rfl,rfl⟩,hdel⟩,ht⟩,hok⟩,hni⟩:=q;obtain ⟨nm,bs,mro,ns,qn,hd,sn,sub,ab,col,del⟩:=cd;dsimp only at hm hdel hok hni
   subst hm hdel;have hsl:sl=#[k0,k1,k2,k3,some (.builtin "ValueError.__new__"),k5]:=by
    obtain ⟨l⟩:=sl;simp only at hs
    rw [hs]
   subst hsl;exact ⟨bm,ns,nm,qn,bs,hd,sn,sub,ab,col,dd,k0,k1,k2,k3,k5,_,KX _ _ ho,.of_isNs (PySem.W.isNs_of_in KX hok),PySem.W.nsMap_none_of_in KX hok hni,PySem.W.tail_of_in KX ht⟩
  ·cases q
 ·cases q
end
end T
namespace TQ
open PySem PySem.Spec L2 T
open PyProof.Rows hiding St
section
variable {X:Cx} {N gl:List Str} {vs cs ls lo gs:List Nat} {W:XW} {a b c e:Expr} {es:List Expr} {pos p:Pos} {fl:FL} {g:FS}
theorem gp {x:Str} {n:Nat} {den:List KY->Res} (S:Cp X N gl vs cs ls lo gs) (th:D9 X W) (j:Nat) (C:xw X x n den) (ha:Q (PA X (e::es) (tA X.K W fl))) (hj:gl[j]?=some x:=by exact rfl) (hg:gs.contains j=true:=by exact rfl) (he:uT e=false:=by exact rfl) (hpl:(backTo pos (starEach es X.env)).any (·.1)=false:=by exact rfl):Q (PE X (.Call (.Name x p) (e::es) [] pos) (tE X.K W (dX n den fl))):=⟨Jl S j hj hg C th ha.p (gv he) hpl⟩
theorem BX {x m:Str} {np cpos mp:Pos} {mk:Nat} (S:Cp X N gl vs cs ls lo gs) (mk':Gg X W) (j:Nat) (R:qM X.mg X.base x) (hj:gl[j]?=some x:=by exact rfl) (hg:gs.contains j=true:=by exact rfl):Q (PS X (.Raise (some (.Call (.Name x np) [.Constant (.str m) mk mp] [] cpos)) none pos) (tS X.K W (xB x))):=⟨uF S j hj hg R mk'⟩
end
end TQ
namespace T
open PySem PySem.Spec L2 PySem.W
open PyProof.Rows hiding St
structure fL (K:Fg) (C:Addr):Prop where
 cl:(PySem.W.clsIn K C).isSome=true
 ga:PySem.W.findIn K (.ref C) "__getattribute__"=some (some (.builtin "BaseException.__getattribute__"))
 gn:PySem.W.findIn K (.ref C) "__getattr__"=some none
 gc:PySem.W.findIn K (.ref C) "__class__"=some (some (.builtin "object.__class__"))
 ob:PySem.W.mroIn K C (.type "object")=some true
 be:PySem.W.mroIn K C (.type "BaseException")=some true
def wY (K:Fg) (C:Addr):Bool:=(PySem.W.clsIn K C).isSome&&PySem.W.findIn K (.ref C) "__getattribute__"==some (some (.builtin "BaseException.__getattribute__"))&&PySem.W.findIn K (.ref C) "__getattr__"==some none &&
 PySem.W.findIn K (.ref C) "__class__"==some (some (.builtin "object.__class__"))&&PySem.W.mroIn K C (.type "object")==some true&&PySem.W.mroIn K C (.type "BaseException")==some true
theorem o6 {K:Fg} {C:Addr} (h:wY K C=true):fL K C:=by
 unfold wY at h;simp only [Bool.and_eq_true,beq_iff_eq] at h
 obtain ⟨⟨⟨⟨⟨a,b⟩,c⟩,d⟩,e⟩,f⟩:=h;exact ⟨a,b,c,d,e,f⟩
def uS (x C:Addr) (h:Heap):Prop:=∃oe vs,h.get? x=some oe/\oe.cls=.ref C/\oe.data=.fields vs
section
variable {prog:Program} {w:World} {A:Around} {E:Value->Shared->Prop} {h:Heap} {g:Array GenState} {d:Drawn} {t:Nat} {os:OsState} {K:Fg} {x C:Addr} {o:Obj}
theorem t6 {Q:Bool->Shared->Prop} (X:K.In h) (Z:fL K C) (hx:h.get? x=some o) (hc:o.cls=.ref C) {T:Value} {b:Bool} (hm:PySem.W.mroIn K C T=some b) (hq:Q b ⟨h,g,d,t,os⟩):wpAny (model prog w) A (isInstance (.ref x) T) Q E ⟨h,g,d,t,os⟩:=by
 have LT:Looks (model prog w) h (typeOf (.ref x)) (.ref C):=hc▸(Looks.ld hx).andThen .now
 exact (show Looks (model prog w) h (isInstance (.ref x) T) b from LT.andThen (looks_mroIn X hm)).at hq
theorem nP {R:Result->Shared->Prop} (X:K.In h) (Z:fL K C) (hx:h.get? x=some o) (hc:o.cls=.ref C) (hq:R (.ok (.ret (.ref C))) ⟨h,g,d,t,os⟩) :
  codeAny (model prog w) A (.call (.builtin "getset_descriptor.__get__") ⟨[.builtin "object.__class__",.ref x,.ref C],[]⟩) R ⟨h,g,d,t,os⟩:=by
 have hT5:(⟨h,g,d,t,os⟩:Shared).TypeIs (.builtin "object.__class__") "getset_descriptor":=F.typeOf_object_class
 have LS:Looks (model prog w) h (isSubtype (.ref C) (.type (".".intercalate ("object.__class__".cutAt '.').dropLast))) true:=by rw [F.owner_object_class];exact looks_mroIn X Z.ob
 refine codeAny_call_builtin F.slot_gs_get.plain F.entry_gs_get (F.slot_gs_get.check _ _ _ _ _ _ _ _ hT5 (F.args_gs_get _ _ _) ?_)
 repeat (any_goals (first | assumption | (with_reducible refine wpAny_loadPart_at hx ?_;rw [hc]) | with_reducible refine LS.at ?_ | wp_step))
 refine ⟨Code.quiet_builtin _ (by decide +kernel),codeAny_builtin F.entry_object_class ?_⟩
 repeat (any_goals (first | assumption | (with_reducible refine wpAny_loadPart_at hx ?_;rw [hc]) | wp_step))
theorem nQ {tk:Tok} {Q:Fin->Shared->Prop} (X:K.In h) (Z:fL K C) (hx:h.get? x=some o) (hc:o.cls=.ref C) (hq:Q (.done (.ret (.ref C))) ⟨h,g,d,t,os⟩) :
  wpAny (model prog w) A (Builtin.«object.__getattribute__» ⟨[.ref x,.str "__class__" tk],[]⟩) Q E ⟨h,g,d,t,os⟩:=by
 have hT5:(⟨h,g,d,t,os⟩:Shared).TypeIs (.builtin "object.__class__") "getset_descriptor":=F.typeOf_object_class
 have L4:Looks (model prog w) h (typeLookup (.ref C) "__class__") (some (.builtin "object.__class__")):=looks_findIn X Z.gc
 have f5:=F.typeOf_object_class
 have f6:=F.slot_gs_get.lookup
 have f7:=F.slot_gs_set.lookup
 repeat (any_goals (first | assumption | (with_reducible refine wpAny_loadPart_at hx ?_;rw [hc]) | with_reducible refine L4.at ?_ | wp_step))
 refine nP X Z hx hc ?_
 repeat (any_goals (first | assumption | wp_step))
theorem nR {nameV:Value} {Q:Unit->Shared->Prop} (X:K.In h) (Z:fL K C) (hx:h.get? x=some o) (hc:o.cls=.ref C) (hq:Q () ⟨h,g,d,t,os⟩):wpAny (model prog w) A (checkBuiltinCall "BaseException.__getattribute__" ⟨[.ref x,nameV],[]⟩) Q E ⟨h,g,d,t,os⟩:=by
 have hk:builtinKind "BaseException.__getattribute__"=some .slot:=by decide +kernel
 have hsplit:splitId "BaseException.__getattribute__"=some ("BaseException", "__getattribute__"):=by decide +kernel
 have ha:=F.args_bexc_ga (.ref x) nameV
 simp only [checkBuiltinCall,hk,hsplit]
 refine KR (t6 X Z hx hc Z.be ?_)
 repeat (any_goals (first | assumption | wp_step))
theorem mO {tk:Tok} {R:Result->Shared->Prop} (X:K.In h) (Z:fL K C) (hx:h.get? x=some o) (hc:o.cls=.ref C) (hq:R (.ok (.ret (.ref C))) ⟨h,g,d,t,os⟩) :
  codeAny (model prog w) A (.call (.builtin "BaseException.__getattribute__") ⟨[.ref x,.str "__class__" tk],[]⟩) R ⟨h,g,d,t,os⟩:=
 codeAny_call_builtin F.excAttr_ValueError.ga.plain F.entry_bexc_ga (nR X Z hx hc (nQ X Z hx hc hq))
theorem qF {tk:Tok} {Q:Value->Shared->Prop} (X:K.In h) (Z:fL K C) (hx:h.get? x=some o) (hc:o.cls=.ref C) (hq:Q (.ref C) ⟨h,g,d,t,os⟩):wpAny (model prog w) A (getAttrBy (.ref x) (.str "__class__" tk) false) Q E ⟨h,g,d,t,os⟩:=by
 have L2:Looks (model prog w) h (typeLookup (.ref C) "__getattribute__") (some (.builtin "BaseException.__getattribute__")):=looks_findIn X Z.ga
 have L3:Looks (model prog w) h (typeLookup (.ref C) "__getattr__") none:=looks_findIn X Z.gn
 have f3:=F.excAttr_ValueError.ga.bind (.ref x)
 have hx2:(Value.builtin "BaseException.__getattribute__"==Value.builtin "object.__getattribute__")=false:=by decide +kernel
 have hx1:(onTheHeap (Value.ref C)&&Value.builtin "BaseException.__getattribute__"==Value.builtin "object.__getattribute__")=false:=by rw [hx2];rfl
 repeat (any_goals (first | assumption | (with_reducible refine wpAny_loadPart_at hx ?_;rw [hc]) | with_reducible refine L2.at ?_ | with_reducible refine L3.at ?_ | wp_step))
 refine mO X Z hx hc ?_
 repeat (any_goals (first | assumption | wp_step))
theorem mP {Q:Option Value->Shared->Prop} (X:K.In h) (Z:fL K C) (hx:h.get? x=some o) (hc:o.cls=.ref C) (hq:Q (some (.ref C)) ⟨h,g,d,t+1,os⟩):wpAny (model prog w) A (getAttr? (.ref x) "__class__") Q E ⟨h,g,d,t,os⟩:=by
 unfold getAttr? getAttrBy?
 repeat (any_goals (first | assumption | with_reducible apply qF X Z hx hc | wp_step))
theorem tV (Z:fL K C):KitX K (.ref x) (.ref C) (uS x C) where
 ty:=fun M h _ p=>by obtain ⟨o,_,hx,hc,_⟩:=p;exact hc▸(Looks.ld hx).andThen .now
 it:=fun _ _ X _=>by
  have z0:=Z.cl
  unfold clsIn at z0;split at z0
  ·rename_i c' d' cd' sl' ho
   intro A' Q' E' s' k q
   unfold isType loadHead;exact KR (wpAny_loadPart (k _ _ (X _ _ ho)) (KS q))
  ·cases z0
 ne:=fun h tp dd its n sl X htp=>by
  have z0:=Z.cl
  refine Bool.eq_false_iff.mpr fun q=>?_
  have e:C=tp:=Value.ref.inj (beq_iff_eq.mp q)
  subst e;unfold clsIn at z0;split at z0
  ·rename_i c' d' cd' sl' ho
   have z:=(X _ _ ho).symm.trans htp
   cases z
  ·cases z0
 ca:=fun {_ _ _ _ _ s} X p k=>by
  obtain ⟨h,g,d,t,os⟩:=s;obtain ⟨o,_,hx,hc,_⟩:=p;exact mP X Z hx hc k
end
theorem ql {prog:Program} {w:World} {A:Around} {E:Value->Shared->Prop} {K:Fg} {x C D:Addr} {s:Shared} {o:Obj} {Q:Bool->Shared->Prop} {b:Bool} (X:K.In s.heap) (hx:s.heap.get? x=some o) (hc:o.cls=.ref C) (e1:PySem.W.typeIn K (.ref D)=some (.type "type")) (Z:fL K D) (e3:PySem.W.subIn K (.ref C) (.ref D)=some b) (hq:Q b s) :
  wpAny (model prog w) A (excMatches (.ref x) (.ref D)) Q E s:=by
 obtain ⟨h,g,d,t,os⟩:=s;have LT:Looks (model prog w) h (typeOf (.ref x)) (.ref C):=hc▸(Looks.ld hx).andThen .now
 have LD:Looks (model prog w) h (typeOf (.ref D)) (.type "type"):=looks_typeIn X e1
 have LB:Looks (model prog w) h (isSubtype (.ref D) (.type "BaseException")) true:=looks_mroIn X Z.be
 have LS:Looks (model prog w) h (isSubtype (.ref C) (.ref D)) b:=looks_subIn X e3
 have LY:Looks (model prog w) h (isType (.ref D)) true:=by
  have z0:=Z.cl
  unfold clsIn at z0;split at z0
  ·rename_i c' d' cd' sl' ho
   intro A' Q' E' s' k q
   unfold isType loadHead;exact KR (wpAny_loadPart (k _ _ (X _ _ ho)) (KS q))
  ·cases z0
 have f:=tc_notTuple
 unfold excMatches;refine KR (KR (LD.at ?_))
 repeat (any_goals (first | with_reducible refine LY.at ?_ | with_reducible refine LB.at ?_ | with_reducible refine LT.at ?_ | with_reducible refine LS.at ?_ | wp_step))
 first
  | exact hq
  | (cases b<;>(wp_walk;exact hq))
end T
namespace T
open PySem PySem.Spec L2
open PyProof.Rows hiding St
section
variable {X:Cx} {pins:List (Addr×Obj)} {σ:St} {H H':Hp} {s s':Shared} {C a:Addr} {M:Model} {A:Around} {E:Value->Shared->Prop}
theorem wO {i:Nat} {x:Str} {pos:Pos} {Q:Unit->Shared->Prop} (I:Inv X pins σ H s) (hN:X.N.Nodup) (hi:X.N[i]?=some x) (hk:X.env.scope.names.lookup x=some .local)
  (h:∀s',Inv X pins (σ.set i none) H s'->Q () s'):wpAny M A (do bindName X.env x .none;unbindBehindTheSuite X.env x pos) Q E s:=by
 obtain ⟨m,hn,hl⟩:=id I.loc;have hcls:(X.env.scope.kind==.class||(X.env.scope.kind==.module&&X.env.locals != X.env.globals))=false:=by rw [I.ok.kind];rfl
 have hiσ:i<σ.length:=by rw [I.len];exact (KP hi).1
 have cne:=I.cne
 refine wpAny_nameGoes_keeps hk hn hcls fun h' v hn' hs=>?_
 obtain ⟨oL,_,_,hoL,_⟩:=id hn;refine h _ ⟨I.ok,I.os,I.bare,⟨fun b o e n hb hx=>?_,fun b o e n hb hx=>?_,I.base.free,fun b o e hx=>?_,I.base.tups,I.base.frzs,I.base.tbls⟩,⟨_,hn',fun j y v' e1 e2 e3=>?_⟩,fun y c e=>?_,I.free,I.freeC,fun p hp=>?_,fun b ob e=>?_,by simpa using I.len⟩
 ·exact (hs.2 b (Nat.ne_of_lt (Nat.lt_of_lt_of_le (Heap.lt_size e) I.ok.above))).trans (I.base.keep b o e n hb hx)
 ·obtain ⟨sl,e1⟩:=I.base.slot b o e n hb hx
  exact ⟨sl,(hs.2 b (Nat.ne_of_lt (Nat.lt_of_lt_of_le (Heap.lt_size e) I.ok.above))).trans e1⟩
 ·obtain ⟨o',e1⟩:=I.base.there b o e hx
  exact ⟨o',(hs.2 b (Nat.ne_of_lt (Nat.lt_of_lt_of_le (Heap.lt_size e) I.ok.above))).trans e1⟩
 ·by_cases hj:j=i
  ·subst hj
   rw [getElem?_set_self hiσ] at e2
   cases e2
  ·rw [getElem?_set_ne (Ne.symm hj)] at e2
   obtain ⟨u',r',q⟩:=hl j y v' e1 e2 e3
   refine ⟨u',r',?_⟩
   rcases q with ⟨k,e⟩ | ⟨k,c,e,z⟩
   ·refine .inl ⟨k,?_⟩
    have:y≠x:=fun e=>hj (GO hN e1 (e▸hi))
    simp [this,e]
   ·exact .inr ⟨k,c,e,z.sameBut hs (cne y c e)⟩
 ·obtain ⟨w',z⟩:=I.cell y c e
  exact ⟨w',z.sameBut hs (cne y c e)⟩
 ·obtain ⟨e,n,ne,nf,d⟩:=I.pin p hp
  exact ⟨(hs.2 p.1 ne).trans e,n,ne,nf,d⟩
 ·refine (I.hok b ob e).stay (fun c w' hc q=>(hs.2 c ?_).trans q) (fun _ q=>q) fun _ _ q=>q
  rintro rfl
  rcases hc with rfl | hc
  ·rw [I.free] at e;cases e
  ·rw [I.free] at hc;cases hc
theorem qk {Q:Unit->Shared->Prop} (I:Inv X pins σ H s) (hst:X.stack=X.env::X.outer) (hf:X.env.frame=some X.env.locals) (hA:A.frames=some X.stack) (f:BF X.prog X.w X.stack H s H' C a s')
  (hQ:∀h2 B a0,Heap.FlyingW B X.stack a (.ref C) a0 h2->H' a=none->a∉gz X.stack->(∀h3,Heap.FlyingW B X.stack a (.ref C) a0 h3->h2.UpToSlots h3->Inv X pins σ H' { s' with heap:=h3 })->Q () { s' with heap:=h2 }) :
  wpAny M A (noteFrame (.ref a) X.env) (fun _ s2=>wpAny M A (setFlight (.ref a) none) Q E s2) E s':=by
 have os:=f.os
 have bare:=f.bare
 obtain ⟨os',bare',un,hok,B,a0,fl,c1,c2⟩:=id f;have hn:∀b:Addr,b∉([]:List Addr):=fun b z=>nomatch z
 have keepB:∀h3,B.StaysIn h3->∀b o u,B.get? b=some u->s'.heap.get? b=some o->h3.get? b=some o:=fun h3 st b o u e1 e2=>by
  have e3:=fl.1 b u e1
  rw [e2] at e3
  cases e3;exact st b o e1
 have go:∀h3,B.StaysIn h3->h3.FunFrames B X.stack->s'.heap.UpToSlots h3->Un (gz X.stack) [] H H' s.heap h3/\HOk X.prog X.w H' h3:=fun h3 st ff up=>by
  refine ⟨⟨fun b o q n hb _=>?_,fun b o q n hb _=>?_,un.free,fun b o q _=>?_,un.tups,un.frzs,un.tbls⟩,fun b o e=>?_⟩
  ·obtain ⟨u,e⟩:=c2 b o q hb
   exact keepB h3 st b o u e (un.keep b o q n hb (hn b))
  ·obtain ⟨sl2,q2⟩:=un.slot b o q n hb (hn b)
   obtain ⟨_,o',e,d⟩:=fl.2.2.1.mem hb;rw [q2] at e
   cases e;obtain ⟨sl3,q3⟩:=up b _ q2 d;exact ⟨sl3,q3⟩
  ·by_cases hb:b∈gz X.stack
   ·obtain ⟨_,o',e,_⟩:=ff.mem hb
    exact ⟨o',e⟩
   ·obtain ⟨u,e⟩:=c2 b o q hb
    exact ⟨u,st b u e⟩
  ·refine (hok b o e).stay (fun c u hc q=>?_) (fun _ q=>q) fun _ _ q=>q
   have hc':∃o',H' c=some o':=by
    rcases hc with z | z
    ·exact ⟨o,by rw [z];exact e⟩
    ·exact ⟨_,z⟩
   obtain ⟨o',z⟩:=hc'
   obtain ⟨v,e1⟩:=c1 c o' z
   exact keepB h3 st c u v e1 q
 have hHa:H' a=none:=by
  cases e:H' a with
  | none=>rfl
  | some o=>
   obtain ⟨u,e1⟩:=c1 a o e;rw [fl.2.1] at e1
   cases e1
 have haf:a∉gz X.stack:=fun z=>by
  obtain ⟨_,o',e,d⟩:=fl.2.2.1.mem z;obtain ⟨oe,vs,_,_,_,he,_,hd,_⟩:=fl.2.2.2;rw [he] at e
  cases e;exact d vs hd
 refine wpAny_looks_onW (by rw [hA,hst]) hf (by rw [<-hst];exact fl) fun h1 hh1 up1=>?_
 refine wpAny_landsW hh1 fun h2 fl2 up2=>hQ h2 B a0 (by rw [hst];exact fl2) hHa haf fun h3 fl3 up3=>?_
 obtain ⟨un3,hok3⟩:=go h3 fl3.1 fl3.2.2.1 ((up1.trans up2).trans up3);exact I.call' (s':={ s' with heap:=h3 }) (ch:=[]) os un3 hok3 bare (fun b z=>absurd z (by simp))
end
def u3 (X:Cx) (pins:List (Addr×Obj)) (a:Addr) (oe:Obj):Cx:={ X with A:=X.A.mark (some (.ref a)),calm:=false,pn:=(X.pn++pins)++[(a,oe)],xe:=fun _ _=>False }
section
variable {X:Cx} {pins:List (Addr×Obj)} {σ:St} {H:Hp} {s:Shared} {a:Addr} {oe:Obj}
theorem wJ (I:Inv X pins σ H s) (hx:s.heap.get? a=some oe) (hH:H a=none) (hl:a≠X.env.locals) (hf:a∉X.fs) (hd:∀v,oe.data≠.cell v):Inv (u3 X pins a oe) [] σ H s:=
 ⟨⟨I.ok.mod,I.ok.kind,I.ok.glob,I.ok.blt,I.ok.above,I.ok.inj,I.ok.has,I.ok.cab,fun z=>(nomatch z),I.ok.frames,I.ok.stk,I.ok.exf,I.ok.bs,I.ok.bsz,I.ok.noex,I.ok.exfs,I.ok.funs,I.ok.frf⟩,I.os,I.bare,I.base,I.loc,I.cell,I.free,I.freeC,fun p hp=>by
  have hp:p∈((X.pn++pins)++[(a,oe)])++[]:=hp
  rw [append_nil] at hp;rcases KI hp with z | z
  ·exact I.pin p z
  ·cases List.mem_singleton.mp z
   exact ⟨hx,hH,hl,hf,hd⟩,I.hok,I.len⟩
theorem wK (ok:X.Ok) (I:Inv (u3 X pins a oe) [] σ H s):Inv X pins σ H s:=
 ⟨ok,I.os,I.bare,I.base,I.loc,I.cell,I.free,I.freeC,fun p hp=>I.pin p (KH _ (KH _ hp)),I.hok,I.len⟩
end
def yk:Option (Option PV)->Bool
 | some none=>true
 | _=>false
theorem t9 {Γ:Ev} {j:Nat} (h:yk Γ[j]?=true):∀p,Γ[j]?≠some (some p):=fun p z=>by rw [z] at h;cases h
def vk (cl:List Str) (ie:Nat) (k:Str->FS) (c:Str):FS:=fun Γ=>if cl.contains c&&yk Γ[ie]? then (match k c Γ with
 | .nx Γ'=>if yk Γ'[ie]? then .nx Γ' else .no
 | _=>.no) else .no
def lE (cl:List Str) (ie:Nat) (g:FS) (k:Str->FS):FS:=fun Γ=>match g Γ with
 | .er c Γ'=>vk cl ie k c Γ'
 | o=>o
def wT (mg:Str->Option Value) (W:Addr->St->Hp->Prop):XW:=fun c σ H'=>∀C,mg c=some (.ref C)->W C σ H'
def kX (i:Nat) (a:Addr) (σ:St):Prop:=σ[i]?=some (some (.ref a))
def HX (φ:St->Prop) (t:TS):TS:=fun D σ H=>φ σ/\t D σ H
def tG (φ:St->Prop) (t:TE):TE:=fun σ H Q=>φ σ/\t σ H Q
theorem HV {X:Cx} {pins:List (Addr×Obj)} {W:Addr->St->Hp->Prop}:D9 (eL X pins W) (wT X.mg W):=
 ⟨fun σ=>fun u _ H'=>∃C,u=.ref C/\W C σ H',kH,fun c σ H' C h hC=>⟨C,rfl,h C hC⟩⟩
structure yF (K:Fg) (D:Addr):Prop where
 ty:PySem.W.typeIn K (.ref D)=some (.type "type")
 ex:fL K D
theorem Ad {X:Cx} {N gl:List Str} {vs cs ls lo gs:List Nat} (S:Cp X N gl vs cs ls lo gs) {body:List Stmt} {g:FS} {k:Str->FS} {cl:List Str} {en hn:Str} {ie j:Nat} {np hpos pos:Pos} {suite:Stmt} {D:Addr}
  (hst:X.stack=X.env::X.outer) (hf:X.env.frame=some X.env.locals) (hie:N[ie]?=some en) (hel:lo.contains ie=true) (hj:gl[j]?=some hn) (hg:gs.contains j=true) (hD:X.mg hn=some (.ref D)) (hDc:yF X.K D)
  (hc:∀c∈cl,∀C,X.mg c=some (.ref C)->PySem.W.subIn X.K (.ref C) (.ref D)=some true)
  (hb:∀(pins:List (Addr×Obj)) (W:Addr->St->Hp->Prop),PSs (eL X pins W) body (tS X.K (wT X.mg W) g))
  (hh:∀(pins:List (Addr×Obj)) (a C:Addr) (oe:Obj) (c:Str),c∈cl->X.mg c=some (.ref C)->oe.cls=.ref C->(∃vs,oe.data=.fields vs)->PSs (u3 X pins a oe) [suite] (HX (kX ie a) (tS X.K W0 (k c)))) :
  PS X (.Try body [.ExceptHandler (some (.Name hn np)) (some en) [suite] hpos] [] [] pos) (tS X.K W0 (lE cl ie g k)):=by
 intro pins s σ H D0 I h;obtain ⟨He,O,Fs,Γ,E,h⟩:=h;refine wpAny_Try_except ?_
 let W:Addr->St->Hp->Prop:=fun C σ' H'=>∃c Γ' Fs',X.mg c=some (.ref C)/\EnvOk X.K He O Fs' H' σ' Γ'/\mW X.K W0 He O D0 (vk cl ie k c Γ')
 have I':Inv X (pins++[]) σ H s:=by rw [append_nil];exact I
 have hw:mW X.K (wT X.mg W) He O D0 (g Γ):=by
  unfold lE at h
  cases e:g Γ with
  | nx Γ'=>rw [e] at h;exact h
  | bk Γ'=>rw [e] at h;exact h
  | ct Γ'=>rw [e] at h;exact h
  | rt p=>rw [e] at h;exact h
  | no=>rw [e] at h;exact h
  | er c Γ'=>rw [e] at h;exact fun σ' H' Fs' E' C hC=>⟨c,Γ',Fs',hC,E',h⟩
 refine wpAny_mono (hb pins W [] s σ H D0 (ug I') ⟨He,O,Fs,Γ,E,hw⟩) (fun f s1 h1=>?_) fun e s1 h1=>?_
 ·have back:∀{σ' H'},Inv (eL X pins W) [] σ' H' s1->Inv X pins σ' H' s1:=fun {σ' H'} J=>by have:=ml J;rwa [append_nil] at this
  cases f with
  | next=>
   obtain ⟨σ',H',J,q⟩:=h1;exact bM (GU pins s1 σ' H' D0 (back J) q) fun _ _ z=>z
  | brk=>obtain ⟨σ',H',J,q⟩:=h1;exact ⟨σ',H',back J,q⟩
  | cont=>obtain ⟨σ',H',J,q⟩:=h1;exact ⟨σ',H',back J,q⟩
  | ret u=>obtain ⟨v,σ',H',J,r,q⟩:=h1;exact ⟨v,σ',H',back J,r,q⟩
 ·obtain ⟨ps,σ1,H1,H',s0,a,C,rfl,J,fl,c,Γ',Fs',hC,E',hW⟩:=h1
  refine qk (T.Inv.less J) hst hf I.ok.frames fl fun h2 B a0 fl2 hHa haf go=>?_
  have I2:=go h2 fl2 (Heap.UpToSlots.refl h2)
  unfold vk at hW
  cases hcl:(cl.contains c&&yk Γ'[ie]?) with
  | false=>rw [hcl] at hW;exact hW.elim
  | true=>
   rw [hcl] at hW;simp only [Bool.and_eq_true] at hcl
   have hcm:c∈cl:=by simpa using hcl.1
   have hnm:=S.g hj hg
   obtain ⟨oe2,he2,hc2⟩:=fl2.there;refine wpAny_handleBy_cons (codeAny_handlers_test (Calls.Name_function_global I2.ok.kind hnm.1 (Calls.loadGlobal_global (by rw [I2.ok.glob];exact I2.mod.glob.keeps I2.bk) hD ?_) hnm.2.1)) (by intro q;cases q)
   refine ql I2.kIn he2 hc2 hDc.ty hDc.ex (hc c hcm C hC) ?_
   refine codeAny_handlers_suite_as ?_
   refine lands_againW fl2 fun h3 fl3 up3=>?_
   have I3:=go h3 fl3 up3
   obtain ⟨oe,vs,_,_,_,he,⟨hcls,_⟩,hd,_⟩:=fl3.2.2.2;have hal:a≠X.env.locals:=fun z=>haf (by rw [hst];exact List.mem_filterMap.mpr ⟨X.env,mem_cons_self,by rw [z];exact hf⟩)
   have hafs:a∉X.fs:=fun z=>haf (by rw [hst];obtain ⟨en,h1,h2⟩:=List.mem_filterMap.mp z;exact List.mem_filterMap.mpr ⟨en,KN _ h1,h2⟩)
   have I4:Inv (u3 X pins a oe) [] σ1 H' { s1 with heap:=h3 }:=wJ I3 he hHa hal hafs fun v z=>by rw [hd] at z;cases z
   have hlo:=S.loo ie en hie hel
   have hN:X.N.Nodup:=by rw [S.hN];exact S.nd
   have hiN:X.N[ie]?=some en:=by rw [S.hN];exact hie
   refine ET (X:=u3 X pins a oe) (v:=.ref a) I4 hN hiN (.inl hlo) rfl (fun s5 I5=>?_) (.inr hlo)
   have hiσ:ie<σ1.length:=by rw [I3.len];exact (KP hiN).1
   refine wpAny_mono (hh pins a C oe c hcm hC hcls ⟨vs,hd⟩ [] s5 _ H' { nx:=fun σ' H'=>D0.nx (σ'.set ie none) H',rt:=fun _ _=>False } I5 ⟨by unfold kX;exact getElem?_set_self hiσ,He,O,Fs',Γ',E'.nm (t9 hcl.2),?_⟩) (fun f s6 h6=>?_) fun _ _ z=>z.elim
   ·cases ek:k c Γ' with
    | nx Γ2=>
     rw [ek] at hW;intro σ2 H2 Fs2 E2;have hW:mW X.K W0 He O D0 (if yk Γ2[ie]? then .nx Γ2 else .no):=hW
     cases hn2:yk Γ2[ie]? with
     | false=>rw [hn2] at hW;exact hW.elim
     | true=>rw [hn2] at hW;exact hW _ H2 Fs2 (E2.nm (t9 hn2))
    | bk Γ2=>rw [ek] at hW;exact hW.elim
    | ct Γ2=>rw [ek] at hW;exact hW.elim
    | rt p=>rw [ek] at hW;exact hW.elim
    | er c2 Γ2=>rw [ek] at hW;exact hW.elim
    | no=>rw [ek] at hW;exact hW.elim
   ·cases f with
    | next=>
     obtain ⟨σ2,H2,J2,q⟩:=h6;exact wO (wK I2.ok J2) hN hiN hlo fun s7 I7=>⟨_,H2,I7,q⟩
    | brk=>obtain ⟨_,_,_,q⟩:=h6;exact q.elim
    | cont=>obtain ⟨_,_,_,q⟩:=h6;exact q.elim
    | ret u=>obtain ⟨_,_,_,_,_,q⟩:=h6;exact q.elim
section
variable {K:Fg} {W:XW} {σ:St} {H:Hp} {fa fb:F1} {c:FB}
theorem nY {Q Q':Bool->Hp->Prop} (h:tT K W c σ H Q) (i:∀b H',Q b H'->Q' b H'):tT K W c σ H Q':=by
 obtain ⟨He,O,Fs,Γ,E,h⟩:=h;refine ⟨He,O,Fs,Γ,E,?_⟩
 cases e:c Γ with
 | ok p Γ'=>rw [e] at h;exact fun H' Fs' s E' n=>i _ _ (h H' Fs' s E' n)
 | er c Γ'=>rw [e] at h;exact h
 | no=>rw [e] at h;exact h
theorem rW {Q:VK} {v:V} {d:KY} (s:Sc v d) (h:tE K W (eK d) σ H Q):Q v H:=by
 obtain ⟨He,O,Fs,Γ,E,h⟩:=h;exact Wants.scal (W:=W) h s (Same.refl _) E (fun a ha=>ha) E.ndO fun a ha=>.inl ha
end
def xY (φ:St->Prop) (t:TA):TA:=fun σ H Q=>φ σ/\t σ H Q
def rd (φ:St->Prop) (t:TT):TT:=fun σ H Q=>φ σ/\t σ H Q
def jI (X:Cx) (a C:Addr):Prop:=∀pins σ H s,Inv X pins σ H s->uS a C s.heap
def IF (K:Fg) (a C:Addr) (cv:V) (cu:Value):List V->Hp->VK->Prop:=fun xs H Q=>∃b,xs=[.ref a,cv]/\PySem.W.kitOne K (.ref C) cu=some b/\Q (.bl b) H
section
variable {X:Cx} {N gl:List Str} {vs cs ls lo gs:List Nat} {W:XW} {φ:St->Prop} {a b c e:Expr} {es:List Expr} {pos p:Pos} {fa fb fc:F1} {fl:FL} {ga gb:FB} {g1 g2:FS}
theorem mS {x C:Addr} {cv:V} {cu:Value} (hx:jI X x C) (Z:fL X.K C) (hr:∀u,RelV cv u->u=cu):CallR X (.builtin "isinstance") (IF X.K x C cv cu):=by
 intro pins s σ H xs us Q I rv h;obtain ⟨b,rfl,hk,q⟩:=h;match us,rv with
 | [u,t],.cons r1 (.cons r2 .nil)=>
  cases (show u=Value.ref x from r1)
  cases hr t r2
  exact PySem.W.kia_one (tV Z) I.kIn (hx _ _ _ _ I) hk nofun fun tk=>⟨.bl b,H,I.tok tk,rfl,q⟩
theorem gu (h:PE X a (tE X.K W fa)):PE X a (tG φ (tE X.K W fa)):=bc h fun _ _ _ h=>h.2
theorem DL {i:Nat} {x C D:Addr} {ex d:Str} {p1 p2:Pos} {bb:Bool} (S:Cp { X with calm:=true } N gl vs cs ls lo gs) (hx:jI X x C) (Z:fL X.K C) (hk:PySem.W.kitOne X.K (.ref C) (.ref D)=some bb) (hD:X.mg d=some (.ref D)) (hmi:X.mg "isinstance"=none)
  (hN:N[i]?=some ex) (hv:vs.contains i=true) (j k:Nat) (hj:gl[j]?=some ("isinstance":Str)) (hg:gs.contains j=true) (hk2:gl[k]?=some d) (hg2:gs.contains k=true) :
  PE X (.Call (.Name "isinstance" p) [.Name ex p1,.Name d p2] [] pos) (tG (kX i x) (tE X.K W (eK (.bool bb)))):=by
 have m:=S.nm ex (mem_of_getElem? hN)
 have hvar:PE X (.Name ex p1) (fS i):=qR (by show X.N[i]?=_;rw [show X.N=N from S.hN];exact hN) (S.vis i ex hN hv) m.1 m.2
 refine bc (GP (mS (cv:=.ref D) (cu:=.ref D) hx Z fun u hu=>hu) (S.g hj hg).1 hmi gj (vb hvar (vb (oN (v:=.ref D) (S.g hk2 hg2).1 hD rfl (S.g hk2 hg2).2.1) BK rfl) rfl) (S.g hj hg).2.2 (S.g hj hg).2.1 rfl rfl) fun σ H Q h=>?_
 exact ⟨.ref x,h.1,bb,rfl,hk,rW (.bl bb) h.2⟩
theorem Bc {i:Nat} {x C:Addr} {ex d:Str} {T:String} {p1 p2:Pos} {bb:Bool} (S:Cp { X with calm:=true } N gl vs cs ls lo gs) (hx:jI X x C) (Z:fL X.K C) (hk:PySem.W.kitOne X.K (.ref C) (.type T)=some bb) (hD:X.mg d=none) (hb:bootBuiltins d=some (.type T)) (hmi:X.mg "isinstance"=none)
  (hN:N[i]?=some ex) (hv:vs.contains i=true) (j k:Nat) (hj:gl[j]?=some ("isinstance":Str)) (hg:gs.contains j=true) (hk2:gl[k]?=some d) (hg2:gs.contains k=true) :
  PE X (.Call (.Name "isinstance" p) [.Name ex p1,.Name d p2] [] pos) (tG (kX i x) (tE X.K W (eK (.bool bb)))):=by
 have m:=S.nm ex (mem_of_getElem? hN)
 have hvar:PE X (.Name ex p1) (fS i):=qR (by show X.N[i]?=_;rw [show X.N=N from S.hN];exact hN) (S.vis i ex hN hv) m.1 m.2
 refine bc (GP (mS (cv:=.ty T) (cu:=.type T) hx Z fun u hu=>hu) (S.g hj hg).1 hmi gj (vb hvar (vb (wb (v:=.ty T) (S.g hk2 hg2).1 hD hb rfl (S.g hk2 hg2).2.2 (S.g hk2 hg2).2.1) BK rfl) rfl) (S.g hj hg).2.2 (S.g hj hg).2.1 rfl rfl) fun σ H Q h=>?_
 exact ⟨.ref x,h.1,bb,rfl,hk,rW (.bl bb) h.2⟩
theorem DK:PA X [] (xY φ (tA X.K W ah)):=pb da_nil fun _ _ _ h=>h.2
theorem Be (ha:PE X e (tG φ (tE X.K W fa))) (hr:PA X es (xY φ (tA X.K W fl))) (hs:starEach (e::es) X.env=(false,eval e X.env)::starEach es X.env:=by exact gv rfl):PA X (e::es) (xY φ (tA X.K W (ae fa fl))):=
 pb (vb ha hr hs) fun σ H Q h=>⟨h.1,EK (oy h.2) fun v H1 q=>⟨h.1,q⟩⟩
theorem Bb (s:Sh) (h:PA X es (xY φ (tA X.K W fl))):PE X (.List es pos) (tG φ (tE X.K W (az s fl))):=bc (tj h) fun σ H Q h=>⟨h.1,ox h.2⟩
theorem DM (ha:PE X a (tG φ (tE X.K W fa))) (hb:PE X b (tG φ (tE X.K W fb))):PE X (.BinOp a .Add b pos) (tG φ (tE X.K W (bF fa fb))):=
 bc (fU oQ ha hb) fun σ H Q h=>⟨h.1,EK (sI h.2) fun v H1 q=>⟨h.1,q⟩⟩
theorem DJ (S:Cp { X with calm:=true } N gl vs cs ls lo gs) (i:Nat) {x:Str} (hN:N[i]?=some x) (hv:vs.contains i=true):PE X (.Name x pos) (tE X.K W (af i)):=by
 have m:=S.nm x (mem_of_getElem? hN)
 exact uC (qR (by show X.N[i]?=_;rw [show X.N=N from S.hN];exact hN) (S.vis i x hN hv) m.1 m.2)
theorem AW (ha:PE X a (tG φ (tE X.K W fa))) (he:∀whole,isTrue a X.env whole=(do let v <-whole;standAt a.pos;holding [v] (truthy v)):=by intro _;rfl):PT X a (rd φ (tT X.K W (aR br fa))):=kh (lP ha he) fun σ H Q h=>⟨h.1,sv h.2⟩
theorem AY (ha:PT X a (rd φ (tT X.K W ga))):PT X (.UnaryOp .Not a pos) (rd φ (tT X.K W (dy ga))):=kh (sU ha) fun σ H Q h=>⟨h.1,oA h.2⟩
theorem AX (ha:PT X a (tT X.K W ga)) (hb:PT X b (rd φ (tT X.K W gb))):PT X (.BoolOp .Or [a,b] pos) (rd φ (tT X.K W (mT ga gb))):=
 PW.pt (uQ (yd ha (sR hb)) fun σ H Q h=>nY (sM h.2) fun c H1 q=>by
  cases c with
  | true=>exact q
  | false=>exact gU ⟨h.1,by simpa using q⟩)
def tZ (i:Nat) (x:Addr) (K:Fg) (W:XW) (g:FS):TS:=fun D σ H=>kX i x σ/\tN [i] K W g D σ H
theorem Cd {i:Nat} {x:Addr} {st:Stmt} {g:FS} (h:PS X st (tZ i x X.K W g)):PSs X [st] (tZ i x X.K W g):=GV h
theorem Ce {i:Nat} {x:Addr}:PSs X [] (tZ i x X.K W aS):=Ct GU fun _ _ _ h=>sC h.2
theorem yG {i:Nat} {x:Addr} {st:Stmt} {b7:List Stmt} (h1:PS X st (tZ i x X.K W g1)) (h2:PSs X b7 (tZ i x X.K W g2)):PSs X (st::b7) (tZ i x X.K W (ay g1 g2)):=
 Ct (lQ h1 h2) fun D σ H h=>by
  refine ⟨h.1,?_⟩
  have q:=vL h.2
  refine nZ (D':=nD [i] { D with nx:=tZ i x X.K W g2 D } σ) q (fun σ1 H1 z a=>⟨?_,z a⟩) rfl rfl rfl
  unfold kX;rw [a i (List.mem_singleton.mpr rfl)];exact h.1
theorem Cb {i k:Nat} {x:Addr} {y:Str} {pos':Pos} (S:Cp { X with calm:=true } N gl vs cs ls lo gs) (hki:(k==i)=false) (hk:N[k]?=some y) (hl:ls.contains k=true) (ha:PE X a (tG (kX i x) (tE X.K W fa))) (hs:swapsWith a (some (.Name y pos')) pos.line X.env=pure false:=by rfl):PS X (.Assign [.Name y pos'] a pos) (tZ i x X.K W (aC false k fa)):=
 cH (Gr (by show X.N.Nodup;rw [show X.N=N from S.hN];exact S.nd) (by show X.N[k]?=_;rw [show X.N=N from S.hN];exact hk) (S.loc k y hk hl).1 ha hs (S.loc k y hk hl).2) fun D σ H h=>⟨h.1,vJ (by simpa using hki) h.2⟩
theorem Gn {i:Nat} {x:Addr} {A B:List Stmt} (hc:PT X c (rd (kX i x) (tT X.K W ga))) (ha:PSs X A (tZ i x X.K W g1)) (hb:PSs X B (tZ i x X.K W g2)):PS X (.If c A B pos) (tZ i x X.K W (b2 ga g1 g2)):=
 cH (ye hc ha hb) fun D σ H h=>⟨h.1,nY (zM h.2) fun b H1 q=>by
  cases b with
  | true=>exact ⟨h.1,q⟩
  | false=>exact gU ⟨h.1,by simpa using q⟩⟩
theorem Cc {i:Nat} {x:Addr} (ha:PE X a (tG (kX i x) (tE X.K W fa))):PS X (.Return (some a) pos) (tZ i x X.K W (ba fa)):=cH (sX ha) fun D σ H h=>⟨h.1,sA (D:=nD [i] D σ) h.2⟩
end
theorem GI:∀{ns:List Bool} {us:List Value},Vals (ns.map V.bl) us->us=ns.map Value.bool
 | [],_,.nil=>rfl
 | n::ns,_,.cons r t=>by
  cases (show _=Value.bool n from r)
  rw [GI t];rfl
def t8:Value->Bool
 | .bool b=>b==true
 | _=>false
theorem jZ (b:Bool):t8 (.bool b)=b:=by cases b<;>rfl
def Aa (K:Fg):V->List V->Hp->VK->Prop:=fun x xs H Q=>∃(l:Addr) (ns:List Bool),x=.ref l/\xs=[.bl true]/\SqL K H l (ns.map V.bl)/\Q (.int (ns.count true:Nat)) H
def zY (K:Fg):V->List V->Hp->VK->Prop:=fun x xs H Q=>∃(l:Addr) (ns:List Bool) (j:Nat),x=.ref l/\xs=[.bl true]/\SqL K H l (ns.map V.bl)/\ns[j]?=some true/\(∀m,m<j->ns[m]?≠some true)/\Q (.int j) H
theorem qf {X:Cx}:Ee X "list.count" (Aa X.K):=by
 intro pins s σ H x xs v us Q I rx rv h;obtain ⟨l,ns,rfl,rfl,hS,q⟩:=h
 cases rx;obtain ⟨u,rfl,ru⟩:=rv.one
 cases (show u=Value.bool true from ru)
 obtain ⟨its,r,pl,hz⟩:=I.list hS;have hI:=GI r
 subst hI;obtain ⟨o,n,ho,hc,hd,hdt⟩:=pl;obtain ⟨ocls,odict,odata,oslots⟩:=o;simp only at hc hd hdt
 subst hc hd hdt;refine call_meets F.slot_list_count ⟨_,ho,rfl⟩ F.entry_list_count (F.args_list_count_2 _ _) (SeqAt.list_countAt l (ns.map Value.bool).toArray n none oslots (.bool true) t8) ⟨ho,fun y hy=>?_,?_⟩
 ·obtain ⟨b,_,rfl⟩:=List.mem_map.mp (show y∈ns.map Value.bool by exact Array.mem_def.mp hy)
  exact SeqAt.EqAt.bool_bool b true
 ·have e:(ns.map Value.bool).toArray.toList.countP t8=ns.count true:=by
   show (ns.map Value.bool).countP t8=_
   rw [List.countP_map];unfold List.count;congr 1
  rw [e];exact ⟨.int (ns.count true:Nat),H,I.tok _,⟨_,rfl⟩,q⟩
theorem qe {X:Cx}:Ee X "list.index" (zY X.K):=by
 intro pins s σ H x xs v us Q I rx rv h;obtain ⟨l,ns,j,rfl,rfl,hS,hj,hno,q⟩:=h
 cases rx;obtain ⟨u,rfl,ru⟩:=rv.one
 cases (show u=Value.bool true from ru)
 obtain ⟨its,r,pl,hz⟩:=I.list hS;have hI:=GI r
 subst hI;have hjl:j<(ns.map Value.bool).toArray.size:=by rw [size_toArray,length_map];exact (KP hj).1
 obtain ⟨o,n,ho,hc,hd,hdt⟩:=pl;obtain ⟨ocls,odict,odata,oslots⟩:=o;simp only at hc hd hdt
 subst hc hd hdt;have hsm:(j:Int)<2 ^ 63-1:=by
  rw [length_map] at hz;have h1:sizeLine<2 ^ 62:=by decide
  have:=(KP hj).1
  omega
 refine call_meets F.slot_list_index ⟨_,ho,rfl⟩ F.entry_list_index (F.args_list_index_2 _ _) (SeqAt.list_indexAt l (ns.map Value.bool).toArray n none oslots (.bool true) t8 j hjl hsm ?_ fun m hm hmj=>?_) ⟨ho,fun y hy=>?_,⟨.int j,H,I.tok _,⟨_,rfl⟩,q⟩⟩
 ·rw [List.getElem_toArray,List.getElem_map,jZ]
  obtain ⟨hl,e⟩:=KP hj
  exact e
 ·rw [List.getElem_toArray,List.getElem_map,jZ]
  have hml:m<ns.length:=by rw [size_toArray,length_map] at hm;exact hm
  have:=hno m hmj
  rw [KL hml] at this
  cases e:ns[m] with
  | false=>rfl
  | true=>rw [e] at this;exact absurd rfl this
 ·obtain ⟨b,_,rfl⟩:=List.mem_map.mp (show y∈ns.map Value.bool by exact Array.mem_def.mp hy)
  exact SeqAt.EqAt.bool_bool b true
def B9:List Bool->Option Nat
 | []=>none
 | n::r=>if n then some 0 else (B9 r).map (·+1)
theorem t4:∀{ns:List Bool} {j:Nat},B9 ns=some j->ns[j]?=some true/\∀m,m<j->ns[m]?≠some true
 | [],_,h=>by cases h
 | n::r,j,h=>by
  unfold B9 at h
  cases n with
  | true=>cases h;exact ⟨rfl,fun m hm=>by omega⟩
  | false=>
   cases hr:B9 r with
   | none=>rw [hr] at h;cases h
   | some j'=>
    rw [hr] at h
    cases h;obtain ⟨h1,h2⟩:=t4 hr;refine ⟨by simpa using h1,fun m hm=>?_⟩
    cases m with
    | zero=>simp
    | succ m=>simpa using h2 m (by have:m+1<j'+1:=hm;omega)
def qq (i:Nat):F1:=fun Γ=>match Γ[i]? with
 | some (some ⟨.leaf,.list ds⟩)=>(match m6 ds with
  | some ns=>.ok ⟨.leaf,.int (ns.count true:Nat)⟩ Γ
  | none=>.no)
 | _=>.no
def qo (i:Nat):F1:=fun Γ=>match Γ[i]? with
 | some (some ⟨.leaf,.list ds⟩)=>(match m6 ds with
  | some ns=>(match B9 ns with
   | some j=>.ok ⟨.leaf,.int (j:Nat)⟩ Γ
   | none=>.no)
  | none=>.no)
 | _=>.no
section
variable {K:Fg} {W:XW} {σ:St} {H:Hp} {Q:VK}
theorem zS {i:Nat} (h:tE K W (qq i) σ H Q):zt K "list" (Aa K) (fS i) (og (tC (.bl true)) vq) σ H Q:=by
 obtain ⟨He,O,Fs,Γ,E,h⟩:=h;have h:Wants K W He O Fs H σ Q (qq i Γ):=h
 unfold qq at h;split at h
 ·rename_i ds e0
  obtain ⟨l,vs,h1,h2,h3⟩:=EH E e0;refine ⟨.ref l,h1,.inl ⟨rfl,vs,h2⟩,?_⟩
  cases hi:m6 ds with
  | none=>rw [hi] at h;exact h.elim
  | some ns=>
   rw [hi] at h;rw [Fe hi] at h3;have ev:=Fj h3
   subst ev;exact ⟨l,ns,rfl,rfl,h2,h _ _ _ _ (Cw E (Same.refl _) (fun a ha=>.inl ha) (.int _))⟩
 ·exact h.elim
theorem zL {i:Nat} (h:tE K W (qo i) σ H Q):zt K "list" (zY K) (fS i) (og (tC (.bl true)) vq) σ H Q:=by
 obtain ⟨He,O,Fs,Γ,E,h⟩:=h;have h:Wants K W He O Fs H σ Q (qo i Γ):=h
 unfold qo at h;split at h
 ·rename_i ds e0
  obtain ⟨l,vs,h1,h2,h3⟩:=EH E e0;refine ⟨.ref l,h1,.inl ⟨rfl,vs,h2⟩,?_⟩
  cases hi:m6 ds with
  | none=>rw [hi] at h;exact h.elim
  | some ns=>
   rw [hi] at h;dsimp only at h
   cases hj:B9 ns with
   | none=>rw [hj] at h;exact h.elim
   | some j=>
    rw [hj] at h;rw [Fe hi] at h3;have ev:=Fj h3
    subst ev;obtain ⟨a1,a2⟩:=t4 hj;exact ⟨l,ns,j,rfl,rfl,h2,a1,a2,h _ _ _ _ (Cw E (Same.refl _) (fun a ha=>.inl ha) (.int _))⟩
 ·exact h.elim
end
section
variable {X:Cx} {N gl:List Str} {vs cs ls lo gs:List Nat} {W:XW} {p:Pos}
theorem Bx (S:Cp { X with calm:=true } N gl vs cs ls lo gs) (i:Nat) {x:Str} {kb:Nat} {apos cpos bp:Pos} (hi:N[i]?=some x) (hv:vs.contains i=true) (hbase:attributeBase (.Name x p) "count" X.env (eval (.Name x p) X.env)=eval (.Name x p) X.env:=by rfl) (hline:(apos.endLine==cpos.line)=true:=by rfl) :
  PE X (.Call (.Attribute (.Name x p) "count" apos) [.Constant (.bool true) kb bp] [] cpos) (tE X.K W (qq i)):=by
 have m:=S.nm x (mem_of_getElem? hi)
 exact bc (jR (T := "list") (r:=Aa X.K) F.plainAttrs_list F.slot_list_count F.type_list_count qf (qR (by show X.N[i]?=_;rw [show X.N=N from S.hN];exact hi) (S.vis i x hi hv) m.1 m.2) (vb tw BK rfl) hbase rfl hline rfl rfl) fun _ _ _=>zS
theorem Bw (S:Cp { X with calm:=true } N gl vs cs ls lo gs) (i:Nat) {x:Str} {kb:Nat} {apos cpos bp:Pos} (hi:N[i]?=some x) (hv:vs.contains i=true) (hbase:attributeBase (.Name x p) "index" X.env (eval (.Name x p) X.env)=eval (.Name x p) X.env:=by rfl) (hline:(apos.endLine==cpos.line)=true:=by rfl) :
  PE X (.Call (.Attribute (.Name x p) "index" apos) [.Constant (.bool true) kb bp] [] cpos) (tE X.K W (qo i)):=by
 have m:=S.nm x (mem_of_getElem? hi)
 exact bc (jR (T := "list") (r:=zY X.K) F.plainAttrs_list F.slot_list_index F.type_list_index qe (qR (by show X.N[i]?=_;rw [show X.N=N from S.hN];exact hi) (S.vis i x hi hv) m.1 m.2) (vb tw BK rfl) hbase rfl hline rfl rfl) fun _ _ _=>zL
end
structure RoomH (k:Nat) (A:Around):Prop where
 dp:A.depth+3*k+5<recursionLimit
 un:A.units+16*k+200<cLine
 gd:A.guards=some []
theorem Room.mark {k:Nat} {A:Around} (r:Room k A) (v:Option Value):RoomH k (A.mark v):=⟨r.dp,r.un,r.gd⟩
theorem RoomH.mono {j k:Nat} {A:Around} (r:RoomH k A) (h:j<=k):RoomH j A:=⟨by have:=r.dp;omega,by have:=r.un;omega,r.gd⟩
theorem RoomH.deeper {k:Nat} {A:Around} (r:RoomH (k+1) A) (env:Env):RoomH k (A.deeper env):=
 ⟨by have:=r.dp;show A.depth+1+3*k+5<_;omega,by have:=r.un;show A.units+3+16*k+200<_;omega,r.gd⟩
def DW (P:Program) (w:World) (K:Fg) (mg:Str->Option Value) (base:Heap) (N:List Str) (qual:Str) (scope:Scope) (f:Addr) (cd:Value) (A:Around) (outer:List Env) (s:Shared) (H:Hp):Cx:=
 { eX kR P w K mg base N qual scope f cd A outer s H E0 with calm:=false,xe:=fun _ _=>False }
theorem Bk {P:Program} {w:World} {K:Fg} {mg:Str->Option Value} {base:Heap} {k:Nat} {f:Addr} {name qual:Str} {params:Arguments} {body:List Stmt} {scope:Scope} {dV kV doc pm cdv ct oc:Value} {an od:Option Addr}
  {osl:Array (Option Value)} {N ps:List Str} (lk:K.lookup f=some ⟨oc,od,.func (PySem.W.fnOf name qual params body scope dV kV doc pm an cdv ct),osl⟩) (hcd:PySem.W.codeIn K cdv qual=true) (S:dW N ps scope)
  {A:Around} {outer:List Env} {s:Shared} {H:Hp} {args:Args} {us:List Value} {vs:List V} {Q:VK} {t:TS} (hr:RoomH (k+1) A) (e0:qN P w K mg base A outer s H) (hb:BindsTo s (PySem.W.fnOf name qual params body scope dV kV doc pm an cdv ct) args (ps.zip us)) (r:Vals vs us) (hl:vs.length=ps.length)
  (ht:PSs (DW P w K mg base N qual scope f cdv A outer s H) body t) (hq:t { nx:=fun _ H'=>Q .non H',rt:=Q } (start N vs) H):codeAny (model P w) A (.call (.ref f) args) (CR kR outer P w H s Q E0) s:=by
 have KX:K.In s.heap:=e0.mod.kin.keeps fun b o e=>(e0.bs b o e).1
 have lim:s.heap.NoLimit:=e0.mod.nolimit.keeps fun b o e=>(e0.bs b o e).1
 have hkind:∀y∈ps.zip us,scope.names.lookup y.1=some .local\/(scope.names.lookup y.1=some .cell/\((cellsFrom (s.heap.objs.size+1) scope.names []).lookup y.1).isSome=true):=fun ⟨n,v⟩ hy=>by
  rcases S.par n (of_mem_zip hy).1 with q | q
  ·exact .inl q
  ·exact .inr ⟨q,PySem.W.cellsFrom_some _ _ _ (.inl q)⟩
 refine codeAny_call_function (by have:=hr.dp;omega) (KX _ _ lk) rfl S.co S.gen rfl (PySem.W.codeRec_of KX hcd) (hb _ _ _ _ ?_)
 refine wpAny_newFunctionEnv_cells S.kind hkind fun env he s1 x=>?_
 subst he;refine ⟨lim.keeps x.toInCall.keep,codeAny_func ?_⟩
 have J:Inv (eX kR P w K mg base N qual scope f cdv { A with handled:=none } outer s H E0) [] (start N vs) H s1:=j0 S rfl ⟨e0.frames,e0.mod,e0.bs,e0.bsz,e0.funs,e0.frf,e0.hok,e0.bare⟩ hl r x
 have I:Inv (DW P w K mg base N qual scope f cdv A outer s H) [] (start N vs) H s1:=
  ⟨⟨J.ok.mod,J.ok.kind,J.ok.glob,J.ok.blt,J.ok.above,J.ok.inj,J.ok.has,J.ok.cab,fun z=>(nomatch z),Around.frames_deeper e0.frames,J.ok.stk,J.ok.exf,J.ok.bs,J.ok.bsz,J.ok.noex,J.ok.exfs,J.ok.funs,J.ok.frf⟩,J.os,J.bare,J.base,J.loc,J.cell,J.free,J.freeC,J.pin,J.hok,J.len⟩
 refine wpAny_mono (ht [] s1 (start N vs) H _ I hq) (fun fl s' hs=>?_) fun e s' hs=>hs.elim
 have fin:∀{σ':St} {H':Hp} {v:V} {u:Value},Inv (DW P w K mg base N qual scope f cdv A outer s H) [] σ' H' s'->RelV v u->Q v H'->CE outer P w H s Q u s':=
  fun {σ' H' v u} J rv q=>⟨v,H',J.os,J.bare,J.base,J.hok,rv,q⟩
 cases fl with
 | ret u=>
  obtain ⟨v,σ',H',J,rv,q⟩:=hs;exact fin J rv q
 | next=>
  obtain ⟨σ',H',J,q⟩:=hs;exact fin (v:=V.non) (u:=Value.none) J rfl q
 | brk=>
  obtain ⟨_,_,_,q⟩:=hs;exact False.elim q
 | cont=>
  obtain ⟨_,_,_,q⟩:=hs;exact False.elim q
def Bs (n:Nat) (g:FS):Res:=match g (List.replicate n none) with
 | .nx _=>.ok ⟨.leaf,.none⟩
 | .rt p=>.ok p
 | _=>.no
def Jo (P:Program) (w:World) (K:Fg) (mg:Str->Option Value) (base:Heap) (k:Nat) (f:Addr) (fd:FuncData) (q:Str) (cl:List Str) (m:Str->Res):Prop:=
 ∀(A:Around) (outer:List Env) (s:Shared) (H:Hp) (a C:Addr) (c:Str) (O:List Addr) (Q:VK) (args:Args),RoomH k A->qN P w K mg base A outer s H->uS a C s.heap->H a=none->a∉gz outer->c∈cl->mg c=some (.ref C)->O.Nodup->(∀b∈O,H b≠none) ->
  (match m c with | .ok p=>∀v H' G,RetOk K H O p v H' G->Q v H' | _=>False)->BindsTo s fd args ([q].zip [.ref a])->codeAny (model P w) A (.call (.ref f) args) (CR kR outer P w H s Q E0) s
def Cs (P:Program) (w:World) (K:Fg) (mg:Str->Option Value) (base:Heap) (k:Nat) (x:Str) (cl:List Str) (m:Str->Res):Prop:=
 ∃(f:Addr) (fd:FuncData) (q:Str),mg x=some (.ref f)/\PySem.W.keepIn K (.ref f)=true/\Binds K fd [q] []/\Jo P w K mg base k f fd q cl m
structure InH (p:Fg->(Str->Option Value)->Prop) (X:Cx) (P:Program) (w:World) (K:Fg) (mg:Str->Option Value) (base:Heap) (k:Nat):Prop where
 e1:X.prog=P
 e2:X.w=w
 e3:X.K=K
 e4:X.mg=mg
 e5:X.base=base
 rm:RoomH k X.A
 pp:p K mg
theorem InH.r {p:Fg->(Str->Option Value)->Prop} {X:Cx} {P:Program} {w:World} {K:Fg} {mg:Str->Option Value} {base:Heap} {k:Nat} (I:InH p X P w K mg base k):Rm X:=by
 have:=I.rm.un
 unfold Rm;omega
section
variable {p:Fg->(Str->Option Value)->Prop} {P:Program} {w:World} {K:Fg} {mg:Str->Option Value} {base:Heap} {k:Nat} {x q:Str} {st:Stmt} {cl:List Str} {d:Str->FS}
theorem Kp (F:Ft K mg x st) (e:p K mg) (q:Str) (b:qP x st [q]) (rs gl:List Str) (vs cs gs:List Nat)
  (hb:∀(X:Cx) (a C:Addr) (c:Str),c∈cl->mg c=some (.ref C)->Cp { X with calm:=true } ([q]++rs) gl vs cs vs (nC vs cs) gs->InH p X P w K mg base k->jI X a C->PSs X (pj st) (tZ 0 a X.K W0 (d c)))
  (h:fB ([q]++rs) gl [q] vs cs gs st=true:=by kernel_rfl):Cs P w K mg base (k+1) x cl (fun c=>Bs ([q]++rs).length (d c)):=by
 obtain ⟨f,fd,hm,F⟩:=F;obtain ⟨h1,h2,h3⟩:=o5 h;refine ⟨f,fd,q,hm,F.kp,En F b,fun A outer s H a C c O Q args hr e0 hx hH haf hc hC nd inH hw hbn=>?_⟩
 obtain ⟨oc,od,kV,doc,pm,an,cdv,ct,osl,rfl,lk,hcd⟩:=F.ex;have hex:jI (DW P w K mg base ([q]++rs) x (g6 st) f cdv A outer s H) a C:=fun pins σ H' s' I=>by
  obtain ⟨oe,vs,g,hc1,hd⟩:=hx;exact ⟨oe,vs,I.base.keep a oe g hH haf nofun,hc1,hd⟩
 have S:Cp { DW P w K mg base ([q]++rs) x (g6 st) f cdv A outer s H with calm:=true } ([q]++rs) gl vs cs vs (nC vs cs) gs:=by
  obtain ⟨a1,b1,c1⟩:=Ew h2;have q1:=Ci h1
  exact ⟨rfl,a1,b1,c1,q1.vis,q1.cel,fun i x e hi=>⟨q1.loc i x e hi,.inl rfl⟩,q1.loo,q1.glb,rfl,q1.kind⟩
 refine Bk (k:=k) lk hcd h3 (vs:=[.ref a]) hr e0 hbn (.cons rfl .nil) rfl (hb _ a C c hc hC S ⟨rfl,rfl,rfl,rfl,rfl,hr.deeper _,e⟩ hex) ?_
 refine ⟨rfl,H,O,List.replicate ([q]++rs).length [],List.replicate ([q]++rs).length none,?_,?_⟩
 ·have fl:(List.replicate ([q]++rs).length ([]:List Addr)).flatten=[]:=by simp
  refine ⟨by simp [L2.start],by simp,Same.refl _,by rw [fl];simpa using nd,by rw [fl];simpa using inH,fun a ha=>by rw [fl] at ha;simp at ha,fun i p hp=>?_⟩
  rw [getElem?_replicate] at hp;split at hp<;>cases hp
 ·unfold Bs at hw
  dsimp only at hw
  cases e:d c (List.replicate ([q]++rs).length none) with
  | nx Γ'=>
   rw [e] at hw;exact fun σ' H' Fs' E' _=>hw .non H' [] ⟨E'.same,(fun _ z=>nomatch z),(fun _ z=>nomatch z),nodup_nil,.leaf .non,rfl⟩
  | rt p=>rw [e] at hw;exact hw
  | bk Γ'=>rw [e] at hw;exact hw.elim
  | ct Γ'=>rw [e] at hw;exact hw.elim
  | er c Γ'=>rw [e] at hw;exact hw.elim
  | no=>rw [e] at hw;exact hw.elim
end
def qm (r:Res):F1:=fun Γ=>match r with
 | .ok p=>.ok p Γ
 | _=>.no
theorem Bf {X:Cx} {pins:List (Addr×Obj)} {a C:Addr} {oe:Obj} {c:Str} {N gl:List Str} {vs cs ls lo gs:List Nat} {W:XW} {ie k kk:Nat} {x en:Str} {cl:List Str} {m:Str->Res} {pos p p1:Pos} (S:Cp X N gl vs cs ls lo gs) (hst:X.stack=X.env::X.outer) (hf:X.env.frame=some X.env.locals)
  (F:Cs X.prog X.w X.K X.mg X.base k x cl m) (hr:Room kk X.A) (hk:decide (k<=kk)=true) (hc:c∈cl) (hC:X.mg c=some (.ref C)) (hcl:oe.cls=.ref C) (hd:∃vs,oe.data=.fields vs) (hN:N[ie]?=some en) (hv:vs.contains ie=true) (j:Nat) (hj:gl[j]?=some x) (hg:gs.contains j=true) :
  PE (u3 X pins a oe) (.Call (.Name x p) [.Name en p1] [] pos) (tG (kX ie a) (tE X.K W (qm (m c)))):=by
 obtain ⟨f,fd,q,hm,hkp,hb,run⟩:=F;have mm:=S.nm en (mem_of_getElem? hN)
 have hvar:PE (u3 X pins a oe) (.Name en p1) (fS ie):=qR (by show X.N[ie]?=_;rw [S.hN];exact hN) (S.vis ie en hN hv) mm.1 mm.2
 intro pins' s σ H Q I h
 obtain ⟨h1,He,O,Fs,Γ,E,h2⟩:=h;refine wpAny_Call_Name_kw (Cv I (S.g hj hg).1 hm ?_ (S.g hj hg).2.1)
 refine PySem.W.callWith_K (h₀:=X.base) I.ok.mod.kin hkp (bM (vb hvar BK rfl pos pins' s σ H (fun vs H1=>vs=[.ref a]/\H1=H) I ⟨.ref a,h1,rfl,rfl⟩) fun us s1 ⟨vs,H1,I1,r,q1,q2⟩=>⟨I1.kIn,?_⟩) (gv rfl) rfl
 subst q1 q2;obtain ⟨u,rfl,ru⟩:=r.one
 cases (show u=Value.ref a from ru)
 obtain ⟨e,n,ne,nf,dd⟩:=I1.pin (a,oe) (KH _ (KG _ (List.mem_singleton.mpr rfl)))
 have haf:a∉gz X.stack:=fun z=>by
  rw [hst] at z;obtain ⟨en',m1,m2⟩:=List.mem_filterMap.mp z;rcases KJ m1 with y | y
  ·rw [y,hf] at m2
   exact ne (Option.some.inj m2).symm
  ·exact nf (List.mem_filterMap.mpr ⟨en',y,m2⟩)
 have hb2:=hb s1 [.ref a] I1.kIn rfl
 rw [append_nil] at hb2;obtain ⟨vsd,hdd⟩:=hd;refine wpAny_call (codeAny_mono (run (X.A.mark (some (.ref a))) X.stack s1 _ a C c (O++Fs.flatten) Q ⟨[.ref a],[]⟩ ((Room.mark hr _).mono (of_decide_eq_true hk)) I1.env0 ⟨oe,vsd,e,hcl,hdd⟩ n haf hc hC E.nd E.inH ?_ hb2) fun r s' hq=>?_)
 ·cases em:m c with
  | er c'=>unfold qm at h2;rw [em] at h2;exact h2.elim
  | no=>unfold qm at h2;rw [em] at h2;exact h2.elim
  | ok p=>
   unfold qm at h2;rw [em] at h2;intro v H2 G r;refine h2 v H2 G Fs ⟨r.same,E.hide r.same r.nd r.fresh r.inH,fun b hb=>?_,by rw [append_assoc];exact r.own⟩
   rcases KI hb with z | z
   ·exact .inr (r.fresh b z)
   ·exact .inl z
 ·cases r with
  | error e=>exact hq.elim
  | ok fl=>
   cases fl with
   | ret u=>exact I1.after hq
   | next=>exact False.elim hq
   | brk=>exact False.elim hq
   | cont=>exact False.elim hq
theorem Cp.hand {X:Cx} {pins:List (Addr×Obj)} {a:Addr} {oe:Obj} {N gl:List Str} {vs cs ls lo gs:List Nat} (S:Cp X N gl vs cs ls lo gs):Cp { u3 X pins a oe with calm:=true } N gl vs cs ls lo gs:=⟨S.hN,S.nd,S.nm,S.ng,S.vis,S.cel,S.loc,S.loo,S.glb,rfl,S.kind⟩
theorem Cp.try {X:Cx} {pins:List (Addr×Obj)} {W:Addr->St->Hp->Prop} {N gl:List Str} {vs cs ls lo gs:List Nat} (S:Cp X N gl vs cs ls lo gs):Cp (eL X pins W) N gl vs cs ls lo gs:=⟨S.hN,S.nd,S.nm,S.ng,S.vis,S.cel,S.loc,S.loo,S.glb,S.calm,S.kind⟩
theorem In.try {p:Fg->(Str->Option Value)->Prop} {X:Cx} {P:Program} {w:World} {K:Fg} {mg:Str->Option Value} {base:Heap} {k:Nat} {pins:List (Addr×Obj)} {W:Addr->St->Hp->Prop} (I:In p X P w K mg base k):In p (eL X pins W) P w K mg base k:=⟨I.e1,I.e2,I.e3,I.e4,I.e5,I.rm,I.pp⟩
theorem AZ {X:Cx} {N gl:List Str} {vs cs ls lo gs:List Nat} {W:XW} {a:Expr} {pos pos':Pos} {fa:F1} {k:Nat} {φ:St->Prop} {y:Str} (S:Cp { X with calm:=true } N gl vs cs ls lo gs) (hk:N[k]?=some y) (hl:ls.contains k=true) (ha:PE X a (tG φ (tE X.K W fa))) (hs:swapsWith a (some (.Name y pos')) pos.line X.env=pure false:=by rfl) :
  PSs X [.Assign [.Name y pos'] a pos] (HX φ (tS X.K W (aC false k fa))):=
 GV (cH (Gr (by show X.N.Nodup;rw [show X.N=N from S.hN];exact S.nd) (by show X.N[k]?=_;rw [show X.N=N from S.hN];exact hk) (S.loc k y hk hl).1 ha hs (S.loc k y hk hl).2) fun D σ H h=>⟨h.1,BL h.2⟩)
abbrev J8:List Value:=[.type "ValueError",.type "Exception",.type "BaseException",.type "object"]
def DX (K:Fg) (D C:Addr) (c:Str) (ds:List Str):Bool:=PySem.W.excIn K C J8 "ValueError.__new__"&&wY K C&&PySem.W.subIn K (.ref C) (.ref D)==some true&&PySem.W.kitOne K (.ref C) (.type "ValueError")==some true&&ds.all fun d=>match PySem.W.nsIn K mainGlobals d with
 | some (some (.ref E))=>PySem.W.kitOne K (.ref C) (.ref E)==some (d==c)
 | _=>false
def DN (K:Fg) (cl ds:List Str):Bool:=match PySem.W.nsIn K mainGlobals "HallError" with
 | some (some (.ref D))=>PySem.W.typeIn K (.ref D)==some (.type "type")&&wY K D&&cl.all fun c=>match PySem.W.nsIn K mainGlobals c with
  | some (some (.ref C))=>DX K D C c ds
  | _=>false
 | _=>false
structure Ej (K:Fg) (mg:Str->Option Value) (D C:Addr) (c:Str) (ds:List Str):Prop where
 ns:PySem.W.nsIn K mainGlobals c=some (some (.ref C))
 gm:mg c=some (.ref C)
 ei:PySem.W.excIn K C J8 "ValueError.__new__"=true
 ex:fL K C
 sub:PySem.W.subIn K (.ref C) (.ref D)=some true
 ve:PySem.W.kitOne K (.ref C) (.type "ValueError")=some true
 is:∀d,ds.contains d=true->∃E,mg d=some (.ref E)/\PySem.W.kitOne K (.ref C) (.ref E)=some (d==c)
structure ExT (K:Fg) (mg:Str->Option Value) (cl ds:List Str):Prop where
 h:∃D,mg "HallError"=some (.ref D)/\yF K D/\∀c∈cl,∃C,Ej K mg D C c ds
theorem gx {K:Fg} {h:Heap} {mg:Str->Option Value} {cl ds:List Str} (KX:K.In h) (G:h.Ns mainGlobals mg) (z:DN K cl ds=true):ExT K mg cl ds:=by
 unfold DN at z;split at z
 ·rename_i D e0
  simp only [Bool.and_eq_true,beq_iff_eq,all_eq_true] at z
  obtain ⟨⟨z1,z2⟩,z3⟩:=z;refine ⟨D,PySem.W.mg_of KX G e0,⟨z1,o6 z2⟩,fun c hc=>?_⟩
  have z4:=z3 c hc
  split at z4
  ·rename_i C e1
   unfold DX at z4;simp only [Bool.and_eq_true,beq_iff_eq,all_eq_true] at z4
   obtain ⟨⟨⟨⟨y1,y2⟩,y3⟩,y4⟩,y5⟩:=z4;refine ⟨C,e1,PySem.W.mg_of KX G e1,y1,o6 y2,y3,y4,fun d hd=>?_⟩
   have y6:=y5 d (by simpa using hd)
   split at y6
   ·rename_i E e2
    exact ⟨E,PySem.W.mg_of KX G e2,beq_iff_eq.mp y6⟩
   ·cases y6
  ·cases z4
 ·cases z
theorem ExT.cls {K:Fg} {mg:Str->Option Value} {cl ds:List Str} (E:ExT K mg cl ds) {c:Str} {C:Addr} (hc:c∈cl) (hC:mg c=some (.ref C)):∃D,Ej K mg D C c ds:=by
 obtain ⟨D,_,_,h⟩:=E.h;obtain ⟨C',k⟩:=h c hc;have:=k.gm
 rw [hC] at this
 cases this;exact ⟨D,k⟩
theorem ExT.rais {K:Fg} {mg:Str->Option Value} {base:Heap} {cl ds:List Str} (E:ExT K mg cl ds) (KX:K.In base) (G:base.Ns mainGlobals mg) {c:Str} (hc:cl.contains c=true:=by kernel_rfl):qM mg base c:=by
 obtain ⟨D,_,_,h⟩:=E.h;obtain ⟨C,k⟩:=h c (by simpa using hc)
 exact vU (h:=base) KX G k.ns k.ei
section
variable {X:Cx} {N gl:List Str} {vs cs ls lo gs:List Nat} {W:XW} {cl ds:List Str} {i:Nat} {x C:Addr} {c ex d:Str} {p p1 p2 pos:Pos}
theorem DG (S:Cp { X with calm:=true } N gl vs cs ls lo gs) (E:ExT X.K X.mg cl ds) (hx:jI X x C) (hc:c∈cl) (hC:X.mg c=some (.ref C)) (hmi:X.mg "isinstance"=none) (j k:Nat) (hN:N[i]?=some ex:=by exact rfl) (hv:vs.contains i=true:=by exact rfl) (hj:gl[j]?=some ("isinstance":Str):=by exact rfl) (hg:gs.contains j=true:=by exact rfl) (hk2:gl[k]?=some d:=by exact rfl) (hg2:gs.contains k=true:=by exact rfl) (hd:ds.contains d=true:=by kernel_rfl) :
  PE X (.Call (.Name "isinstance" p) [.Name ex p1,.Name d p2] [] pos) (tG (kX i x) (tE X.K W (eK (.bool (d==c))))):=by
 obtain ⟨D,k'⟩:=E.cls hc hC;obtain ⟨E',h1,h2⟩:=k'.is d hd
 exact DL S hx k'.ex h2 h1 hmi hN hv j k hj hg hk2 hg2
theorem kQ:bootBuiltins "ValueError"=some (.type "ValueError"):=by decide +kernel
theorem IW (S:Cp { X with calm:=true } N gl vs cs ls lo gs) (E:ExT X.K X.mg cl ds) (hx:jI X x C) (hc:c∈cl) (hC:X.mg c=some (.ref C)) (hmi:X.mg "isinstance"=none) (hve:X.mg "ValueError"=none) (j k:Nat) (hN:N[i]?=some ex:=by exact rfl) (hv:vs.contains i=true:=by exact rfl) (hj:gl[j]?=some ("isinstance":Str):=by exact rfl) (hg:gs.contains j=true:=by exact rfl) (hk2:gl[k]?=some ("ValueError":Str):=by exact rfl) (hg2:gs.contains k=true:=by exact rfl) :
  PE X (.Call (.Name "isinstance" p) [.Name ex p1,.Name "ValueError" p2] [] pos) (tG (kX i x) (tE X.K W (eK (.bool true)))):=by
 obtain ⟨D,k'⟩:=E.cls hc hC;exact Bc S hx k'.ex k'.ve hve kQ hmi hN hv j k hj hg hk2 hg2
end
abbrev JA:List Str:=["NoWorld", "NoPlayer", "NoMark", "NoSentence", "NoRoom", "NoWay", "NoPlan", "NoPaper", "TooGreat", "NoNote"]
abbrev J1:List Str:=["isinstance", "NoWorld", "NoPlayer", "NoMark", "NoSentence", "NoRoom", "NoWay", "NoPlan", "NoPaper", "TooGreat", "NoNote", "ValueError"]
abbrev bk (d c:Str):F1:=eK (.bool (d==c))
def DV (c:Str):FS:=ay (aC false 1 (az .leaf (ae (bk "NoWorld" c) (ae (bk "NoPlayer" c) (ae (bk "NoMark" c) (ae (bk "NoSentence" c) ah))))))
 (ay (aC false 1 (bF (af 1) (az .leaf (ae (bk "NoRoom" c) (ae (bk "NoWay" c) (ae (bk "NoPlan" c) (ae (bk "NoPaper" c) ah)))))))
 (ay (aC false 1 (bF (af 1) (az .leaf (ae (bk "TooGreat" c) (ae (bk "NoNote" c) ah)))))
 (ay (b2 (mT (aR aA (aD fN (qq 1) (eK (.int 1)))) (dy (aR br (eK (.bool true))))) (ba (eK (.str "other"))) aS)
 (ba (ak (az .leaf (ae (eK (.str "world")) (ae (eK (.str "player")) (ae (eK (.str "mark")) (ae (eK (.str "sentence")) (ae (eK (.str "room")) (ae (eK (.str "way")) (ae (eK (.str "plan")) (ae (eK (.str "paper")) (ae (eK (.str "great")) (ae (eK (.str "note")) ah))))))))))) (qo 1))))))
end T
namespace TQ
open PySem PySem.Spec L2 T
open PyProof.Rows hiding St
section
variable {X:Cx} {N gl:List Str} {vs cs ls lo gs:List Nat} {W:XW} {φ:St->Prop} {a b c e:Expr} {es:List Expr} {pos p p1 p2:Pos} {fa fb fc:F1} {fl:FL} {ga gb:FB} {g1 g2:FS} {i k:Nat} {x C:Addr} {cl ds:List Str} {ex d y cc:Str}
theorem e9 (S:Cp { X with calm:=true } N gl vs cs ls lo gs) (E:ExT X.K X.mg cl ds) (hx:jI X x C) (hc:cc∈cl) (hC:X.mg cc=some (.ref C)) (hmi:X.mg "isinstance"=none) (j k:Nat) (hN:N[i]?=some ex:=by exact rfl) (hv:vs.contains i=true:=by exact rfl) (hj:gl[j]?=some ("isinstance":Str):=by exact rfl) (hg:gs.contains j=true:=by exact rfl) (hk2:gl[k]?=some d:=by exact rfl) (hg2:gs.contains k=true:=by exact rfl) (hd:ds.contains d=true:=by kernel_rfl) :
  Q (PE X (.Call (.Name "isinstance" p) [.Name ex p1,.Name d p2] [] pos) (tG (kX i x) (tE X.K W (eK (.bool (d==cc)))))):=⟨DG S E hx hc hC hmi j k hN hv hj hg hk2 hg2 hd⟩
theorem HJ (S:Cp { X with calm:=true } N gl vs cs ls lo gs) (E:ExT X.K X.mg cl ds) (hx:jI X x C) (hc:cc∈cl) (hC:X.mg cc=some (.ref C)) (hmi:X.mg "isinstance"=none) (hve:X.mg "ValueError"=none) (j k:Nat) (hN:N[i]?=some ex:=by exact rfl) (hv:vs.contains i=true:=by exact rfl) (hj:gl[j]?=some ("isinstance":Str):=by exact rfl) (hg:gs.contains j=true:=by exact rfl) (hk2:gl[k]?=some ("ValueError":Str):=by exact rfl) (hg2:gs.contains k=true:=by exact rfl) :
  Q (PE X (.Call (.Name "isinstance" p) [.Name ex p1,.Name "ValueError" p2] [] pos) (tG (kX i x) (tE X.K W (eK (.bool true))))):=⟨IW S E hx hc hC hmi hve j k hN hv hj hg hk2 hg2⟩
theorem FF (h:Q (PE X a (tE X.K W fa))):Q (PE X a (tG φ (tE X.K W fa))):=⟨gu h.p⟩
theorem rF:Q (PA X [] (xY φ (tA X.K W ah))):=⟨DK⟩
theorem uU (ha:Q (PE X e (tG φ (tE X.K W fa)))) (hr:Q (PA X es (xY φ (tA X.K W fl)))) (hs:uT e=false:=by exact rfl):Q (PA X (e::es) (xY φ (tA X.K W (ae fa fl)))):=⟨Be ha.p hr.p (gv hs)⟩
theorem Gy (s:Sh) (h:Q (PA X es (xY φ (tA X.K W fl)))):Q (PE X (.List es pos) (tG φ (tE X.K W (az s fl)))):=⟨Bb s h.p⟩
theorem xP (ha:Q (PE X a (tG φ (tE X.K W fa)))) (hb:Q (PE X b (tG φ (tE X.K W fb)))):Q (PE X (.BinOp a .Add b pos) (tG φ (tE X.K W (bF fa fb)))):=⟨DM ha.p hb.p⟩
theorem xM (S:Cp { X with calm:=true } N gl vs cs ls lo gs) (i:Nat) {x:Str} (hN:N[i]?=some x:=by exact rfl) (hv:vs.contains i=true:=by exact rfl):Q (PE X (.Name x pos) (tE X.K W (af i))):=⟨DJ S i hN hv⟩
theorem CF (ha:Q (PE X a (tG φ (tE X.K W fa)))) (he:∀whole,isTrue a X.env whole=(do let v <-whole;standAt a.pos;holding [v] (truthy v)):=by exact fun _=>rfl):Q (PT X a (rd φ (tT X.K W (aR br fa)))):=⟨AW ha.p he⟩
theorem CH (ha:Q (PT X a (rd φ (tT X.K W ga)))):Q (PT X (.UnaryOp .Not a pos) (rd φ (tT X.K W (dy ga)))):=⟨AY ha.p⟩
theorem CG (ha:Q (PT X a (tT X.K W ga))) (hb:Q (PT X b (rd φ (tT X.K W gb)))):Q (PT X (.BoolOp .Or [a,b] pos) (rd φ (tT X.K W (mT ga gb)))):=⟨AX ha.p hb.p⟩
theorem xO {st:Stmt} {g:FS} (h:Q (PS X st (tZ i x X.K W g))):Q (PSs X [st] (tZ i x X.K W g)):=⟨Cd h.p⟩
theorem yR:Q (PSs X [] (tZ i x X.K W aS)):=⟨Ce⟩
theorem EL {st:Stmt} {b7:List Stmt} (h1:Q (PS X st (tZ i x X.K W g1))) (h2:Q (PSs X b7 (tZ i x X.K W g2))):Q (PSs X (st::b7) (tZ i x X.K W (ay g1 g2))):=⟨yG h1.p h2.p⟩
theorem rE {pos':Pos} (S:Cp { X with calm:=true } N gl vs cs ls lo gs) (ha:Q (PE X a (tG (kX i x) (tE X.K W fa)))) (hki:(k==i)=false:=by exact rfl) (hk:N[k]?=some y:=by exact rfl) (hl:ls.contains k=true:=by exact rfl) (hs:swapsWith a (some (.Name y pos')) pos.line X.env=pure false:=by exact rfl):Q (PS X (.Assign [.Name y pos'] a pos) (tZ i x X.K W (aC false k fa))):=⟨Cb S hki hk hl ha.p hs⟩
theorem HK {A B:List Stmt} (hc:Q (PT X c (rd (kX i x) (tT X.K W ga)))) (ha:Q (PSs X A (tZ i x X.K W g1))) (hb:Q (PSs X B (tZ i x X.K W g2))):Q (PS X (.If c A B pos) (tZ i x X.K W (b2 ga g1 g2))):=⟨Gn hc.p ha.p hb.p⟩
theorem xN (ha:Q (PE X a (tG (kX i x) (tE X.K W fa)))):Q (PS X (.Return (some a) pos) (tZ i x X.K W (ba fa))):=⟨Cc ha.p⟩
theorem CJ (S:Cp { X with calm:=true } N gl vs cs ls lo gs) (i:Nat) {x:Str} {kb:Nat} {apos cpos bp:Pos} (hline:(apos.endLine==cpos.line)=true) (hi:N[i]?=some x:=by exact rfl) (hv:vs.contains i=true:=by exact rfl) (hbase:attributeBase (.Name x p) "count" X.env (eval (.Name x p) X.env)=eval (.Name x p) X.env:=by exact rfl) :
  Q (PE X (.Call (.Attribute (.Name x p) "count" apos) [.Constant (.bool true) kb bp] [] cpos) (tE X.K W (qq i))):=⟨Bx S i hi hv hbase hline⟩
theorem CI (S:Cp { X with calm:=true } N gl vs cs ls lo gs) (i:Nat) {x:Str} {kb:Nat} {apos cpos bp:Pos} (hline:(apos.endLine==cpos.line)=true) (hi:N[i]?=some x:=by exact rfl) (hv:vs.contains i=true:=by exact rfl) (hbase:attributeBase (.Name x p) "index" X.env (eval (.Name x p) X.env)=eval (.Name x p) X.env:=by exact rfl) :
  Q (PE X (.Call (.Attribute (.Name x p) "index" apos) [.Constant (.bool true) kb bp] [] cpos) (tE X.K W (qo i))):=⟨Bw S i hi hv hbase hline⟩
end
theorem vf {X:Cx} {cl:List Str} {a C:Addr} {c:Str} (S:Cp { X with calm:=true } ["e", "some"] J1 [0,1] [] [0,1] [0,1] [0,1,2,3,4,5,6,7,8,9,10,11]) (R:Rm X) (E:ExT X.K X.mg cl JA) (hx:jI X a C) (hc:c∈cl) (hC:X.mg c=some (.ref C)) (hmi:X.mg "isinstance"=none) (hve:X.mg "ValueError"=none)
  {q1 q2 q3 q4 q5 q6 q7 q8 q9 q10 q11 q12 q13 q14 q15 q16 q17 q18 q19 q20 q21 q22 q23 q24 q25 q26 q27 q28 q29 q30 q31 q32 q33 q34 q35 q36 q37 q38 q39 q40 q41 q42 q43 q44 q45 q46 q47 q48 q49 q50 q51 q52 q53 q54 q55 q56 q57 q58 q59 q60 q61 q62 q63 q64 q65 q66 q67 q68 q69 q70 q71 q72 q73 q74 q75 q76 q77 q78 q79 q80 q81 q82 q83 q84 q85:Pos}
  {k1 k2 k3 k4 k5 k6 k7 k8 k9 k10 k11 k12 k13 k14:Nat} (h1:(q47.endLine==q50.line)=true:=by exact rfl) (h2:(q60.endLine==q63.line)=true:=by exact rfl) :
  Q (PSs X [.Assign [.Name "some" q1] (.List [.Call (.Name "isinstance" q2) [.Name "e" q3,.Name "NoWorld" q4] [] q5,.Call (.Name "isinstance" q6) [.Name "e" q7,.Name "NoPlayer" q8] [] q9,.Call (.Name "isinstance" q10) [.Name "e" q11,.Name "NoMark" q12] [] q13,.Call (.Name "isinstance" q14) [.Name "e" q15,.Name "NoSentence" q16] [] q17] q18) q19,
   .Assign [.Name "some" q20] (.BinOp (.Name "some" q21) .Add (.List [.Call (.Name "isinstance" q22) [.Name "e" q23,.Name "NoRoom" q24] [] q25,.Call (.Name "isinstance" q26) [.Name "e" q27,.Name "NoWay" q28] [] q29,.Call (.Name "isinstance" q30) [.Name "e" q31,.Name "NoPlan" q32] [] q33,.Call (.Name "isinstance" q34) [.Name "e" q35,.Name "NoPaper" q36] [] q37] q38) q39) q40,
   .Assign [.Name "some" q41] (.BinOp (.Name "some" q42) .Add (.List [.Call (.Name "isinstance" q43) [.Name "e" q44,.Name "TooGreat" q45] [] q46,.Call (.Name "isinstance" q64) [.Name "e" q65,.Name "NoNote" q66] [] q67] q68) q69) q70,
   .If (.BoolOp .Or [.Compare (.Call (.Attribute (.Name "some" q48) "count" q47) [.Constant (.bool true) k1 q49] [] q50) [.NotEq] [.Constant (.int 1) k2 q51] q52,.UnaryOp .Not (.Call (.Name "isinstance" q53) [.Name "e" q54,.Name "ValueError" q55] [] q56) q57] q58) [.Return (some (.Constant (.str "other") k3 q59)) q71] [] q72,
   .Return (some (.Subscript (.List [.Constant (.str "world") k4 q73,.Constant (.str "player") k5 q74,.Constant (.str "mark") k6 q75,.Constant (.str "sentence") k7 q76,.Constant (.str "room") k8 q77,.Constant (.str "way") k9 q78,.Constant (.str "plan") k10 q79,.Constant (.str "paper") k11 q80,.Constant (.str "great") k12 q81,.Constant (.str "note") k13 q82] q83) (.Call (.Attribute (.Name "some" q61) "index" q60) [.Constant (.bool true) k14 q62] [] q63) q84)) q85] (tZ 0 a X.K W0 (DV c))):=by
 refine EL (rE S (Gy .leaf (uU (e9 S E hx hc hC hmi 0 1) (uU (e9 S E hx hc hC hmi 0 2) (uU (e9 S E hx hc hC hmi 0 3) (uU (e9 S E hx hc hC hmi 0 4) rF)))))) ?_
 refine EL (rE S (xP (FF (xM S 1)) (Gy .leaf (uU (e9 S E hx hc hC hmi 0 5) (uU (e9 S E hx hc hC hmi 0 6) (uU (e9 S E hx hc hC hmi 0 7) (uU (e9 S E hx hc hC hmi 0 8) rF))))))) ?_
 refine EL (rE S (xP (FF (xM S 1)) (Gy .leaf (uU (e9 S E hx hc hC hmi 0 9) (uU (e9 S E hx hc hC hmi 0 10) rF))))) ?_
 refine EL (HK (CG (cR (ji R) (CJ S 1 h1) aK) (CH (CF (HJ S E hx hc hC hmi hve 0 11)))) (xO (xN (FF gK))) yR) ?_
 exact xO (xN (FF (bu (cx .leaf (aF gK (aF gK (aF gK (aF gK (aF gK (aF gK (aF gK (aF gK (aF gK (aJ gK))))))))))) (CI S 1 h2))))
end TQ
namespace T
open PySem PySem.Spec L2
open PyProof.Rows hiding St
def Ka (X:Cx):Prop:=X.stack=X.env::X.outer/\X.env.frame=some X.env.locals
section
variable {p:Fg->(Str->Option Value)->Prop} {X Y:Cx} {P:Program} {w:World} {K:Fg} {mg:Str->Option Value} {base:Heap} {j k n:Nat} {y:Str} {s:Stmt} {ps:List Str} {g:FS} {den:List KY->Res} {cl ds:List Str} {m:Str->Res}
abbrev Jy (p:Fg->(Str->Option Value)->Prop) (P:Program) (w:World) (K:Fg) (mg:Str->Option Value) (base:Heap) (k:Nat) (N gl:List Str) (vs cs gs:List Nat) (s:Stmt) (g:FS):Prop:=∀X:Cx,Cp X N gl vs cs vs (nC vs cs) gs->In p X P w K mg base k->Ka X->PassesOwn (model X.prog X.w) X.A X.env X.xe->TQ.Q (PSs X (pj s) (tS X.K W0 g))
theorem Dx {f:Addr} {fd:FuncData} (F:Fun K y y s f fd) (e:p K mg) (N gl:List Str) (vs cs gs:List Nat) (h:fB N gl ps vs cs gs s=true) (hb:Jy p P w K mg base k N gl vs cs gs s g):dO P w K mg base kR (k+1) f fd ps (pG K ps.length (aH N.length g)):=by
 obtain ⟨h1,h2,h3⟩:=o5 h;exact ur F h3 fun cdv A outer s H E hr=>(hb _ (Cp.fn h1 h2) ⟨rfl,rfl,rfl,rfl,rfl,hr,e⟩ ⟨rfl,rfl⟩ PassesOwn.never).p
theorem Ko (F:Ft K mg y s) (e:p K mg) (ps:List Str) (b:qP y s ps) (rs gl:List Str) (vs cs gs:List Nat) (hb:Jy p P w K mg base k (ps++rs) gl vs cs gs s g) (h:fB (ps++rs) gl ps vs cs gs s=true:=by kernel_rfl):DefOk P w K mg base (k+1) y ps.length (aH (ps++rs).length g):=by
 obtain ⟨f,fd,hm,F⟩:=F;exact ⟨f,fd,ps,Dx F e _ gl vs cs gs h hb,hm,F.kp,En F b⟩
theorem IM {fa:Addr} (F:Ft K mg y s) (e:p K mg) (q:Str) (b:qP y s [q]) (hfa:mg y=some (.ref fa)) (rs gl:List Str) (vs cs gs:List Nat) (hb:∀base:Heap,(K.In base/\base.Ns mainGlobals mg)->Jy p P w K mg base k ([q]++rs) gl vs cs gs s g) (h:fB ([q]++rs) gl [q] vs cs gs s=true:=by kernel_rfl) :
  ∃fd:FuncData,(∀(s:Shared) (v:Value),BindsTo s fd ⟨[v],[]⟩ [(q,v)])/\∀base:Heap,K.In base->base.Ns mainGlobals mg->dO P w K mg base kR (k+1) fa fd [q] (pG K 1 (aH ([q]++rs).length g)):=by
 obtain ⟨f,fd,hm,F⟩:=F;have e':=hfa.symm.trans hm
 cases e'
 refine ⟨fd,fun s v=>?_,fun base kb nb=>Dx F e _ gl vs cs gs h (hb base ⟨kb,nb⟩)⟩
 obtain ⟨oc,od,kV,doc,pm,an,cdv,ct,osl,rfl,lk,hcd⟩:=F.ex;exact .of_eq (b [v] rfl kV doc pm an cdv ct)
theorem In.eE (I:In p X P w K mg base k) (h:Cs P w K mg base j y cl m):Cs X.prog X.w X.K X.mg X.base j y cl m:=by
 obtain ⟨rfl,rfl,rfl,rfl,rfl,r,_⟩:=I;exact h
theorem In.xt (I:In p X P w K mg base k) (h:ExT K mg cl ds):ExT X.K X.mg cl ds:=by rw [I.e3,I.e4];exact h
theorem InH.xt (I:InH p X P w K mg base k) (h:ExT K mg cl ds):ExT X.K X.mg cl ds:=by rw [I.e3,I.e4];exact h
theorem InH.gm {o:Option Value} (I:InH p X P w K mg base k) (h:mg y=o):X.mg y=o:=by rw [I.e4];exact h
end
end T
namespace TQ
open PySem PySem.Spec L2 T
open PyProof.Rows hiding St
theorem CN {X:Cx} {N gl:List Str} {vs cs ls lo gs:List Nat} (S:Cp X N gl vs cs ls lo gs) (st:Ka X) {body:List Stmt} {g:FS} {k:Str->FS} {cl ds:List Str} {en:Str} (ie j:Nat) {np hpos pos:Pos} {suite:Stmt} (E:ExT X.K X.mg cl ds)
  (hb:∀(pins:List (Addr×Obj)) (W:Addr->L2.St->Hp->Prop),Q (PSs (eL X pins W) body (tS X.K (wT X.mg W) g)))
  (hh:∀(pins:List (Addr×Obj)) (a C:Addr) (oe:Obj) (c:Str),c∈cl->X.mg c=some (.ref C)->oe.cls=.ref C->(∃vs,oe.data=.fields vs)->PSs (u3 X pins a oe) [suite] (HX (kX ie a) (tS X.K W0 (k c))))
  (hie:N[ie]?=some en:=by exact rfl) (hel:lo.contains ie=true:=by exact rfl) (hj:gl[j]?=some ("HallError":Str):=by exact rfl) (hg:gs.contains j=true:=by exact rfl) :
  Q (PS X (.Try body [.ExceptHandler (some (.Name "HallError" np)) (some en) [suite] hpos] [] [] pos) (tS X.K W0 (lE cl ie g k))):=by
 obtain ⟨D,h1,h2,h3⟩:=E.h;refine ⟨Ad S st.1 st.2 hie hel hj hg h1 h2 (fun c hc C hC=>?_) (fun pins W=>(hb pins W).p) hh⟩
 obtain ⟨C',k'⟩:=h3 c hc;have:=k'.gm
 rw [hC] at this
 cases this;exact k'.sub
end TQ
namespace KQ.M
open PySem PySem.Spec L2 T
open PyProof.Rows hiding St
open KC
noncomputable def bH:Str->Res:=fun c=>Bs 2 (DV c)
section
open PySem.SeqAt
theorem vh:bH "NoPlan"=.ok ⟨.leaf,.str "plan"⟩:=by with_unfolding_all rfl
theorem vg:bH "NoRoom"=.ok ⟨.leaf,.str "room"⟩:=by with_unfolding_all rfl
theorem rG:bH "NoWorld"=.ok ⟨.leaf,.str "world"⟩:=by with_unfolding_all rfl
theorem pq:bH "NoPlayer"=.ok ⟨.leaf,.str "player"⟩:=by with_unfolding_all rfl
theorem zb {cl:List Str} {ie:Nat} {g:FS} {k:Str->FS} {Γ Γ':Ev} (h:g Γ=.nx Γ'):lE cl ie g k Γ=.nx Γ':=by unfold lE;rw [h]
theorem zc {cl:List Str} {ie:Nat} {g:FS} {k:Str->FS} {Γ Γ1 Γ':Ev} {c:Str} (h:g Γ=.er c Γ1) (hc:cl.contains c=true) (h1:yk Γ1[ie]?=true) (hk:k c Γ1=.nx Γ') (h2:yk Γ'[ie]?=true):lE cl ie g k Γ=.nx Γ':=by
 unfold lE;rw [h];unfold vk;simp only [hc,h1,Bool.and_self,if_true,hk,h2]
theorem v_res {r:Res} {p:PV} {Γ:Ev} (h:r=.ok p):qm r Γ=.ok p Γ:=by rw [h];rfl
theorem e7 {Γ Γ1:Ev} {fl:FL} {ps:List PV} {n:Nat} {p:PV} {den:List D->Res} (hl:fl Γ=.ok ps Γ1) (hd:den (ps.map (·.d))=.ok p) (hn:ps.length=n) (hc:ps.all (T.coer .leaf)=true):dX n den fl Γ=.ok p Γ1:=by
 unfold dX;rw [hl];simp only [Out.bind,hn,hd,hc,if_true]
theorem qT {Γ Γ1:Ev} {fl:FL} {ps:List PV} {n:Nat} {c:Str} {den:List D->Res} (hl:fl Γ=.ok ps Γ1) (hd:den (ps.map (·.d))=.er c) (hn:ps.length=n):dX n den fl Γ=.er c Γ1:=by
 unfold dX;rw [hl];simp only [Out.bind,hn,hd,if_true]
theorem qY {fa:F1} {Γ Γ':Ev} {c:Str} (h:fa Γ=.er c Γ'):bg fa Γ=.er c Γ':=by unfold bg g9;rw [h]
theorem u7 {g1 g2:FS} {Γ Γ':Ev} {c:Str} (h:g1 Γ=.er c Γ'):ay g1 g2 Γ=.er c Γ':=by unfold ay;rw [h]
theorem de {n:Nat} {g:FS} {ds:List D} {c:Str} {Γ':Ev} (h:g (aV n ds)=.er c Γ'):aH n g ds=.er c:=by unfold aH;rw [h]
end
open PySem.SeqAt
noncomputable def uZ (n:Nat) (x:Int):Bool:=decide (0<=x)&&decide (x<(n:Int))
theorem zw {l:List D} {k:Nat}:T.cutD l none (some (k:Int))=l.take k:=by
 unfold T.cutD;rw [HT.sIx_none,HT.sIx_nat,List.drop_zero,Nat.sub_zero];by_cases h:k<=l.length
 ·rw [Nat.min_eq_left h]
 ·rw [Nat.min_eq_right (by omega),take_of_length_le (KW _),take_of_length_le (by omega)]
theorem Gu {l:List D} {k:Nat}:T.cutD l (some (k:Int)) none=l.drop k:=by
 unfold T.cutD;rw [HT.sIx_none,HT.sIx_nat];by_cases h:k<=l.length
 ·rw [Nat.min_eq_left h,take_of_length_le (by simp)]
 ·rw [Nat.min_eq_right (by omega),drop_of_length_le (by simp),drop_of_length_le (by omega)]
  simp
theorem chain_ev {w:Wd} (ok:w.Ok) {Γ:Ev} {i:Nat} {x:Int} (h0:Γ[0]?=some (KZ w.enc)) (hi:Γ[i]?=some (KZ (.int x))):mX yt eN (eK (.int 0)) (af i) (bG bt (ae (ak (af 0) (eK (.int 0))) ah)) Γ=.ok ⟨.leaf,.bool (uZ w.n x)⟩ Γ:=
 G0 (b:=decide ((0:Int)<=x)) (b':=decide (x<(w.n:Int))) (g:=yt) (g':=eN) (fa:=eK (.int 0)) (fb:=af i) aM (aw hi) rfl rfl (xG ok (i:=0) h0) rfl
noncomputable def iL:FS:=(b2 (dy (aR br (av 3 cL (ae (ak (af 0) (eK (.int 0))) (ae (ak (af 0) (eK (.int 1))) (ae (ak (af 0) (eK (.int 2))) ah)))))) (xB "NoWorld") aS)
noncomputable def aY:List KY->Res:=aH 1 iL
noncomputable def g4:FS:=(ay (ir [4,5,6] (af 0))
  (ay (aC false 2 (aD dv (av 3 aq (ae (af 1) (ae (eK (.int 1)) (ae (eK (.int 24)) ah)))) (bG bt (ae (af 4) ah))))
  (ay (aC false 3 (aD aN (eK (.int 1)) (av 3 aq (ae (af 1) (ae (eK (.int 2)) (ae (aD jw (eK (.int 10)) (eK (.int 9))) ah))))))
  (ay (b2 (aR aA (aD bT (av 3 aq (ae (af 1) (ae (eK (.int 0)) (ae (eK (.int 6)) ah)))) (eK (.int 0)))) (ba (cb (ae (az .leaf ah) (ae (az .leaf ah) (ae (az .leaf ah) ah))))) aS)
  (ay (b2 (aR aA (aD bT (av 3 aq (ae (af 1) (ae (eK (.int 0)) (ae (eK (.int 6)) ah)))) (eK (.int 1)))) (ay (aC false 7 (bF (ak (af 6) (af 2)) (az .leaf (ae (aD aN (aD gSub (bG bt (ae (af 4) ah)) (eK (.int 1))) (af 3)) ah))))
  (ba (cb (ae (af 4) (ae (af 5) (ae (bF (bF (dk (fun k=>(none,some k)) (af 6) (af 2)) (az .leaf (ae (af 7) ah))) (dk (fun k=>(some k,none)) (af 6) (aD aN (af 2) (eK (.int 1))))) ah)))))) aS)
  (ay (b2 (aR aA (aD bT (av 3 aq (ae (af 1) (ae (eK (.int 0)) (ae (eK (.int 6)) ah)))) (eK (.int 2)))) (ba (cb (ae (af 4) (ae (af 5) (ae (bF (bF (dk (fun k=>(none,some k)) (af 6) (af 2)) (az .leaf (ae (az .leaf ah) ah))) (dk (fun k=>(some k,none)) (af 6) (aD aN (af 2) (eK (.int 1))))) ah))))) aS)
  (ay (b2 (aR aA (aD bT (av 3 aq (ae (af 1) (ae (eK (.int 0)) (ae (eK (.int 6)) ah)))) (eK (.int 3)))) (ba (cb (ae (bF (bF (dk (fun k=>(none,some k)) (af 4) (af 2)) (az .leaf (ae (ak (az .leaf (ae (eU cU (eK (.int 1))) (ae (eK (.int 2)) ah))) (aD dv (af 3) (eK (.int 2)))) ah))) (dk (fun k=>(some k,none)) (af 4) (aD aN (af 2) (eK (.int 1))))) (ae (af 5) (ae (af 6) ah))))) aS)
  (ay (b2 (aR aA (aD bT (av 3 aq (ae (af 1) (ae (eK (.int 0)) (ae (eK (.int 6)) ah)))) (eK (.int 4)))) (ay (aC false 8 (ak (az .leaf (ae (az .leaf (ae (eK (.str "b")) (ae (eK (.str "a")) ah))) (ae (az .leaf (ae (eK (.str "a")) (ae (eK (.str "a")) ah))) (ae (az .leaf (ae (eK (.str "g")) ah)) (ae (az .leaf (ae (eK (.str "ab")) ah)) (ae (az .leaf (ae (eK (.str "")) ah)) ah)))))) (aD dv (af 3) (eK (.int 5)))))
  (ba (cb (ae (af 4) (ae (bF (bF (dk (fun k=>(none,some k)) (af 5) (af 2)) (az .leaf (ae (af 8) ah))) (dk (fun k=>(some k,none)) (af 5) (aD aN (af 2) (eK (.int 1))))) (ae (af 6) ah)))))) aS)
  (ba (cb (ae (af 4) (ae (af 5) (ae (bF (az .leaf (ae (az .leaf (ae (eU cU (af 3)) ah)) ah)) (dk (fun k=>(some k,none)) (af 6) (eK (.int 1)))) ah)))))))))))))
noncomputable def ck:List KY->Res:=aH 9 g4
open PySem.SeqAt
theorem G9 {c k b:Int} (hk:0<=k) (hk2:k<=1000) (hb:1<=b) (hb2:b<=1000000000):∃r,aq [.int c,.int k,.int b]=.ok ⟨.leaf,.int r⟩/\0<=r/\r<b:=by
 have t:aR aA (aD mv (af 0) (aD jw (eK (.int 10)) (eK (.int 18)))) [KZ (.int c),KZ (.int k),KZ (.int b),none,none,none]=.ok (decide (10 ^ (18:Int).toNat<=c)) [KZ (.int c),KZ (.int k),KZ (.int b),none,none,none]:=
  eD (aG (aw rfl) (aG aM aM (lR (by omega) (by omega))) o4)
 cases hge:decide (10 ^ (18:Int).toNat<=c) with
 | true=>
  rw [hge] at t;obtain ⟨Γ',e,l,x,hΓ⟩:=Fc (P:=fun _ Γ=>∃l x,Γ=[KZ (.int c),KZ (.int k),KZ (.int b),none,KZ (.int l),x]) (i:=5) (body:=aC false 4 (aD qj (af 4) (af 2))) (cz 0 k.toNat) 0
   [KZ (.int c),KZ (.int k),KZ (.int b),none,KZ (.int c),none] ⟨c,none,rfl⟩ (fun m d Γ hd _ _ ⟨l,x,hΓ⟩=>by
    subst hΓ;refine ⟨by simp,_,bQ (aG (aw rfl) (aw rfl) (o8 (by omega) (by omega))) rfl (by simp),_,_,rfl⟩)
  subst hΓ;exact ⟨_,aT (rj (aO t (fun _=>ao (bQ (aw rfl) rfl (by simp)) (ao (h9 (pv (k:=k) (ax (aw rfl) ai) rfl (by omega) (by omega)) e) (bf (aG (aw rfl) (aw rfl) (cT (by omega))) rfl))) nofun)),Int.emod_nonneg _ (by omega),Int.emod_lt_of_pos _ (by omega)⟩
 | false=>
  rw [hge] at t;have m1:∀x:Int,0<=x % 2147483647/\x % 2147483647<2147483647:=fun x=>⟨Int.emod_nonneg _ (by omega),Int.emod_lt_of_pos _ (by omega)⟩
  refine ⟨_,aT (ao (aO t nofun (fun _=>rfl)) (ao (bQ (aG (aG (aG (aG (aG (aw rfl) aM (cT (by omega))) (aG aM (aw rfl) (jU (by omega) (by omega))) KC.add_int') aM KC.add_int') aM (oS (by omega) (by omega))) aM (cT (by omega))) rfl (by simp [aV]))
   (ao (bQ (aG (aG (aG (aG (aw rfl) (aw rfl) (jU ?_ ?_)) (aG aM (aw rfl) (jU (by omega) (by omega))) KC.add_int') aM KC.add_int') aM (cT (by omega))) rfl (by simp [aV]))
   (bf (aG (aG (aG (aG (aw rfl) aM (oS (by omega) (by omega))) aM (cT (by omega))) aM (o8 (by omega) (by omega))) (aw rfl) (cT (by omega))) rfl)))),Int.emod_nonneg _ (by omega),Int.emod_lt_of_pos _ (by omega)⟩
  ·exact Int.lt_of_lt_of_le (by omega) (m1 _).1
  ·exact Int.lt_trans (m1 _).2 (by omega)
theorem uI {b:Nat} {os ms ss:List D} (h:Wk b os ms ss) (hb:b<=100):dy (aR br (av 3 cL (ae (ak (af 0) (eK (.int 0))) (ae (ak (af 0) (eK (.int 1))) (ae (ak (af 0) (eK (.int 2))) ah))))) (aV 1 [bK os ms ss])=.ok (!(isW os ms ss)) (aV 1 [bK os ms ss]):=
 gh (dN (s:=.leaf) (bY (ax (gJ (j:=0) (aw rfl) aM rfl rfl rfl) (ax (gJ (j:=1) (aw rfl) aM rfl rfl rfl) (ax (gJ (j:=2) (aw rfl) aM rfl rfl rfl) ai))) (fZ h hb) rfl rfl))
theorem rg {w:Wd} (ok:w.Ok):aY [w.enc]=.ok ⟨.leaf,.none⟩:=by
 have t:=uI (ok.g.wk (b:=24) ok.h24) (by omega)
 rw [ok.g.isW ok.h1 ok.h24] at t;exact fu (Γ:=aV 1 [w.enc]) (aO t nofun fun _=>rfl)
theorem w4 {b:Nat} {os ms ss:List D} (h:Wk b os ms ss) (hb:b<=100) (hw:isW os ms ss=false):aY [bK os ms ss]=.er "NoWorld":=by
 have t:=uI h hb
 rw [hw] at t;exact de (Γ':=aV 1 [bK os ms ss]) (aO t (fun _=>rfl) nofun)
theorem DB {os ms ss:List D} {a:D} (h:a∈os) (ha:wH a=false):isW os ms ss=false:=by
 have:os.all wH=false:=List.all_eq_false.mpr ⟨a,h,by rw [ha];simp⟩
 unfold isW;rw [this];simp
theorem DC {os ms ss:List D} {a:D} (h:a∈ms) (ha:wA a=false):isW os ms ss=false:=by
 have:ms.all wA=false:=List.all_eq_false.mpr ⟨a,h,by rw [ha];simp⟩
 unfold isW;rw [this];simp
theorem t7 {os ms ss:List D} {a:D} (h:a∈ss) (ha:x5 os.length a=false):isW os ms ss=false:=by
 have:ss.all (x5 os.length)=false:=List.all_eq_false.mpr ⟨a,h,by rw [ha];simp⟩
 unfold isW;rw [this];simp
theorem oi {n:Int} {xs:List D} {i:Int} (h:PyData.int i∈xs) (hi:i<0\/n<=i):x5 n (.list xs)=false:=by
 have:xs.all (inR n)=false:=List.all_eq_false.mpr ⟨_,h,by
  show ¬(decide (0<=i)&&decide (i<n))=true
  rcases hi with hi | hi
  ·rw [decide_eq_false (by omega:¬0<=i)];simp
  ·rw [decide_eq_false (by omega:¬i<n)];simp⟩
 unfold x5;simp only [this]
 simp
theorem EI {α:Type} {l:List α} {a b:α} {k:Nat} (h:b∈l.take k++[a]++l.drop (k+1)):b∈l\/b=a:=by
 rcases KI h with h | h
 ·rcases KI h with h | h
  ·exact .inl (List.mem_of_mem_take h)
  ·exact .inr (by simpa using h)
 ·exact .inl (List.mem_of_mem_drop h)
theorem EN {α:Type} {l:List α} {a:α} {k:Nat}:a∈l.take k++[a]++l.drop (k+1):=by simp
theorem EM {α:Type} {l:List α} {a:α} {k:Nat} (h:k<l.length):(l.take k++[a]++l.drop (k+1)).length=l.length:=by simp;omega
noncomputable abbrev GN (os ms ss:List D) (c:Int) (x2 x3 x7 x8:Option PV):Ev:=[KZ (bK os ms ss),KZ (.int c),x2,x3,KZ (.list os),KZ (.list ms),KZ (.list ss),x7,x8]
theorem nX {Γ:Ev} {i j:Nat} {fa:F1} {l:List D} {k:Nat} {s:Sh} {d:D} (hi:Γ[i]?=some (KZ (.list l))) (hj:Γ[j]?=some (KZ (.int (k:Int)))) (ha:az .leaf (ae fa ah) Γ=.ok ⟨.lst .leaf,.list [d]⟩ Γ) (hl:l.length<=1000) :
  bF (bF (dk (fun k=>(none,some k)) (af i) (af j)) (az .leaf (ae fa ah))) (dk (fun k=>(some k,none)) (af i) (aD aN (af j) (eK (.int 1)))) Γ=.ok ⟨.lst .leaf,.list (l.take k++[d]++l.drop (k+1))⟩ Γ:=by
 have q1:=ia (g:=fun k=>(none,some k)) (Γ:=Γ) (fa:=af i) (fb:=af j) (k:=(k:Int)) (aw hi) (aw hj) rfl
 have q2:=ia (g:=fun k=>(some k,none)) (Γ:=Γ) (fa:=af i) (fb:=aD aN (af j) (eK (.int 1))) (k:=((k+1:Nat):Int)) (aw hi) (aG (g:=aN) (aw hj) (aM (d:=.int 1)) (d:=.int ((k+1:Nat):Int)) (by rw [KC.add_int'];rfl)) rfl
 simp only at q1 q2
 rw [zw] at q1;rw [Gu] at q2;exact cQ (cQ q1 ha rfl rfl (by simp;omega)) q2 rfl rfl (by simp;omega)
theorem kJ {n:Nat} {os ms ss:List D} (g:Gw (n:Int) n os ms ss) (h1:1<=n) (h24:n<=24) {c:Int}:∃sh os' ms' ss',ck [bK os ms ss,.int c]=.ok ⟨sh,bK os' ms' ss'⟩/\coer .leaf ⟨sh,bK os' ms' ss'⟩=true/\Wk 24 os' ms' ss'/\isW os' ms' ss'=false:=by
 have K:=g.wk (b:=24) h24
 have d1:=xE (c:=c) (k:=1) (b:=24) (by omega) (by omega) (by omega) (by omega)
 have i1:=Cm (c:=c) (k:=1) (b:=24) (by omega) (by omega) (by omega) (by omega)
 obtain ⟨z,d2,z0,z1⟩:=G9 (c:=c) (k:=2) (b:=1000000000) (by omega) (by omega) (by omega) (by omega)
 obtain ⟨j,hj,d0⟩:=qv (c:=c) (k:=0) (b:=6) (by omega) (by omega) (by omega) (by omega)
 have m1:dv (.int (dq c 1 24)) (.int ((os.length:Nat):Int))=some (.int (((dq c 1 24).toNat % n:Nat):Int)):=by
  rw [g.lo,cT (by omega),Int.natCast_emod,Int.toNat_of_nonneg i1.1]
 have ha:(dq c 1 24).toNat % n<n:=Nat.mod_lt _ (by omega)
 generalize (dq c 1 24).toNat % n=a at m1 ha
 have s2:aC false 2 (aD dv (av 3 aq (ae (af 1) (ae (eK (.int 1)) (ae (eK (.int 24)) ah)))) (bG bt (ae (af 4) ah))) (GN os ms ss c none none none none)=.nx (GN os ms ss c (KZ (.int (a:Int))) none none none):=
  bQ (aG (bY (ax (aw rfl) (ax aM (ax aM ai))) d1 rfl rfl) (cE (g:=bt) (d:=.int ((os.length:Nat):Int)) (ax (aw rfl) ai) (by simp)) m1) rfl (by simp)
 have s3:aC false 3 (aD aN (eK (.int 1)) (av 3 aq (ae (af 1) (ae (eK (.int 2)) (ae (aD jw (eK (.int 10)) (eK (.int 9))) ah))))) (GN os ms ss c (KZ (.int (a:Int))) none none none)=.nx (GN os ms ss c (KZ (.int (a:Int))) (KZ (.int (1+z))) none none):=
  bQ (aG aM (bY (ax (aw rfl) (ax aM (ax (aG aM aM (lR (b:=9) (by omega) (by omega))) ai))) (by exact d2) rfl rfl) KC.add_int') rfl (by simp)
 have T:∀k:Int,aR aA (aD bT (av 3 aq (ae (af 1) (ae (eK (.int 0)) (ae (eK (.int 6)) ah)))) (eK (.int k))) (GN os ms ss c (KZ (.int (a:Int))) (KZ (.int (1+z))) none none)=.ok ((j:Int)==k) (GN os ms ss c (KZ (.int (a:Int))) (KZ (.int (1+z))) none none):=fun k=>
  eD (s:=.leaf) (aG (bY (ax (aw rfl) (ax aM (ax aM ai))) d0 rfl rfl) aM KC.eq_int)
 have un:ir [4,5,6] (af 0) (aV 9 [bK os ms ss,.int c])=.nx (GN os ms ss c none none none none):=za (ps:=[⟨.leaf,.list os⟩,⟨.leaf,.list ms⟩,⟨.leaf,.list ss⟩]) (aw rfl) rfl rfl rfl
 have ho:=g.lo
 have hm:=g.lm
 have hs:=g.ls
 have F:∀{k:Int} {g1:FS},¬(j:Int)=k->b2 (aR aA (aD bT (av 3 aq (ae (af 1) (ae (eK (.int 0)) (ae (eK (.int 6)) ah)))) (eK (.int k)))) g1 aS (GN os ms ss c (KZ (.int (a:Int))) (KZ (.int (1+z))) none none)=.nx (GN os ms ss c (KZ (.int (a:Int))) (KZ (.int (1+z))) none none):=fun {k} {g1} hk=>by
  have t:=T k
  rw [show ((j:Int)==k)=false by simpa using hk] at t
  exact aO t nofun fun _=>rfl
 have Y:∀{k:Int} {g1 g2:FS} {p:PV},(j:Int)=k->g1 (GN os ms ss c (KZ (.int (a:Int))) (KZ (.int (1+z))) none none)=.rt p->ay (b2 (aR aA (aD bT (av 3 aq (ae (af 1) (ae (eK (.int 0)) (ae (eK (.int 6)) ah)))) (eK (.int k)))) g1 aS) g2 (GN os ms ss c (KZ (.int (a:Int))) (KZ (.int (1+z))) none none)=.rt p:=fun {k} {g1} {g2} {p} hk hg=>by
  have t:=T k
  rw [show ((j:Int)==k)=true by simpa using hk] at t
  exact rj (aO t (fun _=>hg) nofun)
 have js:j=0\/j=1\/j=2\/j=3\/j=4\/j=5:=by omega
 rcases js with e | e | e | e | e | e
 ·refine ⟨_,[],[],[],aT (ao un (ao s2 (ao s3 (Y (by omega) (bf (cG (ax (cN (s:=.leaf) ai rfl rfl rfl) (ax (cN (s:=.leaf) ai rfl rfl rfl) (ax (cN (s:=.leaf) ai rfl rfl rfl) ai))) rfl rfl) rfl))))),rfl,⟨fun a h=>by simp at h,fun a h=>by simp at h,fun a h=>by simp at h,by simp,by simp,by simp⟩,by decide +kernel⟩
 ·obtain ⟨ts,er,t30,tn,tin,tpw⟩:=g.s ss[a] (getElem_mem (by omega))
  have tl:ts.length<=24:=by
   have:=BJ (p:=ts.map Int.toNat) (n:=n) (by
    rw [List.Nodup,List.pairwise_map];exact tpw.imp_of_mem fun {x y} hx hy hxy=>by
     have:=tin x hx
     have:=tin y hy
     omega) (fun x hx=>by
    obtain ⟨y,hy,rfl⟩:=List.mem_map.mp hx;have:=tin y hy
    omega)
   rw [length_map] at this;omega
  have ga:ss[a]?=some (.list (ts.map .int)):=by rw [KL (by omega),er]
  have rw7:aC false 7 (bF (ak (af 6) (af 2)) (az .leaf (ae (aD aN (aD gSub (bG bt (ae (af 4) ah)) (eK (.int 1))) (af 3)) ah))) (GN os ms ss c (KZ (.int (a:Int))) (KZ (.int (1+z))) none none)=.nx (GN os ms ss c (KZ (.int (a:Int))) (KZ (.int (1+z))) (KZ (.list (ts.map .int++[.int ((os.length:Int)-1+(1+z))]))) none):=
   bQ (cQ (dY (j:=a) (aw rfl) (aw rfl) (qQ (by omega)) ga rfl) (cN (s:=.leaf) (ax (aG (aG (cE (g:=bt) (d:=.int ((os.length:Nat):Int)) (ax (aw rfl) ai) (by simp)) aM KC.sub_int') (aw rfl) KC.add_int') ai) rfl rfl rfl) rfl rfl (by simp;omega)) rfl (by simp)
  refine ⟨_,os,ms,ss.take a++[.list (ts.map .int++[.int ((os.length:Int)-1+(1+z))])]++ss.drop (a+1),aT (ao un (ao s2 (ao s3 (ao (F (by omega)) (Y (by omega) (ao rw7 (bf (cG (ax (aw rfl) (ax (aw rfl) (ax (nX (k:=a) (s:=.leaf) rfl rfl (cN (s:=.leaf) (ax (aw rfl) ai) rfl rfl rfl) (by omega)) ai))) rfl rfl) rfl))))))),rfl,⟨K.o,K.m,fun r hr=>?_,by omega,by omega,by rw [EM (by omega)];omega⟩,t7 EN (oi (i:=(os.length:Int)-1+(1+z)) (by simp) (.inr (by omega)))⟩
  rcases EI hr with h | h
  ·exact K.s r h
  ·exact ⟨_,h,rowI_map.snoc,by simp;omega⟩
 ·refine ⟨_,os,ms,ss.take a++[.list []]++ss.drop (a+1),aT (ao un (ao s2 (ao s3 (ao (F (by omega)) (ao (F (by omega)) (Y (by omega) (bf (cG (ax (aw rfl) (ax (aw rfl) (ax (nX (k:=a) (s:=.leaf) rfl rfl (cN (s:=.leaf) (ax (cN (s:=.leaf) ai rfl rfl rfl) ai) rfl rfl rfl) (by omega)) ai))) rfl rfl) rfl))))))),rfl,⟨K.o,K.m,fun r hr=>?_,by omega,by omega,by rw [EM (by omega)];omega⟩,t7 EN rfl⟩
  rcases EI hr with h | h
  ·exact K.s r h
  ·exact ⟨_,h,fun a h=>by simp at h,by simp⟩
 ·have od:∃o:Int,(o=-1\/o=2)/\ak (az .leaf (ae (eU cU (eK (.int 1))) (ae (eK (.int 2)) ah))) (aD dv (af 3) (eK (.int 2))) (GN os ms ss c (KZ (.int (a:Int))) (KZ (.int (1+z))) none none)=.ok ⟨.leaf,.int o⟩ (GN os ms ss c (KZ (.int (a:Int))) (KZ (.int (1+z))) none none):=by
   have l:=cN (s:=.leaf) (Γ:=GN os ms ss c (KZ (.int (a:Int))) (KZ (.int (1+z))) none none) (ax (xT (g:=cU) (aM (d:=.int 1)) (d:=.int (-1)) rfl) (ax (aM (d:=.int 2)) ai)) rfl rfl rfl
   have md:=aG (g:=dv) (Γ:=GN os ms ss c (KZ (.int (a:Int))) (KZ (.int (1+z))) none none) (aw (i:=3) rfl) (aM (d:=.int 2)) (cT (by omega))
   rcases (by omega:(1+z) % 2=0\/(1+z) % 2=1) with q | q
   ·rw [q] at md;exact ⟨-1,.inl rfl,dY (j:=0) l md rfl rfl rfl⟩
   ·rw [q] at md;exact ⟨2,.inr rfl,dY (j:=1) l md rfl rfl rfl⟩
  obtain ⟨o,oo,eo⟩:=od;refine ⟨_,os.take a++[.int o]++os.drop (a+1),ms,ss,aT (ao un (ao s2 (ao s3 (ao (F (by omega)) (ao (F (by omega)) (ao (F (by omega)) (Y (by omega) (bf (cG (ax (nX (k:=a) (s:=.leaf) rfl rfl (cN (s:=.leaf) (ax eo ai) rfl rfl rfl) (by omega)) (ax (aw rfl) (ax (aw rfl) ai))) rfl rfl) rfl)))))))),rfl,⟨fun r hr=>?_,K.m,K.s,by rw [EM (by omega)];omega,by omega,by omega⟩,DB EN (by rcases oo with rfl | rfl<;>decide +kernel)⟩
  rcases EI hr with h | h
  ·exact K.o r h
  ·exact ⟨_,h⟩
 ·have od:∃o:List D,jG o/\o.length<=30/\wA (.list o)=false/\aC false 8 (ak (az .leaf (ae (az .leaf (ae (eK (.str "b")) (ae (eK (.str "a")) ah))) (ae (az .leaf (ae (eK (.str "a")) (ae (eK (.str "a")) ah))) (ae (az .leaf (ae (eK (.str "g")) ah)) (ae (az .leaf (ae (eK (.str "ab")) ah)) (ae (az .leaf (ae (eK (.str "")) ah)) ah)))))) (aD dv (af 3) (eK (.int 5)))) (GN os ms ss c (KZ (.int (a:Int))) (KZ (.int (1+z))) none none)=.nx (GN os ms ss c (KZ (.int (a:Int))) (KZ (.int (1+z))) none (KZ (.list o))):=by
   have l:=cN (s:=.leaf) (Γ:=GN os ms ss c (KZ (.int (a:Int))) (KZ (.int (1+z))) none none) (ax (cN (s:=.leaf) (ax (aM (d:=.str "b")) (ax (aM (d:=.str "a")) ai)) rfl rfl rfl) (ax (cN (s:=.leaf) (ax (aM (d:=.str "a")) (ax (aM (d:=.str "a")) ai)) rfl rfl rfl) (ax (cN (s:=.leaf) (ax (aM (d:=.str "g")) ai) rfl rfl rfl) (ax (cN (s:=.leaf) (ax (aM (d:=.str "ab")) ai) rfl rfl rfl) (ax (cN (s:=.leaf) (ax (aM (d:=.str "")) ai) rfl rfl rfl) ai))))) rfl rfl rfl
   have md:=aG (g:=dv) (Γ:=GN os ms ss c (KZ (.int (a:Int))) (KZ (.int (1+z))) none none) (aw (i:=3) rfl) (aM (d:=.int 5)) (cT (by omega))
   have so:∀{x:Str},PyData.strOk x=true->jG [.str x]:=fun {x} hx a h=>⟨x,by simpa using h,hx⟩
   have s2:∀{x y:Str},PyData.strOk x=true->PyData.strOk y=true->jG [.str x,.str y]:=fun {x y} hx hy a h=>by
    rcases KJ h with h | h
    ·exact ⟨x,h,hx⟩
    ·exact ⟨y,by simpa using h,hy⟩
   rcases (by omega:(1+z) % 5=0\/(1+z) % 5=1\/(1+z) % 5=2\/(1+z) % 5=3\/(1+z) % 5=4) with q | q | q | q | q
   ·rw [q] at md;exact ⟨_,s2 (by decide +kernel) (by decide +kernel),by simp,by decide +kernel,bQ (dY (j:=0) l md rfl rfl rfl) rfl (by simp)⟩
   ·rw [q] at md;exact ⟨_,s2 (by decide +kernel) (by decide +kernel),by simp,by decide +kernel,bQ (dY (j:=1) l md rfl rfl rfl) rfl (by simp)⟩
   ·rw [q] at md;exact ⟨_,so (by decide +kernel),by simp,by decide +kernel,bQ (dY (j:=2) l md rfl rfl rfl) rfl (by simp)⟩
   ·rw [q] at md;exact ⟨_,so (by decide +kernel),by simp,by decide +kernel,bQ (dY (j:=3) l md rfl rfl rfl) rfl (by simp)⟩
   ·rw [q] at md;exact ⟨_,so (by decide +kernel),by simp,by decide +kernel,bQ (dY (j:=4) l md rfl rfl rfl) rfl (by simp)⟩
  obtain ⟨o,o1,o2,o3,eo⟩:=od;refine ⟨_,os,ms.take a++[.list o]++ms.drop (a+1),ss,aT (ao un (ao s2 (ao s3 (ao (F (by omega)) (ao (F (by omega)) (ao (F (by omega)) (ao (F (by omega)) (Y (by omega) (ao eo (bf (cG (ax (aw rfl) (ax (nX (k:=a) (s:=.leaf) rfl rfl (cN (s:=.leaf) (ax (aw rfl) ai) rfl rfl rfl) (by omega)) (ax (aw rfl) ai))) rfl rfl) rfl)))))))))),rfl,⟨K.o,fun r hr=>?_,K.s,by omega,by rw [EM (by omega)];omega,by omega⟩,DC EN o3⟩
  rcases EI hr with h | h
  ·exact K.m r h
  ·exact ⟨_,h,o1,o2⟩
 ·have q2:=ia (g:=fun k=>(some k,none)) (Γ:=GN os ms ss c (KZ (.int (a:Int))) (KZ (.int (1+z))) none none) (fa:=af 6) (fb:=eK (.int 1)) (k:=((1:Nat):Int)) (aw rfl) aM rfl
  simp only at q2
  rw [Gu] at q2;refine ⟨_,os,ms,[.list [.int (-(1+z))]]++ss.drop 1,aT (ao un (ao s2 (ao s3 (ao (F (by omega)) (ao (F (by omega)) (ao (F (by omega)) (ao (F (by omega)) (ao (F (by omega)) (bf (cG (ax (aw rfl) (ax (aw rfl) (ax (cQ (cN (s:=.leaf) (ax (cN (s:=.leaf) (ax (xT (g:=cU) (aw rfl) (d:=.int (-(1+z))) rfl) ai) rfl rfl rfl) ai) rfl rfl rfl) q2 rfl rfl (by simp;omega)) ai))) rfl rfl) rfl))))))))),rfl,⟨K.o,K.m,fun r hr=>?_,by omega,by omega,by simp;omega⟩,t7 (a:=.list [.int (-(1+z))]) (by simp) (oi (i:=-(1+z)) (by simp) (.inl (by omega)))⟩
  rcases KI hr with h | h
  ·exact ⟨_,by simpa using h,fun a h=>⟨_,by simpa using h⟩,by simp⟩
  ·exact K.s r (List.mem_of_mem_drop h)
end KQ.M
namespace T
open PySem PySem.Spec L2
open PyProof.Rows hiding St
section
variable {X:Cx} {N gl:List Str} {vs cs ls lo gs:List Nat} {W:XW} {a:Expr} {pos:Pos} {fa:F1}
theorem cs_unpt (S:Cp X N gl vs cs ls lo gs) (i j k:Nat) {x y z:Str} {px py pz pt:Pos} {kt:Nat} (hi:N[i]?=some x) (hj:N[j]?=some y) (hk:N[k]?=some z) (li:ls.contains i=true) (lj:ls.contains j=true) (lk:ls.contains k=true) (ha:PE X a (tE X.K W fa))
  (hs:swapsWithSole [.Tuple [.Name x px,.Name y py,.Name z pz] kt pt] a pos.line X.env=pure false) (hw:swappedStores [.Tuple [.Name x px,.Name y py,.Name z pz] kt pt] a X.env=pure none) :
  PS X (.Assign [.Tuple [.Name x px,.Name y py,.Name z pz] kt pt] a pos) (tS X.K W (ir [i,j,k] fa)):=by
 have hN:X.N.Nodup:=by rw [S.hN];exact S.nd
 exact cH (sZ ha (Ey S.calm (u9 (qX hN (by rw [S.hN];exact hi) (S.loc i x hi li).1 (S.loc i x hi li).2) (u9 (qX hN (by rw [S.hN];exact hj) (S.loc j y hj lj).1 (S.loc j y hj lj).2) (u9 (qX hN (by rw [S.hN];exact hk) (S.loc k z hk lk).1 (S.loc k z hk lk).2) EJ)))) hs hw) fun _ _ _=>vI (is:=[i,j,k])
end
end T
namespace TQ
open PySem PySem.Spec L2 T
open PyProof.Rows hiding St
variable {X:Cx} {N gl:List Str} {vs cs ls lo gs:List Nat} {W:XW} {a:Expr} {pos:Pos} {fa:F1}
theorem pA (S:Cp X N gl vs cs ls lo gs) (i j k:Nat) {x y z:Str} {px py pz pt:Pos} {kt:Nat} (hi:N[i]?=some x) (hj:N[j]?=some y) (hk:N[k]?=some z) (li:ls.contains i=true) (lj:ls.contains j=true) (lk:ls.contains k=true) (ha:Q (PE X a (tE X.K W fa)))
  (hs:swapsWithSole [.Tuple [.Name x px,.Name y py,.Name z pz] kt pt] a pos.line X.env=pure false) (hw:swappedStores [.Tuple [.Name x px,.Name y py,.Name z pz] kt pt] a X.env=pure none) :
  Q (PS X (.Assign [.Tuple [.Name x px,.Name y py,.Name z pz] kt pt] a pos) (tS X.K W (ir [i,j,k] fa))):=⟨T.cs_unpt S i j k hi hj hk li lj lk ha.p hs hw⟩
end TQ
namespace T
open PySem PySem.Spec L2
open PyProof.Rows hiding St
section
variable {K:Fg} {W:XW} {σ:St} {H:Hp} {Q:VK} {fa fb:F1}
theorem vt {g:PV->Bool} {k:PV->PV->F1} {T:V->Hp->Prop} {R:V->V->Hp->Prop} (h:tE K W (aU fa fun p Γ=>if g p then aU fb (fun q=>k p q) Γ else .no) σ H Q)
  (hT:∀O p v H1 G,Own K O H1 p.s G v p.d->g p=true->T v H1)
  (hk:∀He O Fs Γ2 p q v u H1 H2 G1 G2 Fs2,g p=true->O.Nodup->Same H H1->Same H1 H2->EnvOk K He (G2++(G1++O)) Fs2 H2 σ Γ2->(∀a∈G2++(G1++Fs2.flatten),a∈Fs.flatten\/H a=none) ->
   Own K (G2++(G1++O)++Fs2.flatten) H2 p.s G1 v p.d->Own K (G2++(G1++O)++Fs2.flatten) H2 q.s G2 u q.d->Wants K W He O Fs H σ Q (k p q Γ2)->R v u H2) :
  tE K W fa σ H fun v H1=>T v H1/\tE K W fb σ H1 fun u H2=>R v u H2:=by
 refine xD (k:=fun p Γ=>if g p then aU fb (fun q=>k p q) Γ else .no) h fun He O Fs Γ1 p v H1 G1 Fs1 nd A1 h1=>?_
 cases hg:g p with
 | false=>rw [hg] at h1;exact h1.elim
 | true=>
 rw [hg] at h1;have h1:Wants K W He O Fs H σ Q (aU fb (fun q=>k p q) Γ1):=h1
 refine ⟨hT _ _ _ _ _ A1.own hg,?_⟩
 refine ⟨He,G1++O,Fs1,Γ1,A1.env,?_⟩
 unfold aU at h1
 cases e:fb Γ1 with
 | ok q Γ2=>
  rw [e] at h1;intro u H2 G2 Fs2 A2;have new:∀a∈G2++(G1++Fs2.flatten),a∈Fs.flatten\/H a=none:=fun a ha=>by
   have up:a∈G1++Fs1.flatten->a∈Fs.flatten\/H a=none:=A1.new a
   rcases KI ha with z | z
   ·rcases A2.new a (KH _ z) with y | y
    ·exact up (KG _ y)
    ·exact .inr (A1.same.free y)
   ·rcases KI z with z | z
    ·exact up (KH _ z)
    ·rcases A2.new a (KG _ z) with y | y
     ·exact up (KG _ y)
     ·exact .inr (A1.same.free y)
  refine hk He O Fs Γ2 p q v u H1 H2 G1 G2 Fs2 hg nd A1.same A2.same A2.env new (A1.own.mono A2.same fun a ha=>?_) A2.own h1
  rcases KI ha with z | z
  ·rcases KI z with z | z
   ·rcases A2.new a (KH _ z) with y | y
    ·exact .inl (KG _ y)
    ·exact .inr y
   ·exact .inl (KH _ z)
  ·rcases A2.new a (KG _ z) with y | y
   ·exact .inl (KG _ y)
   ·exact .inr y
 | er c Γ2=>
  rw [e] at h1;intro H2 Fs2 hs E2;exact h1 H2 Fs2 (A1.same.trans hs) E2.dropL
 | no=>
  rw [e] at h1;exact h1
end
def wG (p:PV):Bool:=match p.s,p.d with
 | .leaf,.list _=>true
 | _,_=>false
def AQ (p q:PV):F1:=fun Γ=>match p.d,q.d with
 | .list ds,.int k=>(match rh ds with
  | some ns=>(match mh k ns with
   | some j=>.ok ⟨.leaf,.int (j:Nat)⟩ Γ
   | none=>.no)
  | none=>.no)
 | _,_=>.no
def nJ (fa fb:F1):F1:=aU fa fun p Γ=>if wG p then aU fb (fun q=>AQ p q) Γ else .no
section
variable {K:Fg} {W:XW} {σ:St} {H:Hp} {Q:VK} {fa fb:F1}
theorem oV {p:PV} (h:wG p=true):∃ds,p=⟨.leaf,.list ds⟩:=by
 obtain ⟨s,d⟩:=p;unfold wG at h;dsimp only at h;split at h
 ·exact ⟨_,rfl⟩
 ·cases h
theorem zK (h:tE K W (nJ fa fb) σ H Q):zt K "list" (pQ K) (tE K W fa) (tA K W (ae fb ah)) σ H Q:=by
 have:=vt (T:=fun v H1=>HS K "list" v H1) (R:=fun v u H2=>pQ K v [u] H2 Q) h (fun O p v H1 G o hg=>by
  obtain ⟨ds,rfl⟩:=oV hg;have r:=o.rep
  cases r with
  | @lst a vs _ hq hl hr=>exact .inl ⟨rfl,vs,hq⟩) fun He O Fs Γ2 p q v u H1 H2 G1 G2 Fs2 hg nd s1 s2 E new o1 o2 w=>by
  obtain ⟨ds,rfl⟩:=oV hg;obtain ⟨qs,qd⟩:=q;unfold AQ at w;have r:=o1.rep
  cases r with
  | @lst l vs _ hq hl hr=>
   have r2:=o2.rep
   cases qd<;>try exact w.elim
   rename_i k
   cases r2;dsimp only at w
   cases hi:rh ds with
   | none=>rw [hi] at w;exact w.elim
   | some ns=>
    rw [hi] at w;dsimp only at w
    cases hj:mh k ns with
    | none=>rw [hj] at w;exact w.elim
    | some j=>
     rw [hj] at w;have q3:Reps K H2 vs ds:=⟨hl,hr⟩
     rw [Hf hi] at q3;have ev:=jO q3
     subst ev;obtain ⟨a1,a2⟩:=Eu hj;exact ⟨l,ns,k,j,rfl,rfl,hq,a1,a2,w _ _ _ _ (Cw (E.drop (fun a ha=>KG _ (KG _ ha)) nd) (s1.trans s2) (fun a ha=>new a (KG _ (KG _ ha))) (.int _))⟩
 exact EK this fun v H1 hv=>⟨hv.1,Ez hv.2⟩
end
section
variable {X:Cx} {W:XW} {o e:Expr} {fo fe:F1}
theorem ce_ixE {apos cpos:Pos} (ho:PE X o (tE X.K W fo)) (ha:PE X e (tE X.K W fe)) (hbase:attributeBase o "index" X.env (eval o X.env)=eval o X.env) (hs:starEach [e] X.env=[(false,eval e X.env)]) (hline:(apos.endLine==cpos.line)=true) :
  PE X (.Call (.Attribute o "index" apos) [e] [] cpos) (tE X.K W (nJ fo fe)):=
 bc (jR (T := "list") (r:=pQ X.K) F.plainAttrs_list F.slot_list_index F.type_list_index jV ho (da_cons ha da_nil hs) hbase (by rw [hs];rfl) hline hs rfl) fun _ _ _=>zK
end
end T
namespace TQ
open PySem PySem.Spec L2 T
open PyProof.Rows hiding St
theorem rO {X:Cx} {W:XW} {o e:Expr} {fo fe:F1} {apos cpos:Pos} (ho:Q (PE X o (tE X.K W fo))) (ha:Q (PE X e (tE X.K W fe))) (hbase:attributeBase o "index" X.env (eval o X.env)=eval o X.env) (hs:starEach [e] X.env=[(false,eval e X.env)]) (hline:(apos.endLine==cpos.line)=true) :
  Q (PE X (.Call (.Attribute o "index" apos) [e] [] cpos) (tE X.K W (nJ fo fe))):=⟨T.ce_ixE ho.p ha.p hbase hs hline⟩
end TQ
namespace KQ.M.L
open PySem PySem.Spec L2 T
open PyProof.Rows hiding St
open KC
noncomputable abbrev xcl:List Str:=["NoWorld", "NoPlayer", "NoRoom", "NoPlan"]
noncomputable def gX:FS:=(b2 (aR aA (aD (cW true) (af 0) (eK bD))) (xB "NoPlayer") aS)
noncomputable def bj:List KY->Res:=aH 1 gX
noncomputable def jz:FS:=(b2 (dy (aR aA (mX yt eN (eK (.int 0)) (af 1) (bG bt (ae (ak (af 0) (eK (.int 0))) ah))))) (xB "NoRoom") aS)
noncomputable def dg:List KY->Res:=aH 2 jz
noncomputable def iM:FS:=(b2 (dy (aR br (av 2 bL (ae (af 1) (ae (bG bt (ae (ak (af 0) (eK (.int 0))) ah)) ah))))) (xB "NoRoom") aS)
noncomputable def bz:List KY->Res:=aH 2 iM
noncomputable def nK:FS:=(ay (bg (dX 1 aY (ae (af 0) ah)))
  (ay (bg (dX 1 bj (ae (af 1) ah)))
  (ba (av 3 aB (ae (af 0) (ae (af 1) (ae (af 2) ah)))))))
noncomputable def dI:List KY->Res:=aH 3 nK
noncomputable def jA:FS:=(b2 (dy (aR br (av 3 aB (ae (af 0) (ae (af 1) (ae (af 2) ah)))))) (xB "NoPlan") aS)
noncomputable def bU:List KY->Res:=aH 3 jA
noncomputable def qt:FS:=(ay (bg (dX 1 aY (ae (af 0) ah)))
  (ay (bg (dX 1 bj (ae (af 1) ah)))
  (ay (bg (dX 3 bU (ae (af 0) (ae (af 1) (ae (af 2) ah)))))
  (ay (aC false 3 (g5 .leaf 4 5 (ak (af 0) (eK (.int 2))) aL (kU (aR aA (aD (bI false) (ak (af 2) (af 4)) (eK .none))) (rq (af 5)) (az .leaf (ae (ak (af 2) (af 4)) ah)))))
  (ba (cb (ae (rq (ak (af 0) (eK (.int 0)))) (ae (aE .leaf 5 (aZ (ak (af 0) (eK (.int 1)))) aL (rq (af 5))) (ae (af 3) ah)))))))))
noncomputable def dJ:List KY->Res:=aH 6 qt
noncomputable def qr:FS:=(ay (bg (dX 1 aY (ae (af 0) ah)))
  (ay (bg (dX 2 dg (ae (af 0) (ae (af 3) ah))))
  (ay (bg (dX 3 bU (ae (af 0) (ae (eK (.int 0)) (ae (af 1) ah)))))
  (ay (bg (dX 3 bU (ae (af 0) (ae (eK (.int 1)) (ae (af 2) ah)))))
  (ay (aC false 4 (xx .leaf 6 7 (ae (af 1) (ae (af 2) ah)) aL (kU (aR aA (aD (bI false) (af 6) (eK .none))) (af 7) (af 6))))
  (ay (aC false 5 (av 2 eI (ae (af 4) (ae (af 3) ah))))
  (ay (b2 (aR aA (aD (bI false) (af 5) (eK .none))) (xB "NoPlan") aS)
  (ba (af 5)))))))))
noncomputable def cP:List KY->Res:=aH 8 qr
noncomputable def jy:FS:=(ay (bg (dX 1 aY (ae (af 0) ah)))
  (ay (bg (dX 1 bj (ae (af 1) ah)))
  (bg (dX 2 bz (ae (af 0) (ae (af 2) ah))))))
noncomputable def bo:List KY->Res:=aH 3 jy
noncomputable def ux:FS:=(ay (bg (dX 3 bo (ae (af 0) (ae (af 1) (ae (af 2) ah)))))
  (ba (av 3 dm (ae (af 0) (ae (af 1) (ae (af 2) ah))))))
noncomputable def fP:List KY->Res:=aH 3 ux
noncomputable def g0:FS:=(ay (b2 (mT (aR aA (aD fN (bG bt (ae (af 3) ah)) (bG bt (ae (ak (af 0) (eK (.int 0))) ah)))) (dy (aR br (av 3 aB (ae (af 0) (ae (af 1) (ae (af 4) ah))))))) (ba (eK (.bool false))) aS)
  vC)
noncomputable def cj:List KY->Res:=aH 6 g0
noncomputable def iN:FS:=(ay (bg (dX 3 bo (ae (af 0) (ae (af 1) (ae (af 2) ah)))))
  (ba (av 5 cj (ae (af 0) (ae (af 1) (ae (af 2) (ae (af 3) (ae (af 4) ah))))))))
noncomputable def b3:List KY->Res:=aH 5 iN
noncomputable def uy:FS:=(ay (bg (dX 3 bo (ae (af 0) (ae (af 1) (ae (af 2) ah)))))
  (ay (aC false 3 (av 3 bV (ae (af 0) (ae (af 1) (ae (af 2) ah)))))
  (ay (aC false 4 (ak (af 3) (eK (.int 0))))
  (ay (aC false 5 (av 4 b8 (ae (af 0) (ae (af 1) (ae (af 2) (ae (ak (af 3) (eK (.int 1))) ah))))))
  (ay (aC false 6 (g5 .leaf 9 10 (ak (af 0) (eK (.int 2))) aL (aE .leaf 8 (aZ (af 10)) (aR br (av 3 dr (ae (af 5) (ae (af 9) (ae (af 8) ah))))) (af 8))))
  (ay (aC false 7 (g5 .leaf 9 10 (ak (af 0) (eK (.int 2))) aL (aE .leaf 8 (aZ (af 10)) (aR br (av 3 cC (ae (af 4) (ae (af 9) (ae (af 8) ah))))) (af 8))))
  (ba (cb (ae (af 5) (ae (av 3 bW (ae (af 0) (ae (af 1) (ae (af 6) ah)))) (ae (af 4) (ae (av 3 bW (ae (af 0) (ae (av 1 bE (ae (af 1) ah)) (ae (af 7) ah)))) ah))))))))))))
noncomputable def fQ:List KY->Res:=aH 11 uy
noncomputable def iO:FS:=(ay (bg (dX 3 bo (ae (af 0) (ae (af 1) (ae (af 2) ah)))))
  (ay (aC false 4 (bG bt (ae (ak (af 0) (eK (.int 0))) ah)))
  (ay (b2 (mT (aR aA (aD fN (bG bt (ae (ak (af 3) (eK (.int 0))) ah)) (af 4))) (aR aA (aD fN (bG bt (ae (ak (af 3) (eK (.int 2))) ah)) (af 4)))) (ba (eK (.bool false))) aS)
  (ay vC
  vC))))
noncomputable def b6:List KY->Res:=aH 6 iO
noncomputable def wZ:FS:=(ay (bg (dX 3 bo (ae (af 0) (ae (af 1) (ae (af 2) ah)))))
  (ay (aC false 3 (av 3 dm (ae (af 0) (ae (av 1 bE (ae (af 1) ah)) (ae (av 2 bN (ae (af 0) (ae (af 2) ah))) ah)))))
  (ay (aC false 4 (av 1 cg (ae (ak (af 3) (eK (.int 0))) ah)))
  (ay (aC false 5 (av 3 bW (ae (af 0) (ae (af 1) (ae (aE .leaf 6 (fM (ae (bG bt (ae (ak (af 0) (eK (.int 0))) ah)) ah)) aL (av 3 bS (ae (af 0) (ae (af 4) (ae (af 6) ah))))) ah)))))
  (ba (cb (ae (af 4) (ae (af 5) (ae (ak (af 3) (eK (.int 0))) (ae (ak (af 3) (eK (.int 1))) ah))))))))))
noncomputable def hV:List KY->Res:=aH 7 wZ
noncomputable def jx:FS:=(ay (bg (dX 3 bo (ae (af 0) (ae (af 1) (ae (af 2) ah)))))
  (ay (b2 (dy (aR br (av 5 cj (ae (af 0) (ae (av 1 bE (ae (af 1) ah)) (ae (av 2 bN (ae (af 0) (ae (af 2) ah))) (ae (ak (af 3) (eK (.int 2))) (ae (ak (af 3) (eK (.int 3))) ah)))))))) (ba (eK (.bool false))) aS)
  (ay vC
  vC)))
noncomputable def cA:List KY->Res:=aH 5 jx
noncomputable def fz:FS:=(b2 (aR aA (aD bT (af 0) (eK (.int 0)))) (bg (dX 3 dI (ae (af 1) (ae (af 2) (ae (az .leaf ah) ah))))) (b2 (aR aA (aD bT (af 0) (eK (.int 1)))) (bg (dX 3 fP (ae (af 1) (ae (af 2) (ae (af 3) ah))))) (b2 (aR aA (aD bT (af 0) (eK (.int 2)))) (bg (dX 5 b3 (ae (af 1) (ae (af 2) (ae (af 3) (ae (az .leaf ah) (ae (az .leaf ah) ah))))))) (b2 (aR aA (aD bT (af 0) (eK (.int 3)))) (bg (dX 3 hV (ae (af 1) (ae (af 2) (ae (af 3) ah))))) (b2 (aR aA (aD bT (af 0) (eK (.int 4)))) (bg (dX 4 cA (ae (af 1) (ae (af 2) (ae (af 3) (ae (cb (ae (az .leaf ah) (ae (az .leaf ah) (ae (az .leaf ah) (ae (az .leaf ah) ah))))) ah)))))) (b2 (aR aA (aD bT (af 0) (eK (.int 5)))) (bg (dX 3 fQ (ae (af 1) (ae (af 2) (ae (af 3) ah))))) (b2 (aR aA (aD bT (af 0) (eK (.int 6)))) (bg (dX 4 b6 (ae (af 1) (ae (af 2) (ae (af 3) (ae (cb (ae (az .leaf ah) (ae (az .leaf ah) (ae (az .leaf ah) (ae (az .leaf ah) ah))))) ah)))))) (b2 (aR aA (aD bT (af 0) (eK (.int 7)))) (bg (dX 3 dJ (ae (af 1) (ae (af 2) (ae (ak (af 4) (eK (.int 0))) ah))))) (bg (dX 4 cP (ae (af 1) (ae (ak (af 4) (eK (.int 1))) (ae (ak (af 4) (eK (.int 2))) (ae (af 5) ah))))))))))))))
noncomputable def dh:List KY->Res:=aH 6 fz
noncomputable def nO:FS:=(ay (aC false 6 (eK (.str "")))
  (ay (lE xcl 7 (bg (dX 6 dh (ae (af 0) (ae (af 1) (ae (af 2) (ae (af 3) (ae (af 4) (ae (af 5) ah)))))))) fun c=>aC false 6 (qm (bH c)))
  (ba (af 6))))
noncomputable def dQ:List KY->Res:=aH 8 nO
noncomputable def iR:FS:=(ay (aC false 4 (bG bt (ae (af 2) ah)))
  (ay (aC false 5 (av 3 aq (ae (af 3) (ae (eK (.int 20)) (ae (aD jw (eK (.int 10)) (eK (.int 9))) ah)))))
  (ay (aC true 6 (az .leaf (ae (dk (fun k=>(none,some k)) (af 2) (eU cU (eK (.int 1)))) (ae (bF (af 2) (az .leaf (ae (eK .none) ah))) (ae (bF (az .leaf (ae (aD aN (af 4) (af 5)) ah)) (dk (fun k=>(some k,none)) (af 2) (eK (.int 1)))) (ae (bF (az .leaf (ae (aD gSub (eU cU (eK (.int 1))) (af 5)) ah)) (dk (fun k=>(some k,none)) (af 2) (eK (.int 1)))) ah))))))
  (ay (b2 (aR aA (aD (cW false) (aD gSub (eK (.int 1)) (af 1)) (ak (af 0) (eK (.int 0))))) (ay (aC false 7 (nJ (ak (af 0) (eK (.int 0))) (aD gSub (eK (.int 1)) (af 1))))
  (fO 6 (bF (bF (d8 (az .leaf (ae (eK .none) ah)) (af 7)) (az .leaf (ae (ak (ak (ak (af 0) (eK (.int 2))) (af 7)) (eK (.int 0))) ah))) (d8 (az .leaf (ae (eK .none) ah)) (aD gSub (aD gSub (af 4) (af 7)) (eK (.int 1))))))) aS)
  (ba (fy 6 (aD dv (av 3 aq (ae (af 3) (ae (eK (.int 21)) (ae (eK (.int 60)) ah)))) (bG bt (ae (af 6) ah)))))))))
noncomputable def bJ:List KY->Res:=aH 8 iR
noncomputable def DU:FS:=(ay (aC false 1 (av 3 m__law_world (ae (af 0) (ae (eK (.int 0)) (ae (eK (.int 6)) ah)))))
  (ay (aC false 2 (bG bt (ae (ak (af 1) (eK (.int 0))) ah)))
  (ay (aC false 3 (av 2 aX (ae (af 0) (ae (eK (.int 8)) ah))))
  (ay (aC false 4 (aE .leaf 14 (fM (ae (eK (.int 5)) ah)) aL (aD bT (av 3 aq (ae (af 3) (ae (af 14) (ae (eK (.int 3)) ah)))) (eK (.int 1)))))
  (ay (aC false 5 (av 3 aq (ae (af 3) (ae (eK (.int 5)) (ae (aD jw (eK (.int 10)) (eK (.int 9))) ah)))))
  (ay (aC false 6 (av 3 aq (ae (af 3) (ae (eK (.int 6)) (ae (eK (.int 2)) ah)))))
  (ay (aC false 7 (aE .leaf 15 (iI (cb (ae (eK (.int 0)) (ae (eK (.int 1)) ah)))) aL (aE .leaf 10 (fM (ae (af 2) ah)) aL (kU (aR aA (aD bT (ak (ak (af 1) (eK (.int 0))) (af 10)) (af 15))) (ak (ak (ak (af 1) (eK (.int 2))) (af 10)) (eK (.int 0))) (eK .none)))))
  (ay (aC true 8 (az .leaf (ae (ak (af 7) (af 6)) (ae (ak (af 7) (eK (.int 0))) (ae (ak (af 7) (eK (.int 1))) ah)))))
  (ay (aC false 9 (uw (ae (af 2) ah)))
  (ay (aC false 10 (eK (.int 0)))
  (ay (b2 (aR br (ak (af 4) (eK (.int 4)))) (ay (da 8 (av 4 bJ (ae (af 1) (ae (af 6) (ae (fy 8 (eK (.int 0))) (ae (af 3) ah))))) (eK (.int 0)))
  (ay (aC false 12 (aD aN (eK (.int 1)) (av 3 aq (ae (af 3) (ae (eK (.int 7)) (ae (eK (.int 2)) ah))))))
  (da 8 (av 4 bJ (ae (af 1) (ae (aD gSub (af 12) (eK (.int 1))) (ae (fy 8 (af 12)) (ae (af 3) ah))))) (af 12)))) aS)
  (nt 8 (ay (b2 (aR br (ak (af 4) (eK (.int 1)))) (aC false 6 (ak (az .leaf (ae (aD gSub (eU cU (eK (.int 1))) (af 5)) (ae (aD aN (eK (.int 2)) (af 5)) ah))) (av 3 aq (ae (af 3) (ae (eK (.int 8)) (ae (eK (.int 2)) ah)))))) aS)
  (ay (b2 (aR br (ak (af 4) (eK (.int 2)))) (aC false 9 (ak (az .leaf (ae (az .leaf (ae (aD aN (af 2) (af 5)) ah)) (ae (az .leaf (ae (aD gSub (eU cU (eK (.int 1))) (af 5)) ah)) (ae (az .leaf (ae (eK (.int 0)) (ae (eK (.int 0)) ah))) (ae (bF (af 9) (az .leaf (ae (af 2) ah))) (ae (bF (az .leaf (ae (eU cU (eK (.int 1))) ah)) (af 9)) (ae (bF (az .leaf (ae (eK (.int 0)) ah)) (af 9)) ah))))))) (av 3 aq (ae (af 3) (ae (eK (.int 9)) (ae (eK (.int 6)) ah)))))) aS)
  (ay (b2 (aR br (ak (af 4) (eK (.int 3)))) (aC false 10 (ak (az .leaf (ae (aD aN (af 2) (af 5)) (ae (aD gSub (eU cU (eK (.int 1))) (af 5)) ah))) (av 3 aq (ae (af 3) (ae (eK (.int 10)) (ae (eK (.int 2)) ah)))))) aS)
  (ay (b2 (aR br (ak (af 4) (eK (.int 0)))) (aC false 1 (av 2 ck (ae (af 1) (ae (av 2 aX (ae (af 0) (ae (eK (.int 9)) ah))) ah)))) aS)
  (ay (fI 11 (fM (ae (eK (.int 9)) ah))
  (ay (aC false 13 (bF (bF (d8 (az .leaf (ae (eK (.str "world")) ah)) (bG cV (ae (ak (af 4) (eK (.int 0))) ah))) (d8 (az .leaf (ae (eK (.str "player")) ah)) (bG cV (ae (cF (ak (af 4) (eK (.int 1))) (aD eN (af 11) (eK (.int 8)))) ah)))) (d8 (az .leaf (ae (eK (.str "room")) ah)) (bG cV (ae (cF (ak (af 4) (eK (.int 2))) (mX eN eN (eK (.int 0)) (af 11) (eK (.int 7)))) ah)))))
  (ay (aC false 13 (bF (bF (bF (af 13) (d8 (az .leaf (ae (eK (.str "room")) ah)) (bG cV (ae (cF (ak (af 4) (eK (.int 3))) (aD bT (af 11) (eK (.int 8)))) ah)))) (d8 (az .leaf (ae (eK (.str "plan")) ah)) (bG cV (ae (cF (ak (af 4) (eK (.int 4))) (aD nG (af 11) (eK (.int 6)))) ah)))) (az .leaf (ae (eK (.str "")) ah))))
  (b2 (aR aA (aD fN (av 6 dQ (ae (af 11) (ae (af 1) (ae (af 6) (ae (af 9) (ae (af 8) (ae (af 10) ah))))))) (ak (af 13) (eK (.int 0))))) (ba (eK (.bool false))) aS))))
  (ba (eK (.bool true))))))))))))))))))))
noncomputable def tP:List KY->Res:=aH 16 DU
open PySem.SeqAt
section
variable {w:Wd} {y:D} {b:Bool} {p:Int}
theorem om (ok:w.Ok) {r:Int}:dy (aR aA (mX yt eN (eK (.int 0)) (af 1) (bG bt (ae (ak (af 0) (eK (.int 0))) ah)))) (aV 2 [w.enc,.int r])=.ok (!(uZ w.n r)) (aV 2 [w.enc,.int r]):=
 gh (eD (s:=.leaf) (chain_ev ok rfl rfl))
theorem GK (ok:w.Ok) {r:Nat} (hr:r<w.n):dg [w.enc,rm r]=.ok ⟨.leaf,.none⟩:=by
 have t:=om ok (r:=(r:Int))
 rw [show uZ w.n (r:Int)=true by unfold uZ;simp;omega] at t
 exact fu (Γ:=aV 2 [w.enc,rm r]) (aO t nofun fun _=>rfl)
theorem uG (ok:w.Ok) {r:Int} (hr:uZ w.n r=false):dg [w.enc,.int r]=.er "NoRoom":=by
 have t:=om ok (r:=r)
 rw [hr] at t;exact de (Γ':=aV 2 [w.enc,.int r]) (aO t (fun _=>rfl) nofun)
theorem sj (ok:w.Ok) {rs:List D} (h:RowI rs) (hl:rs.length<=100):dy (aR br (av 2 bL (ae (af 1) (ae (bG bt (ae (ak (af 0) (eK (.int 0))) ah)) ah)))) (aV 2 [w.enc,.list rs])=.ok (!(rs.all (KC.inR w.n)&&dz rs)) (aV 2 [w.enc,.list rs]):=
 gh (dN (s:=.leaf) (bY (ax (aw rfl) (ax (xG ok rfl) ai)) (HH h hl) rfl rfl))
theorem BY (ok:w.Ok) {rs:List D} (h:RowI rs) (hl:rs.length<=100) (hb:(rs.all (KC.inR w.n)&&dz rs)=false):bz [w.enc,.list rs]=.er "NoRoom":=by
 have t:=sj ok h hl
 rw [hb] at t;exact de (Γ':=aV 2 [w.enc,.list rs]) (aO t (fun _=>rfl) nofun)
theorem qE (ok:w.Ok):bz [w.enc,aI (List.range w.n)]=.ok ⟨.leaf,.none⟩:=by
 have h24:=ok.h24
 have e:=fY ok.h24 (Std.range (n:=w.n))
 have t:dy (aR br (av 2 bL (ae (af 1) (ae (bG bt (ae (ak (af 0) (eK (.int 0))) ah)) ah)))) (aV 2 [w.enc,aI (List.range w.n)])=.ok (!true) (aV 2 [w.enc,aI (List.range w.n)]):=gh (dN (s:=.leaf) (bY (ax (aw rfl) (ax (xG ok rfl) ai)) e rfl rfl))
 exact fu (Γ:=aV 2 [w.enc,aI (List.range w.n)]) (aO t nofun fun _=>rfl)
theorem lH {r:List D}:dz (.int 0::.int 0::r)=false:=by
 unfold dz;refine List.all_eq_false.mpr ⟨.int 1,?_,?_⟩
 ·unfold cz
  exact List.mem_map.mpr ⟨0,List.mem_range.mpr (by simp),by simp⟩
 ·show ¬Dz (.int 0) (.int 0)=true
  decide
theorem Ex {n:Int} {rs:List D} {i:Int} (h:PyData.int i∈rs) (hi:i<0\/n<=i):(rs.all (KC.inR n)&&dz rs)=false:=by
 have:rs.all (KC.inR n)=false:=List.all_eq_false.mpr ⟨_,h,by
  show ¬(decide (0<=i)&&decide (i<n))=true
  rcases hi with hi | hi
  ·rw [decide_eq_false (by omega:¬0<=i)];simp
  ·rw [decide_eq_false (by omega:¬i<n)];simp⟩
 rw [this];rfl
theorem AD {i:Int}:cW true (.int i) bD=some (.bool (!wH (.int i))):=by
 unfold cW bD;have:=x4
 unfold bD at this;simp only [xC,this,Bool.and_self,if_true]
 rfl
theorem Cj (hp:p=0\/p=1):bj [.int p]=.ok ⟨.leaf,.none⟩:=by rcases hp with rfl | rfl<;>kernel_rfl
theorem uH (hp:p<0\/2<=p):bj [.int p]=.er "NoPlayer":=by
 have e:wH (.int p)=false:=by
  have h0:((0:Int)==p)=false:=by simp;omega
  have h1:((1:Int)==p)=false:=by simp;omega
  show ((PyData.eqv (.int 0) (.int p))||((PyData.eqv (.int 1) (.int p))||false))=false
  simp only [PyData.eqv,h0,h1]
  rfl
 exact de (Γ':=aV 1 [.int p]) (aO (t:=true) (eD (s:=.leaf) (aG (aw rfl) aM (by rw [AD,e];rfl))) (fun _=>rfl) nofun)
theorem Ji {W P R:D} (h:aY [W]=.er "NoWorld"):bo [W,P,R]=.er "NoWorld":=de (u7 (qY (qT (ax (aw rfl) ai) h rfl)))
theorem Jk (ok:w.Ok) {P R:D} (h:bj [P]=.er "NoPlayer"):bo [w.enc,P,R]=.er "NoPlayer":=de (ao (d7 (e7 (ax (aw rfl) ai) (rg ok) rfl rfl)) (u7 (qY (qT (ax (aw rfl) ai) h rfl))))
theorem Jj (ok:w.Ok) (hp:p=0\/p=1) {R:D} (h:bz [w.enc,R]=.er "NoRoom"):bo [w.enc,.int p,R]=.er "NoRoom":=de (ao (d7 (e7 (ax (aw rfl) ai) (rg ok) rfl rfl)) (ao (d7 (e7 (ax (aw rfl) ai) (Cj hp) rfl rfl)) (qY (qT (ax (aw rfl) (ax (aw rfl) ai)) h rfl))))
theorem j8 (ok:w.Ok) (hp:p=0\/p=1):bo [w.enc,.int p,aI (List.range w.n)]=.ok ⟨.leaf,.none⟩:=fu (Γ:=aV 3 [w.enc,.int p,aI (List.range w.n)]) (ao (d7 (e7 (ax (aw rfl) ai) (rg ok) rfl rfl)) (ao (d7 (e7 (ax (aw rfl) ai) (Cj hp) rfl rfl)) (d7 (e7 (ax (aw rfl) (ax (aw rfl) ai)) (qE ok) rfl rfl))))
theorem oK {P q:D} (h:aB [w.enc,q,P]=.ok ⟨.leaf,.bool b⟩):dy (aR br (av 3 aB (ae (af 0) (ae (af 1) (ae (af 2) ah))))) (aV 3 [w.enc,q,P])=.ok (!b) (aV 3 [w.enc,q,P]):=gh (dN (s:=.leaf) (bY (ax (aw rfl) (ax (aw rfl) (ax (aw rfl) ai))) h rfl rfl))
theorem E8 {P q:D} (h:aB [w.enc,q,P]=.ok ⟨.leaf,.bool true⟩):bU [w.enc,q,P]=.ok ⟨.leaf,.none⟩:=fu (Γ:=aV 3 [w.enc,q,P]) (aO (oK h) nofun fun _=>rfl)
theorem GJ {P q:D} (h:aB [w.enc,q,P]=.ok ⟨.leaf,.bool false⟩):bU [w.enc,q,P]=.er "NoPlan":=de (Γ':=aV 3 [w.enc,q,P]) (aO (oK h) (fun _=>rfl) nofun)
theorem EG (ok:w.Ok) {ds:List D} (hl:ds.length≠w.n):aB [w.enc,.int p,.list ds]=.ok ⟨.leaf,.bool false⟩:=by
 have t:=eD (s:=.leaf) (aG (Γ:=aV 6 [w.enc,.int p,.list ds]) (g:=fN) (cE (g:=bt) (d:=.int (ds.length:Int)) (ax (aw (i:=2) rfl) ai) rfl) (xG ok (i:=0) rfl) KC.ne_int)
 rw [show ((ds.length:Int)==(w.n:Int))=false by simp;omega] at t
 exact aT (rj (aO t (fun _=>bf aM rfl) nofun))
theorem GC {n:Nat} {a a' r:FS} {ds:List D} (ha:a (aV n ds)=.nx (aV n ds)) (ha':a' (aV n ds)=.nx (aV n ds)):aH n (ay a r) ds=aH n (ay a' r) ds:=by
 unfold aH ay;simp only [ha,ha']
theorem yY (ok:w.Ok) (hp:p=0\/p=1):∃q,fP [w.enc,.int p,aI (List.range w.n)]=.ok q:=by
 obtain ⟨_,e,_⟩:=qz ok hp (Std.range (n:=w.n))
 exact ⟨_,(GC (d7 (e7 (ax (aw rfl) (ax (aw rfl) (ax (aw rfl) ai))) (j8 ok hp) rfl rfl)) (d7 (bY (ax (aw rfl) (ax (aw rfl) (ax (aw rfl) ai))) (B2 ok hp Std.range) rfl rfl))).trans e⟩
theorem yU (ok:w.Ok) (hp:p=0\/p=1):∃q,hV [w.enc,.int p,aI (List.range w.n)]=.ok q:=by
 obtain ⟨_,e,_⟩:=uB ok hp (Std.range (n:=w.n))
 exact ⟨_,(GC (d7 (e7 (ax (aw rfl) (ax (aw rfl) (ax (aw rfl) ai))) (j8 ok hp) rfl rfl)) (d7 (bY (ax (aw rfl) (ax (aw rfl) (ax (aw rfl) ai))) (B2 ok hp Std.range) rfl rfl))).trans e⟩
theorem y0 (ok:w.Ok) (hp:p=0\/p=1):∃q,fQ [w.enc,.int p,aI (List.range w.n)]=.ok q:=by
 obtain ⟨_,_,_,e,_⟩:=qA ok hp (Std.range (n:=w.n))
 exact ⟨_,(GC (d7 (e7 (ax (aw rfl) (ax (aw rfl) (ax (aw rfl) ai))) (j8 ok hp) rfl rfl)) (d7 (bY (ax (aw rfl) (ax (aw rfl) (ax (aw rfl) ai))) (B2 ok hp Std.range) rfl rfl))).trans e⟩
theorem yz (ok:w.Ok) {R:D}:cj [w.enc,.int p,R,.list [],.list []]=.ok ⟨.leaf,.bool false⟩:=by
 have h1:=ok.h1
 have t:=eD (s:=.leaf) (aG (Γ:=aV 6 [w.enc,.int p,R,.list [],.list []]) (g:=fN) (cE (g:=bt) (d:=.int 0) (ax (aw (i:=3) rfl) ai) rfl) (xG ok (i:=0) rfl) KC.ne_int)
 rw [show ((0:Int)==(w.n:Int))=false by simp;omega] at t
 exact aT (rj (aO (t:=true) (qL (a:=true) (b:=true) t (gh (b:=false) (dN (s:=.leaf) (bY (ax (aw rfl) (ax (aw rfl) (ax (aw rfl) ai))) (EG ok (p:=p) (ds:=[]) (by simp;omega)) rfl rfl)))) (fun _=>bf aM rfl) nofun))
noncomputable abbrev wo:D:=.tuple [.list [],.list [],.list [],.list []]
theorem yV (ok:w.Ok) (hp:p=0\/p=1):∃q,dI [w.enc,.int p,.list []]=.ok q:=
 ⟨_,aT (ao (d7 (e7 (ax (aw rfl) ai) (rg ok) rfl rfl)) (ao (d7 (e7 (ax (aw rfl) ai) (Cj hp) rfl rfl)) (bf (bY (ax (aw rfl) (ax (aw rfl) (ax (aw rfl) ai))) (EG ok (ds:=[]) (by have:=ok.h1;simp;omega)) rfl rfl) rfl)))⟩
theorem yX (ok:w.Ok) (hp:p=0\/p=1):∃q,b3 [w.enc,.int p,aI (List.range w.n),.list [],.list []]=.ok q:=
 ⟨_,aT (ao (d7 (e7 (ax (aw rfl) (ax (aw rfl) (ax (aw rfl) ai))) (j8 ok hp) rfl rfl)) (bf (bY (ax (aw rfl) (ax (aw rfl) (ax (aw rfl) (ax (aw rfl) (ax (aw rfl) ai))))) (yz ok) rfl rfl) rfl))⟩
theorem yZ (ok:w.Ok) (hp:p=0\/p=1):∃q,b6 [w.enc,.int p,aI (List.range w.n),wo]=.ok q:=by
 have h1:=ok.h1
 have ne:fN (.int 0) (.int (w.n:Int))=some (.bool true):=by
  rw [KC.ne_int,show ((0:Int)==(w.n:Int))=false by simp;omega]
  rfl
 exact ⟨_,aT (ao (d7 (e7 (ax (aw rfl) (ax (aw rfl) (ax (aw rfl) ai))) (j8 ok hp) rfl rfl)) (ao (bQ (xG ok rfl) rfl (by simp [aV])) (rj (aO (t:=true) (qL (a:=true) (b:=true) (eD (s:=.leaf) (aG (cE (g:=bt) (d:=.int 0) (ax (gJ (j:=0) (aw rfl) aM rfl rfl rfl) ai) rfl) (aw rfl) ne)) (eD (s:=.leaf) (aG (cE (g:=bt) (d:=.int 0) (ax (gJ (j:=2) (aw rfl) aM rfl rfl rfl) ai) rfl) (aw rfl) ne))) (fun _=>bf aM rfl) nofun))))⟩
theorem yT (ok:w.Ok) (hp:p=0\/p=1):∃q,cA [w.enc,.int p,aI (List.range w.n),wo]=.ok q:=by
 obtain ⟨R,so,eo⟩:∃R,∃so:Sh,bN [w.enc,aI (List.range w.n)]=.ok ⟨so,R⟩/\coer .leaf ⟨so,R⟩=true:=⟨_,_,d3 ok,rfl⟩
 exact ⟨_,aT (ao (d7 (e7 (ax (aw rfl) (ax (aw rfl) (ax (aw rfl) ai))) (j8 ok hp) rfl rfl)) (rj (aO (t:=true) (gh (b:=false) (dN (s:=.leaf) (bY (ax (aw rfl) (ax (bY (ax (aw rfl) ai) HF rfl rfl) (ax (bY (ax (aw rfl) (ax (aw rfl) ai)) eo.1 rfl rfl) (ax (gJ (j:=2) (aw rfl) aM rfl rfl rfl) (ax (gJ (j:=3) (aw rfl) aM rfl rfl rfl) ai))))) (yz ok) rfl (by simp [eo.2])))) (fun _=>bf aM rfl) nofun)))⟩
theorem yW (ok:w.Ok) {p:Int} (hp:p=0\/p=1) {pl:List (Option Nat)} (h:iW w p pl):dJ [w.enc,.int p,aW pl]=.ok ⟨.tup [.lst .leaf,.lst .leaf,.leaf],(IZ w pl).enc⟩:=by
 have lo:=ok.g.lo
 have lm:=ok.lm
 have h24:=ok.h24
 have c1:=rg ok
 have c2:=Cj hp
 have c3:=E8 (w:=w) (FA ok h)
 have e1:g5 .leaf 4 5 (ak (af 0) (eK (.int 2))) aL (kU (aR aA (aD (bI false) (ak (af 2) (af 4)) (eK .none))) (rq (af 5)) (az .leaf (ae (ak (af 2) (af 4)) ah))) [some ⟨.leaf,w.enc⟩,some ⟨.leaf,.int p⟩,some ⟨.leaf,aW pl⟩,none,none,none]=.ok ⟨.lst .leaf,.list ((List.range w.n).map fun r=>aI (match aQ pl r with | some t=>[t] | none=>w.stp r))⟩ [KZ w.enc,KZ (.int p),KZ (aW pl),none,none,none]:=by
  refine Ff (fun r=>aI (w.stp r)) w.n (fun r=>⟨.lst .leaf,aI (match aQ pl r with | some t=>[t] | none=>w.stp r)⟩) (st:=true) ?_ rfl rfl (by omega) rfl (by omega) (fun r hr=>⟨?_,rfl⟩)
  ·simp [Wd.enc,bK,ok.z.s_range]
  ·have a1:=fG (rk:=pl) (t:=r) (by rw [h.len];exact hr)
   have b1:aR aA (aD (bI false) (ak (af 2) (af 4)) (eK .none)) (Γ2 [KZ w.enc,KZ (.int p),KZ (aW pl),none,none,none] 4 5 (fun r=>aI (w.stp r)) r)=.ok (aQ pl r).isNone (Γ2 [KZ w.enc,KZ (.int p),KZ (aW pl),none,none,none] 4 5 (fun r=>aI (w.stp r)) r):=by simp [Γ2,a1]
   rw [Dh,b1]
   cases e:aQ pl r with
   | none=>
    have l1:rq (af 5) (Γ2 [KZ w.enc,KZ (.int p),KZ (aW pl),none,none,none] 4 5 (fun r=>aI (w.stp r)) r)=.ok ⟨.lst .leaf,aI (w.stp r)⟩ (Γ2 [KZ w.enc,KZ (.int p),KZ (aW pl),none,none,none] 4 5 (fun r=>aI (w.stp r)) r):=G4 (ds:=(w.stp r).map rm) (aw (i:=5) rfl) rfl
    exact l1
   | some t=>
    rw [e] at a1;simp [Γ2,a1,oD]
 have e2:aE .leaf 5 (aZ (ak (af 0) (eK (.int 1)))) aL (rq (af 5)) [some ⟨.leaf,w.enc⟩,some ⟨.leaf,.int p⟩,some ⟨.leaf,aW pl⟩,some ⟨.leaf,.list ((List.range w.n).map fun r=>aI (match aQ pl r with | some t=>[t] | none=>w.stp r))⟩,none,none]=.ok ⟨.lst .leaf,.list (w.m.map xW)⟩ [some ⟨.leaf,w.enc⟩,some ⟨.leaf,.int p⟩,some ⟨.leaf,aW pl⟩,KZ (.list ((List.range w.n).map fun r=>aI (match aQ pl r with | some t=>[t] | none=>w.stp r))),none,none]:=by
  refine m8 xW w.m (fun r=>⟨.lst .leaf,xW r⟩) (st:=true) (by simp [Wd.enc,bK]) (by simp) rfl (by omega) (fun r hr=>⟨?_,rfl⟩)
  exact G4 (ds:=r.map .str) (aw rfl) rfl
 have e3:(IZ w pl).enc=.tuple [.list w.os,.list (w.m.map xW),.list ((List.range w.n).map fun r=>aI (match aQ pl r with | some t=>[t] | none=>w.stp r))]:=by
  unfold IZ Wd.enc bK;simp only [map_map]
  rfl
 rw [e3];refine aT (ao (d7 (e7 (ax (aw rfl) ai) c1 rfl rfl)) (ao (d7 (e7 (ax (aw rfl) ai) c2 rfl rfl)) (ao (d7 (e7 (ax (aw rfl) (ax (aw rfl) (ax (aw rfl) ai))) c3 rfl rfl)) (ao (bQ e1 rfl (by simp)) (bf (cG (ax (G4 (gJ (j:=0) (aw rfl) aM rfl rfl rfl) rfl) (ax e2 (ax (aw rfl) ai))) rfl rfl) rfl)))))
theorem yS (ok:w.Ok) {a b:List (Option Nat)} (ha:iW w 0 a) (hb:iW w 1 b) {r:Nat} (hr:r<w.n) (hm:∀x,x<w.n->iC a b x≠none):∃F R,cP [w.enc,aW a,aW b,rm r]=.ok ⟨.leaf,wy F R⟩/\yC w.n (lY w.n a b) r F R:=by
 have h24:=ok.h24
 obtain ⟨F,R,ew,L⟩:=nM (n:=w.n) h24 (ch:=lY w.n a b) (by simp [lY]) (fun x hx=>by
  rw [wu hx];obtain ⟨t,ht⟩:=Option.ne_none_iff_exists'.mp (hm x hx)
  refine ⟨t,ht,?_⟩
  unfold iC at ht;split at ht
  ·exact ok.stp_lt (hb.st x t hx ht).2
  ·exact ok.stp_lt (ha.st x t hx ht).2) hr
 refine ⟨F,R,aT ?_,L⟩
 have z:xx .leaf 6 7 (ae (af 1) (ae (af 2) ah)) aL (kU (aR aA (aD (bI false) (af 6) (eK .none))) (af 7) (af 6)) (aV 8 [w.enc,aW a,aW b,rm r])=.ok ⟨.lst .leaf,aW (lY w.n a b)⟩ (aV 8 [w.enc,aW a,aW b,rm r]):=by
  have g:=iT (i:=6) (j:=7) (s:=.leaf) (fe:=kU (aR aA (aD (bI false) (af 6) (eK .none))) (af 7) (af 6)) (Γ:=aV 8 [w.enc,aW a,aW b,rm r]) (e1:=fun r=>oD (aQ a r)) (e2:=fun r=>oD (aQ b r)) (f:=fun r=>⟨.leaf,oD (iC a b r)⟩) (by omega) rfl w.n 0 [] (fun x _ hx=>⟨xV (t:=(aQ a x).isNone) (eD (s:=.leaf) (aG (aw (i:=6) (d:=oD (aQ a x)) rfl) aM (by cases aQ a x<;>rfl))) (fun h=>by
    unfold iC;rw [h];exact aw rfl) (fun h=>by
    unfold iC;rw [h];exact aw rfl),by cases iC a b x<;>rfl⟩) (by
    have:(10000:Nat)<=sizeLine:=by decide
    simp
    omega)
  unfold xx;rw [ax (aw (i:=1) rfl) (ax (aw (i:=2) rfl) ai)];simp only [Out.bind]
  unfold u0;have zz:(a.map oD).zip (b.map oD)=(List.range' 0 w.n).map fun r=>(oD (aQ a r),oD (aQ b r)):=by
   rw [Fl ha.len,Fl hb.len,List.zip_map',<-List.range_eq_range']
  have o1:∀pl:List (Option Nat),dH ⟨.leaf,.list (pl.map oD)⟩ (pl.map oD)=true:=fun pl=>rfl
  simp only [o1,length_map,ha.len,hb.len]
  rw [zz];have g:rn 6 7 aL _ Sh.leaf _ (aV 8 [w.enc,.list (a.map oD),.list (b.map oD),rm r]) []=_:=g
  rw [g];have:(aW (lY w.n a b))=.list ([]++(List.range' 0 w.n).map fun r=>oD (iC a b r)):=by
   unfold aW lY;rw [map_map,nil_append,<-List.range_eq_range'];rfl
  rw [this];simp only [decide_true,Bool.and_true]
  rfl
 refine ao (d7 (e7 (ax (aw rfl) ai) (rg ok) rfl rfl)) ?_
 refine ao (d7 (e7 (ax (aw rfl) (ax (aw rfl) ai)) (GK ok hr) rfl rfl)) ?_
 refine ao (d7 (e7 (ax (aw rfl) (ax aM (ax (aw rfl) ai))) (E8 (FA ok ha)) rfl rfl)) ?_
 refine ao (d7 (e7 (ax (aw rfl) (ax aM (ax (aw rfl) ai))) (E8 (FA ok hb)) rfl rfl)) ?_
 refine ao (bQ z rfl (by simp [aV])) ?_
 refine ao (bQ (bY (ax (aw rfl) (ax (aw rfl) ai)) ew rfl rfl) rfl (by simp [aV])) ?_
 exact ao (aO (eD (s:=.leaf) (aG (aw rfl) aM rfl)) nofun fun _=>rfl) (bf (aw rfl) rfl)
end
section
variable {w:Wd} {p:Int}
noncomputable def mq (d:D):Bool:=match d with
 | .none=>false
 | _=>true
noncomputable def AC (w:Wd) (p:Int) (ds:List D) (r:Nat):Bool:=match ds.getD r .none with
 | .int z=>own w p r&&((w.stp r).map fun t:Nat=>(t:Int)).contains z
 | _=>false
theorem rms_int {l:List Nat}:aI l=.list ((l.map fun t:Nat=>(t:Int)).map .int):=by
 show PyData.list _=_
 rw [map_map];rfl
theorem ub (ok:w.Ok) {ds:List D} (hl:ds.length=w.n) (hz:∀d∈ds,d=.none\/∃z,d=.int z) {r0:Nat} (h0:r0<w.n) {z0:Int} (e0:ds.getD r0 .none=.int z0) (xn:own w p r0=false\/∀t∈w.stp r0,(t:Int)≠z0):aB [w.enc,.int p,.list ds]=.ok ⟨.leaf,.bool false⟩:=by
 have h24:=ok.h24
 have at':∀r,r<w.n->ds[r]?=some (ds.getD r .none):=fun r hr=>BG (by omega)
 have hzr:∀r,r<w.n->ds.getD r .none=.none\/∃z,ds.getD r .none=.int z:=fun r hr=>hz _ (getD_mem (by omega))
 have dsr:ds=(List.range w.n).map fun r=>ds.getD r .none:=by
  refine ext_getElem? fun k=>?_
  rw [getElem?_map];by_cases hk:k<w.n
  ·rw [getElem?_range hk,at' k hk]
   rfl
  ·rw [getElem?_eq_none (by omega),getElem?_eq_none (by simp;omega)]
   rfl
 have t:=eD (s:=.leaf) (aG (Γ:=aV 6 [w.enc,.int p,.list ds]) (g:=fN) (cE (g:=bt) (d:=.int (ds.length:Int)) (ax (aw (i:=2) rfl) ai) rfl) (xG ok (i:=0) rfl) KC.ne_int)
 rw [hl,beq_self_eq_true] at t;have e1:g5 .leaf 4 5 (af 2) (aR aA (aD (bI true) (af 5) (eK .none))) (af 4) (aV 6 [w.enc,.int p,.list ds])=.ok ⟨.lst .leaf,.list (((List.range w.n).filter fun r=>mq (ds.getD r .none)).map fun r=>rm r)⟩ (aV 6 [w.enc,.int p,.list ds]):=by
  refine EX (fun r=>ds.getD r .none) w.n (fun r=>mq (ds.getD r .none)) (fun r=>⟨.leaf,rm r⟩) (st:=true) ?_ rfl rfl (by omega) rfl (by omega) (fun r hr=>?_) (fun r hr _=>?_)
  ·rw [<-dsr]
   exact fg (s:=.leaf) (aw rfl) rfl
  ·rcases hzr r hr with e | ⟨z,e⟩
   ·rw [e]
    exact eD (s:=.leaf) (aG (aw (i:=5) (d:=ds.getD r .none) rfl) aM (by rw [e];rfl))
   ·rw [e]
    exact eD (s:=.leaf) (aG (aw (i:=5) (d:=ds.getD r .none) rfl) aM (by rw [e];rfl))
  ·exact ⟨aw rfl,rfl⟩
 have e2:aE .leaf 4 (aZ (af 3)) aL (cF (aD bT (ak (ak (af 0) (eK (.int 0))) (af 4)) (af 1)) (aD (cW false) (ak (af 2) (af 4)) (ak (ak (af 0) (eK (.int 2))) (af 4)))) [KZ w.enc,KZ (.int p),KZ (.list ds),KZ (aI ((List.range w.n).filter fun r=>mq (ds.getD r .none))),none,none]=.ok ⟨.lst .leaf,.list (((List.range w.n).filter fun r=>mq (ds.getD r .none)).map fun r=>.bool (AC w p ds r))⟩ [KZ w.enc,KZ (.int p),KZ (.list ds),KZ (aI ((List.range w.n).filter fun r=>mq (ds.getD r .none))),none,none]:=by
  refine m8 rm _ (fun r=>⟨.leaf,.bool (AC w p ds r)⟩) (st:=true) (fg (s:=.leaf) (aw rfl) rfl) (by simp) rfl (Nat.le_trans (length_filter_le _ _) (by simp;omega)) (fun r hr=>⟨?_,rfl⟩)
  obtain ⟨h1,h2⟩:=List.mem_filter.mp hr;have h1:=List.mem_range.mp h1
  rcases hzr r h1 with e | ⟨z,e⟩
  ·rw [e] at h2;cases h2
  ·obtain ⟨o,eo,ho⟩:=yh ok (Γ:=[KZ w.enc,KZ (.int p),KZ (.list ds),KZ (aI ((List.range w.n).filter fun r=>mq (ds.getD r .none))),KZ (rm r),none]) (i:=0) (fb:=af 4) (s:=.leaf) (r:=r) rfl (aw rfl) h1
   have:AC w p ds r=(own w p r&&((w.stp r).map fun t:Nat=>(t:Int)).contains z):=by unfold AC;rw [e]
   rw [this,ho p];refine v_and (s:=.leaf) (aG eo (aw rfl) KC.eq_int) (aG (dY (j:=r) (ds:=ds) (aw rfl) (aw (d:=rm r) rfl) (qQ (by omega)) (by rw [at' r h1,e]) rfl) (Hm ok rfl (aw rfl) h1) ?_)
   rw [rms_int];exact Es
 have fl:(((List.range w.n).filter fun r=>mq (ds.getD r .none)).all (AC w p ds))=false:=by
  refine List.all_eq_false.mpr ⟨r0,List.mem_filter.mpr ⟨List.mem_range.mpr h0,by rw [e0];rfl⟩,?_⟩
  unfold AC;rw [e0];rcases xn with b | b
  ·simp [b]
  ·have:((w.stp r0).map fun t:Nat=>(t:Int)).contains z0=false:=by
    rw [<-Bool.not_eq_true,contains_iff_mem];intro h;obtain ⟨t,ht,et⟩:=List.mem_map.mp h;exact b t ht et
   simp only [this,Bool.and_false]
   simp
 have g1:=yN (xs:=(List.range w.n).filter fun r=>mq (ds.getD r .none)) (f:=AC w p ds)
 rw [fl] at g1;exact aT (ao (aO t nofun fun _=>rfl) (ao (bQ e1 rfl (by simp [aV])) (bf (cE (ax e2 ai) g1) rfl)))
end
noncomputable def Tl (r:Res) (t:Str):Prop:=(t = ""/\∃p,r=.ok p)\/∃c,r=.er c/\xcl.contains c=true/\bH c=.ok ⟨.leaf,.str t⟩
theorem Tl.o {r:Res} (h:∃p,r=.ok p):Tl r "":=.inl ⟨rfl,h⟩
theorem Tl.w {r:Res} (h:r=.er "NoWorld"):Tl r "world":=.inr ⟨_,h,by decide +kernel,rG⟩
theorem Tl.p {r:Res} (h:r=.er "NoPlayer"):Tl r "player":=.inr ⟨_,h,by decide +kernel,pq⟩
theorem Tl.r {r:Res} (h:r=.er "NoRoom"):Tl r "room":=.inr ⟨_,h,by decide +kernel,vg⟩
theorem Tl.n {r:Res} (h:r=.er "NoPlan"):Tl r "plan":=.inr ⟨_,h,by decide +kernel,vh⟩
noncomputable def fk (W P R p0 p1 p2 r:D):Nat->Res
 | 0=>dI [W,P,.list []]
 | 1=>fP [W,P,R]
 | 2=>b3 [W,P,R,.list [],.list []]
 | 3=>hV [W,P,R]
 | 4=>cA [W,P,R,wo]
 | 5=>fQ [W,P,R]
 | 6=>b6 [W,P,R,wo]
 | 7=>dJ [W,P,p0]
 | _=>cP [W,p1,p2,r]
section
variable {W S r p0 p1 p2 y:D} {t:Str}
theorem bh {k:Nat} {j:Int} {b:Bool} (hb:((k:Int)==j)=b):aR aA (aD bT (af 0) (eK (.int j))) (aV 6 [.int (k:Int),W,S,r,.list [p0,p1,p2],y])=.ok b (aV 6 [.int (k:Int),W,S,r,.list [p0,p1,p2],y]):=by
 rw [<-hb];exact eD (s:=.leaf) (aG (aw rfl) aM KC.eq_int)
theorem uN {k:Nat} (hk:k<9):∃(n:Nat) (ps:List PV) (fl:FL) (den:List D->Res),fl (aV 6 [.int (k:Int),W,S,r,.list [p0,p1,p2],y])=.ok ps (aV 6 [.int (k:Int),W,S,r,.list [p0,p1,p2],y])/\ps.length=n/\ps.all (coer .leaf)=true/\den (ps.map (·.d))=fk W S r p0 p1 p2 y k/\fz (aV 6 [.int (k:Int),W,S,r,.list [p0,p1,p2],y])=bg (dX n den fl) (aV 6 [.int (k:Int),W,S,r,.list [p0,p1,p2],y]):=by
 have ks:k=0\/k=1\/k=2\/k=3\/k=4\/k=5\/k=6\/k=7\/k=8:=by omega
 rcases ks with rfl | rfl | rfl | rfl | rfl | rfl | rfl | rfl | rfl
 ·exact ⟨3,_,ae (af 1) (ae (af 2) (ae (az .leaf ah) ah)),dI,ax (aw rfl) (ax (aw rfl) (ax (cN (s:=.leaf) ai rfl rfl rfl) ai)),rfl,rfl,rfl,aO (t:=true) (bh (by decide)) (fun _=>rfl) nofun⟩
 ·exact ⟨3,_,ae (af 1) (ae (af 2) (ae (af 3) ah)),fP,ax (aw rfl) (ax (aw rfl) (ax (aw rfl) ai)),rfl,rfl,rfl,aO (t:=false) (bh (by decide)) nofun fun _=>aO (t:=true) (bh (by decide)) (fun _=>rfl) nofun⟩
 ·exact ⟨5,_,ae (af 1) (ae (af 2) (ae (af 3) (ae (az .leaf ah) (ae (az .leaf ah) ah)))),b3,ax (aw rfl) (ax (aw rfl) (ax (aw rfl) (ax (cN (s:=.leaf) ai rfl rfl rfl) (ax (cN (s:=.leaf) ai rfl rfl rfl) ai)))),rfl,rfl,rfl,aO (t:=false) (bh (by decide)) nofun fun _=>aO (t:=false) (bh (by decide)) nofun fun _=>aO (t:=true) (bh (by decide)) (fun _=>rfl) nofun⟩
 ·exact ⟨3,_,ae (af 1) (ae (af 2) (ae (af 3) ah)),hV,ax (aw rfl) (ax (aw rfl) (ax (aw rfl) ai)),rfl,rfl,rfl,aO (t:=false) (bh (by decide)) nofun fun _=>aO (t:=false) (bh (by decide)) nofun fun _=>aO (t:=false) (bh (by decide)) nofun fun _=>aO (t:=true) (bh (by decide)) (fun _=>rfl) nofun⟩
 ·exact ⟨4,_,ae (af 1) (ae (af 2) (ae (af 3) (ae (cb (ae (az .leaf ah) (ae (az .leaf ah) (ae (az .leaf ah) (ae (az .leaf ah) ah))))) ah))),cA,ax (aw rfl) (ax (aw rfl) (ax (aw rfl) (ax (cG (ax (cN (s:=.leaf) ai rfl rfl rfl) (ax (cN (s:=.leaf) ai rfl rfl rfl) (ax (cN (s:=.leaf) ai rfl rfl rfl) (ax (cN (s:=.leaf) ai rfl rfl rfl) ai)))) rfl rfl) ai))),rfl,rfl,rfl,aO (t:=false) (bh (by decide)) nofun fun _=>aO (t:=false) (bh (by decide)) nofun fun _=>aO (t:=false) (bh (by decide)) nofun fun _=>aO (t:=false) (bh (by decide)) nofun fun _=>aO (t:=true) (bh (by decide)) (fun _=>rfl) nofun⟩
 ·exact ⟨3,_,ae (af 1) (ae (af 2) (ae (af 3) ah)),fQ,ax (aw rfl) (ax (aw rfl) (ax (aw rfl) ai)),rfl,rfl,rfl,aO (t:=false) (bh (by decide)) nofun fun _=>aO (t:=false) (bh (by decide)) nofun fun _=>aO (t:=false) (bh (by decide)) nofun fun _=>aO (t:=false) (bh (by decide)) nofun fun _=>aO (t:=false) (bh (by decide)) nofun fun _=>aO (t:=true) (bh (by decide)) (fun _=>rfl) nofun⟩
 ·exact ⟨4,_,ae (af 1) (ae (af 2) (ae (af 3) (ae (cb (ae (az .leaf ah) (ae (az .leaf ah) (ae (az .leaf ah) (ae (az .leaf ah) ah))))) ah))),b6,ax (aw rfl) (ax (aw rfl) (ax (aw rfl) (ax (cG (ax (cN (s:=.leaf) ai rfl rfl rfl) (ax (cN (s:=.leaf) ai rfl rfl rfl) (ax (cN (s:=.leaf) ai rfl rfl rfl) (ax (cN (s:=.leaf) ai rfl rfl rfl) ai)))) rfl rfl) ai))),rfl,rfl,rfl,aO (t:=false) (bh (by decide)) nofun fun _=>aO (t:=false) (bh (by decide)) nofun fun _=>aO (t:=false) (bh (by decide)) nofun fun _=>aO (t:=false) (bh (by decide)) nofun fun _=>aO (t:=false) (bh (by decide)) nofun fun _=>aO (t:=false) (bh (by decide)) nofun fun _=>aO (t:=true) (bh (by decide)) (fun _=>rfl) nofun⟩
 ·exact ⟨3,_,ae (af 1) (ae (af 2) (ae (ak (af 4) (eK (.int 0))) ah)),dJ,ax (aw rfl) (ax (aw rfl) (ax (dY (j:=0) (aw rfl) aM rfl rfl rfl) ai)),rfl,rfl,rfl,aO (t:=false) (bh (by decide)) nofun fun _=>aO (t:=false) (bh (by decide)) nofun fun _=>aO (t:=false) (bh (by decide)) nofun fun _=>aO (t:=false) (bh (by decide)) nofun fun _=>aO (t:=false) (bh (by decide)) nofun fun _=>aO (t:=false) (bh (by decide)) nofun fun _=>aO (t:=false) (bh (by decide)) nofun fun _=>aO (t:=true) (bh (by decide)) (fun _=>rfl) nofun⟩
 ·exact ⟨4,_,ae (af 1) (ae (ak (af 4) (eK (.int 1))) (ae (ak (af 4) (eK (.int 2))) (ae (af 5) ah))),cP,ax (aw rfl) (ax (dY (j:=1) (aw rfl) aM rfl rfl rfl) (ax (dY (j:=2) (aw rfl) aM rfl rfl rfl) (ax (aw rfl) ai))),rfl,rfl,rfl,aO (t:=false) (bh (by decide)) nofun fun _=>aO (t:=false) (bh (by decide)) nofun fun _=>aO (t:=false) (bh (by decide)) nofun fun _=>aO (t:=false) (bh (by decide)) nofun fun _=>aO (t:=false) (bh (by decide)) nofun fun _=>aO (t:=false) (bh (by decide)) nofun fun _=>aO (t:=false) (bh (by decide)) nofun fun _=>aO (t:=false) (bh (by decide)) nofun fun _=>rfl⟩
theorem w5 {k:Nat} (hk:k<9) (h:Tl (fk W S r p0 p1 p2 y k) t):dQ [.int (k:Int),W,S,r,.list [p0,p1,p2],y]=.ok ⟨.leaf,.str t⟩:=by
 obtain ⟨n,ps,fl,den,e1,e2,e3,e4,e5⟩:=uN (W:=W) (S:=S) (r:=r) (p0:=p0) (p1:=p1) (p2:=p2) (y:=y) hk
 have al:∀{x6 x7},ae (af 0) (ae (af 1) (ae (af 2) (ae (af 3) (ae (af 4) (ae (af 5) ah))))) [KZ (.int (k:Int)),KZ W,KZ S,KZ r,KZ (.list [p0,p1,p2]),KZ y,x6,x7]=.ok [⟨.leaf,.int (k:Int)⟩,⟨.leaf,W⟩,⟨.leaf,S⟩,⟨.leaf,r⟩,⟨.leaf,.list [p0,p1,p2]⟩,⟨.leaf,y⟩] [KZ (.int (k:Int)),KZ W,KZ S,KZ r,KZ (.list [p0,p1,p2]),KZ y,x6,x7]:=fun {x6 x7}=>ax (aw rfl) (ax (aw rfl) (ax (aw rfl) (ax (aw rfl) (ax (aw rfl) (ax (aw rfl) ai)))))
 rcases h with ⟨rfl,q,e⟩ | ⟨c,e,hc,hw⟩
 ·have a:dh [.int (k:Int),W,S,r,.list [p0,p1,p2],y]=.ok ⟨.leaf,.none⟩:=fu (Γ:=aV 6 [.int (k:Int),W,S,r,.list [p0,p1,p2],y]) (e5.trans (d7 (e7 e1 (e4.trans e) e2 e3)))
  exact aT (ao (bQ aM rfl (by simp [aV])) (ao (zb (d7 (e7 al a rfl rfl))) (bf (aw rfl) rfl)))
 ·have a:dh [.int (k:Int),W,S,r,.list [p0,p1,p2],y]=.er c:=de (e5.trans (qY (qT e1 (e4.trans e) e2)))
  exact aT (ao (bQ aM rfl (by simp [aV])) (ao (zc (qY (qT al a rfl)) hc rfl (bQ (v_res hw) rfl (by simp)) rfl) (bf (aw rfl) rfl)))
end
section
variable {w:Wd} {W P Rm p0 p1 p2:D} {r:Int} {p:Int} {c:Str}
theorem Bm (h:bo [W,P,Rm]=.er c) {k:Nat} (h1:1<=k) (hk:k<7):fk W P Rm p0 p1 p2 (.int r) k=.er c:=by
 have ks:k=1\/k=2\/k=3\/k=4\/k=5\/k=6:=by omega
 rcases ks with rfl | rfl | rfl | rfl | rfl | rfl<;>exact de (u7 (qY (qT (ax (aw rfl) (ax (aw rfl) (ax (aw rfl) ai))) h rfl)))
theorem I0 {n:Nat} {g:FS} {ds:List D} (h:aY [W]=.er "NoWorld") (e:(aV n (W::ds))[0]?=some (KZ W)):aH n (ay (bg (dX 1 aY (ae (af 0) ah))) g) (W::ds)=.er "NoWorld":=
 de (u7 (qY (qT (ax (aw e) ai) h rfl)))
theorem D5 (h:aY [W]=.er "NoWorld") {k:Nat} (hk:k<9):fk W P Rm p0 p1 p2 (.int r) k=.er "NoWorld":=by
 by_cases h7:1<=k/\k<7
 ·exact Bm (Ji h) h7.1 h7.2
 ·have ks:k=0\/k=7\/k=8:=by omega
  rcases ks with rfl | rfl | rfl<;>exact I0 h rfl
theorem D6 (ok:w.Ok) (h:bj [P]=.er "NoPlayer") {k:Nat} (hk:k<8):fk w.enc P Rm p0 p1 p2 (.int r) k=.er "NoPlayer":=by
 by_cases h7:1<=k/\k<7
 ·exact Bm (Jk ok h) h7.1 h7.2
 ·have ks:k=0\/k=7:=by omega
  rcases ks with rfl | rfl<;>exact de (ao (d7 (e7 (ax (aw rfl) ai) (rg ok) rfl rfl)) (u7 (qY (qT (ax (aw rfl) ai) h rfl))))
theorem Bj (ok:w.Ok) (hp:p=0\/p=1) (h:aB [w.enc,.int p,p0]=.ok ⟨.leaf,.bool false⟩):dJ [w.enc,.int p,p0]=.er "NoPlan":=
 de (ao (d7 (e7 (ax (aw rfl) ai) (rg ok) rfl rfl)) (ao (d7 (e7 (ax (aw rfl) ai) (Cj hp) rfl rfl)) (u7 (qY (qT (ax (aw rfl) (ax (aw rfl) (ax (aw rfl) ai))) (GJ h) rfl)))))
theorem CK (ok:w.Ok) (h:uZ w.n r=false):cP [w.enc,p1,p2,.int r]=.er "NoRoom":=
 de (ao (d7 (e7 (ax (aw rfl) ai) (rg ok) rfl rfl)) (u7 (qY (qT (ax (aw rfl) (ax (aw rfl) ai)) (uG ok h) rfl))))
theorem CM (ok:w.Ok) {a:Nat} (ha:a<w.n) (h:aB [w.enc,.int 0,p1]=.ok ⟨.leaf,.bool false⟩):cP [w.enc,p1,p2,rm a]=.er "NoPlan":=
 de (ao (d7 (e7 (ax (aw rfl) ai) (rg ok) rfl rfl)) (ao (d7 (e7 (ax (aw rfl) (ax (aw rfl) ai)) (GK ok ha) rfl rfl)) (u7 (qY (qT (ax (aw rfl) (ax aM (ax (aw rfl) ai))) (GJ h) rfl)))))
theorem CL (ok:w.Ok) {a:Nat} (ha:a<w.n) (h1:aB [w.enc,.int 0,p1]=.ok ⟨.leaf,.bool true⟩) (h:aB [w.enc,.int 1,p2]=.ok ⟨.leaf,.bool false⟩):cP [w.enc,p1,p2,rm a]=.er "NoPlan":=
 de (ao (d7 (e7 (ax (aw rfl) ai) (rg ok) rfl rfl)) (ao (d7 (e7 (ax (aw rfl) (ax (aw rfl) ai)) (GK ok ha) rfl rfl)) (ao (d7 (e7 (ax (aw rfl) (ax aM (ax (aw rfl) ai))) (E8 h1) rfl rfl)) (u7 (qY (qT (ax (aw rfl) (ax aM (ax (aw rfl) ai))) (GJ h) rfl))))))
end
section
variable {w:Wd} {q:Int}
noncomputable def bP (w:Wd) (q:Int):List (Option Nat):=(List.range w.n).map fun r=>if own w q r then some ((w.stp r).getD 0 0) else none
theorem Gp {r:Nat} (hr:r<w.n):aQ (bP w q) r=if own w q r then some ((w.stp r).getD 0 0) else none:=by
 unfold aQ bP;rw [KM,getElem?_map,getElem?_range hr];rfl
theorem Er (ok:w.Ok):iW w q (bP w q):=by
 refine ⟨by simp [bP],fun r t hr e=>?_⟩
 rw [Gp hr] at e;by_cases h:own w q r=true
 ·rw [if_pos h] at e
  cases e;refine ⟨h,?_⟩
  cases es:w.stp r with
  | nil=>exact absurd es (ok.stp_ne hr)
  | cons a l=>simp
 ·rw [if_neg h] at e
  cases e
theorem wj {r:Nat} (ok:w.Ok) (hr:r<w.n):own w 0 r=!own w 1 r:=by
 obtain ⟨o,hoo,a0,ho⟩:=ok.o_at hr;rw [ho 0,ho 1];rcases hoo with rfl | rfl<;>rfl
theorem wt (ok:w.Ok):∀x,x<w.n->iC (bP w 0) (bP w 1) x≠none:=fun x hx=>by
 unfold iC;rw [Gp hx,Gp hx,wj ok hx]
 cases own w 1 x<;>simp
end
theorem vw {l:List D}:T.cutD l none (some (-1))=l.take (l.length-1):=by
 unfold T.cutD;rw [HT.sIx_none,List.drop_zero,Nat.sub_zero];rw [show (-1:Int)=-((1:Nat):Int) from rfl,vy (by omega)]
theorem oj:∀{xs:List D},RowI xs->∃ts:List Int,xs=ts.map .int
 | [],_=>⟨[],rfl⟩
 | x::r,h=>by
  obtain ⟨n,hn⟩:=h x (by simp)
  obtain ⟨ts,e⟩:=oj (xs:=r) fun a ha=>h a (by simp [ha])
  exact ⟨n::ts,by rw [hn,e];rfl⟩
theorem tY {k:Int}:∀{ns:List Int},ns.contains k=true->∃j,mh k ns=some j
 | [],h=>by simp at h
 | n::r,h=>by
  unfold mh;by_cases e:n=k
  ·exact ⟨0,by rw [if_pos e]⟩
  ·rw [if_neg e]
   obtain ⟨j,hj⟩:=tY (k:=k) (ns:=r) (by
    have:k=n\/k∈r:=by simpa using h
    rcases this with z | z
    ·exact absurd z.symm e
    ·simpa using z)
   exact ⟨j+1,by rw [hj];rfl⟩
theorem CQ {fa fb:F1} {Γ:Ev} {ts:List Int} {k:Int} {j:Nat} {s:Sh} (ha:fa Γ=.ok ⟨.leaf,.list (ts.map .int)⟩ Γ) (hb:fb Γ=.ok ⟨s,.int k⟩ Γ) (hj:mh k ts=some j):nJ fa fb Γ=.ok ⟨.leaf,.int (j:Nat)⟩ Γ:=by
 unfold nJ aU;rw [ha];simp only [Out.bind]
 rw [if_pos (show wG ⟨.leaf,.list (ts.map .int)⟩=true from rfl),hb];unfold AQ;simp only [iH,hj]
theorem sk {m:Nat} {d:D}:(List.replicate (m:Int).toNat [d]).flatten=List.replicate m d:=by
 rw [Int.toNat_natCast];induction m with
 | zero=>rfl
 | succ m ih=>rw [replicate_succ,flatten_cons,ih,replicate_succ];rfl
noncomputable abbrev kZ (w:Wd) (q:Int) (pl:D) (c n f:Int) (L:List D) (x7:Option PV):Ev:=[KZ w.enc,KZ (.int q),KZ pl,KZ (.int c),KZ (.int n),KZ (.int f),some ⟨.lst .leaf,.list L⟩,x7]
theorem HB {w:Wd} {q:Int} (ok:w.Ok) (hq:q=0\/q=1) {c:Int}:∃P,bJ [w.enc,.int q,aW (bP w q),.int c]=.ok ⟨.leaf,P⟩/\aB [w.enc,.int q,P]=.ok ⟨.leaf,.bool false⟩:=by
 have h1:=ok.h1
 have h24:=ok.h24
 obtain ⟨f,df,f0,f1⟩:=G9 (c:=c) (k:=20) (b:=1000000000) (by omega) (by omega) (by omega) (by omega)
 have d21:=xE (c:=c) (k:=21) (b:=60) (by omega) (by omega) (by omega) (by omega)
 have i21:=Cm (c:=c) (k:=21) (b:=60) (by omega) (by omega) (by omega) (by omega)
 have hz:∀d∈(bP w q).map oD,d=.none\/∃z,d=.int z:=fun d hd=>by
  obtain ⟨o,_,rfl⟩:=List.mem_map.mp hd
  cases o with
  | none=>exact .inl rfl
  | some t=>exact .inr ⟨_,rfl⟩
 have hlen:((bP w q).map oD).length=w.n:=by simp [bP]
 show ∃P,bJ [w.enc,.int q,.list ((bP w q).map oD),.int c]=.ok ⟨.leaf,P⟩/\_
 generalize (bP w q).map oD=ds at hz hlen
 let L4:List D:=[.list (ds.take (ds.length-1)),.list (ds++[.none]),.list ([.int ((w.n:Int)+f)]++ds.drop 1),.list ([.int (-1-f)]++ds.drop 1)]
 have off:∀z:Int,(z<0\/(w.n:Int)<=z)->aB [w.enc,.int q,.list ([.int z]++ds.drop 1)]=.ok ⟨.leaf,.bool false⟩:=fun z hzz=>
  ub ok (by simp;omega) (fun d hd=>by
   rcases KI hd with h | h
   ·exact .inr ⟨z,by simpa using h⟩
   ·exact hz d (List.mem_of_mem_drop h)) (r0:=0) (by omega) (z0:=z) rfl (.inr fun t ht=>by
   have:=ok.stp_lt ht
   omega)
 have b4:∀P∈L4,aB [w.enc,.int q,P]=.ok ⟨.leaf,.bool false⟩:=fun P hP=>by
  have hP:P=.list (ds.take (ds.length-1))\/P=.list (ds++[.none])\/P=.list ([.int ((w.n:Int)+f)]++ds.drop 1)\/P=.list ([.int (-1-f)]++ds.drop 1):=by simpa [L4] using hP
  rcases hP with rfl | rfl | rfl | rfl
  ·exact EG ok (by simp;omega)
  ·exact EG ok (by simp;omega)
  ·exact off _ (.inr (by omega))
  ·exact off _ (.inl (by omega))
 have s4:aC false 4 (bG bt (ae (af 2) ah)) (aV 8 [w.enc,.int q,.list ds,.int c])=.nx [KZ w.enc,KZ (.int q),KZ (.list ds),KZ (.int c),KZ (.int (w.n:Int)),none,none,none]:=by
  rw [<-hlen];exact bQ (cE (g:=bt) (d:=.int (ds.length:Int)) (ax (aw rfl) ai) rfl) rfl (by simp [aV])
 have s5:aC false 5 (av 3 aq (ae (af 3) (ae (eK (.int 20)) (ae (aD jw (eK (.int 10)) (eK (.int 9))) ah)))) [KZ w.enc,KZ (.int q),KZ (.list ds),KZ (.int c),KZ (.int (w.n:Int)),none,none,none]=.nx [KZ w.enc,KZ (.int q),KZ (.list ds),KZ (.int c),KZ (.int (w.n:Int)),KZ (.int f),none,none]:=
  bQ (i:=5) (p:=⟨.leaf,.int f⟩) (Γ1:=[KZ w.enc,KZ (.int q),KZ (.list ds),KZ (.int c),KZ (.int (w.n:Int)),none,none,none]) (bY (ax (aw rfl) (ax aM (ax (aG aM aM (lR (b:=9) (by omega) (by omega))) ai))) (by exact df) rfl rfl) rfl (by simp)
 have sb:gSub (.int (-1)) (.int f)=some (.int (-1-f)):=KC.sub_int'
 have q1:=ia (g:=fun k=>(none,some k)) (Γ:=[KZ w.enc,KZ (.int q),KZ (.list ds),KZ (.int c),KZ (.int (w.n:Int)),KZ (.int f),none,none]) (fa:=af 2) (fb:=eU cU (eK (.int 1))) (k:=-1) (aw rfl) (xT (g:=cU) (aM (d:=.int 1)) (d:=.int (-1)) rfl) rfl
 have q2:=ia (g:=fun k=>(some k,none)) (Γ:=[KZ w.enc,KZ (.int q),KZ (.list ds),KZ (.int c),KZ (.int (w.n:Int)),KZ (.int f),none,none]) (fa:=af 2) (fb:=eK (.int 1)) (k:=((1:Nat):Int)) (aw rfl) aM rfl
 simp only at q1 q2
 rw [vw] at q1;rw [Gu] at q2;have s6:aC true 6 (az .leaf (ae (dk (fun k=>(none,some k)) (af 2) (eU cU (eK (.int 1)))) (ae (bF (af 2) (az .leaf (ae (eK .none) ah))) (ae (bF (az .leaf (ae (aD aN (af 4) (af 5)) ah)) (dk (fun k=>(some k,none)) (af 2) (eK (.int 1)))) (ae (bF (az .leaf (ae (aD gSub (eU cU (eK (.int 1))) (af 5)) ah)) (dk (fun k=>(some k,none)) (af 2) (eK (.int 1)))) ah))))) [KZ w.enc,KZ (.int q),KZ (.list ds),KZ (.int c),KZ (.int (w.n:Int)),KZ (.int f),none,none]=.nx (kZ w q (.list ds) c w.n f L4 none):=
  yM (cN (s:=.leaf) (ax q1 (ax (cQ (fa:=af 2) (s:=.leaf) (xs:=ds) (aw rfl) (cN (s:=.leaf) (ax (aM (d:=.none)) ai) rfl rfl rfl) rfl rfl (by simp;omega)) (ax (cQ (xs:=[.int ((w.n:Int)+f)]) (cN (s:=.leaf) (ax (aG (g:=aN) (aw (i:=4) rfl) (aw (i:=5) rfl) KC.add_int') ai) rfl rfl rfl) q2 rfl rfl (by simp;omega)) (ax (cQ (xs:=[.int (-1-f)]) (cN (s:=.leaf) (ax (aG (xT (g:=cU) (aM (d:=.int 1)) (d:=.int (-1)) rfl) (aw (i:=5) rfl) sb) ai) rfl rfl rfl) q2 rfl rfl (by simp;omega)) ai)))) rfl rfl rfl) rfl (by simp)
 have fin:∀(L:List D) (x7:Option PV),(∀P∈L,aB [w.enc,.int q,P]=.ok ⟨.leaf,.bool false⟩)->1<=L.length->∃P,ba (fy 6 (aD dv (av 3 aq (ae (af 3) (ae (eK (.int 21)) (ae (eK (.int 60)) ah)))) (bG bt (ae (af 6) ah)))) (kZ w q (.list ds) c w.n f L x7)=.rt ⟨.leaf,P⟩/\aB [w.enc,.int q,P]=.ok ⟨.leaf,.bool false⟩:=fun L x7 hL hne=>by
  have md:dv (.int (dq c 21 60)) (.int (L.length:Int))=some (.int (((dq c 21 60).toNat % L.length:Nat):Int)):=by
   rw [cT (by omega),Int.natCast_emod,Int.toNat_of_nonneg i21.1]
  have lt:(dq c 21 60).toNat % L.length<L.length:=Nat.mod_lt _ (by omega)
  generalize (dq c 21 60).toNat % L.length=k at md lt
  exact ⟨L.getD k .none,bf (EA rfl (aG (bY (ax (aw rfl) (ax aM (ax aM ai))) d21 rfl rfl) (cE (g:=bt) (d:=.int (L.length:Int)) (ax (xU rfl) ai) rfl) md) (qQ lt) (BG lt)) rfl,hL _ (getD_mem lt)⟩
 obtain ⟨ts,ets⟩:=oj (ok.g.wk (b:=24) h24).o
 have tl:ts.length=w.n:=by have:=ok.g.lo;rw [ets,length_map] at this;exact this
 have i0:∀x7,ak (af 0) (eK (.int 0)) (kZ w q (.list ds) c w.n f L4 x7)=.ok ⟨.leaf,.list (ts.map .int)⟩ (kZ w q (.list ds) c w.n f L4 x7):=fun x7=>by
  rw [<-ets];exact gJ (j:=0) (aw rfl) aM rfl rfl rfl
 have sq:gSub (.int 1) (.int q)=some (.int (1-q)):=KC.sub_int'
 have t:=eD (s:=.leaf) (aG (g:=cW false) (aG (Γ:=kZ w q (.list ds) c w.n f L4 none) (aM (d:=.int 1)) (aw (i:=1) rfl) sq) (i0 none) Es)
 cases hc:ts.contains (1-q) with
 | false=>
  rw [hc] at t;obtain ⟨P,e,b⟩:=fin L4 none b4 (show 1<=4 by omega)
  exact ⟨P,aT (ao s4 (ao s5 (ao s6 (ao (aO t nofun fun _=>rfl) e)))),b⟩
 | true=>
  rw [hc] at t;obtain ⟨j,hj⟩:=tY hc;obtain ⟨a1,a2⟩:=Eu hj;have jn:j<w.n:=by
   have:=(KP a1).1
   omega
  have s7:aC false 7 (nJ (ak (af 0) (eK (.int 0))) (aD gSub (eK (.int 1)) (af 1))) (kZ w q (.list ds) c w.n f L4 none)=.nx (kZ w q (.list ds) c w.n f L4 (KZ (rm j))):=by
   refine bQ (i:=7) (p:=⟨.leaf,rm j⟩) (Γ1:=kZ w q (.list ds) c w.n f L4 none) ?_ rfl (by simp)
   exact CQ (i0 none) (aG (aM (d:=.int 1)) (aw (i:=1) rfl) sq) hj
  obtain ⟨y,ys,ey⟩:∃y ys,w.stp j=y::ys:=by
   cases h:w.stp j with
   | nil=>exact absurd h (ok.stp_ne jn)
   | cons y ys=>exact ⟨y,ys,rfl⟩
  have st:ak (ak (ak (af 0) (eK (.int 2))) (af 7)) (eK (.int 0)) (kZ w q (.list ds) c w.n f L4 (KZ (rm j)))=.ok ⟨.leaf,rm y⟩ (kZ w q (.list ds) c w.n f L4 (KZ (rm j))):=
   dY (j:=0) (ds:=(w.stp j).map rm) (Hm ok rfl (aw rfl) jn) aM (qQ (k:=0) (by rw [ey];simp)) (by rw [ey];rfl) rfl
  have rep:∀(m:Nat) (fb:F1),m<=24->fb (kZ w q (.list ds) c w.n f L4 (KZ (rm j)))=.ok ⟨.leaf,.int (m:Int)⟩ (kZ w q (.list ds) c w.n f L4 (KZ (rm j)))->d8 (az .leaf (ae (eK .none) ah)) fb (kZ w q (.list ds) c w.n f L4 (KZ (rm j)))=.ok ⟨.lst .leaf,.list (List.replicate m .none)⟩ (kZ w q (.list ds) c w.n f L4 (KZ (rm j))):=fun m fb hm h=>by
   have:=rR (k:=(m:Int)) (ds:=[.none]) (cN (s:=.leaf) (ax (aM (d:=.none)) ai) rfl rfl rfl) h (by omega) (by omega) (by simp;omega)
   rw [this,sk]
  have b7:aD gSub (aD gSub (af 4) (af 7)) (eK (.int 1)) (kZ w q (.list ds) c w.n f L4 (KZ (rm j)))=.ok ⟨.leaf,.int ((w.n-j-1:Nat):Int)⟩ (kZ w q (.list ds) c w.n f L4 (KZ (rm j))):=by
   have:=aG (g:=gSub) (aG (g:=gSub) (Γ:=kZ w q (.list ds) c w.n f L4 (KZ (rm j))) (aw (i:=4) rfl) (aw (i:=7) (d:=rm j) rfl) KC.sub_int') (aM (d:=.int 1)) KC.sub_int'
   rw [this];congr 3
   omega
  let P5:List D:=List.replicate j .none++[rm y]++List.replicate (w.n-j-1) .none
  have ap:=CC (i:=6) (s:=.leaf) (ds:=L4) (Γ:=kZ w q (.list ds) c w.n f L4 (KZ (rm j))) rfl (cQ (cQ (xs:=List.replicate j .none) (rep j (af 7) (by omega) (aw rfl)) (cN (s:=.leaf) (ax st ai) rfl rfl rfl) rfl rfl (by simp;omega)) (rep (w.n-j-1) _ (by omega) b7) rfl rfl (by simp;omega)) rfl (show 4<=900 by omega)
  have b5:aB [w.enc,.int q,.list P5]=.ok ⟨.leaf,.bool false⟩:=by
   refine ub ok (by simp [P5];omega) (fun d hd=>?_) (r0:=j) jn (z0:=(y:Int)) ?_ (.inl ?_)
   ·rcases KI hd with h | h
    ·rcases KI h with h | h
     ·exact .inl (List.eq_of_mem_replicate h)
     ·exact .inr ⟨(y:Int),by simpa using h⟩
    ·exact .inl (List.eq_of_mem_replicate h)
   ·show (P5).getD j .none=_
    show (List.replicate j PyData.none++[rm y]++List.replicate (w.n-j-1) PyData.none).getD j .none=_
    rw [KM,append_assoc,getElem?_append_right (by simp)]
    simp
   ·obtain ⟨o,hoo,a0,ho⟩:=ok.o_at jn
    rw [ho q];have e1:eY w.os (j:Int)=some (.int (1-q)):=by
     rw [ets];refine yI ?_
     rw [getElem?_map,a1];rfl
    rw [a0] at e1
    cases e1;simp
    omega
  obtain ⟨P,e,b⟩:=fin (L4++[PyData.list P5]) (KZ (rm j)) (fun P hP=>by
   rcases KI hP with h | h
   ·exact b4 P h
   ·rw [List.mem_singleton.mp h];exact b5) (by simp)
  exact ⟨P,aT (ao s4 (ao s5 (ao s6 (ao (aO t (fun _=>ao s7 ap) nofun) e)))),b⟩
noncomputable def o7 (a b c d e:Bool):Str:=if a then "world" else if b then "player" else if c then "room" else if d then "room" else if e then "plan" else ""
theorem zA (a b c d e:Bool):shaped (.str (o7 a b c d e))=true:=by cases a<;>cases b<;>cases c<;>cases d<;>cases e<;>decide +kernel
section
variable {w:Wd} {W Rm p0 p1 p2:D} {r p pl:Int} {m0 m1 m2 m3 m4:Bool}
theorem CV (ok:w.Ok) (hl:pl=0\/pl=1) (hW1:m0=true->aY [W]=.er "NoWorld") (hW0:m0=false->W=w.enc) (hP1:m1=true->bj [.int p]=.er "NoPlayer") (hP0:m1=false->p=pl) (hR1:m2=true->bz [w.enc,Rm]=.er "NoRoom") (hR0:m2=false->Rm=aI (List.range w.n)) (hr1:m3=true->uZ w.n r=false) (hr0:m3=false->r=0) (hn0:m4=false->p0=aW (bP w pl)/\p1=aW (bP w 0)/\p2=aW (bP w 1)) (hn1:m4=true->aB [w.enc,.int pl,p0]=.ok ⟨.leaf,.bool false⟩/\(aB [w.enc,.int 0,p1]=.ok ⟨.leaf,.bool false⟩\/(aB [w.enc,.int 0,p1]=.ok ⟨.leaf,.bool true⟩/\aB [w.enc,.int 1,p2]=.ok ⟨.leaf,.bool false⟩))) {k:Nat} (hk:k<9):Tl (fk W (.int p) Rm p0 p1 p2 (.int r) k) (o7 m0 (m1&&decide ((k:Int)<8)) (m2&&(decide ((0:Int)<(k:Int))&&decide ((k:Int)<7))) (m3&&((k:Int)==8)) (m4&&decide ((6:Int)<(k:Int)))):=by
 cases m0 with
 | true=>exact Tl.w (D5 (hW1 rfl) hk)
 | false=>
  have:=hW0 rfl
  subst this;by_cases k8:k=8
  ·subst k8
   have e1:(m1&&decide (((8:Nat):Int)<8))=false:=by simp
   have e2:(m2&&(decide ((0:Int)<((8:Nat):Int))&&decide (((8:Nat):Int)<7)))=false:=by simp
   rw [e1,e2]
   cases m3 with
   | true=>exact Tl.r (CK ok (hr1 rfl))
   | false=>
    have:=hr0 rfl
    subst this
    cases m4 with
    | true=>
     rcases (hn1 rfl).2 with h | ⟨h,h'⟩
     ·exact Tl.n (CM ok (a:=0) ok.h1 h)
     ·exact Tl.n (CL ok (a:=0) ok.h1 h h')
    | false=>
     obtain ⟨_,rfl,rfl⟩:=hn0 rfl;obtain ⟨F,R,e,_⟩:=yS ok (Er ok) (Er ok) (r:=0) ok.h1 (wt ok)
     exact Tl.o ⟨_,e⟩
  ·have e1:decide ((k:Int)<8)=true:=decide_eq_true (by omega)
   have e2:((k:Int)==8)=false:=by simp;omega
   rw [e1,e2,Bool.and_true,Bool.and_false]
   cases m1 with
   | true=>exact Tl.p (D6 ok (hP1 rfl) (by omega))
   | false=>
    have:=hP0 rfl
    subst this;by_cases k7:k=7
    ·subst k7
     have e3:(m2&&(decide ((0:Int)<((7:Nat):Int))&&decide (((7:Nat):Int)<7)))=false:=by simp
     rw [e3]
     cases m4 with
     | true=>exact Tl.n (Bj ok hl (hn1 rfl).1)
     | false=>
      obtain ⟨rfl,_,_⟩:=hn0 rfl;exact Tl.o ⟨_,yW ok hl (Er ok)⟩
    ·have e4:decide ((6:Int)<(k:Int))=false:=decide_eq_false (by omega)
     rw [e4,Bool.and_false];by_cases k0:k=0
     ·subst k0
      have e5:(m2&&(decide ((0:Int)<((0:Nat):Int))&&decide (((0:Nat):Int)<7)))=false:=by simp
      rw [e5];exact Tl.o (yV ok hl)
     ·have e6:(decide ((0:Int)<(k:Int))&&decide ((k:Int)<7))=true:=by rw [decide_eq_true (by omega),decide_eq_true (by omega)];rfl
      rw [e6,Bool.and_true]
      cases m2 with
      | true=>exact Tl.r (Bm (Jj ok hl (hR1 rfl)) (by omega) (by omega))
      | false=>
       have:=hR0 rfl
       subst this;have ks:k=1\/k=2\/k=3\/k=4\/k=5\/k=6:=by omega
       rcases ks with rfl | rfl | rfl | rfl | rfl | rfl
       ·exact Tl.o (yY ok hl)
       ·exact Tl.o (yX ok hl)
       ·exact Tl.o (yU ok hl)
       ·exact Tl.o (yT ok hl)
       ·exact Tl.o (y0 ok hl)
       ·exact Tl.o (yZ ok hl)
end
noncomputable abbrev B8 (m0 m1 m2 m3 m4:Bool):D:=.list [.bool m0,.bool m1,.bool m2,.bool m3,.bool m4]
noncomputable abbrev dF (xs:List D) (W:D) (n c:Int) (m0 m1 m2 m3 m4:Bool) (f:Int) (P F:D) (x8:PV) (R r:D) (x11 x12 x13:Option PV):Ev:=[KZ (.list xs),KZ W,KZ (.int n),KZ (.int c),KZ (B8 m0 m1 m2 m3 m4),KZ (.int f),KZ P,KZ F,some x8,KZ R,KZ r,x11,x12,x13,none,none]
section
variable {Γ:Ev}
theorem Cq {b:Bool} {x:Str} {fb:F1} (h:fb Γ=.ok ⟨.leaf,.int (if b then 1 else 0)⟩ Γ):d8 (az .leaf (ae (eK (.str x)) ah)) fb Γ=.ok ⟨.lst .leaf,.list (if b then [.str x] else [])⟩ Γ:=by
 cases b with
 | true=>exact rR (k:=1) (cN (s:=.leaf) (ax aM ai) rfl rfl rfl) h (by omega) (by omega) (by simp)
 | false=>exact rR (k:=0) (cN (s:=.leaf) (ax aM ai) rfl rfl rfl) h (by omega) (by omega) (by simp)
theorem Et {a b:Bool} {fa fb:F1} (ha:fa Γ=.ok ⟨.leaf,.bool a⟩ Γ) (hb:fb Γ=.ok ⟨.leaf,.bool b⟩ Γ):bG cV (ae (cF fa fb) ah) Γ=.ok ⟨.leaf,.int (if (a&&b) then 1 else 0)⟩ Γ:=
 cE (g:=cV) (ax (v_and (s:=.leaf) ha hb) ai) (by cases (a&&b)<;>rfl)
theorem DE {a:Bool} {fa:F1} (ha:fa Γ=.ok ⟨.leaf,.bool a⟩ Γ):bG cV (ae fa ah) Γ=.ok ⟨.leaf,.int (if a then 1 else 0)⟩ Γ:=cE (g:=cV) (ax ha ai) (by cases a<;>rfl)
end
theorem IX (a b c d e:Bool):((if a then [PyData.str "world"] else [])++(if b then [.str "player"] else [])++(if c then [.str "room"] else [])++(if d then [.str "room"] else [])++(if e then [.str "plan"] else [])++[.str ""])[0]?=some (.str (o7 a b c d e)):=by
 cases a<;>cases b<;>cases c<;>cases d<;>cases e<;>rfl
theorem l1 {b:Bool} {x:Str}:(if b then [PyData.str x] else []).length<=1:=by cases b<;>simp
noncomputable abbrev C5:FS:=(ay (aC false 13 (bF (bF (d8 (az .leaf (ae (eK (.str "world")) ah)) (bG cV (ae (ak (af 4) (eK (.int 0))) ah))) (d8 (az .leaf (ae (eK (.str "player")) ah)) (bG cV (ae (cF (ak (af 4) (eK (.int 1))) (aD eN (af 11) (eK (.int 8)))) ah)))) (d8 (az .leaf (ae (eK (.str "room")) ah)) (bG cV (ae (cF (ak (af 4) (eK (.int 2))) (mX eN eN (eK (.int 0)) (af 11) (eK (.int 7)))) ah)))))
  (ay (aC false 13 (bF (bF (bF (af 13) (d8 (az .leaf (ae (eK (.str "room")) ah)) (bG cV (ae (cF (ak (af 4) (eK (.int 3))) (aD bT (af 11) (eK (.int 8)))) ah)))) (d8 (az .leaf (ae (eK (.str "plan")) ah)) (bG cV (ae (cF (ak (af 4) (eK (.int 4))) (aD nG (af 11) (eK (.int 6)))) ah)))) (az .leaf (ae (eK (.str "")) ah))))
  (b2 (aR aA (aD fN (av 6 dQ (ae (af 11) (ae (af 1) (ae (af 6) (ae (af 9) (ae (af 8) (ae (af 10) ah))))))) (ak (af 13) (eK (.int 0))))) (ba (eK (.bool false))) aS)))
theorem zj {xs:List D} {W P F R r p0 p1 p2:D} {n c f:Int} {m0 m1 m2 m3 m4:Bool} {k:Nat} (hk:k<9) (h:Tl (fk W P R p0 p1 p2 r k) (o7 m0 (m1&&decide ((k:Int)<8)) (m2&&(decide ((0:Int)<(k:Int))&&decide ((k:Int)<7))) (m3&&((k:Int)==8)) (m4&&decide ((6:Int)<(k:Int))))) {x12 x13:Option PV}:∃y13,C5 (dF xs W n c m0 m1 m2 m3 m4 f P F ⟨.leaf,.list [p0,p1,p2]⟩ R r (KZ (rm k)) x12 x13)=.nx (dF xs W n c m0 m1 m2 m3 m4 f P F ⟨.leaf,.list [p0,p1,p2]⟩ R r (KZ (rm k)) x12 y13):=by
 have i1:∀y,bG cV (ae (ak (af 4) (eK (.int 0))) ah) (dF xs W n c m0 m1 m2 m3 m4 f P F ⟨.leaf,.list [p0,p1,p2]⟩ R r (KZ (rm k)) x12 y)=_:=fun y=>DE (dY (j:=0) (aw rfl) aM rfl rfl rfl)
 have i2:∀y,bG cV (ae (cF (ak (af 4) (eK (.int 1))) (aD eN (af 11) (eK (.int 8)))) ah) (dF xs W n c m0 m1 m2 m3 m4 f P F ⟨.leaf,.list [p0,p1,p2]⟩ R r (KZ (rm k)) x12 y)=_:=fun y=>Et (dY (j:=1) (aw rfl) aM rfl rfl rfl) (aG (aw (d:=rm k) rfl) aM KC.lt_int)
 have i3:∀y,bG cV (ae (cF (ak (af 4) (eK (.int 2))) (mX eN eN (eK (.int 0)) (af 11) (eK (.int 7)))) ah) (dF xs W n c m0 m1 m2 m3 m4 f P F ⟨.leaf,.list [p0,p1,p2]⟩ R r (KZ (rm k)) x12 y)=_:=fun y=>Et (dY (j:=2) (aw rfl) aM rfl rfl rfl) (G0 (b:=decide ((0:Int)<(k:Int))) (b':=decide ((k:Int)<7)) (g:=eN) (g':=eN) aM (aw (d:=rm k) rfl) KC.lt_int rfl aM KC.lt_int)
 have i4:∀y,bG cV (ae (cF (ak (af 4) (eK (.int 3))) (aD bT (af 11) (eK (.int 8)))) ah) (dF xs W n c m0 m1 m2 m3 m4 f P F ⟨.leaf,.list [p0,p1,p2]⟩ R r (KZ (rm k)) x12 y)=_:=fun y=>Et (dY (j:=3) (aw rfl) aM rfl rfl rfl) (aG (aw (d:=rm k) rfl) aM KC.eq_int)
 have i5:∀y,bG cV (ae (cF (ak (af 4) (eK (.int 4))) (aD nG (af 11) (eK (.int 6)))) ah) (dF xs W n c m0 m1 m2 m3 m4 f P F ⟨.leaf,.list [p0,p1,p2]⟩ R r (KZ (rm k)) x12 y)=_:=fun y=>Et (b:=decide ((6:Int)<(k:Int))) (dY (j:=4) (aw rfl) aM rfl rfl rfl) (aG (g:=nG) (aw (d:=rm k) rfl) aM rfl)
 have hh:=IX m0 (m1&&decide ((k:Int)<8)) (m2&&(decide ((0:Int)<(k:Int))&&decide ((k:Int)<7))) (m3&&((k:Int)==8)) (m4&&decide ((6:Int)<(k:Int)))
 generalize (m1&&decide ((k:Int)<8))=b at h hh i2
 generalize (m2&&(decide ((0:Int)<(k:Int))&&decide ((k:Int)<7)))=c' at h hh i3
 generalize (m3&&((k:Int)==8))=d at h hh i4
 generalize (m4&&decide ((6:Int)<(k:Int)))=e at h hh i5
 have la:=l1 (b:=m0) (x := "world")
 have lb:=l1 (b:=b) (x := "player")
 have lc:=l1 (b:=c') (x := "room")
 have ld:=l1 (b:=d) (x := "room")
 have le:=l1 (b:=e) (x := "plan")
 have ct1:=cQ (cQ (Cq (x := "world") (i1 x13)) (Cq (x := "player") (i2 x13)) rfl rfl (by omega)) (Cq (x := "room") (i3 x13)) rfl rfl (by rw [length_append];omega)
 have q1:=bQ (i:=13) ct1 rfl (by simp)
 generalize hL:(if m0 then [PyData.str "world"] else [])++(if b then [PyData.str "player"] else [])++(if c' then [PyData.str "room"] else [])=L at hh q1
 have lL:L.length<=3:=by rw [<-hL,length_append,length_append];omega
 have ct2:=cQ (cQ (cQ (fa:=af 13) (s:=.leaf) (xs:=L) (aw rfl) (Cq (x := "room") (i4 (KZ (.list L)))) rfl rfl (by omega)) (Cq (x := "plan") (i5 (KZ (.list L)))) rfl rfl (by rw [length_append];omega)) (cN (s:=.leaf) (ax (aM (d:=.str "")) ai) rfl rfl rfl) rfl rfl (by rw [length_append,length_append];simp;omega)
 have q2:=bQ (i:=13) ct2 rfl (by simp)
 generalize hZ:L++(if d then [PyData.str "room"] else [])++(if e then [PyData.str "plan"] else [])++[PyData.str ""]=Z at hh
 have zl:0<Z.length:=by rw [<-hZ,length_append];exact Nat.lt_of_lt_of_le (by decide:0<1) (Nat.le_add_left 1 _)
 refine ⟨some ⟨.leaf,.list Z⟩,ao (Γ1:=dF xs W n c m0 m1 m2 m3 m4 f P F ⟨.leaf,.list [p0,p1,p2]⟩ R r (KZ (rm k)) x12 (KZ (.list L))) q1 (ao (Γ1:=dF xs W n c m0 m1 m2 m3 m4 f P F ⟨.leaf,.list [p0,p1,p2]⟩ R r (KZ (rm k)) x12 (KZ (.list Z))) (by rw [<-hZ];exact q2) ?_)⟩
 exact aO (t:=false) (eD (s:=.leaf) (aG (bY (ax (aw rfl) (ax (aw rfl) (ax (aw rfl) (ax (aw rfl) (ax (aw rfl) (ax (aw rfl) ai)))))) (w5 hk h) rfl rfl) (dY (j:=0) (aw rfl) aM (qQ (k:=0) zl) hh rfl) (tO (zA _ _ _ _ _)))) nofun fun _=>rfl
theorem Hl {l:List Nat}:RowI (l.map rm):=fun a ha=>by
 obtain ⟨x,_,e⟩:=List.mem_map.mp ha;exact ⟨_,e.symm⟩
theorem Hk {a b:List D} (ha:RowI a) (hb:RowI b):RowI (a++b):=fun x hx=>(KI hx).elim (ha x) (hb x)
theorem lT {i:Int}:RowI [.int i]:=fun a h=>⟨i,by simpa using h⟩
theorem CT {i j:Int}:RowI [.int i,.int j]:=fun a h=>by
 rcases KJ h with h | h
 ·exact ⟨i,h⟩
 ·exact ⟨j,by simpa using h⟩
section
variable {xs:List D} {W P F R r:D} {n c f:Int} {m0 m1 m2 m3 m4:Bool} {x8:PV} {x12:Option PV}
noncomputable abbrev Kr:FS:=b2 (aR br (ak (af 4) (eK (.int 1)))) (aC false 6 (ak (az .leaf (ae (aD gSub (eU cU (eK (.int 1))) (af 5)) (ae (aD aN (eK (.int 2)) (af 5)) ah))) (av 3 aq (ae (af 3) (ae (eK (.int 8)) (ae (eK (.int 2)) ah)))))) aS
theorem stp {pl:Int} (hf:0<=f):∃p':Int,Kr (dF xs W n c m0 m1 m2 m3 m4 f (.int pl) F x8 R r none x12 none)=.nx (dF xs W n c m0 m1 m2 m3 m4 f (.int p') F x8 R r none x12 none)/\(m1=true->bj [.int p']=.er "NoPlayer")/\(m1=false->p'=pl):=by
 have t:aR br (ak (af 4) (eK (.int 1))) (dF xs W n c m0 m1 m2 m3 m4 f (.int pl) F x8 R r none x12 none)=.ok m1 (dF xs W n c m0 m1 m2 m3 m4 f (.int pl) F x8 R r none x12 none):=dN (s:=.leaf) (dY (j:=1) (aw rfl) aM rfl rfl rfl)
 cases m1 with
 | false=>exact ⟨pl,aO t nofun fun _=>rfl,nofun,fun _=>rfl⟩
 | true=>
  obtain ⟨j,hj,ej⟩:=qv (c:=c) (k:=8) (b:=2) (by omega) (by omega) (by omega) (by omega)
  have sb:gSub (.int (-1)) (.int f)=some (.int (-1-f)):=KC.sub_int'
  have l:=cN (s:=.leaf) (Γ:=dF xs W n c m0 true m2 m3 m4 f (.int pl) F x8 R r none x12 none) (ax (aG (xT (g:=cU) (aM (d:=.int 1)) (d:=.int (-1)) rfl) (aw (i:=5) rfl) sb) (ax (aG (g:=aN) (aM (d:=.int 2)) (aw (i:=5) rfl) KC.add_int') ai)) rfl rfl rfl
  have dd:=bY (n:=3) (Γ:=dF xs W n c m0 true m2 m3 m4 f (.int pl) F x8 R r none x12 none) (ax (aw (i:=3) rfl) (ax aM (ax aM ai))) ej rfl rfl
  match j,hj,dd with
  | 0,_,dd=>exact ⟨-1-f,aO t (fun _=>bQ (dY (j:=0) l dd rfl rfl rfl) rfl (by simp)) nofun,(fun _=>uH (.inl (by omega))),nofun⟩
  | 1,_,dd=>exact ⟨2+f,aO t (fun _=>bQ (dY (j:=1) l dd rfl rfl rfl) rfl (by simp)) nofun,(fun _=>uH (.inr (by omega))),nofun⟩
noncomputable abbrev Ku:FS:=b2 (aR br (ak (af 4) (eK (.int 2)))) (aC false 9 (ak (az .leaf (ae (az .leaf (ae (aD aN (af 2) (af 5)) ah)) (ae (az .leaf (ae (aD gSub (eU cU (eK (.int 1))) (af 5)) ah)) (ae (az .leaf (ae (eK (.int 0)) (ae (eK (.int 0)) ah))) (ae (bF (af 9) (az .leaf (ae (af 2) ah))) (ae (bF (az .leaf (ae (eU cU (eK (.int 1))) ah)) (af 9)) (ae (bF (az .leaf (ae (eK (.int 0)) ah)) (af 9)) ah))))))) (av 3 aq (ae (af 3) (ae (eK (.int 9)) (ae (eK (.int 6)) ah)))))) aS
theorem st2 {w:Wd} (ok:w.Ok) (hn:n=(w.n:Int)) (hf:0<=f):∃R',Ku (dF xs W n c m0 m1 m2 m3 m4 f P F x8 (aI (List.range w.n)) r none x12 none)=.nx (dF xs W n c m0 m1 m2 m3 m4 f P F x8 R' r none x12 none)/\(m2=true->bz [w.enc,R']=.er "NoRoom")/\(m2=false->R'=aI (List.range w.n)):=by
 have t:aR br (ak (af 4) (eK (.int 2))) (dF xs W n c m0 m1 m2 m3 m4 f P F x8 (aI (List.range w.n)) r none x12 none)=.ok m2 (dF xs W n c m0 m1 m2 m3 m4 f P F x8 (aI (List.range w.n)) r none x12 none):=dN (s:=.leaf) (dY (j:=2) (aw rfl) aM rfl rfl rfl)
 have h24:=ok.h24
 have h1:=ok.h1
 cases m2 with
 | false=>exact ⟨_,aO t nofun fun _=>rfl,nofun,fun _=>rfl⟩
 | true=>
  obtain ⟨j,hj,ej⟩:=qv (c:=c) (k:=9) (b:=6) (by omega) (by omega) (by omega) (by omega)
  have sb:gSub (.int (-1)) (.int f)=some (.int (-1-f)):=KC.sub_int'
  let B:List D:=[.list [.int (n+f)],.list [.int (-1-f)],.list [.int 0,.int 0],.list ((List.range w.n).map rm++[.int n]),.list ([.int (-1)]++(List.range w.n).map rm),.list ([.int 0]++(List.range w.n).map rm)]
  have ln:((List.range w.n).map rm).length=w.n:=by simp
  have l:=cN (s:=.leaf) (Γ:=dF xs W n c m0 m1 true m3 m4 f P F x8 (aI (List.range w.n)) r none x12 none) (ax (cN (s:=.leaf) (ax (aG (g:=aN) (aw (i:=2) rfl) (aw (i:=5) rfl) KC.add_int') ai) rfl rfl rfl) (ax (cN (s:=.leaf) (ax (aG (xT (g:=cU) (aM (d:=.int 1)) (d:=.int (-1)) rfl) (aw (i:=5) rfl) sb) ai) rfl rfl rfl) (ax (cN (s:=.leaf) (ax (aM (d:=.int 0)) (ax (aM (d:=.int 0)) ai)) rfl rfl rfl) (ax (cQ (fa:=af 9) (s:=.leaf) (xs:=(List.range w.n).map rm) (aw rfl) (cN (s:=.leaf) (ax (aw (i:=2) rfl) ai) rfl rfl rfl) rfl rfl (by simp;omega)) (ax (cQ (fb:=af 9) (s':=.leaf) (ys:=(List.range w.n).map rm) (cN (s:=.leaf) (ax (xT (g:=cU) (aM (d:=.int 1)) (d:=.int (-1)) rfl) ai) rfl rfl rfl) (aw rfl) rfl rfl (by simp;omega)) (ax (cQ (fb:=af 9) (s':=.leaf) (ys:=(List.range w.n).map rm) (cN (s:=.leaf) (ax (aM (d:=.int 0)) ai) rfl rfl rfl) (aw rfl) rfl rfl (by simp;omega)) ai)))))) rfl rfl rfl
  have xn:∀j,j<6->∃R',B[j]?=some R'/\bz [w.enc,R']=.er "NoRoom":=fun j hj=>
   match j,hj with
   | 0,_=>⟨_,rfl,BY ok lT (by simp) (Ex (i:=n+f) (by simp) (.inr (by omega)))⟩
   | 1,_=>⟨_,rfl,BY ok lT (by simp) (Ex (i:=-1-f) (by simp) (.inl (by omega)))⟩
   | 2,_=>⟨_,rfl,BY ok CT (by simp) (by rw [lH,Bool.and_false])⟩
   | 3,_=>⟨_,rfl,BY ok (Hk Hl lT) (by simp;omega) (Ex (i:=n) (by simp) (.inr (by omega)))⟩
   | 4,_=>⟨_,rfl,BY ok (Hk lT Hl) (by simp;omega) (Ex (i:=-1) (by simp) (.inl (by omega)))⟩
   | 5,_=>⟨_,rfl,BY ok (Hk lT Hl) (by simp;omega) (by
     obtain ⟨m,hm⟩:∃m,w.n=m+1:=⟨w.n-1,by omega⟩
     have e:[PyData.int 0]++(List.range w.n).map rm=.int 0::.int 0::(((List.range m).map Nat.succ).map rm):=by
      rw [hm,List.range_succ_eq_map];rfl
     rw [e,lH,Bool.and_false])⟩
  obtain ⟨R',e1,e2⟩:=xn j hj;refine ⟨R',aO t (fun _=>?_) nofun,fun _=>e2,nofun⟩
  exact bQ (dY (j:=j) (ds:=B) l (bY (ax (aw rfl) (ax aM (ax aM ai))) ej rfl rfl) (qQ hj) e1 rfl) rfl (by simp)
noncomputable abbrev Kt:FS:=b2 (aR br (ak (af 4) (eK (.int 3)))) (aC false 10 (ak (az .leaf (ae (aD aN (af 2) (af 5)) (ae (aD gSub (eU cU (eK (.int 1))) (af 5)) ah))) (av 3 aq (ae (af 3) (ae (eK (.int 10)) (ae (eK (.int 2)) ah)))))) aS
theorem st3 {N:Nat} (hn:n=(N:Int)) (hf:0<=f):∃r':Int,Kt (dF xs W n c m0 m1 m2 m3 m4 f P F x8 R (.int 0) none x12 none)=.nx (dF xs W n c m0 m1 m2 m3 m4 f P F x8 R (.int r') none x12 none)/\(m3=true->uZ N r'=false)/\(m3=false->r'=0):=by
 have t:aR br (ak (af 4) (eK (.int 3))) (dF xs W n c m0 m1 m2 m3 m4 f P F x8 R (.int 0) none x12 none)=.ok m3 (dF xs W n c m0 m1 m2 m3 m4 f P F x8 R (.int 0) none x12 none):=dN (s:=.leaf) (dY (j:=3) (aw rfl) aM rfl rfl rfl)
 cases m3 with
 | false=>exact ⟨0,aO t nofun fun _=>rfl,nofun,fun _=>rfl⟩
 | true=>
  obtain ⟨j,hj,ej⟩:=qv (c:=c) (k:=10) (b:=2) (by omega) (by omega) (by omega) (by omega)
  have sb:gSub (.int (-1)) (.int f)=some (.int (-1-f)):=KC.sub_int'
  have l:=cN (s:=.leaf) (Γ:=dF xs W n c m0 m1 m2 true m4 f P F x8 R (.int 0) none x12 none) (ax (aG (g:=aN) (aw (i:=2) rfl) (aw (i:=5) rfl) KC.add_int') (ax (aG (xT (g:=cU) (aM (d:=.int 1)) (d:=.int (-1)) rfl) (aw (i:=5) rfl) sb) ai)) rfl rfl rfl
  have dd:=bY (n:=3) (Γ:=dF xs W n c m0 m1 m2 true m4 f P F x8 R (.int 0) none x12 none) (ax (aw (i:=3) rfl) (ax aM (ax aM ai))) ej rfl rfl
  match j,hj,dd with
  | 0,_,dd=>exact ⟨n+f,aO t (fun _=>bQ (dY (j:=0) l dd rfl rfl rfl) rfl (by simp)) nofun,(fun _=>by unfold uZ;rw [decide_eq_false (by omega:¬n+f<(N:Int)),Bool.and_false]),nofun⟩
  | 1,_,dd=>exact ⟨-1-f,aO t (fun _=>bQ (dY (j:=1) l dd rfl rfl rfl) rfl (by simp)) nofun,(fun _=>by unfold uZ;rw [decide_eq_false (by omega)];rfl),nofun⟩
noncomputable abbrev Kv:FS:=b2 (aR br (ak (af 4) (eK (.int 0)))) (aC false 1 (av 2 ck (ae (af 1) (ae (av 2 aX (ae (af 0) (ae (eK (.int 9)) ah))) ah)))) aS
theorem Kk (hx:RowI xs) {w:Wd} (ok:w.Ok):∃W',Kv (dF xs w.enc n c m0 m1 m2 m3 m4 f P F x8 R r none x12 none)=.nx (dF xs W' n c m0 m1 m2 m3 m4 f P F x8 R r none x12 none)/\(m0=true->aY [W']=.er "NoWorld")/\(m0=false->W'=w.enc):=by
 have t:aR br (ak (af 4) (eK (.int 0))) (dF xs w.enc n c m0 m1 m2 m3 m4 f P F x8 R r none x12 none)=.ok m0 (dF xs w.enc n c m0 m1 m2 m3 m4 f P F x8 R r none x12 none):=dN (s:=.leaf) (dY (j:=0) (aw rfl) aM rfl rfl rfl)
 cases m0 with
 | false=>exact ⟨_,aO t nofun fun _=>rfl,nofun,fun _=>rfl⟩
 | true=>
  obtain ⟨c9,hc9⟩:=E9 hx (k:=9) (by omega)
  obtain ⟨sh,os',ms',ss',e1,e2,e3,e4⟩:=kJ ok.g ok.h1 ok.h24 (c:=c9)
  exact ⟨bK os' ms' ss',aO t (fun _=>bQ (bY (ax (aw rfl) (ax (bY (ax (aw rfl) (ax aM ai)) hc9 rfl rfl) ai)) e1 rfl rfl) e2 (by simp)) nofun,(fun _=>w4 e3 (by omega) e4),nofun⟩
end
section
variable {xs:List D} {F R r:D} {n c f:Int} {m0 m1 m2 m3 m4:Bool} {w:Wd}
noncomputable abbrev IJ (fq:F1) (fi:F1):F1:=av 4 bJ (ae (af 1) (ae fq (ae (fy 8 fi) (ae (af 3) ah))))
noncomputable abbrev Ks:FS:=b2 (aR br (ak (af 4) (eK (.int 4)))) (ay (da 8 (IJ (af 6) (eK (.int 0))) (eK (.int 0)))
  (ay (aC false 12 (aD aN (eK (.int 1)) (av 3 aq (ae (af 3) (ae (eK (.int 7)) (ae (eK (.int 2)) ah))))))
  (da 8 (IJ (aD gSub (af 12) (eK (.int 1))) (af 12)) (af 12)))) aS
theorem Kj (ok:w.Ok) {pl:Int} (hl:pl=0\/pl=1):∃p0 p1 p2 y12,Ks (dF xs w.enc n c m0 m1 m2 m3 m4 f (.int pl) F ⟨.lst .leaf,.list [aW (bP w pl),aW (bP w 0),aW (bP w 1)]⟩ R r none none none)=.nx (dF xs w.enc n c m0 m1 m2 m3 m4 f (.int pl) F ⟨.lst .leaf,.list [p0,p1,p2]⟩ R r none y12 none)/\(m4=false->p0=aW (bP w pl)/\p1=aW (bP w 0)/\p2=aW (bP w 1))/\(m4=true->aB [w.enc,.int pl,p0]=.ok ⟨.leaf,.bool false⟩/\(aB [w.enc,.int 0,p1]=.ok ⟨.leaf,.bool false⟩\/(aB [w.enc,.int 0,p1]=.ok ⟨.leaf,.bool true⟩/\aB [w.enc,.int 1,p2]=.ok ⟨.leaf,.bool false⟩))):=by
 have t:aR br (ak (af 4) (eK (.int 4))) (dF xs w.enc n c m0 m1 m2 m3 m4 f (.int pl) F ⟨.lst .leaf,.list [aW (bP w pl),aW (bP w 0),aW (bP w 1)]⟩ R r none none none)=.ok m4 (dF xs w.enc n c m0 m1 m2 m3 m4 f (.int pl) F ⟨.lst .leaf,.list [aW (bP w pl),aW (bP w 0),aW (bP w 1)]⟩ R r none none none):=dN (s:=.leaf) (dY (j:=4) (aw rfl) aM rfl rfl rfl)
 cases m4 with
 | false=>exact ⟨_,_,_,none,aO t nofun fun _=>rfl,(fun _=>⟨rfl,rfl,rfl⟩),nofun⟩
 | true=>
  obtain ⟨A,eA,bA⟩:=HB ok hl (c:=c)
  obtain ⟨B,eB,bB⟩:=HB ok (q:=0) (.inl rfl) (c:=c)
  obtain ⟨C,eC,bC⟩:=HB ok (q:=1) (.inr rfl) (c:=c)
  obtain ⟨j,hj,ej⟩:=qv (c:=c) (k:=7) (b:=2) (by omega) (by omega) (by omega) (by omega)
  have s1:da 8 (IJ (af 6) (eK (.int 0))) (eK (.int 0)) (dF xs w.enc n c m0 m1 m2 m3 true f (.int pl) F ⟨.lst .leaf,.list [aW (bP w pl),aW (bP w 0),aW (bP w 1)]⟩ R r none none none)=.nx (dF xs w.enc n c m0 m1 m2 m3 true f (.int pl) F ⟨.lst .leaf,.list [A,aW (bP w 0),aW (bP w 1)]⟩ R r none none none):=
   Cr (Γ:=dF xs w.enc n c m0 m1 m2 m3 true f (.int pl) F ⟨.lst .leaf,.list [aW (bP w pl),aW (bP w 0),aW (bP w 1)]⟩ R r none none none) (i:=8) (ds:=[aW (bP w pl),aW (bP w 0),aW (bP w 1)]) (k:=0) (j:=0) rfl (bY (ax (aw (i:=1) rfl) (ax (aw (i:=6) rfl) (ax (EA (i:=8) (k:=0) (j:=0) rfl aM rfl rfl) (ax (aw rfl) ai)))) eA rfl rfl) aM rfl rfl
  have s2:aC false 12 (aD aN (eK (.int 1)) (av 3 aq (ae (af 3) (ae (eK (.int 7)) (ae (eK (.int 2)) ah))))) (dF xs w.enc n c m0 m1 m2 m3 true f (.int pl) F ⟨.lst .leaf,.list [A,aW (bP w 0),aW (bP w 1)]⟩ R r none none none)=.nx (dF xs w.enc n c m0 m1 m2 m3 true f (.int pl) F ⟨.lst .leaf,.list [A,aW (bP w 0),aW (bP w 1)]⟩ R r none (KZ (.int (1+(j:Int)))) none):=
   bQ (aG aM (bY (ax (aw rfl) (ax aM (ax aM ai))) ej rfl rfl) KC.add_int') rfl (by simp)
  match j,hj,s2 with
  | 0,_,s2=>
   exact ⟨A,B,aW (bP w 1),_,aO t (fun _=>ao s1 (ao s2 (Cr (Γ:=dF xs w.enc n c m0 m1 m2 m3 true f (.int pl) F ⟨.lst .leaf,.list [A,aW (bP w 0),aW (bP w 1)]⟩ R r none (KZ (.int 1)) none) (i:=8) (ds:=[A,aW (bP w 0),aW (bP w 1)]) (k:=1) (j:=1) rfl (bY (ax (aw (i:=1) rfl) (ax (aG (g:=gSub) (d:=.int 0) (aw (i:=12) rfl) (aM (d:=.int 1)) rfl) (ax (EA (i:=8) (k:=1) (j:=1) rfl (aw (i:=12) rfl) rfl rfl) (ax (aw (i:=3) rfl) ai)))) eB rfl rfl) (aw (i:=12) rfl) rfl rfl))) nofun,nofun,fun _=>⟨bA,.inl bB⟩⟩
  | 1,_,s2=>
   exact ⟨A,aW (bP w 0),C,_,aO t (fun _=>ao s1 (ao s2 (Cr (Γ:=dF xs w.enc n c m0 m1 m2 m3 true f (.int pl) F ⟨.lst .leaf,.list [A,aW (bP w 0),aW (bP w 1)]⟩ R r none (KZ (.int 2)) none) (i:=8) (ds:=[A,aW (bP w 0),aW (bP w 1)]) (k:=2) (j:=2) rfl (bY (ax (aw (i:=1) rfl) (ax (aG (g:=gSub) (d:=.int 1) (aw (i:=12) rfl) (aM (d:=.int 1)) rfl) (ax (EA (i:=8) (k:=2) (j:=2) rfl (aw (i:=12) rfl) rfl rfl) (ax (aw (i:=3) rfl) ai)))) eC rfl rfl) (aw (i:=12) rfl) rfl rfl))) nofun,nofun,fun _=>⟨bA,.inr ⟨FA ok (Er ok),bC⟩⟩⟩
end
theorem IH {w:Wd} {Γ:Ev} {pn:Nat} (hpn:pn<2) (h7:Γ[7]?=some (KZ (.list [aW (bP w 0),aW (bP w 1)]))) (h6:Γ[6]?=some (KZ (.int (pn:Int)))):ak (af 7) (af 6) Γ=.ok ⟨.leaf,aW (bP w (pn:Int))⟩ Γ:=
 match pn,hpn,h6 with
 | 0,_,h6=>dY (j:=0) (aw h7) (aw h6) rfl rfl rfl
 | 1,_,h6=>dY (j:=1) (aw h7) (aw h6) rfl rfl rfl
theorem w9 {xs:List D} (hx:RowI xs):tP [.list xs]=.ok ⟨.leaf,.bool true⟩:=by
 obtain ⟨n,os,ms,ss,e0,g,h1,h6⟩:=qw hx (at':=0) (lim:=6) (by omega) (by omega) (by omega)
 obtain ⟨w,ok,ew,en⟩:=CU g h1 (by omega)
 rw [<-ew] at e0;have hn:w.n<=6:=by omega
 have hn1:=ok.h1
 obtain ⟨c,hc⟩:=E9 hx (k:=8) (by omega)
 obtain ⟨f,df,hf0,hf1⟩:=G9 (c:=c) (k:=5) (b:=1000000000) (by omega) (by omega) (by omega) (by omega)
 obtain ⟨pn,hpn,d6⟩:=qv (c:=c) (k:=6) (b:=2) (by omega) (by omega) (by omega) (by omega)
 have hl:((pn:Nat):Int)=0\/((pn:Nat):Int)=1:=by omega
 have cm:∀Γ:Ev,Γ.length=16->Γ[3]?=some (KZ (.int c))->aE .leaf 14 (fM (ae (eK (.int 5)) ah)) aL (aD bT (av 3 aq (ae (af 3) (ae (af 14) (ae (eK (.int 3)) ah)))) (eK (.int 1))) Γ=.ok ⟨.lst .leaf,.list ((List.range 5).map fun k:Nat=>.bool (dq c (k:Int) 3==1))⟩ Γ:=fun Γ hl h3=>
  m8 rm (List.range 5) (fun k=>⟨.leaf,.bool (dq c (k:Int) 3==1)⟩) (st:=true) (mU (s:=.leaf) (n:=5) (by omega) (ax aM ai)) (by omega) rfl (by simp) fun k hk=>by
   have hk:=List.mem_range.mp hk
   refine ⟨aG (bY (ax (aw (by rw [getElem?_set_ne (by omega)];exact h3)) (ax (aw (d:=rm k) (by rw [getElem?_set_self (by omega)])) (ax aM ai))) (xE (c:=c) (k:=(k:Int)) (b:=3) (by omega) (by omega) (by omega) (by omega)) rfl rfl) aM KC.eq_int,rfl⟩
 have e4:((List.range 5).map fun k:Nat=>PyData.bool (dq c (k:Int) 3==1))=[.bool (dq c ((0:Nat):Int) 3==1),.bool (dq c ((1:Nat):Int) 3==1),.bool (dq c ((2:Nat):Int) 3==1),.bool (dq c ((3:Nat):Int) 3==1),.bool (dq c ((4:Nat):Int) 3==1)]:=rfl
 rw [e4] at cm;generalize (dq c ((0:Nat):Int) 3==1)=m0 at cm
 generalize (dq c ((1:Nat):Int) 3==1)=m1 at cm
 generalize (dq c ((2:Nat):Int) 3==1)=m2 at cm
 generalize (dq c ((3:Nat):Int) 3==1)=m3 at cm
 generalize (dq c ((4:Nat):Int) 3==1)=m4 at cm
 have cf:aE .leaf 15 (iI (cb (ae (eK (.int 0)) (ae (eK (.int 1)) ah)))) aL (aE .leaf 10 (fM (ae (af 2) ah)) aL (kU (aR aA (aD bT (ak (ak (af 1) (eK (.int 0))) (af 10)) (af 15))) (ak (ak (ak (af 1) (eK (.int 2))) (af 10)) (eK (.int 0))) (eK .none))) [KZ (.list xs),KZ w.enc,KZ (.int (w.n:Int)),KZ (.int c),KZ (B8 m0 m1 m2 m3 m4),KZ (.int f),KZ (.int (pn:Int)),none,none,none,none,none,none,none,none,none]=.ok ⟨.lst .leaf,.list [aW (bP w 0),aW (bP w 1)]⟩ [KZ (.list xs),KZ w.enc,KZ (.int (w.n:Int)),KZ (.int c),KZ (B8 m0 m1 m2 m3 m4),KZ (.int f),KZ (.int (pn:Int)),none,none,none,none,none,none,none,none,none]:=by
  refine m8 rm [0,1] (fun q:Nat=>⟨.lst .leaf,aW (bP w (q:Int))⟩) (st:=true) (zf (ax aM (ax aM ai))) (by simp) rfl (by simp) fun q hq=>⟨?_,rfl⟩
  have key:=m8 (Γ:=([KZ (.list xs),KZ w.enc,KZ (.int (w.n:Int)),KZ (.int c),KZ (B8 m0 m1 m2 m3 m4),KZ (.int f),KZ (.int (pn:Int)),none,none,none,none,none,none,none,none,none]).set 15 (KZ (rm q))) (s:=.leaf) (i:=10) (fi:=fM (ae (af 2) ah)) (fe:=kU (aR aA (aD bT (ak (ak (af 1) (eK (.int 0))) (af 10)) (af 15))) (ak (ak (ak (af 1) (eK (.int 2))) (af 10)) (eK (.int 0))) (eK .none)) rm (List.range w.n) (fun r=>⟨.leaf,oD (if own w (q:Int) r then some ((w.stp r).getD 0 0) else none)⟩) (st:=true) (mU (s:=.leaf) (n:=w.n) (by omega) (ax (aw rfl) ai)) (by simp) rfl (by simp;omega) fun r hr=>by
   have hr:=List.mem_range.mp hr
   obtain ⟨o,eo,ho⟩:=yh ok (Γ:=(([KZ (.list xs),KZ w.enc,KZ (.int (w.n:Int)),KZ (.int c),KZ (B8 m0 m1 m2 m3 m4),KZ (.int f),KZ (.int (pn:Int)),none,none,none,none,none,none,none,none,none]).set 15 (KZ (rm q))).set 10 (KZ (rm r))) (i:=1) (fb:=af 10) (s:=.leaf) (r:=r) rfl (aw rfl) hr
   refine ⟨xV (t:=own w (q:Int) r) ?_ (fun h=>?_) (fun h=>?_),by cases own w (q:Int) r<;>rfl⟩
   ·rw [ho]
    exact eD (s:=.leaf) (aG eo (aw (i:=15) (d:=rm q) rfl) KC.eq_int)
   ·rw [h]
    cases es:w.stp r with
    | nil=>exact absurd es (ok.stp_ne hr)
    | cons a l=>exact dY (j:=0) (ds:=(w.stp r).map rm) (Hm ok rfl (aw rfl) hr) aM (qQ (k:=0) (by rw [es];simp)) (by rw [es];rfl) rfl
   ·rw [h]
    exact aM
  refine key.trans ?_
  unfold aW bP;rw [map_map];rfl
 obtain ⟨p0,p1,p2,y12,qn,hn0,hn1'⟩:=Kj (xs:=xs) (F:=.list [aW (bP w 0),aW (bP w 1)]) (R:=aI (List.range w.n)) (r:=.int 0) (n:=(w.n:Int)) (c:=c) (f:=f) (m0:=m0) (m1:=m1) (m2:=m2) (m3:=m3) (m4:=m4) ok hl
 obtain ⟨p',qp,hP1,hP0⟩:=stp (xs:=xs) (W:=w.enc) (n:=(w.n:Int)) (c:=c) (m0:=m0) (m1:=m1) (m2:=m2) (m3:=m3) (m4:=m4) (F:=.list [aW (bP w 0),aW (bP w 1)]) (x8:=⟨.leaf,.list [p0,p1,p2]⟩) (R:=aI (List.range w.n)) (r:=.int 0) (x12:=y12) (pl:=(pn:Int)) hf0
 obtain ⟨R',q2,hR1,hR0⟩:=st2 (xs:=xs) (W:=w.enc) (n:=(w.n:Int)) (c:=c) (m0:=m0) (m1:=m1) (m2:=m2) (m3:=m3) (m4:=m4) (f:=f) (P:=.int p') (F:=.list [aW (bP w 0),aW (bP w 1)]) (x8:=⟨.leaf,.list [p0,p1,p2]⟩) (r:=.int 0) (x12:=y12) ok rfl hf0
 obtain ⟨r',q3,hr1,hr0⟩:=st3 (xs:=xs) (W:=w.enc) (n:=(w.n:Int)) (N:=w.n) (c:=c) (m0:=m0) (m1:=m1) (m2:=m2) (m3:=m3) (m4:=m4) (f:=f) (P:=.int p') (F:=.list [aW (bP w 0),aW (bP w 1)]) (x8:=⟨.leaf,.list [p0,p1,p2]⟩) (R:=R') (x12:=y12) rfl hf0
 obtain ⟨W,q0,hW1,hW0⟩:=Kk (n:=(w.n:Int)) (c:=c) (m0:=m0) (m1:=m1) (m2:=m2) (m3:=m3) (m4:=m4) (f:=f) (P:=.int p') (F:=.list [aW (bP w 0),aW (bP w 1)]) (x8:=⟨.leaf,.list [p0,p1,p2]⟩) (R:=R') (r:=.int r') (x12:=y12) hx ok
 have tl:=fun (k:Nat) (hk:k<9)=>CV ok hl hW1 hW0 hP1 hP0 hR1 hR0 hr1 hr0 hn0 hn1' hk
 obtain ⟨Γ',ef,_,z11,z13,rfl⟩:=j2 rm (i:=11) (body:=C5) (Inv:=fun l' Γ=>(∀y∈l',y<9)/\∃x11 x13,Γ=dF xs W (w.n:Int) c m0 m1 m2 m3 m4 f (.int p') (.list [aW (bP w 0),aW (bP w 1)]) ⟨.leaf,.list [p0,p1,p2]⟩ R' (.int r') x11 y12 x13) (fun y b7 Γ ⟨hr,x11,x13,e⟩=>by
  subst e;obtain ⟨y13,e⟩:=zj (xs:=xs) (F:=.list [aW (bP w 0),aW (bP w 1)]) (n:=(w.n:Int)) (c:=c) (f:=f) (hr y (by simp)) (tl y (hr y (by simp))) (x12:=y12) (x13:=x13)
  exact ⟨by simp,_,e,fun z hz=>hr z (by simp [hz]),_,_,rfl⟩) (List.range 9) (dF xs W (w.n:Int) c m0 m1 m2 m3 m4 f (.int p') (.list [aW (bP w 0),aW (bP w 1)]) ⟨.leaf,.list [p0,p1,p2]⟩ R' (.int r') none y12 none) ⟨fun y hy=>List.mem_range.mp hy,_,_,rfl⟩
 refine aT ?_
 refine ao (bQ (bY (ax (aw rfl) (ax aM (ax aM ai))) e0 rfl rfl) rfl (by simp [aV])) ?_
 refine ao (bQ (xG ok rfl) rfl (by simp [aV])) ?_
 refine ao (bQ (bY (ax (aw rfl) (ax aM ai)) hc rfl rfl) rfl (by simp [aV])) ?_
 refine ao (bQ (cm _ rfl rfl) rfl (by simp [aV])) ?_
 refine ao (bQ (bY (ax (aw rfl) (ax aM (ax (aG aM aM (lR (b:=9) (by omega) (by omega))) ai))) (by exact df) rfl rfl) rfl (by simp [aV])) ?_
 refine ao (Γ1:=[KZ (.list xs),KZ w.enc,KZ (.int (w.n:Int)),KZ (.int c),KZ (B8 m0 m1 m2 m3 m4),KZ (.int f),KZ (.int (pn:Int)),none,none,none,none,none,none,none,none,none]) (bQ (bY (ax (aw rfl) (ax aM (ax aM ai))) d6 rfl rfl) rfl (by simp [aV])) ?_
 refine ao (bQ cf rfl (by simp)) ?_
 refine ao (yM (cN (s:=.leaf) (ax (IH hpn rfl rfl) (ax (dY (j:=0) (aw rfl) aM rfl rfl rfl) (ax (dY (j:=1) (aw rfl) aM rfl rfl rfl) ai))) rfl rfl rfl) rfl (by simp)) ?_
 refine ao (bQ (yD (n:=w.n) (s:=.leaf) (by omega) (ax (aw rfl) ai)) rfl (by simp)) ?_
 refine ao (bQ aM rfl (by simp)) ?_
 refine ao qn (xQ (p:=⟨.lst .leaf,.list [p0,p1,p2]⟩) rfl ?_)
 refine ao qp (ao q2 (ao q3 (ao q0 ?_)))
 refine ao (h9 (mU (s:=.leaf) (n:=9) (by omega) (ax aM ai)) ef) ?_
 exact bf aM rfl
theorem law_true (ns:List Int) (hl:ns.length<=63):tP [.list (ns.map .int)]=.ok ⟨.leaf,.bool true⟩:=w9 rowI_map
end KQ.M.L
namespace KQ.M.L
open PySem PySem.Spec L2 T TQ
open PyProof.Rows hiding St
open KC
noncomputable def di (n:Nat):Stmt:=(PySem.Challenge.pw_foreseehall_k74_players_refused.main.body)[n]!
noncomputable def sg:Stmt:=di 13
noncomputable def nq:Stmt:=di 14
noncomputable def jb:Stmt:=di 15
noncomputable def i9:Stmt:=di 16
noncomputable def ni:Stmt:=di 17
noncomputable def lz:Stmt:=di 22
noncomputable def lC:Stmt:=di 23
noncomputable def lB:Stmt:=di 24
noncomputable def lA:Stmt:=di 25
noncomputable def nk:Stmt:=di 26
noncomputable def jd:Stmt:=di 27
noncomputable def il:Stmt:=di 28
noncomputable def kx:Stmt:=di 29
noncomputable def je:Stmt:=di 30
noncomputable def ja:Stmt:=di 32
noncomputable def ly:Stmt:=di 34
noncomputable def ik:Stmt:=di 36
noncomputable def ku:Stmt:=di 37
noncomputable def pJ:Stmt:=di 38
noncomputable def ky:Stmt:=di 39
noncomputable def si:Stmt:=di 40
noncomputable def sf:Stmt:=di 41
noncomputable def pI:Stmt:=di 43
noncomputable def kv:Stmt:=di 45
noncomputable def pK:Stmt:=di 46
noncomputable def vA:Stmt:=di 47
noncomputable def kq:Stmt:=di 58
noncomputable def nj:Stmt:=di 57
noncomputable def gQ:Stmt:=di 50
noncomputable def jf:Stmt:=di 51
noncomputable def jc:Stmt:=di 53
noncomputable def i8:Stmt:=di 54
noncomputable def ko:Stmt:=di 55
noncomputable def gw:Stmt:=di 56
noncomputable def vB:Stmt:=di 59
noncomputable def jg:Stmt:=di 64
noncomputable def gP:Stmt:=di 66
noncomputable def ig:Stmt:=di 67
noncomputable def zC:Stmt:=di 68
noncomputable def kr:Stmt:=di 70
noncomputable def iq:Stmt:=di 72
noncomputable def lD:Stmt:=di 73
noncomputable def kz:Stmt:=di 74
noncomputable def gR:Stmt:=di 76
noncomputable def kB:Stmt:=di 77
noncomputable def nr:Stmt:=di 78
noncomputable def ip:Stmt:=di 79
noncomputable def C9:Stmt:=di 80
noncomputable def kA:Stmt:=di 75
structure Gl (K:Fg) (mg:Str->Option Value):Prop where
 n0:mg "any"=none
 n1:mg "all"=none
 n2:mg "len"=none
 n3:mg "range"=none
 n4:mg "enumerate"=none
 n5:mg "list"=none
 n6:mg "zip"=none
 n7:mg "int"=none
 n8:mg "isinstance"=none
 n9:mg "ValueError"=none
 h0:nU K mg "LETTERS" cM
 h1:nU K mg "MOST_ROOMS" dR
 h2:nU K mg "PLAYERS" bD
 xt:ExT K mg xcl JA
structure Al (K:Fg) (mg:Str->Option Value):Prop where
 g:Gl K mg
 f0:Ft K mg "is_led" sg
 f1:Ft K mg "is_lower" nq
 f2:Ft K mg "lower_steps" jb
 f3:Ft K mg "ranked_next" i9
 f4:Ft K mg "ranks_to" ni
 f5:Ft K mg "is_rising" lz
 f6:Ft K mg "are_marks" lC
 f7:Ft K mg "are_rooms" lB
 f8:Ft K mg "are_steps" lA
 f9:Ft K mg "is_world" nk
 f10:Ft K mg "check_world" jd
 f11:Ft K mg "check_player" il
 f12:Ft K mg "check_room" kx
 f13:Ft K mg "check_rooms" je
 f14:Ft K mg "other_rooms" ja
 f15:Ft K mg "way_along" ly
 f16:Ft K mg "other_player" ik
 f17:Ft K mg "is_plan_of" ku
 f18:Ft K mg "is_plan" pJ
 f19:Ft K mg "check_plan" ky
 f20:Ft K mg "follow" si
 f21:Ft K mg "way_by" sf
 f22:Ft K mg "plan_of" pI
 f23:Ft K mg "check_told" kv
 f24:Ft K mg "brought" pK
 f25:Ft K mg "bring" vA
 f26:Ft K mg "leads_down" kq
 f27:Ft K mg "leads_on" nj
 f28:Ft K mg "is_brought_by" gQ
 f29:Ft K mg "bring_shows" jf
 f30:Ft K mg "inner_world" jc
 f31:Ft K mg "ranks_among" i8
 f32:Ft K mg "lost_rooms" ko
 f33:Ft K mg "turns_and_left" gw
 f34:Ft K mg "again" vB
 f35:Ft K mg "again_shows" jg
 f36:Ft K mg "rooms_without" gP
 f37:Ft K mg "steps_within" ig
 f38:Ft K mg "keep" zC
 f39:Ft K mg "keep_shows" kr
 f40:Ft K mg "_law_cell_at" iq
 f41:Ft K mg "_law_draw" lD
 f42:Ft K mg "_law_world" kz
 f43:Ft K mg "_law_no_world" gR
 f44:Ft K mg "_law_asked" kB
 f45:Ft K mg "_law_met" nr
 f46:Ft K mg "_law_no_plan" ip
 f47:Ft K mg "law" C9
 f48:Ft K mg "_law_which" kA
section
variable {P:Program} {w:World} {K:Fg} {mg:Str->Option Value} {base:Heap} (A:Al K mg) (B:K.In base/\base.Ns mainGlobals mg)
include A B
theorem jo:Cs P w K mg base 1 "_law_which" xcl bH:=Kp (p:=Gl) A.f48 A.g "e" yy ["some"] J1 [0,1] [] [0,1,2,3,4,5,6,7,8,9,10,11] fun X a C c hc hC S I hx=>
 TQ.Q.p (vf S I.r (I.xt A.g.xt) hx hc (I.gm hC) (I.gm A.g.n8) (I.gm A.g.n9))
theorem tJ:DefOk P w K mg base 2 "is_led" 2 dM:=mk A.f0 A.g ["is_chosen", "by_steps"] uJ [] ["any", "all"] [0,1] [] [0,1] fun X S I hp=>
 (cI (BO (kj (aj S 0) (fun _=>rfl)) (rQ S 0 rfl rfl I.e.n0 (aJ (aj S 1)) (gv rfl) rfl) (xI S 1 rfl rfl I.e.n1 (aJ (aj S 1)) (gv rfl) rfl)))
theorem iB:DefOk P w K mg base 2 "is_lower" 2 dt:=mk A.f1 A.g ["rank", "other"] uJ [] [] [0,1] [] [] fun X S I hp=>
 (cI (qU (ib (yO I.r) (aj S 0) gN) (qU (ib (yO I.r) (aj S 1) gN) (qW (ib (iu I.r) (aj S 0) (aj S 1))))))
theorem jr:DefOk P w K mg base 3 "lower_steps" 3 cO:=mk A.f2 A.g ["world", "ranks", "room"] kW ["there"] ["is_lower"] [0,1,2] [1,2] [] fun X S I hp=>
 (cI (gO [1,2,3] [1,2] [0] S 3 (gM (bu (bu (aj S 0) aK) (aj S 2))) (fun Y1 S1 F1=>have I:=F1.i I;ph (kj (bR S1 0 (I.c (iB A B)) (aF (bu (aj S1 1) (aj S1 3)) (aJ (bu (aj S1 1) (aj S1 2))))) (fun _=>rfl))) (fun Y1 S1 F1=>have I:=F1.i I;(aj S1 3))))
theorem jq:DefOk P w K mg base 3 "ranked_next" 4 b9:=mk A.f3 A.g ["world", "chosen", "through", "ranks"] yx ["found", "room", "there"] ["is_led"] [0,1,2,3,4,5] [3] [0] fun X S I hp=>
 (bq (cy S true 4 (cx .leaf iZ)) (bq (BS S 5 rfl rfl hp (gM (aj S 2)) (cZ (dP (xH (EV (cR (jj I.r) (bu (aj S 3) (aj S 5)) gN) (Fo (kj (bR S 0 (I.c (tJ A B)) (aF (bu (aj S 1) (aj S 5)) (aJ (gO [3,6] [3] [] S 6 (gM (bu (bu (aj S 0) aK) (aj S 5))) (fun _ _ _=>gL) (fun Y1 S1 F1=>have I:=F1.i I;(ib (yO I.r) (bu (aj S1 3) (aj S1 6)) gN)))))) (fun _=>rfl))))) (cZ (B5 S 4 rfl rfl (aj S 5) (eG rfl) rfl rfl rfl rfl)) e8)) (fun _=>rfl)) (cI (pB S 4 rfl rfl))))
theorem Hq:DefOk P w K mg base 4 "ranks_to" 4 cn:=mk A.f4 A.g ["world", "chosen", "through", "goal"] yx ["ranks", "rank", "fresh", "room", "owner"] ["ranked_next"] [0,1,2,3,4,5,6,7] [] [0] fun X S I hp=>
 (bq (B0 (vs':=[8]) (cs':=[]) (lo':=[]) (gs':=[]) S true 4 .leaf 8 rfl rfl rfl rfl (by kernel_rfl) (by kernel_rfl) (by kernel_rfl) (gM (bu (aj S 0) aK)) (fun _ _ _=>gL) (fun Y1 S1 F1=>gN) (fun _=>rfl)) (bq (cy S false 5 aK) (bq (cy S false 6 (aj S 3)) (bq (Ht 1000 hp (kj (aj S 6) (fun _=>rfl)) (bq (BS S 7 rfl rfl hp (gM (aj S 6)) (cZ (Fm S 4 rfl rfl (aj S 5) (aj S 7) rfl rfl rfl (fun _=>rfl))) (fun _=>rfl)) (bq (lu S 5 rfl rfl aK) (cZ (cy S false 6 (ze S 0 rfl rfl (I.c (jq A B)) (aF (aj S 0) (aF (aj S 1) (aF (aj S 2) (aJ (aj S 4))))) (gv rfl) rfl)))))) (cI (pB S 4 rfl rfl))))))
theorem gE:DefOk P w K mg base 2 "is_rising" 1 dA:=mk A.f5 A.g ["entries"] yy ["k"] ["len", "range", "all"] [0] [0] [0,1,2] fun X S I hp=>
 (cI (xI S 2 rfl rfl I.e.n1 (aJ (gO [0,1] [0] [] S 1 (CP S 1 rfl rfl I.e.n3 (aF aK (aJ (g7 S 0 I.e.n2 (aJ (aj S 0))))) (r6 rfl rfl) (eG rfl)) (fun _ _ _=>gL) (fun Y1 S1 F1=>have I:=F1.i I;(ib (iu I.r) (bu (aj S1 0) (qV (aj S1 1) aK)) (bu (aj S1 0) (aj S1 1)))))) (gv rfl) rfl))
theorem lW:DefOk P w K mg base 3 "are_marks" 1 dC:=mk A.f6 A.g ["entries"] yy ["entry"] ["LETTERS", "all", "is_rising"] [0] [] [1,2] fun X S I hp=>
 (cI (qU (xI S 1 rfl rfl I.e.n1 (aJ (gO [1] [] [0] S 1 (gM (aj S 0)) (fun _ _ _=>gL) (fun Y1 S1 F1=>have I:=F1.i I;(ib (lO I.r) (aj S1 1) (vj S1 0 rfl rfl I.e.h0))))) (gv rfl) rfl) (qW (bR S 2 (I.c (gE A B)) (aJ (aj S 0))))))
theorem gF:DefOk P w K mg base 3 "are_rooms" 2 bL:=mk A.f7 A.g ["entries", "size"] uJ ["entry"] ["all", "is_rising"] [0,1] [1] [0,1] fun X S I hp=>
 (cI (qU (xI S 0 rfl rfl I.e.n1 (aJ (gO [1,2] [1] [] S 2 (gM (aj S 0)) (fun _ _ _=>gL) (fun Y1 S1 F1=>have I:=F1.i I;(xS (Dn I.r) (iu I.r) aK (aj S1 2) (aj S1 1) (by with_unfolding_all rfl))))) (gv rfl) rfl) (qW (bR S 1 (I.c (gE A B)) (aJ (aj S 0))))))
theorem lV:DefOk P w K mg base 4 "are_steps" 2 dB:=mk A.f8 A.g ["entries", "size"] uJ [] ["len", "are_rooms"] [0,1] [] [0,1] fun X S I hp=>
 (cI (qU (ib (vW I.r) (g7 S 0 I.e.n2 (aJ (aj S 0))) aK) (qW (bR S 1 (I.c (gF A B)) (aF (aj S 0) (aJ (aj S 1)))))))
theorem nz:DefOk P w K mg base 5 "is_world" 3 cL:=mk A.f9 A.g ["owners", "marks", "steps"] kW ["size", "owner", "row"] ["len", "MOST_ROOMS", "PLAYERS", "all", "are_marks", "are_steps"] [0,1,2,3] [3] [0,1,3] fun X S I hp=>
 (bq (cy S false 3 (g7 S 0 I.e.n2 (aJ (aj S 0)))) (bq (dP (xH (BP (cR (iu I.r) (aj S 3) aK) (BP (cR (vW I.r) (aj S 3) (vj S 1 rfl rfl I.e.h1)) (BP (cR (ji I.r) (g7 S 0 I.e.n2 (aJ (aj S 1))) (aj S 3)) (EW (cR (ji I.r) (g7 S 0 I.e.n2 (aJ (aj S 2))) (aj S 3))))))) (cI vc) e8) (bq (dP (yQ (kj (xI S 3 rfl rfl I.e.n1 (aJ (gO [4] [] [2] S 4 (gM (aj S 0)) (fun _ _ _=>gL) (fun Y1 S1 F1=>have I:=F1.i I;(ib (lO I.r) (aj S1 4) (vj S1 2 rfl rfl I.e.h2))))) (gv rfl) rfl) (fun _=>rfl))) (cI vc) e8) (cI (qU (xI S 3 rfl rfl I.e.n1 (aJ (gO [5] [] [4] S 5 (gM (aj S 1)) (fun _ _ _=>gL) (fun Y2 S2 F2=>have I:=F2.i I;(bR S2 4 (I.c (lW A B)) (aJ (aj S2 5)))))) (gv rfl) rfl) (qW (xI S 3 rfl rfl I.e.n1 (aJ (gO [3,5] [3] [5] S 5 (gM (aj S 2)) (fun _ _ _=>gL) (fun Y3 S3 F3=>have I:=F3.i I;(bR S3 5 (I.c (lV A B)) (aF (aj S3 5) (aJ (aj S3 3))))))) (gv rfl) rfl)))))))
theorem FE:DefOkX P w K mg base 6 "check_world" 1 aY:=mZ (p:=Gl) A.f10 A.g ["world"] yy [] ["is_world", "NoWorld"] [0] [] [0,1] fun X W S I th mk=>
 (cZ (dP (yQ (kj (bR S 0 (I.c (nz A B)) (aF (bu (aj S 0) aK) (aF (bu (aj S 0) aK) (aJ (bu (aj S 0) aK))))) (fun _=>rfl))) (cZ (BX S mk 1 (I.ra (A.g.xt.rais B.1 B.2)))) e8))
theorem HE:DefOkX P w K mg base 2 "check_player" 1 bj:=mZ (p:=Gl) A.f11 A.g ["player"] yy [] ["PLAYERS", "NoPlayer"] [0] [] [0,1] fun X W S I th mk=>
 (cZ (dP (cR (GX I.r) (aj S 0) (vj S 0 rfl rfl I.e.h2)) (cZ (BX S mk 1 (I.ra (A.g.xt.rais B.1 B.2)))) e8))
theorem jl:DefOkX P w K mg base 2 "check_room" 2 dg:=mZ (p:=Gl) A.f12 A.g ["world", "room"] uJ [] ["len", "NoRoom"] [0,1] [] [0,1] fun X W S I th mk=>
 (cZ (dP (yQ (CO (Dn I.r) (iu I.r) aK (aj S 1) (g7 S 0 I.e.n2 (aJ (bu (aj S 0) aK))) (by with_unfolding_all rfl))) (cZ (BX S mk 1 (I.ra (A.g.xt.rais B.1 B.2)))) e8))
theorem iw:DefOkX P w K mg base 4 "check_rooms" 2 bz:=mZ (p:=Gl) A.f13 A.g ["world", "rooms"] uJ [] ["len", "are_rooms", "NoRoom"] [0,1] [] [0,1,2] fun X W S I th mk=>
 (cZ (dP (yQ (kj (bR S 1 (I.c (gF A B)) (aF (aj S 1) (aJ (g7 S 0 I.e.n2 (aJ (bu (aj S 0) aK)))))) (fun _=>rfl))) (cZ (BX S mk 2 (I.ra (A.g.xt.rais B.1 B.2)))) e8))
theorem fj:DefOk P w K mg base 2 "other_rooms" 2 bN:=mk A.f14 A.g ["world", "rooms"] uJ ["room"] ["len", "range"] [0,1] [1] [0,1] fun X S I hp=>
 (cI (gO [1,2] [1] [] S 2 (fR S 1 rfl rfl I.e.n3 (aJ (g7 S 0 I.e.n2 (aJ (bu (aj S 0) aK)))) (eG rfl)) (fun Y1 S1 F1=>have I:=F1.i I;ph (cR (GX I.r) (aj S1 2) (aj S1 1))) (fun Y1 S1 F1=>have I:=F1.i I;(aj S1 2))))
theorem lU:DefOk P w K mg base 2 "way_along" 2 eI:=mk A.f15 A.g ["choices", "room"] uJ ["met", "here", "place"] [] [0,1,2,3,4] [] [] fun X S I hp=>
 (bq (cy S true 2 (cx .leaf iZ)) (bq (cy S false 3 (aj S 1)) (bq (Ht 100 hp (xH (EV (cR (yO I.r) (aj S 3) gN) (Fo (cR (GX I.r) (aj S 3) (aj S 2))))) (bq (B5 S 2 rfl rfl (aj S 3) (eG rfl) rfl rfl rfl rfl) (cZ (cy S false 3 (bu (aj S 0) (aj S 3)))))) (bq (dP (cR (jj I.r) (aj S 3) gN) (cI gN) e8) (lq 2 (bq (cy S false 4 (rN S 2 rfl rfl (aj S 3) rfl (eG rfl) rfl)) (cI (kT (aF (BV (aj S 2) (aj S 4)) (aJ (xK (aj S 2) (aj S 4))))))))))))
theorem HC:DefOk P w K mg base 2 "other_player" 1 bE:=mk A.f16 A.g ["player"] yy [] [] [0] [] [] fun X S I hp=>
 (cI (qV aK (aj S 0)))
theorem Hz:DefOk P w K mg base 2 "is_plan_of" 3 aB:=mk A.f17 A.g ["world", "player", "plan"] kW ["chosen", "room", "there"] ["len", "enumerate", "all"] [0,1,2,3] [0,1,2] [0,1,2] fun X S I hp=>
 (bq (dP (cR (ji I.r) (g7 S 0 I.e.n2 (aJ (aj S 2))) (g7 S 0 I.e.n2 (aJ (bu (aj S 0) aK)))) (cI vc) e8) (bq (Fz (vs':=[4,5]) (cs':=[]) (lo':=[]) (gs':=[]) S false 3 .leaf 4 5 rfl rfl rfl rfl rfl 1 rfl rfl I.e.n4 rfl (by kernel_rfl) (by kernel_rfl) (by kernel_rfl) (aj S 2) (eG rfl) (fun Y1 S1 F1=>have I:=F1.i I;ph (cR (yO I.r) (aj S1 5) gN)) (fun Y1 S1 F1=>have I:=F1.i I;(aj S1 4)) (fun _=>rfl)) (cI (xI S 2 rfl rfl I.e.n1 (aJ (gO [0,1,2,4] [0,1,2] [] S 4 (gM (aj S 3)) (fun _ _ _=>gL) (fun Y2 S2 F2=>have I:=F2.i I;(qU (ib (cS I.r) (bu (bu (aj S2 0) aK) (aj S2 4)) (aj S2 1)) (qW (ib (lO I.r) (bu (aj S2 2) (aj S2 4)) (bu (bu (aj S2 0) aK) (aj S2 4)))))))) (gv rfl) rfl))))
theorem nu:DefOkX P w K mg base 7 "is_plan" 3 dI:=mZ (p:=Gl) A.f18 A.g ["world", "player", "plan"] kW [] ["check_world", "check_player", "is_plan_of"] [0,1,2] [] [0,1,2] fun X W S I th mk=>
 (bq (gq (gp S th 0 (I.x (FE A B)) (aJ (aj S 0))) rfl) (bq (gq (gp S th 1 (I.x (HE A B)) (aJ (aj S 1))) rfl) (cI (bR S 2 (I.c (Hz A B)) (aF (aj S 0) (aF (aj S 1) (aJ (aj S 2))))))))
theorem HI:DefOkX P w K mg base 3 "check_plan" 3 bU:=mZ (p:=Gl) A.f19 A.g ["world", "player", "plan"] kW [] ["is_plan_of", "NoPlan"] [0,1,2] [] [0,1] fun X W S I th mk=>
 (cZ (dP (yQ (kj (bR S 0 (I.c (Hz A B)) (aF (aj S 0) (aF (aj S 1) (aJ (aj S 2))))) (fun _=>rfl))) (cZ (BX S mk 1 (I.ra (A.g.xt.rais B.1 B.2)))) e8))
theorem pW:DefOkX P w K mg base 7 "follow" 3 dJ:=mZ (p:=Gl) A.f20 A.g ["world", "player", "plan"] kW ["steps", "room", "row"] ["check_world", "check_player", "check_plan", "enumerate", "list"] [0,1,2,3] [2] [0,1,2,3,4] fun X W S I th mk=>
 (bq (gq (gp S th 0 (I.x (FE A B)) (aJ (aj S 0))) rfl) (bq (gq (gp S th 1 (I.x (HE A B)) (aJ (aj S 1))) rfl) (bq (gq (gp S th 2 (I.x (HI A B)) (aF (aj S 0) (aF (aj S 1) (aJ (aj S 2))))) rfl) (bq (Fz (vs':=[2,4,5]) (cs':=[2]) (lo':=[]) (gs':=[4]) S false 3 .leaf 4 5 rfl rfl rfl rfl rfl 3 rfl rfl I.e.n4 rfl (by kernel_rfl) (by kernel_rfl) (by kernel_rfl) (bu (aj S 0) aK) (eG rfl) (fun _ _ _=>gL) (fun Y1 S1 F1=>have I:=F1.i I;(BO (cR (jj I.r) (bu (aj S1 2) (aj S1 4)) gN) (Hu S1 4 rfl rfl I.e.n5 (aj S1 5) (eG rfl)) (cx .leaf (aJ (bu (aj S1 2) (aj S1 4)))))) (fun _=>rfl)) (cI (kT (aF (Hu S 4 rfl rfl I.e.n5 (bu (aj S 0) aK) (eG rfl)) (aF (gO [5] [] [4] S 5 (gM (bu (aj S 0) aK)) (fun _ _ _=>gL) (fun Y2 S2 F2=>have I:=F2.i I;(Hu S2 4 rfl rfl I.e.n5 (aj S2 5) (eG rfl)))) (aJ (aj S 3))))))))))
theorem pV:DefOkX P w K mg base 7 "way_by" 4 cP:=mZ (p:=Gl) A.f21 A.g ["world", "plan", "counter", "room"] yx ["choices", "way", "first", "second"] ["check_world", "check_room", "check_plan", "zip", "way_along", "NoPlan"] [0,1,2,3,4,5] [] [0,1,2,3,4,5] fun X W S I th mk=>
 (bq (gq (gp S th 0 (I.x (FE A B)) (aJ (aj S 0))) rfl) (bq (gq (gp S th 1 (I.x (jl A B)) (aF (aj S 0) (aJ (aj S 3)))) rfl) (bq (gq (gp S th 2 (I.x (HI A B)) (aF (aj S 0) (aF aK (aJ (aj S 1))))) rfl) (bq (gq (gp S th 2 (I.x (HI A B)) (aF (aj S 0) (aF aK (aJ (aj S 2))))) rfl) (bq (i6 (vs':=[6,7]) (cs':=[]) (lo':=[]) (gs':=[]) S false 4 .leaf 6 7 rfl rfl rfl rfl rfl 3 rfl rfl I.e.n6 rfl (by kernel_rfl) (by kernel_rfl) (by kernel_rfl) (aF (aj S 1) (aJ (aj S 2))) (gv rfl) rfl (fun _ _ _=>gL) (fun Y1 S1 F1=>have I:=F1.i I;(BO (cR (jj I.r) (aj S1 6) gN) (aj S1 7) (aj S1 6))) (fun _=>rfl)) (bq (cy S false 5 (bR S 4 (I.c (lU A B)) (aF (aj S 4) (aJ (aj S 3))))) (bq (dP (cR (jj I.r) (aj S 5) gN) (cZ (BX S mk 5 (I.ra (A.g.xt.rais B.1 B.2)))) e8) (cI (aj S 5)))))))))
theorem EZ:DefOk P w K mg base 2 "plan_of" 3 bW:=mk A.f22 A.g ["world", "player", "will_do"] kW ["room", "steps"] ["enumerate"] [0,1,2] [0,1] [0] fun X S I hp=>
 (cI (xR (vs':=[0,1,3,4]) (cs':=[0,1]) (lo':=[]) (gs':=[]) S .leaf 3 4 0 rfl rfl rfl rfl rfl I.e.n4 (by kernel_rfl) (by kernel_rfl) (aj S 2) (eG rfl) (fun _ _ _=>gL) (fun Y1 S1 F1=>have I:=F1.i I;(BO (xH (EV (kj (aj S1 4) (fun _=>rfl)) (Fo (cR (cS I.r) (bu (bu (aj S1 0) aK) (aj S1 3)) (aj S1 1))))) (bu (aj S1 4) aK) gN)) (fun _=>rfl)))
theorem B1:DefOkX P w K mg base 7 "check_told" 3 bo:=mZ (p:=Gl) A.f23 A.g ["world", "player", "rooms"] kW [] ["check_world", "check_player", "check_rooms"] [0,1,2] [] [0,1,2] fun X W S I th mk=>
 (bq (gq (gp S th 0 (I.x (FE A B)) (aJ (aj S 0))) rfl) (bq (gq (gp S th 1 (I.x (HE A B)) (aJ (aj S 1))) rfl) (cZ (gq (gp S th 2 (I.x (iw A B)) (aF (aj S 0) (aJ (aj S 2)))) rfl))))
theorem jS:DefOk P w K mg base 5 "brought" 3 dm:=mk A.f24 A.g ["world", "player", "rooms"] kW ["size", "ranks", "owner", "room"] ["len", "list", "range", "ranks_to", "lower_steps", "plan_of"] [0,1,2,3,4] [0,1,4] [0,1,2,3,5] fun X S I hp=>
 (bq (cy S false 3 (g7 S 0 I.e.n2 (aJ (bu (aj S 0) aK)))) (bq (cy S false 4 (bR S 3 (I.c (Hq A B)) (aF (aj S 0) (aF (gO [1,5] [1] [] S 5 (gM (bu (aj S 0) aK)) (fun _ _ _=>gL) (fun Y1 S1 F1=>have I:=F1.i I;(ib (cS I.r) (aj S1 5) (aj S1 1)))) (aF (HD S 1 2 rfl rfl I.e.n5 rfl rfl I.e.n3 (aJ (aj S 3)) (eG rfl) (eG rfl)) (aJ (aj S 2))))))) (cI (kT (aF (aj S 4) (aJ (bR S 5 (I.c (EZ A B)) (aF (aj S 0) (aF (aj S 1) (aJ (gO [0,4,6] [0,4] [4] S 6 (fR S 2 rfl rfl I.e.n3 (aJ (aj S 3)) (eG rfl)) (fun _ _ _=>gL) (fun Y2 S2 F2=>have I:=F2.i I;(bR S2 4 (I.c (jr A B)) (aF (aj S2 0) (aF (aj S2 4) (aJ (aj S2 6)))))))))))))))))
theorem tx:DefOkX P w K mg base 8 "bring" 3 fP:=mZ (p:=Gl) A.f25 A.g ["world", "player", "rooms"] kW [] ["check_told", "brought"] [0,1,2] [] [0,1] fun X W S I th mk=>
 (bq (gq (gp S th 0 (I.x (B1 A B)) (aF (aj S 0) (aF (aj S 1) (aJ (aj S 2))))) rfl) (cI (bR S 1 (I.c (jS A B)) (aF (aj S 0) (aF (aj S 1) (aJ (aj S 2)))))))
theorem kE:DefOk P w K mg base 2 "leads_down" 3 cC:=mk A.f26 A.g ["turns", "here", "there"] kW ["one", "other"] [] [0,1,2,3,4] [] [] fun X S I hp=>
 (bq (cy S false 3 (bu (aj S 0) (aj S 1))) (bq (cy S false 4 (bu (aj S 0) (aj S 2))) (bq (dP (xH (BP (cR (jj I.r) (aj S 3) gN) (EW (cR (jj I.r) (aj S 4) gN)))) (cI vc) e8) (bq (dP (cR (ji I.r) (bu (aj S 3) aK) (bu (aj S 4) aK)) (cI (ib (iu I.r) (bu (aj S 4) aK) (bu (aj S 3) aK))) e8) (cI (vi (ib (iu I.r) (bu (aj S 4) aK) (bu (aj S 3) aK)) (qW (qU (ib (cS I.r) (bu (aj S 3) aK) aK) (qW (ib (cS I.r) (bu (aj S 4) aK) aK))))))))))
theorem ny:DefOk P w K mg base 3 "leads_on" 3 dr:=mk A.f27 A.g ["ranks", "here", "there"] kW [] ["is_lower"] [0,1,2] [] [0] fun X S I hp=>
 (cI (BO (cR (cS I.r) (bu (aj S 0) (aj S 1)) aK) (ib (yO I.r) (bu (aj S 0) (aj S 2)) gN) (bR S 0 (I.c (iB A B)) (aF (bu (aj S 0) (aj S 2)) (aJ (bu (aj S 0) (aj S 1)))))))
theorem dZ:DefOk P w K mg base 3 "is_brought_by" 5 cj:=mk A.f28 A.g ["world", "player", "rooms", "ranks", "plan"] J7 ["room"] ["len", "is_plan_of"] [0,1,2,3,4] [0,1,2,3,4] [0,1] fun X S I hp=>
 (bq (dP (xH (BP (cR (ji I.r) (g7 S 0 I.e.n2 (aJ (aj S 3))) (g7 S 0 I.e.n2 (aJ (bu (aj S 0) aK)))) (EW (yQ (kj (bR S 1 (I.c (Hz A B)) (aF (aj S 0) (aF (aj S 1) (aJ (aj S 4))))) (fun _=>rfl)))))) (cI vc) e8) (cZ Cz))
theorem iy:DefOkX P w K mg base 8 "bring_shows" 5 b3:=mZ (p:=Gl) A.f29 A.g ["world", "player", "rooms", "ranks", "plan"] J7 [] ["check_told", "is_brought_by"] [0,1,2,3,4] [] [0,1] fun X W S I th mk=>
 (bq (gq (gp S th 0 (I.x (B1 A B)) (aF (aj S 0) (aF (aj S 1) (aJ (aj S 2))))) rfl) (cI (bR S 1 (I.c (dZ A B)) (aF (aj S 0) (aF (aj S 1) (aF (aj S 2) (aF (aj S 3) (aJ (aj S 4)))))))))
theorem fm:DefOk P w K mg base 2 "inner_world" 2 bO:=mk A.f30 A.g ["world", "rooms"] uJ ["row", "there"] [] [0,1] [1] [] fun X S I hp=>
 (cI (kT (aF (bu (aj S 0) aK) (aF (bu (aj S 0) aK) (aJ (gO [1,2] [1] [] S 2 (gM (bu (aj S 0) aK)) (fun _ _ _=>gL) (fun Y1 S1 F1=>have I:=F1.i I;(gO [1,3] [1] [] S1 3 (gM (aj S1 2)) (fun Y2 S2 F2=>have I:=F2.i I;ph (cR (lO I.r) (aj S2 3) (aj S2 1))) (fun Y2 S2 F2=>have I:=F2.i I;(aj S2 3))))))))))
theorem fh:DefOk P w K mg base 5 "ranks_among" 4 b8:=mk A.f31 A.g ["world", "player", "rooms", "left"] yx ["goal", "room", "owner"] ["inner_world", "ranks_to"] [0,1,2,3,4] [1,2] [0,1] fun X S I hp=>
 (bq (B0 (vs':=[2,5]) (cs':=[2]) (lo':=[]) (gs':=[]) S false 4 .leaf 5 rfl rfl rfl rfl (by kernel_rfl) (by kernel_rfl) (by kernel_rfl) (gM (aj S 3)) (fun Y1 S1 F1=>have I:=F1.i I;ph (cR (lO I.r) (aj S1 5) (aj S1 2))) (fun Y1 S1 F1=>have I:=F1.i I;(aj S1 5)) (fun _=>rfl)) (cI (bR S 1 (I.c (Hq A B)) (aF (bR S 0 (I.c (fm A B)) (aF (aj S 0) (aJ (aj S 3)))) (aF (gO [1,6] [1] [] S 6 (gM (bu (aj S 0) aK)) (fun _ _ _=>gL) (fun Y2 S2 F2=>have I:=F2.i I;(ib (cS I.r) (aj S2 6) (aj S2 1)))) (aF (aj S 3) (aJ (aj S 4))))))))
theorem fV:DefOk P w K mg base 6 "lost_rooms" 4 cB:=mk A.f32 A.g ["world", "player", "rooms", "left"] yx ["ranks", "room"] ["ranks_among"] [0,1,2,3,4] [4] [0] fun X S I hp=>
 (bq (cy S false 4 (bR S 0 (I.c (fh A B)) (aF (aj S 0) (aF (aj S 1) (aF (aj S 2) (aJ (aj S 3))))))) (cI (gO [4,5] [4] [] S 5 (gM (aj S 3)) (fun Y1 S1 F1=>have I:=F1.i I;ph (cR (jj I.r) (bu (aj S1 4) (aj S1 5)) gN)) (fun Y1 S1 F1=>have I:=F1.i I;(aj S1 5)))))
theorem gy:DefOk P w K mg base 7 "turns_and_left" 3 bV:=mk A.f33 A.g ["world", "player", "rooms"] kW ["turns", "left", "turn", "lost", "ranks", "room", "owner"] ["len", "list", "range", "lost_rooms", "inner_world", "ranks_to"] [0,1,2,3,4,5,6,7,8] [1,3] [0,1,2,3,4,5] fun X S I hp=>
 (bq (lp S true 3 rfl rfl (lx (S.cel 3 _ rfl rfl)) (gO [9] [] [] S 9 (gM (bu (aj S 0) aK)) (fun _ _ _=>gL) (fun Y1 S1 F1=>gN))) (bq (cy S false 4 (HD S 1 2 rfl rfl I.e.n5 rfl rfl I.e.n3 (aJ (g7 S 0 I.e.n2 (aJ (bu (aj S 0) aK)))) (eG rfl) (eG rfl))) (bq (cy S false 5 aK) (bq (cy S false 6 (bR S 3 (I.c (fV A B)) (aF (aj S 0) (aF (aj S 1) (aF (aj S 2) (aJ (aj S 4))))))) (bq (Ht 1000 hp (kj (aj S 6) (fun _=>rfl)) (bq (cy S false 7 (bR S 5 (I.c (Hq A B)) (aF (bR S 4 (I.c (fm A B)) (aF (aj S 0) (aJ (aj S 4)))) (aF (gO [1,9] [1] [] S 9 (gM (bu (aj S 0) aK)) (fun _ _ _=>gL) (fun Y2 S2 F2=>have I:=F2.i I;(ib (ji I.r) (aj S2 9) (aj S2 1)))) (aF (aj S 4) (aJ (aj S 6))))))) (bq (BS S 8 rfl rfl hp (gM (aj S 4)) (cZ (dP (cR (yO I.r) (bu (aj S 7) (aj S 8)) gN) (cZ (Fm S 3 rfl rfl (kT (aF (aj S 5) (aJ (bu (aj S 7) (aj S 8))))) (aj S 8) rfl rfl rfl (fun _=>rfl))) e8)) (fun _=>rfl)) (bq (lu S 5 rfl rfl aK) (bq (B0 (vs':=[3,8]) (cs':=[3]) (lo':=[]) (gs':=[]) S false 4 .leaf 8 rfl rfl rfl rfl (by kernel_rfl) (by kernel_rfl) (by kernel_rfl) (gM (aj S 4)) (fun Y3 S3 F3=>have I:=F3.i I;ph (cR (jj I.r) (bu (aj S3 3) (aj S3 8)) gN)) (fun Y3 S3 F3=>have I:=F3.i I;(aj S3 8)) (fun _=>rfl)) (cZ (cy S false 6 (bR S 3 (I.c (fV A B)) (aF (aj S 0) (aF (aj S 1) (aF (aj S 2) (aJ (aj S 4))))))))))))) (cI (kT (aF (pB S 3 rfl rfl) (aJ (aj S 4))))))))))
theorem tB:DefOkX P w K mg base 8 "again" 3 fQ:=mZ (p:=Gl) A.f34 A.g ["world", "player", "rooms"] kW ["both", "turns", "ranks", "onward", "downward", "there", "room", "row"] ["check_told", "turns_and_left", "ranks_among", "enumerate", "leads_on", "leads_down", "plan_of", "other_player"] [0,1,2,3,4,5,6,7] [4,5] [0,1,2,3,6,7] fun X W S I th mk=>
 (bq (gq (gp S th 0 (I.x (B1 A B)) (aF (aj S 0) (aF (aj S 1) (aJ (aj S 2))))) rfl) (bq (cy S false 3 (bR S 1 (I.c (gy A B)) (aF (aj S 0) (aF (aj S 1) (aJ (aj S 2)))))) (bq (cy S false 4 (bu (aj S 3) aK)) (bq (cy S false 5 (bR S 2 (I.c (fh A B)) (aF (aj S 0) (aF (aj S 1) (aF (aj S 2) (aJ (bu (aj S 3) aK))))))) (bq (Fz (vs':=[5,9,10]) (cs':=[5,9]) (lo':=[]) (gs':=[]) S false 6 .leaf 9 10 rfl rfl rfl rfl rfl 3 rfl rfl I.e.n4 rfl (by kernel_rfl) (by kernel_rfl) (by kernel_rfl) (bu (aj S 0) aK) (eG rfl) (fun _ _ _=>gL) (fun Y1 S1 F1=>have I:=F1.i I;(gO [5,8,9] [5,9] [4] S1 8 (gM (aj S1 10)) (fun Y2 S2 F2=>have I:=F2.i I;ph (kj (bR S2 4 (I.c (ny A B)) (aF (aj S2 5) (aF (aj S2 9) (aJ (aj S2 8))))) (fun _=>rfl))) (fun Y2 S2 F2=>have I:=F2.i I;(aj S2 8)))) (fun _=>rfl)) (bq (Fz (vs':=[4,9,10]) (cs':=[4,9]) (lo':=[]) (gs':=[]) S false 7 .leaf 9 10 rfl rfl rfl rfl rfl 3 rfl rfl I.e.n4 rfl (by kernel_rfl) (by kernel_rfl) (by kernel_rfl) (bu (aj S 0) aK) (eG rfl) (fun _ _ _=>gL) (fun Y3 S3 F3=>have I:=F3.i I;(gO [4,8,9] [4,9] [5] S3 8 (gM (aj S3 10)) (fun Y4 S4 F4=>have I:=F4.i I;ph (kj (bR S4 5 (I.c (kE A B)) (aF (aj S4 4) (aF (aj S4 9) (aJ (aj S4 8))))) (fun _=>rfl))) (fun Y4 S4 F4=>have I:=F4.i I;(aj S4 8)))) (fun _=>rfl)) (cI (kT (aF (aj S 5) (aF (bR S 6 (I.c (EZ A B)) (aF (aj S 0) (aF (aj S 1) (aJ (aj S 6))))) (aF (aj S 4) (aJ (bR S 6 (I.c (EZ A B)) (aF (aj S 0) (aF (bR S 7 (I.c (HC A B)) (aJ (aj S 1))) (aJ (aj S 7)))))))))))))))))
theorem iz:DefOkX P w K mg base 8 "again_shows" 4 b6:=mZ (p:=Gl) A.f35 A.g ["world", "player", "rooms", "paper"] yx ["size", "room"] ["check_told", "len"] [0,1,2,3,4] [0,1,2,3] [0,1] fun X W S I th mk=>
 (bq (gq (gp S th 0 (I.x (B1 A B)) (aF (aj S 0) (aF (aj S 1) (aJ (aj S 2))))) rfl) (bq (cy S false 4 (g7 S 1 I.e.n2 (aJ (bu (aj S 0) aK)))) (bq (dP (xH (BP (cR (ji I.r) (g7 S 1 I.e.n2 (aJ (bu (aj S 3) aK))) (aj S 4)) (EW (cR (ji I.r) (g7 S 1 I.e.n2 (aJ (bu (aj S 3) aK))) (aj S 4))))) (cI vc) e8) (bq Cz (cZ Cz)))))
theorem gS:DefOk P w K mg base 2 "rooms_without" 1 cg:=mk A.f36 A.g ["ranks"] yy ["room", "rank"] ["enumerate"] [0] [] [0] fun X S I hp=>
 (cI (xR (vs':=[1,2]) (cs':=[]) (lo':=[]) (gs':=[]) S .leaf 1 2 0 rfl rfl rfl rfl rfl I.e.n4 (by kernel_rfl) (by kernel_rfl) (aj S 0) (eG rfl) (fun Y1 S1 F1=>have I:=F1.i I;ph (cR (jj I.r) (aj S1 2) gN)) (fun Y1 S1 F1=>have I:=F1.i I;(aj S1 1)) (fun _=>rfl)))
theorem iA:DefOk P w K mg base 2 "steps_within" 3 bS:=mk A.f37 A.g ["world", "rooms", "room"] kW ["there"] [] [0,1,2] [1,2] [] fun X S I hp=>
 (cI (gO [1,2,3] [1,2] [] S 3 (gM (bu (bu (aj S 0) aK) (aj S 2))) (fun Y1 S1 F1=>have I:=F1.i I;ph (xH (EV (cR (lO I.r) (aj S1 2) (aj S1 1)) (Fo (cR (lO I.r) (aj S1 3) (aj S1 1)))))) (fun Y1 S1 F1=>have I:=F1.i I;(aj S1 3))))
theorem wc:DefOkX P w K mg base 8 "keep" 3 hV:=mZ (p:=Gl) A.f38 A.g ["world", "player", "rooms"] kW ["both", "kept", "plan", "room"] ["check_told", "other_player", "other_rooms", "brought", "rooms_without", "len", "range", "steps_within", "plan_of"] [0,1,2,3,4,5] [0,4] [0,1,2,3,4,5,6,8] fun X W S I th mk=>
 (bq (gq (gp S th 0 (I.x (B1 A B)) (aF (aj S 0) (aF (aj S 1) (aJ (aj S 2))))) rfl) (bq (cy S false 3 (bR S 3 (I.c (jS A B)) (aF (aj S 0) (aF (bR S 1 (I.c (HC A B)) (aJ (aj S 1))) (aJ (bR S 2 (I.c (fj A B)) (aF (aj S 0) (aJ (aj S 2))))))))) (bq (cy S false 4 (bR S 4 (I.c (gS A B)) (aJ (bu (aj S 3) aK)))) (bq (cy S false 5 (bR S 8 (I.c (EZ A B)) (aF (aj S 0) (aF (aj S 1) (aJ (gO [0,4,6] [0,4] [7] S 6 (fR S 6 rfl rfl I.e.n3 (aJ (g7 S 5 I.e.n2 (aJ (bu (aj S 0) aK)))) (eG rfl)) (fun _ _ _=>gL) (fun Y1 S1 F1=>have I:=F1.i I;(bR S1 7 (I.c (iA A B)) (aF (aj S1 0) (aF (aj S1 4) (aJ (aj S1 6)))))))))))) (cI (kT (aF (aj S 4) (aF (aj S 5) (aF (bu (aj S 3) aK) (aJ (bu (aj S 3) aK)))))))))))
theorem jk:DefOkX P w K mg base 8 "keep_shows" 4 cA:=mZ (p:=Gl) A.f39 A.g ["world", "player", "rooms", "paper"] yx ["kept"] ["check_told", "other_player", "other_rooms", "is_brought_by"] [0,1,2,3,4] [] [0,1,2,3] fun X W S I th mk=>
 (bq (gq (gp S th 0 (I.x (B1 A B)) (aF (aj S 0) (aF (aj S 1) (aJ (aj S 2))))) rfl) (bq (dP (yQ (kj (bR S 3 (I.c (dZ A B)) (aF (aj S 0) (aF (bR S 1 (I.c (HC A B)) (aJ (aj S 1))) (aF (bR S 2 (I.c (fj A B)) (aF (aj S 0) (aJ (aj S 2)))) (aF (bu (aj S 3) aK) (aJ (bu (aj S 3) aK))))))) (fun _=>rfl))) (cI vc) e8) (bq Cz (cZ Cz))))
theorem FD:DefOk P w K mg base 2 "_law_cell_at" 2 aX:=mk A.f40 A.g ["script", "k"] uJ [] ["len"] [0,1] [] [0] fun X S I hp=>
 (bq (dP (cR (iu I.r) (aj S 1) (g7 S 0 I.e.n2 (aJ (aj S 0)))) (cI (bu (aj S 0) (aj S 1))) e8) (cI aK))
theorem jJ:DefOk P w K mg base 2 "_law_draw" 3 aq:=mk A.f41 A.g ["cell", "k", "bound"] kW ["stir", "left", "j"] ["range"] [0,1,2,3,4,5] [] [0] fun X S I hp=>
 (bq (dP (cR (IG I.r) (aj S 0) (EU aK aK)) (bq (cy S false 4 (aj S 0)) (bq (BS S 5 rfl rfl hp (fR S 0 rfl rfl I.e.n3 (aJ (aj S 1)) (eG rfl)) (cZ (cy S false 4 (ll (aj S 4) (aj S 2)))) (fun _=>rfl)) (cI (rB (aj S 4) (aj S 2))))) e8) (bq (cy S false 3 (rB (CB (iX (iX (rB (aj S 0) aK) (CB aK (aj S 1))) aK) aK) aK)) (bq (cy S false 3 (rB (iX (iX (CB (aj S 3) (aj S 3)) (CB aK (aj S 1))) aK) aK)) (cI (rB (ll (rB (CB (aj S 3) aK) aK) aK) (aj S 2))))))
theorem kF:DefOk P w K mg base 3 "_law_world" 3 m__law_world:=mk A.f42 A.g ["script", "at", "most"] kW ["many", "owners", "marks", "steps", "room", "cell", "row", "there", "mark"] ["_law_cell_at", "range", "_law_draw", "int"] [0,1,2,3,4,5,6,7,8,9] [3,8] [0,1,2] fun X S I hp=>
 (bq (cy S false 3 (iX aK (rB (bR S 0 (I.c (FD A B)) (aF (aj S 0) (aJ (aj S 1)))) (aj S 2)))) (bq (cy S true 4 (cx .leaf iZ)) (bq (cy S true 5 (cx .leaf iZ)) (bq (cy S true 6 (cx .leaf iZ)) (bq (BS S 7 rfl rfl hp (fR S 1 rfl rfl I.e.n3 (aJ (aj S 3)) (eG rfl)) (bq (cy S false 8 (bR S 0 (I.c (FD A B)) (aF (aj S 0) (aJ (iX (iX (aj S 1) aK) (aj S 7)))))) (bq (B5 S 4 rfl rfl (bR S 2 (I.c (jJ A B)) (aF (aj S 8) (aF aK (aJ aK)))) (eG rfl) rfl rfl rfl rfl) (bq (B5 S 5 rfl rfl (gO [8,11] [8] [2] S 11 (pw (by kernel_rfl)) (fun Y1 S1 F1=>have I:=F1.i I;ph (cR (cS I.r) (bR S1 2 (I.c (jJ A B)) (aF (aj S1 8) (aF (iX aK (pC (aj S1 11) (eG rfl) rfl)) (aJ aK)))) aK)) (fun Y1 S1 F1=>have I:=F1.i I;(aj S1 11))) (eG rfl) rfl rfl rfl rfl) (bq (B0 (vs':=[3,8,10]) (cs':=[3,8]) (lo':=[]) (gs':=[2,3]) S false 9 .leaf 10 rfl rfl rfl rfl (by kernel_rfl) (by kernel_rfl) (by kernel_rfl) (fR S 1 rfl rfl I.e.n3 (aJ (aj S 3)) (eG rfl)) (fun Y2 S2 F2=>have I:=F2.i I;ph (cR (cS I.r) (bR S2 2 (I.c (jJ A B)) (aF (aj S2 8) (aF (iX aK (aj S2 10)) (aJ (iX aK (BR S2 3 rfl rfl I.e.n7 (aJ (ib (vW I.r) (aj S2 3) aK)) (gv rfl) rfl)))))) aK)) (fun Y2 S2 F2=>have I:=F2.i I;(aj S2 10)) (fun _=>rfl)) (bq (dP (cR (cS I.r) (aj S 9) (cx .leaf iZ)) (cZ (cy S false 9 (cx .leaf (aJ (bR S 2 (I.c (jJ A B)) (aF (aj S 8) (aF (iX aK (aj S 3)) (aJ (aj S 3))))))))) e8) (cZ (B5 S 6 rfl rfl (aj S 9) (eG rfl) rfl rfl rfl rfl))))))) (fun _=>rfl)) (cI (kT (aF (pB S 4 rfl rfl) (aF (pB S 5 rfl rfl) (aJ (pB S 6 rfl rfl)))))))))))
theorem gT:DefOk P w K mg base 3 "_law_no_world" 2 ck:=mk A.f43 A.g ["world", "cell"] uJ ["at", "far", "owners", "marks", "steps", "row", "odd"] ["_law_draw", "len"] [0,1,2,3,4,5,6,7,8] [] [0,1] fun X S I hp=>
 (bq (pA S 4 5 6 rfl rfl rfl rfl rfl rfl (aj S 0) rfl rfl) (bq (cy S false 2 (rB (bR S 0 (I.c (jJ A B)) (aF (aj S 1) (aF aK (aJ aK)))) (g7 S 1 I.e.n2 (aJ (aj S 4))))) (bq (cy S false 3 (iX aK (bR S 0 (I.c (jJ A B)) (aF (aj S 1) (aF aK (aJ (EU aK aK))))))) (bq (dP (cR (cS I.r) (bR S 0 (I.c (jJ A B)) (aF (aj S 1) (aF aK (aJ aK)))) aK) (cI (kT (aF (cx .leaf iZ) (aF (cx .leaf iZ) (aJ (cx .leaf iZ)))))) e8) (bq (dP (cR (cS I.r) (bR S 0 (I.c (jJ A B)) (aF (aj S 1) (aF aK (aJ aK)))) aK) (bq (cy S false 7 (hU (bu (aj S 6) (aj S 2)) (cx .leaf (aJ (iX (qV (g7 S 1 I.e.n2 (aJ (aj S 4))) aK) (aj S 3)))))) (cI (kT (aF (aj S 4) (aF (aj S 5) (aJ (hU (hU (BV (aj S 6) (aj S 2)) (cx .leaf (aJ (aj S 7)))) (xK (aj S 6) (iX (aj S 2) aK))))))))) e8) (bq (dP (cR (cS I.r) (bR S 0 (I.c (jJ A B)) (aF (aj S 1) (aF aK (aJ aK)))) aK) (cI (kT (aF (aj S 4) (aF (aj S 5) (aJ (hU (hU (BV (aj S 6) (aj S 2)) (cx .leaf (aJ (cx .leaf iZ)))) (xK (aj S 6) (iX (aj S 2) aK)))))))) e8) (bq (dP (cR (cS I.r) (bR S 0 (I.c (jJ A B)) (aF (aj S 1) (aF aK (aJ aK)))) aK) (cI (kT (aF (hU (hU (BV (aj S 4) (aj S 2)) (cx .leaf (aJ (bu (cx .leaf (aF (xJ aK) (aJ aK))) (rB (aj S 3) aK))))) (xK (aj S 4) (iX (aj S 2) aK))) (aF (aj S 5) (aJ (aj S 6)))))) e8) (bq (dP (cR (cS I.r) (bR S 0 (I.c (jJ A B)) (aF (aj S 1) (aF aK (aJ aK)))) aK) (bq (cy S false 8 (bu (cx .leaf (aF (cx .leaf (aF gK (aJ gK))) (aF (cx .leaf (aF gK (aJ gK))) (aF (cx .leaf (aJ gK)) (aF (cx .leaf (aJ gK)) (aJ (cx .leaf (aJ gK)))))))) (rB (aj S 3) aK))) (cI (kT (aF (aj S 4) (aF (hU (hU (BV (aj S 5) (aj S 2)) (cx .leaf (aJ (aj S 8)))) (xK (aj S 5) (iX (aj S 2) aK))) (aJ (aj S 6))))))) e8) (cI (kT (aF (aj S 4) (aF (aj S 5) (aJ (hU (cx .leaf (aJ (cx .leaf (aJ (xJ (aj S 3)))))) (xK (aj S 6) aK)))))))))))))))
theorem jm:DefOkX P w K mg base 9 "_law_asked" 6 dh:=mZ (p:=Gl) A.f44 A.g ["call", "world", "player", "rooms", "plans", "room"] J6 [] ["is_plan", "bring", "bring_shows", "keep", "keep_shows", "again", "again_shows", "follow", "way_by"] [0,1,2,3,4,5] [] [0,1,2,3,4,5,6,7,8] fun X W S I th mk=>
 (cZ (dP (cR (cS I.r) (aj S 0) aK) (cZ (gq (gp S th 0 (I.x (nu A B)) (aF (aj S 1) (aF (aj S 2) (aJ (cx .leaf iZ))))) rfl)) (cZ (dP (cR (cS I.r) (aj S 0) aK) (cZ (gq (gp S th 1 (I.x (tx A B)) (aF (aj S 1) (aF (aj S 2) (aJ (aj S 3))))) rfl)) (cZ (dP (cR (cS I.r) (aj S 0) aK) (cZ (gq (gp S th 2 (I.x (iy A B)) (aF (aj S 1) (aF (aj S 2) (aF (aj S 3) (aF (cx .leaf iZ) (aJ (cx .leaf iZ))))))) rfl)) (cZ (dP (cR (cS I.r) (aj S 0) aK) (cZ (gq (gp S th 3 (I.x (wc A B)) (aF (aj S 1) (aF (aj S 2) (aJ (aj S 3))))) rfl)) (cZ (dP (cR (cS I.r) (aj S 0) aK) (cZ (gq (gp S th 4 (I.x (jk A B)) (aF (aj S 1) (aF (aj S 2) (aF (aj S 3) (aJ (kT (aF (cx .leaf iZ) (aF (cx .leaf iZ) (aF (cx .leaf iZ) (aJ (cx .leaf iZ))))))))))) rfl)) (cZ (dP (cR (cS I.r) (aj S 0) aK) (cZ (gq (gp S th 5 (I.x (tB A B)) (aF (aj S 1) (aF (aj S 2) (aJ (aj S 3))))) rfl)) (cZ (dP (cR (cS I.r) (aj S 0) aK) (cZ (gq (gp S th 6 (I.x (iz A B)) (aF (aj S 1) (aF (aj S 2) (aF (aj S 3) (aJ (kT (aF (cx .leaf iZ) (aF (cx .leaf iZ) (aF (cx .leaf iZ) (aJ (cx .leaf iZ))))))))))) rfl)) (cZ (dP (cR (cS I.r) (aj S 0) aK) (cZ (gq (gp S th 7 (I.x (pW A B)) (aF (aj S 1) (aF (aj S 2) (aJ (bu (aj S 4) aK))))) rfl)) (cZ (gq (gp S th 8 (I.x (pV A B)) (aF (aj S 1) (aF (bu (aj S 4) aK) (aF (bu (aj S 4) aK) (aJ (aj S 5)))))) rfl))))))))))))))))))
theorem nA:DefOk P w K mg base 10 "_law_met" 6 dQ:=Ko (p:=Gl) A.f45 A.g ["call", "world", "player", "rooms", "plans", "room"] J6 ["told", "e"] ["_law_asked", "HallError", "_law_which"] [0,1,2,3,4,5,6,7] [] [0,1,2] fun X S I st hp=>
 (bq (cy S false 6 gK) (bq (CN S st 7 1 (I.xt A.g.xt) (fun pins W=>have th:=HV (X:=X) (pins:=pins) (W:=W) ;have S:=S.try;have I:=I.try;(cZ (gq (gp S th 0 (I.x (jm A B)) (aF (aj S 0) (aF (aj S 1) (aF (aj S 2) (aF (aj S 3) (aF (aj S 4) (aJ (aj S 5)))))))) rfl))) fun pins a C oe c hc hC hcl hd=>AZ S.hand rfl rfl (Bf S st.1 st.2 (I.eE (jo A B)) I.rm rfl hc hC hcl hd rfl rfl 2 rfl rfl)) (cI (aj S 6))))
theorem eH:DefOk P w K mg base 3 "_law_no_plan" 4 bJ:=mk A.f46 A.g ["world", "player", "plan", "cell"] yx ["many", "far", "some", "at"] ["len", "_law_draw"] [0,1,2,3,4,5,6,7] [] [0,1] fun X S I hp=>
 (bq (cy S false 4 (g7 S 0 I.e.n2 (aJ (aj S 2)))) (bq (cy S false 5 (bR S 1 (I.c (jJ A B)) (aF (aj S 3) (aF aK (aJ (EU aK aK)))))) (bq (cy S true 6 (cx .leaf (aF (BV (aj S 2) (xJ aK)) (aF (hU (aj S 2) (cx .leaf (aJ gN))) (aF (hU (cx .leaf (aJ (iX (aj S 4) (aj S 5)))) (xK (aj S 2) aK)) (aJ (hU (cx .leaf (aJ (qV (xJ aK) (aj S 5)))) (xK (aj S 2) aK)))))))) (bq (dP (cR (lO I.r) (qV aK (aj S 1)) (bu (aj S 0) aK)) (bq (cy S false 7 (rO (bu (aj S 0) aK) (qV aK (aj S 1)) rfl (eG rfl) rfl)) (cZ (B5 S 6 rfl rfl (hU (hU (yP (cx .leaf (aJ gN)) (aj S 7)) (cx .leaf (aJ (bu (bu (bu (aj S 0) aK) (aj S 7)) aK)))) (yP (cx .leaf (aJ gN)) (qV (qV (aj S 4) (aj S 7)) aK))) (eG rfl) rfl rfl rfl rfl))) e8) (cI (Hv S 6 rfl rfl (rB (bR S 1 (I.c (jJ A B)) (aF (aj S 3) (aF aK (aJ aK)))) (g7 S 0 I.e.n2 (aJ (aj S 6)))) (fun _ _=>rfl)))))))
end
section
variable {P:Program} {w:World} {K:Fg} {mg:Str->Option Value} (A:Al K mg)
include A
theorem o_law {fa:Addr} (hfa:mg "law"=some (.ref fa)):∃fd:FuncData,(∀(s:Shared) (v:Value),BindsTo s fd ⟨[v],[]⟩ [("script",v)])/\∀base:Heap,K.In base->base.Ns mainGlobals mg->dO P w K mg base kR 11 fa fd ["script"] (pG K 1 tP):=IM (p:=Gl) A.f47 A.g "script" yy hfa ["world", "many", "cell", "bad", "far", "player", "first", "plans", "rooms", "room", "call", "at", "due", "k", "one"] ["_law_world", "len", "_law_cell_at", "range", "_law_draw", "list", "_law_no_plan", "_law_no_world", "int", "_law_met"] [0,1,2,3,4,5,6,7,8,9,10,11,12,13] [1,2,3] [0,1,2,3,4,5,6,7,8,9] fun base B X S I st hp=>
 (bq (cy S false 1 (bR S 0 (I.c (kF A B)) (aF (aj S 0) (aF aK (aJ aK))))) (bq (cy S false 2 (g7 S 1 I.e.n2 (aJ (bu (aj S 1) aK)))) (bq (cy S false 3 (bR S 2 (I.c (FD A B)) (aF (aj S 0) (aJ aK)))) (bq (B0 (vs':=[3,14]) (cs':=[3]) (lo':=[]) (gs':=[4]) S false 4 .leaf 14 rfl rfl rfl rfl (by kernel_rfl) (by kernel_rfl) (by kernel_rfl) (fR S 3 rfl rfl I.e.n3 (aJ aK) (eG rfl)) (fun _ _ _=>gL) (fun Y1 S1 F1=>have I:=F1.i I;(ib (cS I.r) (bR S1 4 (I.c (jJ A B)) (aF (aj S1 3) (aF (aj S1 14) (aJ aK)))) aK)) (fun _=>rfl)) (bq (cy S false 5 (bR S 4 (I.c (jJ A B)) (aF (aj S 3) (aF aK (aJ (EU aK aK)))))) (bq (cy S false 6 (bR S 4 (I.c (jJ A B)) (aF (aj S 3) (aF aK (aJ aK))))) (bq (B0 (vs':=[1,2,15]) (cs':=[1,2,15]) (lo':=[]) (gs':=[3]) S false 7 .leaf 15 rfl rfl rfl rfl (by kernel_rfl) (by kernel_rfl) (by kernel_rfl) (rK (kT (aF aK (aJ aK)))) (fun _ _ _=>gL) (fun Y2 S2 F2=>have I:=F2.i I;(gO [1,10,15] [1,15] [] S2 10 (fR S2 3 rfl rfl I.e.n3 (aJ (aj S2 2)) (eG rfl)) (fun _ _ _=>gL) (fun Y3 S3 F3=>have I:=F3.i I;(BO (cR (cS I.r) (bu (bu (aj S3 1) aK) (aj S3 10)) (aj S3 15)) (bu (bu (bu (aj S3 1) aK) (aj S3 10)) aK) gN)))) (fun _=>rfl)) (bq (cy S true 8 (cx .leaf (aF (bu (aj S 7) (aj S 6)) (aF (bu (aj S 7) aK) (aJ (bu (aj S 7) aK)))))) (bq (cy S false 9 (HD S 5 3 rfl rfl I.e.n5 rfl rfl I.e.n3 (aJ (aj S 2)) (eG rfl) (eG rfl))) (bq (cy S false 10 aK) (bq (dP (kj (bu (aj S 4) aK) (fun _=>rfl)) (bq (Fm S 8 rfl rfl (bR S 6 (I.c (eH A B)) (aF (aj S 1) (aF (aj S 6) (aF (Hv S 8 rfl rfl aK (fun _ _=>rfl)) (aJ (aj S 3)))))) aK rfl rfl rfl (fun _=>rfl)) (bq (cy S false 12 (iX aK (bR S 4 (I.c (jJ A B)) (aF (aj S 3) (aF aK (aJ aK)))))) (cZ (Fm S 8 rfl rfl (bR S 6 (I.c (eH A B)) (aF (aj S 1) (aF (qV (aj S 12) aK) (aF (Hv S 8 rfl rfl (aj S 12) (fun _ _=>rfl)) (aJ (aj S 3)))))) (aj S 12) rfl rfl rfl (fun _=>rfl))))) e8) (lq 8 (bq (dP (kj (bu (aj S 4) aK) (fun _=>rfl)) (cZ (cy S false 6 (bu (cx .leaf (aF (qV (xJ aK) (aj S 5)) (aJ (iX aK (aj S 5))))) (bR S 4 (I.c (jJ A B)) (aF (aj S 3) (aF aK (aJ aK))))))) e8) (bq (dP (kj (bu (aj S 4) aK) (fun _=>rfl)) (cZ (cy S false 9 (bu (cx .leaf (aF (cx .leaf (aJ (iX (aj S 2) (aj S 5)))) (aF (cx .leaf (aJ (qV (xJ aK) (aj S 5)))) (aF (cx .leaf (aF aK (aJ aK))) (aF (hU (aj S 9) (cx .leaf (aJ (aj S 2)))) (aF (hU (cx .leaf (aJ (xJ aK))) (aj S 9)) (aJ (hU (cx .leaf (aJ aK)) (aj S 9))))))))) (bR S 4 (I.c (jJ A B)) (aF (aj S 3) (aF aK (aJ aK))))))) e8) (bq (dP (kj (bu (aj S 4) aK) (fun _=>rfl)) (cZ (cy S false 10 (bu (cx .leaf (aF (iX (aj S 2) (aj S 5)) (aJ (qV (xJ aK) (aj S 5))))) (bR S 4 (I.c (jJ A B)) (aF (aj S 3) (aF aK (aJ aK))))))) e8) (bq (dP (kj (bu (aj S 4) aK) (fun _=>rfl)) (cZ (cy S false 1 (bR S 7 (I.c (gT A B)) (aF (aj S 1) (aJ (bR S 2 (I.c (FD A B)) (aF (aj S 0) (aJ aK)))))))) e8) (bq (BS S 11 rfl rfl hp (fR S 3 rfl rfl I.e.n3 (aJ aK) (eG rfl)) (bq (cy S false 13 (hU (hU (yP (cx .leaf (aJ gK)) (BR S 8 rfl rfl I.e.n7 (aJ (bu (aj S 4) aK)) (gv rfl) rfl)) (yP (cx .leaf (aJ gK)) (BR S 8 rfl rfl I.e.n7 (aJ (qU (bu (aj S 4) aK) (qW (ib (iu I.r) (aj S 11) aK)))) (gv rfl) rfl))) (yP (cx .leaf (aJ gK)) (BR S 8 rfl rfl I.e.n7 (aJ (qU (bu (aj S 4) aK) (qW (xS (iu I.r) (iu I.r) aK (aj S 11) aK (by with_unfolding_all rfl))))) (gv rfl) rfl)))) (bq (cy S false 13 (hU (hU (hU (aj S 13) (yP (cx .leaf (aJ gK)) (BR S 8 rfl rfl I.e.n7 (aJ (qU (bu (aj S 4) aK) (qW (ib (cS I.r) (aj S 11) aK)))) (gv rfl) rfl))) (yP (cx .leaf (aJ gK)) (BR S 8 rfl rfl I.e.n7 (aJ (qU (bu (aj S 4) aK) (qW (ib (vW I.r) (aj S 11) aK)))) (gv rfl) rfl))) (cx .leaf (aJ gK)))) (cZ (dP (cR (ji I.r) (bR S 9 (I.c (nA A B)) (aF (aj S 11) (aF (aj S 1) (aF (aj S 6) (aF (aj S 9) (aF (aj S 8) (aJ (aj S 10)))))))) (bu (aj S 13) aK)) (cI vc) e8)))) (fun _=>rfl)) (cI vc))))))))))))))))))
end
end KQ.M.L
open PySem PySem.W PyProof.Rows
def PySem.W.Fast.tw12171552682172629697:=0
def PySem.W.Fast.tw17775523212812098243:=0
def PySem.W.Fast.tw16509089947182387908:=0
def PySem.W.Fast.tw18446078922249873064:=0
def PySem.W.Fast.tw11815273653880520584:=0
def PySem.W.Fast.tw7939047201191933867:=0
def PySem.W.Fast.tw11091419404616714477:=0
def PySem.W.Fast.tw7843178641339710989:=0
def PySem.W.Fast.tw10788585694186609777:=0
def PySem.W.Fast.tw581322602740783730:=0
def PySem.W.Fast.tw9784381485833774131:=0
def PySem.W.Fast.tw13339442205931071926:=0
def PySem.W.Fast.tw6150015690413202871:=0
def PySem.W.Fast.tw6042061924970926264:=0
def PySem.W.Fast.tw8766096484903151803:=0
def PySem.W.Fast.tw11202522718983278364:=0
def PySem.W.Fast.tw11381848238966138365:=0
def PySem.W.Fast.tw13312224293292056125:=0
def PySem.W.Fast.tw17370314905307949119:=0
def PySem.W.Fast.tw10154294697815242495:=0
set_option maxRecDepth 100000 in
set_option maxHeartbeats 0 in
theorem PySem.Challenge.cw_foreseehall_k74_players_refused_holds : PySem.Challenge.rw_foreseehall_k74_players_refused.Holds := by
 w_on;o_law;k_head;(case hw=>w_witness2)
 k_fill
 refine T.walkG (j:=11) (l:=PySem.Challenge.rw_foreseehall_k74_players_refused) KQ.M.L.law_true ⟨rfl,by decide,by decide,rfl⟩ rfl rfl (fun w h Y=>PySem.W.kIn_of Y) ?F
 case F=>
  intro w mg fa h KX G hmg;refine' KQ.M.L.o_law (.mk (.mk (T.gn KX G ?z0) (T.gn KX G ?z1) (T.gn KX G ?z2) (T.gn KX G ?z3) (T.gn KX G ?z4) (T.gn KX G ?z5) (T.gn KX G ?z6) (T.gn KX G ?z7) (T.gn KX G ?z8) (T.gn KX G ?z9) (T.gt KX G ?e0 ?q0 ?v0) (T.gi KX G ?e1) (T.gt KX G ?e2 ?q2 ?v2) (T.gx KX G ?xt)) (T.ft KX G ?a0 ?l0 ?c0 ?k0) (T.ft KX G ?a1 ?l1 ?c1 ?k1) (T.ft KX G ?a2 ?l2 ?c2 ?k2) (T.ft KX G ?a3 ?l3 ?c3 ?k3) (T.ft KX G ?a4 ?l4 ?c4 ?k4) (T.ft KX G ?a5 ?l5 ?c5 ?k5) (T.ft KX G ?a6 ?l6 ?c6 ?k6) (T.ft KX G ?a7 ?l7 ?c7 ?k7) (T.ft KX G ?a8 ?l8 ?c8 ?k8) (T.ft KX G ?a9 ?l9 ?c9 ?k9) (T.ft KX G ?a10 ?l10 ?c10 ?k10) (T.ft KX G ?a11 ?l11 ?c11 ?k11) (T.ft KX G ?a12 ?l12 ?c12 ?k12) (T.ft KX G ?a13 ?l13 ?c13 ?k13) (T.ft KX G ?a14 ?l14 ?c14 ?k14) (T.ft KX G ?a15 ?l15 ?c15 ?k15) (T.ft KX G ?a16 ?l16 ?c16 ?k16) (T.ft KX G ?a17 ?l17 ?c17 ?k17) (T.ft KX G ?a18 ?l18 ?c18 ?k18) (T.ft KX G ?a19 ?l19 ?c19 ?k19) (T.ft KX G ?a20 ?l20 ?c20 ?k20) (T.ft KX G ?a21 ?l21 ?c21 ?k21) (T.ft KX G ?a22 ?l22 ?c22 ?k22) (T.ft KX G ?a23 ?l23 ?c23 ?k23) (T.ft KX G ?a24 ?l24 ?c24 ?k24) (T.ft KX G ?a25 ?l25 ?c25 ?k25) (T.ft KX G ?a26 ?l26 ?c26 ?k26) (T.ft KX G ?a27 ?l27 ?c27 ?k27) (T.ft KX G ?a28 ?l28 ?c28 ?k28) (T.ft KX G ?a29 ?l29 ?c29 ?k29) (T.ft KX G ?a30 ?l30 ?c30 ?k30) (T.ft KX G ?a31 ?l31 ?c31 ?k31) (T.ft KX G ?a32 ?l32 ?c32 ?k32) (T.ft KX G ?a33 ?l33 ?c33 ?k33) (T.ft KX G ?a34 ?l34 ?c34 ?k34) (T.ft KX G ?a35 ?l35 ?c35 ?k35) (T.ft KX G ?a36 ?l36 ?c36 ?k36) (T.ft KX G ?a37 ?l37 ?c37 ?k37) (T.ft KX G ?a38 ?l38 ?c38 ?k38) (T.ft KX G ?a39 ?l39 ?c39 ?k39) (T.ft KX G ?a40 ?l40 ?c40 ?k40) (T.ft KX G ?a41 ?l41 ?c41 ?k41) (T.ft KX G ?a42 ?l42 ?c42 ?k42) (T.ft KX G ?a43 ?l43 ?c43 ?k43) (T.ft KX G ?a44 ?l44 ?c44 ?k44) (T.ft KX G ?a45 ?l45 ?c45 ?k45) (T.ft KX G ?a46 ?l46 ?c46 ?k46) (T.ft KX G ?a47 ?l47 ?c47 ?k47) (T.ft KX G ?a48 ?l48 ?c48 ?k48)) hmg
  case a0|l0|c0|k0|a1|l1|c1|k1|a2|l2|c2|k2|a3|l3|c3|k3|a4|l4|c4|k4|a5|l5|c5|k5|a6|l6|c6|k6|a7|l7|c7|k7|a8|l8|c8|k8|a9|l9|c9|k9|a10|l10|c10|k10|a11|l11|c11|k11|a12|l12|c12|k12|a13|l13|c13|k13|a14|l14|c14|k14|a15|l15|c15|k15|a16|l16|c16|k16|a17|l17|c17|k17|a18|l18|c18|k18|a19|l19|c19|k19|a20|l20|c20|k20|a21|l21|c21|k21|a22|l22|c22|k22|a23|l23|c23|k23|a24|l24|c24|k24|a25|l25|c25|k25|a26|l26|c26|k26|a27|l27|c27|k27|a28|l28|c28|k28|a29|l29|c29|k29|a30|l30|c30|k30|a31|l31|c31|k31|a32|l32|c32|k32|a33|l33|c33|k33|a34|l34|c34|k34|a35|l35|c35|k35|a36|l36|c36|k36|a37|l37|c37|k37|a38|l38|c38|k38|a39|l39|c39|k39|a40|l40|c40|k40|a41|l41|c41|k41|a42|l42|c42|k42|a43|l43|c43|k43|a44|l44|c44|k44|a45|l45|c45|k45|a46|l46|c46|k46|a47|l47|c47|k47|a48|l48|c48|k48|z0|z1|z2|z3|z4|z5|z6|z7|z8|z9|e0|q0=>k_is
  case v0=>kernel_rfl
  case e1|e2|q2=>k_is
  case v2|xt=>kernel_rfl
