import PyProof.Rows.All
import Wide.All
import OpenK.AllK
import Wide.FinOn
import PyProof.EqAt
import PyProof.EqKinds
import PyProof.TupleCall
import PyProof.StrBlockH
import PyProof.StrWalks
import PyProof.StrCalls
import PyProof.StrCalls2
import PyProof.PureStr
import PyProof.FString
import PyProof.StrLawsIdx
import PyProof.SetRoads
import PyProof.DictRoadsH
import Lean
import PySem.Challenge.RW_foreseehall_k83_whole_forms_and_texts_ar
open List (mem_append_right mem_append_left getElem?_eq_getElem append_assoc mem_cons_of_mem length_append length_set length_map mem_cons_self getElem?_map getD_eq_getElem?_getD map_cons mem_of_getElem? getElem?_set_ne size_toArray mem_cons not_mem_nil getElem?_set_self length_cons contains_iff_mem set_set map_map getElem?_append_right getElem?_append_left lookup_cons nodup_nil nil_append getElem_mem all_eq_true length_filter_le append_nil sum_cons length_singleton any_eq_true flatten_cons length_drop perm_append_comm getElem?_toArray getElem?_eq_none length_nil length_take map_nil mem_range mem_map flatMap_cons map_append exists_mem_of_ne_nil getElem?_replicate forIn_nil ext_getElem? getElem_of_mem take_of_length_le filter_cons sum_append sum_nil)
set_option Elab.async false
set_option linter.all false
set_option maxRecDepth 100000
set_option maxHeartbeats 4000000
set_option maxRecDepth 10000
abbrev Fg:=PySem.W.Frag
theorem KH {α:Type _} {a:α} (s:List α) {t:List α} (h:a∈t):a∈s++t:=List.mem_append_right s h
theorem KI {α:Type _} {a:α} {s:List α} (t:List α) (h:a∈s):a∈s++t:=List.mem_append_left t h
theorem KJ {α:Type _} {a:α} {s t:List α} (h:a∈s++t):a∈s\/a∈t:=List.mem_append.mp h
theorem KL {α:Type _} {a b:α} {t:List α} (h:a∈b::t):a=b\/a∈t:=List.mem_cons.mp h
theorem KM {α:Type _} {l:List α} {i:Nat} (h:i<l.length):l[i]?=some l[i]:=List.getElem?_eq_getElem h
theorem KN {α:Type _} {l:List α} {i:Nat} {a:α}:l.getD i a=l[i]?.getD a:=List.getD_eq_getElem?_getD
theorem KO {α:Type _} (y:α) {a:α} {l:List α} (h:a∈l):a∈y::l:=List.mem_cons_of_mem y h
abbrev KP {α:Type _} {a b:List α}:=(List.nodup_append (l₁:=a) (l₂:=b)).mp
abbrev KQ {α:Type _} {a:α} {l:List α} {i:Nat}:=(List.getElem?_eq_some_iff (l:=l) (i:=i) (a:=a)).mp
abbrev KR:=@PySem.wpAny_bind
abbrev KS:=@PySem.wpAny_pure
abbrev KU:=@PySem.Heap.get?_push_of_some
abbrev KW:=@Nat.le_refl
abbrev KY:=PySem.PyData
namespace L2
open PySem PySem.Spec PyProof.Rows
abbrev my:=Sum Int Str
noncomputable def zH:my->Value->Bool
 | .inl k,v=>Value.isInt k v
 | .inr x,v=>Value.isStrOf x v
noncomputable def Jt (w:World):my->Int
 | .inl k=>hashInt k
 | .inr x=>hashStr w x
theorem wM:∀{k:my} {v:Value},zH k v=true->(∃i t,k=Sum.inl i/\v=Value.int i t)\/(∃x t,k=Sum.inr x/\v=Value.str x t)
 | .inl i,v,h=>by
  obtain ⟨t,e⟩:=Value.isInt_shape (k:=i) (v:=v) h
  exact .inl ⟨i,t,rfl,e⟩
 | .inr x,v,h=>by
  obtain ⟨t,e⟩:=Value.isStrOf_shape (x:=x) (v:=v) h
  exact .inr ⟨x,t,rfl,e⟩
theorem B1 (a b:Int):decide ((Sum.inl a:my)=Sum.inl b)=(a==b):=by
 by_cases e:a=b
 ·subst e;simp
 ·have h:¬(Sum.inl a:my)=Sum.inl b:=fun q=>e (Sum.inl.inj q)
  rw [decide_eq_false h];exact (beq_eq_false_iff_ne.mpr e).symm
theorem BY (a b:Str):decide ((Sum.inr a:my)=Sum.inr b)=decide (a=b):=by
 by_cases e:a=b
 ·subst e;simp
 ·have h:¬(Sum.inr a:my)=Sum.inr b:=fun q=>e (Sum.inr.inj q)
  rw [decide_eq_false h,decide_eq_false e]
theorem B0 (a:Int) (b:Str):decide ((Sum.inl a:my)=Sum.inr b)=false:=decide_eq_false (fun q=>nomatch q)
theorem BZ (a:Str) (b:Int):decide ((Sum.inr a:my)=Sum.inl b)=false:=decide_eq_false (fun q=>nomatch q)
noncomputable def lR (prog:Program) (w:World):PySem.KeyKind prog w my where
 is:=zH
 hash:=Jt w
 inj:=fun v a b ha hb=>by
  rcases wM ha with ⟨i,t,rfl,rfl⟩ | ⟨x,t,rfl,rfl⟩
  ·rcases wM hb with ⟨j,u,rfl,e⟩ | ⟨y,u,rfl,e⟩
   ·injection e with e1 _;rw [e1]
   ·exact nomatch e
  ·rcases wM hb with ⟨j,u,rfl,e⟩ | ⟨y,u,rfl,e⟩
   ·exact nomatch e
   ·injection e with e1 _;rw [e1]
 byValue:=fun k v h=>by
  rcases wM h with ⟨i,t,rfl,rfl⟩ | ⟨x,t,rfl,rfl⟩<;>rfl
 pyHash:=fun hv h=>by
  rcases wM hv with ⟨i,t,rfl,rfl⟩ | ⟨x,t,rfl,rfl⟩
  ·exact wpAny_pyHash_int h
  ·exact wpAny_pyHash_str h
 eqBool:=fun hu hv h=>by
  rcases wM hu with ⟨i,t,rfl,rfl⟩ | ⟨x,t,rfl,rfl⟩
  ·rcases wM hv with ⟨j,u,rfl,rfl⟩ | ⟨y,u,rfl,rfl⟩
   ·rw [B1] at h;exact wpAny_eqBool_int h
   ·rw [B0] at h;exact SeqAt.EqAt.int_str i t y u _ _ _ _ h
  ·rcases wM hv with ⟨j,u,rfl,rfl⟩ | ⟨y,u,rfl,rfl⟩
   ·rw [BZ] at h;exact SeqAt.EqAt.str_int x t j u _ _ _ _ h
   ·rw [BY] at h;exact wpAny_eqBool_str h
 «strs»:=fun k x t v h=>by
  rcases wM h with ⟨i,u,rfl,e⟩ | ⟨y,u,rfl,e⟩
  ·exact nomatch e
  ·injection e with e1 _
   subst e1
   cases v<;>rfl
inductive V where
 | non | bl (b:Bool) | int (i:Int) | str (x:Str) | byt (b:Array UInt8) | flt (b:UInt64) | ref (a:Addr) | ty (n:String)
 deriving DecidableEq
noncomputable def RelV:V->Value->Prop
 | .non,u=>u=Value.none
 | .bl b,u=>u=Value.bool b
 | .int i,u=>∃t,u=Value.int i t
 | .str x,u=>∃t,u=Value.str x t
 | .byt b,u=>∃t,u=Value.bytes b t
 | .flt b,u=>∃t,u=Value.float b t
 | .ref a,u=>u=Value.ref a
 | .ty n,u=>u=Value.type n
noncomputable abbrev Vals:List V->List Value->Prop:=Paired RelV
theorem Vals.length {xs:List V} {us:List Value} (r:Vals xs us):xs.length=us.length:=Paired.length r
theorem Vals.get:∀{xs:List V} {us:List Value} {i:Nat} {x:V},Vals xs us->xs[i]?=some x->∃u,us[i]?=some u/\RelV x u
 | _,_,_,_,.nil,e=>by simp at e
 | _,_,0,_,.cons r _,e=>by simp at e;subst e;exact ⟨_,rfl,r⟩
 | _,_,i+1,x,.cons _ t,e=>by
  obtain ⟨u,h1,h2⟩:=Vals.get (i:=i) (x:=x) t (by simpa using e)
  exact ⟨u,by simpa using h1,h2⟩
theorem Vals.set {x:V} {u:Value} (r:RelV x u):∀{xs:List V} {us:List Value} (i:Nat),Vals xs us->Vals (xs.set i x) (us.set i u)
 | _,_,_,.nil=>.nil
 | _,_,0,.cons _ t=>.cons r t
 | _,_,i+1,.cons q t=>.cons q (Vals.set r i t)
theorem Vals.append:∀{xs ys:List V} {us ws:List Value},Vals xs us->Vals ys ws->Vals (xs++ys) (us++ws)
 | _,_,_,_,.nil,s=>s
 | _,_,_,_,.cons r t,s=>.cons r (Vals.append t s)
theorem Vals.take:∀{xs:List V} {us:List Value} (n:Nat),Vals xs us->Vals (xs.take n) (us.take n)
 | _,_,0,_=>.nil
 | _,_,_+1,.nil=>.nil
 | _,_,n+1,.cons r t=>.cons r (Vals.take n t)
theorem Vals.drop:∀{xs:List V} {us:List Value} (n:Nat),Vals xs us->Vals (xs.drop n) (us.drop n)
 | _,_,0,r=>r
 | _,_,_+1,.nil=>.nil
 | _,_,n+1,.cons _ t=>Vals.drop n t
noncomputable def CU:Option V->Option Value->Prop
 | some v,some u=>RelV v u
 | none,none=>True
 | _,_=>False
noncomputable def KV {κ:Type}:List (κ×V)->List (κ×Value)->Prop:=Paired fun (p:κ×V) (q:κ×Value)=>p.1=q.1/\RelV p.2 q.2
noncomputable def kV:my->V
 | .inl i=>.int i
 | .inr x=>.str x
inductive HO where
 | lst (xs:List V)
 | tup (xs:List V)
 | dK (kvs:List (my×V)) | dT (kvs:List (List my×V))
 | set (S:Int->Bool) (n:Nat)
 | ins (C dx:Addr) (fs:List (Str×V))
 | own (x:Addr)
 | xd (fs:List (Str×V))
 | met (f x:Addr)
 | rng (lo hi:Int)
 | frz (o:Obj) (u:HO)
 | tbl (ps:Array Value)
 | ext (φ:Heap->Prop)
abbrev Hp:=Addr->Option HO
noncomputable def cy (H:Hp) (a:Addr) (o:HO):Hp:=fun b=>if b=a then some o else H b
theorem jQ {H:Hp} {a:Addr} {o:HO}:cy H a o a=some o:=by unfold cy;rw [if_pos rfl]
theorem gz {H:Hp} {a b:Addr} {o:HO} (h:b≠a):cy H a o b=H b:=by unfold cy;rw [if_neg h]
theorem wq {H:Hp} {a b:Addr} {o:HO} (h:H a=some o) (h':H b=none):a≠b:=by
 intro e;subst e;rw [h] at h';cases h'
section
variable (P:Program) (w:World)
noncomputable def ObjOk (H:Hp) (h:Heap) (a:Addr):HO->Prop
 | .lst xs=>xs.length<=sizeLine/\∃(its:List Value) (n:Nat),Vals xs its/\h.get? a=some { cls:=.type "list",data:=.seq its.toArray n }
 | .tup xs=>xs.length<=sizeLine/\∃its:List Value,Vals xs its/\IsTup h a its.toArray
 | .dK kvs=>kvs.length<=sizeLine/\(a==sysModules)=false/\∃vs,KV kvs vs/\h.DictOf (lR P w) a vs
 | .dT kvs=>kvs.length<=sizeLine/\(a==sysModules)=false/\∃xs:List (List my×Addr×Value),
   Paired (fun (p:List my×V) (q:List my×Addr×Value)=>p.1=q.1/\H q.2.1=some (.tup (p.1.map kV))/\RelV p.2 q.2.2) kvs xs /\
   ∃o es ep,h.get? a=some o/\o.ExactDict/\o.data=.dict es ep/\es.toList=xs.map (entryOfKey (tupleKind (lR P w)))/\(xs.map (·.1)).Nodup
 | .set S n=>h.SetOf (intKind P w) a S n
 | .ins C dx fs=>H dx=some (.own a)/\fs.length<=1000/\dx≠a/\h.get? a=some (PySem.W.instObj C dx) /\
   ∃mA,h.Ns1 dx mA/\(∀f,CU (fs.lookup f) (mA f))/\PySem.Within mA (fs.map (·.1))
 | .own _=>∃o,h.get? a=some o
 | .xd fs=>∃mA,h.Ns1 a mA/\∀f,CU (fs.lookup f) (mA f)
 | .rng lo hi=>∃t u v,h.get? a=some { cls:=.type "range",data:=.fields #[.int lo t,.int hi u,.int 1 v] }
 | .frz o u=>h.get? a=some o/\ObjOk H h a u
 | .tbl ps=>h.get? a=some { cls:=.none,data:=.fields ps }
 | .met f x=>h.get? a=some (PySem.W.methodObj (.ref f) (.ref x))
 | .ext φ=>φ h/\(∃o,h.get? a=some o)/\∀h1 h2:Heap,φ h1->(∀o,h1.get? a=some o->h2.get? a=some o)->φ h2
noncomputable def HOk (H:Hp) (h:Heap):Prop:=∀a o,H a=some o->ObjOk P w H h a o
end
section
variable {P:Program} {w:World} {H H':Hp} {h h':Heap} {a:Addr} {o:HO}
theorem ObjOk.lt (x:ObjOk P w H h a o):a<h.objs.size:=by
 cases o with
 | lst xs=>obtain ⟨_,_,_,_,e⟩:=x;exact Heap.lt_size e
 | tup xs=>obtain ⟨_,_,_,p⟩:=x;exact p.lt
 | dK kvs=>obtain ⟨_,_,_,_,o,_,_,e,_⟩:=x;exact Heap.lt_size e
 | dT kvs=>obtain ⟨_,_,_,_,o,_,_,e,_⟩:=x;exact Heap.lt_size e
 | set S n=>obtain ⟨o,_,_,_,e,_⟩:=x;exact Heap.lt_size e
 | ins C dx fs=>obtain ⟨_,_,_,e,_⟩:=x;exact Heap.lt_size e
 | own y=>obtain ⟨_,e⟩:=x;exact Heap.lt_size e
 | xd fs=>obtain ⟨_,⟨_,_,_,e,_⟩,_⟩:=x;exact Heap.lt_size e
 | rng lo hi=>obtain ⟨_,_,_,e⟩:=x;exact Heap.lt_size e
 | frz ob u=>obtain ⟨e,_⟩:=x;exact Heap.lt_size e
 | tbl ps=>exact Heap.lt_size (show h.get? a=some _ from x)
 | met f y=>exact Heap.lt_size (show h.get? a=some _ from x)
 | ext φ=>obtain ⟨_,⟨_,e⟩,_⟩:=x;exact Heap.lt_size e
theorem Paired.mapP {α β:Type} {F G:α->β->Prop}:∀{l₁:List α} {l₂:List β},Paired F l₁ l₂->(∀a b,F a b->G a b)->Paired G l₁ l₂
 | _,_,.nil,_=>.nil
 | _,_,.cons r t,f=>.cons (f _ _ r) (Paired.mapP t f)
theorem ObjOk.stay (x:ObjOk P w H h a o) (k:∀b u,(b=a\/H b=some (.own a))->h.get? b=some u->h'.get? b=some u)
  (ho:∀b,H b=some (.own a)->H' b=some (.own a)) (ht:∀b xs,H b=some (.tup xs)->H' b=some (.tup xs)):ObjOk P w H' h' a o:=by
 induction o with
 | lst xs=>obtain ⟨z,its,n,r,e⟩:=x;exact ⟨z,its,n,r,k _ _ (.inl rfl) e⟩
 | tup xs=>obtain ⟨z,its,r,ob,e,c⟩:=x;exact ⟨z,its,r,ob,k _ _ (.inl rfl) e,c⟩
 | dK kvs=>obtain ⟨z,y,vs,r,ob,es,ep,e,c⟩:=x;exact ⟨z,y,vs,r,ob,es,ep,k _ _ (.inl rfl) e,c⟩
 | dT kvs=>
  obtain ⟨z,y,xs,r,ob,es,ep,e,c⟩:=x;exact ⟨z,y,xs,Paired.mapP r fun p q z=>⟨z.1,ht _ _ z.2.1,z.2.2⟩,ob,es,ep,k _ _ (.inl rfl) e,c⟩
 | set S n=>obtain ⟨ob,es,ep,t,e,c⟩:=x;exact ⟨ob,es,ep,t,k _ _ (.inl rfl) e,c⟩
 | ins C dx fs=>
  obtain ⟨d,z,ne,e,mA,⟨od,es,ep,e2,c⟩,r⟩:=x;exact ⟨ho _ d,z,ne,k _ _ (.inl rfl) e,mA,⟨od,es,ep,k _ _ (.inr d) e2,c⟩,r⟩
 | own y=>obtain ⟨ob,e⟩:=x;exact ⟨ob,k _ _ (.inl rfl) e⟩
 | xd fs=>obtain ⟨mA,⟨od,es,ep,e,c⟩,r⟩:=x;exact ⟨mA,⟨od,es,ep,k _ _ (.inl rfl) e,c⟩,r⟩
 | rng lo hi=>obtain ⟨t,u,v,e⟩:=x;exact ⟨t,u,v,k _ _ (.inl rfl) e⟩
 | frz ob u ih=>obtain ⟨e,q⟩:=x;exact ⟨k _ _ (.inl rfl) e,ih q⟩
 | tbl ps=>
  have e:h.get? a=some { cls:=.none,data:=.fields ps }:=x
  show h'.get? a=some { cls:=.none,data:=.fields ps }
  exact k a _ (.inl rfl) e
 | met f y=>
  have e:h.get? a=some (PySem.W.methodObj (.ref f) (.ref y)):=x
  show h'.get? a=some (PySem.W.methodObj (.ref f) (.ref y))
  exact k a _ (.inl rfl) e
 | ext φ=>obtain ⟨p,⟨o,e⟩,st⟩:=x;exact ⟨st _ _ p fun o q=>k _ _ (.inl rfl) q,⟨o,k _ _ (.inl rfl) e⟩,st⟩
theorem HOk.lt (x:HOk P w H h) (e:H a=some o):a<h.objs.size:=(x a o e).lt
theorem HOk.fresh (x:HOk P w H h) (e:h.objs.size<=a):H a=none:=by
 cases q:H a with
 | none=>rfl
 | some u=>exact absurd (Nat.lt_of_lt_of_le (x.lt q) e) (Nat.lt_irrefl _)
theorem HOk.kept (x:HOk P w H h) (k:∀b u,h.get? b=some u->h'.get? b=some u):HOk P w H h':=fun a o e=>
 (x a o e).stay (fun b u _ q=>k b u q) (fun _ q=>q) fun _ _ q=>q
theorem HOk.laid (x:HOk P w H h) (k:∀b u,h.get? b=some u->h'.get? b=some u) (hp:h.objs.size<=a) (new:ObjOk P w (cy H a o) h' a o):HOk P w (cy H a o) h':=fun b u e=>by
 have hn:=x.fresh hp
 by_cases hb:b=a
 ·subst hb;rw [jQ] at e;cases e;exact new
 ·rw [gz hb] at e
  exact (x b u e).stay (fun c v _ q=>k c v q) (fun c q=>by rw [gz (wq q hn)];exact q) fun c xs q=>by rw [gz (wq q hn)];exact q
end
noncomputable def Rd (H:Hp) (a:Addr) (u:HO):Prop:=H a=some u\/∃o,H a=some (.frz o u)
theorem Rd.ok {P:Program} {w:World} {H:Hp} {h:Heap} {a:Addr} {u:HO} (r:Rd H a u) (x:HOk P w H h):ObjOk P w H h a u:=by
 rcases r with r | ⟨o,r⟩
 ·exact x a u r
 ·obtain ⟨_,q⟩:=x a _ r
  exact q
noncomputable def G0:Option HO->Prop
 | some (.lst _)=>True
 | some (.dK _)=>True
 | some (.dT _)=>True
 | some (.set _ _)=>True
 | some (.ins _ _ _)=>True
 | some (.ext _)=>True
 | _=>False
section
variable {P:Program} {w:World} {H:Hp} {h h':Heap} {x e:Addr} {o':HO}
theorem HOk.write (ok:HOk P w H h) (mu:G0 (H x)) (he:e=x\/H e=some (.own x)) (k:∀b u,b≠e->h.get? b=some u->h'.get? b=some u) (heo:∃u,h'.get? e=some u)
  (new:ObjOk P w (cy H x o') h' x o'):HOk P w (cy H x o') h':=fun b u q=>by
 have nown:∀c y,H c=some (.own y)->c≠x:=fun c y r z=>by subst z;rw [r] at mu;exact mu
 have ntup:∀c xs,H c=some (.tup xs)->c≠x:=fun c xs r z=>by subst z;rw [r] at mu;exact mu
 by_cases hb:b=x
 ·subst hb;rw [jQ] at q;cases q;exact new
 ·rw [gz hb] at q
  by_cases hbe:b=e
  ·have q':H b=some (.own x):=by
    rcases he with z | z
    ·exact absurd (hbe.trans z) hb
    ·rw [hbe];exact z
   rw [q] at q';cases q'
   obtain ⟨v,hv⟩:=heo;exact ⟨v,by rw [hbe];exact hv⟩
  ·refine (ok b u q).stay (fun c v hc r=>k c v ?_ r) (fun c r=>by rw [gz (nown c b r)];exact r) fun c xs r=>by rw [gz (ntup c xs r)];exact r
   rcases hc with rfl | hc
   ·exact hbe
   ·rintro rfl
    rcases he with z | z
    ·exact nown c b hc z
    ·rw [hc] at z;cases z;exact hb rfl
end
structure Un (fs ex:List Addr) (H H':Hp) (h h':Heap):Prop where
 keep:∀b o,h.get? b=some o->H b=none->b∉fs->b∉ex->h'.get? b=some o
 slot:∀b o,h.get? b=some o->H b=none->b∈fs->b∉ex->∃sl,h'.get? b=some { o with slots:=sl }
 free:∀b o,h.get? b=some o->H b=none->b∉ex->H' b=none
 there:∀b o,h.get? b=some o->b∉ex->∃o',h'.get? b=some o'
 tups:∀b xs,H b=some (.tup xs)->H' b=some (.tup xs)
 frzs:∀b o u,H b=some (.frz o u)->H' b=some (.frz o u)
 tbls:∀b ps,H b=some (.tbl ps)->∃more,H' b=some (.tbl (ps++more))
section
variable {fs fs' ex ex':List Addr} {H H1 H2:Hp} {h h1 h2 h':Heap} {a x e:Addr} {o:HO}
theorem Un.any (u:Un fs ex H H1 h h1) {b:Addr} {ob:Obj} (q:h.get? b=some ob) (n:H b=none) (hx:b∉ex):∃sl,h1.get? b=some { ob with slots:=sl }:=by
 by_cases hb:b∈fs
 ·exact u.slot b ob q n hb hx
 ·exact ⟨ob.slots,u.keep b ob q n hb hx⟩
theorem Un.kept (k:∀b u,h.get? b=some u->h'.get? b=some u):Un fs ex H H h h':=
 ⟨fun b ob q _ _ _=>k b ob q,fun b ob q _ _ _=>⟨ob.slots,k b ob q⟩,fun _ _ _ n _=>n,fun b ob q _=>⟨ob,k b ob q⟩,fun _ _ q=>q,fun _ _ _ q=>q,fun _ ps q=>⟨#[],by rw [q];simp⟩⟩
theorem Un.refl:Un fs ex H H h h:=Un.kept fun _ _ q=>q
theorem Un.laid (k:∀b u,h.get? b=some u->h'.get? b=some u) (hp:h.objs.size<=a) (hn:H a=none):Un fs ex H (cy H a o) h h' where
 keep:=fun b u q _ _ _=>k b u q
 slot:=fun b u q _ _ _=>⟨u.slots,k b u q⟩
 free:=fun b u q n _=>by rw [gz (Nat.ne_of_lt (Nat.lt_of_lt_of_le (Heap.lt_size q) hp))];exact n
 there:=fun b u q _=>⟨u,k b u q⟩
 tups:=fun b xs q=>by rw [gz (wq q hn)];exact q
 frzs:=fun b u xs q=>by rw [gz (wq q hn)];exact q
 tbls:=fun b ps q=>⟨#[],by rw [gz (wq q hn),q];simp⟩
theorem Un.write (mu:G0 (H x)) (he:e=x\/H e=some (.own x)) (k:∀b u,b≠e->h.get? b=some u->h'.get? b=some u) (heo:∃u,h'.get? e=some u):Un fs ex H (cy H x o) h h':=by
 have hx:∀b,H b=none->b≠x:=fun b n z=>by subst z;rw [n] at mu;exact mu
 have hb:∀b,H b=none->b≠e:=fun b n z=>by
  subst z;rcases he with r | r
  ·exact hx b n r
  ·rw [n] at r;cases r
 have hm:∀b u,H b=some u->¬G0 (some u)->b≠x:=fun b u q nm z=>by subst z;rw [q] at mu;exact nm mu
 refine ⟨fun b u q n _ _=>k b u (hb b n) q,fun b u q n _ _=>⟨u.slots,k b u (hb b n) q⟩,fun b u q n _=>by rw [gz (hx b n)];exact n,fun b u q _=>?_,
  fun b xs q=>by rw [gz (hm b _ q fun z=>z)];exact q,fun b u xs q=>by rw [gz (hm b _ q fun z=>z)];exact q,fun b ps q=>⟨#[],by rw [gz (hm b _ q fun z=>z),q];simp⟩⟩
 by_cases hbe:b=e
 ·subst hbe;exact heo
 ·exact ⟨u,k b u hbe q⟩
end
noncomputable def Gu (h:Heap) (H:Hp):List Addr:=(List.range h.objs.size).filter fun a=>(H a).isSome
noncomputable def lW (h:Heap) (H:Hp):Heap:=PySem.W.hideAll h (Gu h H)
theorem sE (h:Heap) (H:Hp):(lW h H).objs.size=h.objs.size:=PySem.W.hideAll_size _ _
theorem vj {h:Heap} {H:Hp} {b:Addr} {o:Obj} (e:h.get? b=some o) (n:H b=none):(lW h H).get? b=some o:=
 PySem.W.hideAll_get _ e fun hm=>by
  have q:(H b).isSome=true:=(List.mem_filter.mp hm).2
  rw [n] at q;simp at q
theorem yc {h:Heap} {H:Hp} {b:Addr} {o:Obj} (e:(lW h H).get? b=some o):h.get? b=some o/\H b=none:=by
 have e':h.get? b=some o:=PySem.W.of_hideAll (Gu h H) e
 refine ⟨e',?_⟩
 cases q:H b with
 | none=>rfl
 | some x=>
  have hm:b∈Gu h H:=List.mem_filter.mpr ⟨List.mem_range.mpr (Heap.lt_size e'),by simp [q]⟩
  have z:(lW h H).get? b=none:=PySem.W.hideAll_none (Gu h H) hm
  rw [z] at e;cases e
structure Mod (K:Fg) (mg:Str->Option Value) (base:Heap):Prop where
 kin:K.In base
 glob:base.Ns mainGlobals mg
 blt:∃mb,base.Ns builtinsNs mb/\∀x:Str,x ≠ "__name__"->mb x=bootBuiltins x
 nolimit:base.NoLimit
structure Cx where
 prog:Program
 w:World
 K:Fg
 mg:Str->Option Value
 base:Heap
 A:Around
 N:List Str
 s₀:Shared
 H₀:Hp
 env:Env
 outer:List Env
 stack:List Env
 ex:List Addr
 fn:Str->Bool
 calm:Bool
 pn:List (Addr×Obj)
 xe:Value->Shared->Prop
noncomputable def vx (l:List Env):List Addr:=l.filterMap (·.frame)
noncomputable abbrev Cx.fs (X:Cx):List Addr:=vx X.outer
noncomputable def CP (sc:Scope) (x:Str):Prop:=sc.names.lookup x=some .local\/sc.names.lookup x=some .cell\/sc.names.lookup x=some .free
noncomputable def Loc (sc:Scope) (x:Str):Prop:=sc.names.lookup x=some .local\/sc.names.lookup x=some .cell
noncomputable def Look (env:Env) (h:Heap) (m:Str->Option Value) (x:Str) (u:Value):Prop:=
 (env.kindOf x=some .local/\m x=some u)\/((env.kindOf x=some .cell\/env.kindOf x=some .free)/\∃c,env.cells.lookup x=some c/\h.IsCell c (some u))
structure Cx.Ok (X:Cx):Prop where
 mod:Mod X.K X.mg X.base
 kind:X.env.scope.kind=.function
 glob:X.env.globals=mainGlobals
 blt:X.env.builtins=builtinsNs
 above:X.s₀.heap.objs.size<=X.env.locals
 inj:∀x y c,X.env.cells.lookup x=some c->X.env.cells.lookup y=some c->x=y
 has:∀x,(X.env.kindOf x=some .cell\/X.env.kindOf x=some .free)->∃c,X.env.cells.lookup x=some c
 cab:∀x c,X.fn x=true->X.env.cells.lookup x=some c->X.s₀.heap.objs.size<=c
 hd:X.calm=true->X.A.handled=none
 frames:X.A.frames=some X.stack
 stk:X.stack=X.outer\/(X.stack=X.env::X.outer/\X.env.frame=some X.env.locals)
 exf:∀b∈X.ex,b≠X.env.locals/\∀x c,X.env.cells.lookup x=some c->c≠b
 bs:∀b o,X.base.get? b=some o->X.s₀.heap.get? b=some o/\X.H₀ b=none
 bsz:X.base.objs.size<=X.s₀.heap.objs.size
 noex:∀b o,X.base.get? b=some o->b∉X.ex
 exfs:∀b∈X.ex,b∉X.fs
 funs:X.s₀.heap.FunFrames X.base X.outer
 frf:∀b∈X.fs,X.H₀ b=none
structure Inv (X:Cx) (pins:List (Addr×Obj)) (σ:List (Option V)) (H:Hp) (s:Shared):Prop where
 ok:X.Ok
 os:s.os=X.s₀.os
 bare:AllBare s.gens
 base:Un X.fs X.ex X.H₀ H X.s₀.heap s.heap
 loc:∃m,s.heap.Ns X.env.locals m/\∀(i:Nat) (x:Str) (v:V),X.N[i]?=some x->σ[i]?=some (some v)->CP X.env.scope x->∃u,RelV v u/\Look X.env s.heap m x u
 cell:∀x c,X.env.cells.lookup x=some c->∃v,s.heap.IsCell c v
 free:H X.env.locals=none
 freeC:∀x c,X.env.cells.lookup x=some c->H c=none
 pin:∀p∈X.pn++pins,s.heap.get? p.1=some p.2/\H p.1=none/\p.1≠X.env.locals/\p.1∉X.fs/\∀v,p.2.data≠.cell v
 hok:HOk X.prog X.w H s.heap
 len:σ.length=X.N.length
section
variable {X:Cx} {pins:List (Addr×Obj)} {σ:List (Option V)} {H H':Hp} {s:Shared} {h':Heap}
theorem Cx.Ok.nofr (ok:X.Ok) {b:Addr} {o:Obj} (e:X.base.get? b=some o):b∉X.fs:=fun hb=>by
 have:=(ok.funs.mem hb).1
 rw [e] at this;cases this
theorem Inv.bs (I:Inv X pins σ H s):∀b o,X.base.get? b=some o->s.heap.get? b=some o/\H b=none:=fun b o e=>
 ⟨I.base.keep b o (I.ok.bs b o e).1 (I.ok.bs b o e).2 (I.ok.nofr e) (I.ok.noex b o e),I.base.free b o (I.ok.bs b o e).1 (I.ok.bs b o e).2 (I.ok.noex b o e)⟩
theorem Inv.bk (I:Inv X pins σ H s):∀b o,X.base.get? b=some o->s.heap.get? b=some o:=fun b o e=>(I.bs b o e).1
theorem Inv.mod (I:Inv X pins σ H s):Mod X.K X.mg X.base:=I.ok.mod
theorem Inv.kIn (I:Inv X pins σ H s):X.K.In s.heap:=I.ok.mod.kin.keeps I.bk
theorem Inv.lt (I:Inv X pins σ H s):X.env.locals<s.heap.objs.size:=let ⟨_,hn,_⟩:=I.loc;hn.lt
theorem Inv.sz (I:Inv X pins σ H s):X.s₀.heap.objs.size<=s.heap.objs.size:=Nat.le_trans I.ok.above (Nat.le_of_lt I.lt)
theorem Inv.nofs (I:Inv X pins σ H s) {a:Addr} (h:s.heap.objs.size<=a):a∉X.fs:=fun hb=>by
 obtain ⟨_,o,ho,_⟩:=I.ok.funs.mem hb;exact absurd (Nat.lt_of_lt_of_le (Heap.lt_size ho) (Nat.le_trans I.sz h)) (Nat.lt_irrefl _)
theorem Inv.cne (I:Inv X pins σ H s):∀x c,X.env.cells.lookup x=some c->c≠X.env.locals:=fun x c e z=>by
 obtain ⟨v,o,ho,hd⟩:=I.cell x c e;obtain ⟨m,⟨o',es,ep,ho',hd',_⟩,_⟩:=I.loc;rw [z,ho'] at ho;cases ho;rw [hd'] at hd;cases hd
theorem Inv.funs (I:Inv X pins σ H s):s.heap.FunFrames X.base X.outer:=by
 have all:∀(l:List Env),(∀b∈vx l,b∈X.fs)->X.s₀.heap.FunFrames X.base l->s.heap.FunFrames X.base l:=by
  intro l;induction l with
  | nil=>intro _ _;trivial
  | cons env r ih=>
   intro hs hl;obtain ⟨hk,⟨L,o,hf,hn,ho,hd⟩,hr⟩:=hl;have hL:L∈X.fs:=hs L (by unfold vx;rw [List.filterMap_cons,hf];exact mem_cons_self)
   obtain ⟨sl,e⟩:=I.base.slot L o ho (I.ok.frf L hL) hL fun z=>I.ok.exfs L z hL
   exact ⟨hk,⟨L,_,hf,hn,e,hd⟩,ih (fun b hb=>hs b (by unfold vx;rw [List.filterMap_cons,hf];exact KO _ hb)) hr⟩
 exact all X.outer (fun _ hb=>hb) I.ok.funs
theorem Inv.stack (I:Inv X pins σ H s):s.heap.FunFrames X.base X.stack:=by
 rcases I.ok.stk with e | ⟨e,hf⟩
 ·rw [e];exact I.funs
 ·rw [e]
  obtain ⟨m,hn,_⟩:=I.loc;refine .cons (by rw [I.ok.kind];decide) hf hn ?_ I.funs
  exact Heap.get?_none_of_le (Nat.le_trans I.ok.bsz I.ok.above)
theorem Inv.stkSub (I:Inv X pins σ H s):∀b∈vx X.stack,b∈X.env.locals::X.fs:=fun b hb=>by
 rcases I.ok.stk with e | ⟨e,hf⟩
 ·rw [e] at hb;exact KO _ hb
 ·rw [e] at hb
  unfold vx at hb;rw [List.filterMap_cons,hf] at hb;exact hb
theorem Inv.stkFree (I:Inv X pins σ H s):∀b∈vx X.stack,H b=none:=fun b hb=>by
 rcases KL (I.stkSub b hb) with e | hb
 ·rw [e];exact I.free
 ·obtain ⟨_,o,ho,_⟩:=I.ok.funs.mem hb
  exact I.base.free b o ho (I.ok.frf b hb) fun z=>I.ok.exfs b z hb
theorem Inv.step {g':Array GenState} {t':Nat} {d':Drawn} {ch:List Addr} (I:Inv X pins σ H s)
  (hch:∀b∈ch,(b∈X.ex\/X.s₀.heap.objs.size<=b)/\b≠X.env.locals/\(∀x c,X.env.cells.lookup x=some c->c≠b)/\∀p∈X.pn++pins,p.1≠b)
  (keep:∀b o,b≠X.env.locals->b∉X.fs->b∉ch->s.heap.get? b=some o->H b=none->h'.get? b=some o)
  (slot:∀b o,b≠X.env.locals->b∈X.fs->b∉ch->s.heap.get? b=some o->H b=none->∃sl,h'.get? b=some { o with slots:=sl }) (free:∀b o,b∉ch->s.heap.get? b=some o->H b=none->H' b=none)
  (there:∀b o,b∉ch->s.heap.get? b=some o->∃o',h'.get? b=some o')
  (tups:∀b xs,H b=some (.tup xs)->H' b=some (.tup xs)) (frzs:∀b o u,H b=some (.frz o u)->H' b=some (.frz o u)) (tbls:∀b ps,H b=some (.tbl ps)->∃more,H' b=some (.tbl (ps++more)))
  (ns:∀m,s.heap.Ns X.env.locals m->h'.Ns X.env.locals m) (hok:HOk X.prog X.w H' h') (hg:AllBare g') :
  Inv X pins σ H' { s with heap:=h',gens:=g',drawn:=d',toks:=t' }:=by
 have neL:∀b o,X.s₀.heap.get? b=some o->b≠X.env.locals:=fun b o e=>Nat.ne_of_lt (Nat.lt_of_lt_of_le (Heap.lt_size e) I.ok.above)
 have neC:∀b o,X.s₀.heap.get? b=some o->b∉X.ex->b∉ch:=fun b o e hx hb=>by
  rcases (hch b hb).1 with z | z
  ·exact hx z
  ·exact absurd (Nat.lt_of_lt_of_le (Heap.lt_size e) z) (Nat.lt_irrefl _)
 have cellK:∀x c,X.env.cells.lookup x=some c->∀v,s.heap.IsCell c v->h'.IsCell c v:=fun x c e v ⟨o,ho,hd⟩=>by
  have nch:c∉ch:=fun z=>(hch c z).2.2.1 x c e rfl
  by_cases hc:c∈X.fs
  ·obtain ⟨sl,q⟩:=slot c o (I.cne x c e) hc nch ho (I.freeC x c e)
   exact ⟨_,q,hd⟩
  ·exact ⟨o,keep c o (I.cne x c e) hc nch ho (I.freeC x c e),hd⟩
 refine ⟨I.ok,I.os,hg,⟨fun b o e n hb hx=>?_,fun b o e n hb hx=>?_,fun b o e n hx=>?_,fun b o e hx=>?_,fun b xs e=>tups b xs (I.base.tups b xs e),fun b o xs e=>frzs b o xs (I.base.frzs b o xs e),fun b ps e=>?_⟩,?_,fun x c e=>?_,?_,fun x c e=>?_,fun p hp=>?_,hok,I.len⟩
 ·exact keep b o (neL b o e) hb (neC b o e hx) (I.base.keep b o e n hb hx) (I.base.free b o e n hx)
 ·obtain ⟨sl,e1⟩:=I.base.slot b o e n hb hx
  obtain ⟨sl',e2⟩:=slot b _ (neL b o e) hb (neC b o e hx) e1 (I.base.free b o e n hx);exact ⟨sl',e2⟩
 ·obtain ⟨o',e1⟩:=I.base.there b o e hx
  exact free b o' (neC b o e hx) e1 (I.base.free b o e n hx)
 ·obtain ⟨o',e1⟩:=I.base.there b o e hx
  exact there b o' (neC b o e hx) e1
 ·obtain ⟨m1,e1⟩:=I.base.tbls b ps e
  obtain ⟨m2,e2⟩:=tbls b _ e1;exact ⟨m1++m2,by rw [e2,Array.append_assoc]⟩
 ·obtain ⟨m,hn,hl⟩:=I.loc
  refine ⟨m,ns m hn,fun i x v e1 e2 e3=>?_⟩
  obtain ⟨u,r,l⟩:=hl i x v e1 e2 e3;refine ⟨u,r,?_⟩
  rcases l with l | ⟨k,c,e,z⟩
  ·exact .inl l
  ·exact .inr ⟨k,c,e,cellK x c e _ z⟩
 ·obtain ⟨v,z⟩:=I.cell x c e
  exact ⟨v,cellK x c e v z⟩
 ·obtain ⟨m,⟨o,_,_,ho,_⟩,_⟩:=I.loc
  exact free _ o (fun z=>(hch _ z).2.1 rfl) ho I.free
 ·obtain ⟨v,o,ho,hd⟩:=I.cell x c e
  exact free c o (fun z=>(hch c z).2.2.1 x c e rfl) ho (I.freeC x c e)
 ·obtain ⟨e,n,ne,nf,d⟩:=I.pin p hp
  have nch:p.1∉ch:=fun z=>(hch p.1 z).2.2.2 p hp rfl
  exact ⟨keep p.1 p.2 ne nf nch e n,free p.1 p.2 nch e n,ne,nf,d⟩
theorem Inv.un {t':Nat} (I:Inv X pins σ H s) (u:Un X.fs [] H H' s.heap h') (hok:HOk X.prog X.w H' h'):Inv X pins σ H' { s with heap:=h',toks:=t' }:=by
 obtain ⟨m,⟨o,es,ep,ho,r⟩,_⟩:=id I.loc;obtain ⟨sl,hL⟩:=u.any ho I.free (by simp)
 exact I.step (g':=s.gens) (d':=s.drawn) (ch:=[]) (fun _ z=>nomatch z) (fun b o _ hb _ e n=>u.keep b o e n hb (by simp)) (fun b o _ hb _ e n=>u.slot b o e n hb (by simp)) (fun b o _ e n=>u.free b o e n (by simp)) (fun b o _ e=>u.there b o e (by simp)) u.tups u.frzs u.tbls (fun m' hm=>by
  obtain ⟨o',es',ep',ho',r'⟩:=hm;rw [ho] at ho';cases ho'
  exact ⟨_,es',ep',hL,r'⟩) hok I.bare
theorem Inv.call {g':Array GenState} {t':Nat} {d':Drawn} {ch:List Addr} (I:Inv X pins σ H s) (u:Un (vx X.stack) ch H H' s.heap h') (hok:HOk X.prog X.w H' h') (hg:AllBare g')
  (hch:∀b∈ch,(b∈X.ex\/X.s₀.heap.objs.size<=b)/\b≠X.env.locals/\(∀x c,X.env.cells.lookup x=some c->c≠b)/\∀p∈X.pn++pins,p.1≠b) :
  Inv X pins σ H' { s with heap:=h',gens:=g',drawn:=d',toks:=t' }:=by
 obtain ⟨m,⟨o,es,ep,ho,r⟩,_⟩:=id I.loc;obtain ⟨sl,hL⟩:=u.any ho I.free fun z=>(hch _ z).2.1 rfl
 exact I.step (ch:=ch) hch (fun b o hL hb hc e n=>u.keep b o e n (fun z=>(KL (I.stkSub b z)).elim hL hb) hc) (fun b o _ _ hc e n=>u.any e n hc) (fun b o hc e n=>u.free b o e n hc) (fun b o hc e=>u.there b o e hc) u.tups u.frzs u.tbls (fun m' hm=>by
  obtain ⟨o',es',ep',ho',r'⟩:=hm;rw [ho] at ho';cases ho'
  exact ⟨_,es',ep',hL,r'⟩) hok hg
theorem Inv.turned {t':Nat} {it:Addr} (I:Inv X pins σ H s) (k:∀b o,b≠it->s.heap.get? b=some o->h'.get? b=some o) (hn:H it=none) (hL:it≠X.env.locals)
  (h1:it∈X.ex\/X.s₀.heap.objs.size<=it) (h2:∀x c,X.env.cells.lookup x=some c->c≠it) (h3:∀p∈X.pn++pins,p.1≠it):Inv X pins σ H { s with heap:=h',toks:=t' }:=by
 have nit:∀b u,H b=some u->b≠it:=fun b u e z=>by rw [z,hn] at e;cases e
 refine I.step (g':=s.gens) (d':=s.drawn) (ch:=[it]) (fun b hb=>?_) (fun b o _ _ hc e _=>k b o (fun z=>hc (by simp [z])) e) (fun b o _ _ hc e _=>⟨o.slots,k b o (fun z=>hc (by simp [z])) e⟩) (fun _ _ _ _ n=>n)
  (fun b o hc e=>⟨o,k b o (fun z=>hc (by simp [z])) e⟩) (fun _ _ e=>e) (fun _ _ _ e=>e) (fun b ps e=>⟨#[],by rw [e];simp⟩) (fun m hm=>?_) (fun b u e=>?_) I.bare
 ·have e:b=it:=by simpa using hb
  subst e;exact ⟨h1,hL,h2,h3⟩
 ·obtain ⟨o,es,ep,ho,r⟩:=hm
  exact ⟨o,es,ep,k _ o (Ne.symm hL) ho,r⟩
 ·refine (I.hok b u e).stay (fun c v hc q=>k c v ?_ q) (fun _ q=>q) fun _ _ q=>q
  rcases hc with z | z
  ·rw [z];exact nit b u e
  ·exact nit c _ z
theorem Inv.tok (I:Inv X pins σ H s) (t:Nat):Inv X pins σ H { s with toks:=t }:=I.un (h':=s.heap) (t':=t) Un.refl I.hok
theorem Inv.kept {t':Nat} (I:Inv X pins σ H s) (k:∀b u,s.heap.get? b=some u->h'.get? b=some u):Inv X pins σ H { s with heap:=h',toks:=t' }:=I.un (Un.kept k) (I.hok.kept k)
theorem Inv.laid {a:Addr} {o:HO} {t':Nat} (I:Inv X pins σ H s) (k:∀b u,s.heap.get? b=some u->h'.get? b=some u) (hp:s.heap.objs.size<=a) (new:ObjOk X.prog X.w (cy H a o) h' a o) :
  Inv X pins σ (cy H a o) { s with heap:=h',toks:=t' }:=I.un (Un.laid k hp (I.hok.fresh hp)) (I.hok.laid k hp new)
theorem Inv.write {x e:Addr} {o:HO} {t':Nat} (I:Inv X pins σ H s) (mu:G0 (H x)) (he:e=x\/H e=some (.own x)) (k:∀b u,b≠e->s.heap.get? b=some u->h'.get? b=some u) (heo:∃u,h'.get? e=some u)
  (new:ObjOk X.prog X.w (cy H x o) h' x o):Inv X pins σ (cy H x o) { s with heap:=h',toks:=t' }:=I.un (Un.write mu he k heo) (I.hok.write mu he k heo new)
theorem Inv.weak {σ':List (Option V)} (I:Inv X pins σ H s) (hl:σ'.length=σ.length) (w:∀(i:Nat) v,σ'[i]?=some (some v)->σ[i]?=some (some v)):Inv X pins σ' H s:=
 ⟨I.ok,I.os,I.bare,I.base,let ⟨m,hn,hl'⟩:=I.loc;⟨m,hn,fun i x v e1 e2 e3=>hl' i x v e1 (w i v e2) e3⟩,I.cell,I.free,I.freeC,I.pin,I.hok,hl.trans I.len⟩
theorem Inv.pins_of {pins':List (Addr×Obj)} (I:Inv X pins σ H s) (h:∀p∈pins',s.heap.get? p.1=some p.2/\H p.1=none/\p.1≠X.env.locals/\p.1∉X.fs/\∀v,p.2.data≠.cell v):Inv X pins' σ H s:=
 ⟨I.ok,I.os,I.bare,I.base,I.loc,I.cell,I.free,I.freeC,fun p hp=>(KJ hp).elim (fun z=>I.pin p (KI _ z)) (h p),I.hok,I.len⟩
theorem nD {N:List Str} (hN:N.Nodup) {i j:Nat} {x:Str} (a:N[i]?=some x) (b:N[j]?=some x):i=j:=by
 obtain ⟨h1,e1⟩:=KQ a
 obtain ⟨h2,e2⟩:=KQ b
 exact (List.getElem_inj hN).mp (e1.trans e2.symm)
theorem kJ {M:Model} {A:Around} {E:Value->Shared->Prop} {i:Nat} {x:Str} {v:V} {u:Value} {Q:Unit->Shared->Prop} (I:Inv X pins σ H s) (hN:X.N.Nodup) (hi:X.N[i]?=some x) (hx:Loc X.env.scope x) (r:RelV v u)
  (h:∀s',Inv X pins (σ.set i (some v)) H s'->(∃a,Heap.SameBut a s.heap s'.heap/\(a=X.env.locals\/X.env.cells.lookup x=some a))->Q () s') (hf:X.fn x=true\/X.env.scope.names.lookup x=some .local:=by first | exact .inl rfl | exact .inr rfl | assumption):wpAny M A (storeName X.env x u) Q E s:=by
 obtain ⟨m,hn,hl⟩:=id I.loc;have hcls:(X.env.scope.kind==.class||(X.env.scope.kind==.module&&X.env.locals != X.env.globals))=false:=by rw [I.ok.kind];rfl
 have hiσ:i<σ.length:=by rw [I.len];exact (KQ hi).1
 have cne:=I.cne
 have tracked:∀{a:Addr} {h':Heap},(∃o,s.heap.get? a=some o/\H a=none)->Heap.SameBut a s.heap h'->HOk X.prog X.w H h':=fun {a h'} ha hs b ob e=>by
  obtain ⟨_,_,hfree⟩:=ha;refine (I.hok b ob e).stay (fun c w' hc q=>(hs.2 c ?_).trans q) (fun _ q=>q) fun _ _ q=>q
  rintro rfl
  rcases hc with rfl | hc
  ·rw [hfree] at e;cases e
  ·rw [hfree] at hc;cases hc
 rcases hx with hk | hk
 ·refine wpAny_storeName_local hk hn (fun h' hn' hs=>?_) hcls
  obtain ⟨oL,_,_,hoL,_⟩:=id hn;refine h _ ⟨I.ok,I.os,I.bare,⟨fun b o e n hb hx=>?_,fun b o e n hb hx=>?_,I.base.free,fun b o e hx=>?_,I.base.tups,I.base.frzs,I.base.tbls⟩,⟨_,hn',fun j y v' e1 e2 e3=>?_⟩,fun y c e=>?_,I.free,I.freeC,fun p hp=>?_,tracked ⟨oL,hoL,I.free⟩ hs,by simpa using I.len⟩ ⟨_,hs,.inl rfl⟩
  ·exact (hs.2 b (Nat.ne_of_lt (Nat.lt_of_lt_of_le (Heap.lt_size e) I.ok.above))).trans (I.base.keep b o e n hb hx)
  ·obtain ⟨sl,e1⟩:=I.base.slot b o e n hb hx
   exact ⟨sl,(hs.2 b (Nat.ne_of_lt (Nat.lt_of_lt_of_le (Heap.lt_size e) I.ok.above))).trans e1⟩
  ·obtain ⟨o',e1⟩:=I.base.there b o e hx
   exact ⟨o',(hs.2 b (Nat.ne_of_lt (Nat.lt_of_lt_of_le (Heap.lt_size e) I.ok.above))).trans e1⟩
  ·by_cases hj:j=i
   ·subst hj
    rw [hi] at e1;cases e1;rw [getElem?_set_self hiσ] at e2
    cases e2;exact ⟨u,r,.inl ⟨hk,by simp⟩⟩
   ·rw [getElem?_set_ne (Ne.symm hj)] at e2
    obtain ⟨u',r',q⟩:=hl j y v' e1 e2 e3
    refine ⟨u',r',?_⟩
    rcases q with ⟨k,e⟩ | ⟨k,c,e,z⟩
    ·refine .inl ⟨k,?_⟩
     have:y≠x:=fun e=>hj (nD hN e1 (e▸hi))
     simp [this,e]
    ·exact .inr ⟨k,c,e,z.sameBut hs (cne y c e)⟩
  ·obtain ⟨w',z⟩:=I.cell y c e
   exact ⟨w',z.sameBut hs (cne y c e)⟩
  ·obtain ⟨e,n,ne,nf,d⟩:=I.pin p hp
   exact ⟨(hs.2 p.1 ne).trans e,n,ne,nf,d⟩
 ·have hfn:X.fn x=true:=by
   rcases hf with z | z
   ·exact z
   ·rw [z] at hk;cases hk
  obtain ⟨c,hc⟩:=I.ok.has x (.inl hk);obtain ⟨w',z⟩:=I.cell x c hc;refine wpAny_storeName_cell I.ok.kind hk hc z (fun h' hc' hs=>?_)
  obtain ⟨oc,hoc,hocd⟩:=id z;refine h { s with heap:=h' } ⟨I.ok,I.os,I.bare,⟨fun b o e n hb hx=>?_,fun b o e n hb hx=>?_,I.base.free,fun b o e hx=>?_,I.base.tups,I.base.frzs,I.base.tbls⟩,⟨m,hn.sameBut hs (Ne.symm (cne x c hc)),fun j y v' e1 e2 e3=>?_⟩,fun y c' e=>?_,I.free,I.freeC,fun p hp=>?_,tracked ⟨oc,hoc,I.freeC x c hc⟩ hs,by simpa using I.len⟩ ⟨c,hs,.inr hc⟩
  ·exact (hs.2 b (Nat.ne_of_lt (Nat.lt_of_lt_of_le (Heap.lt_size e) (I.ok.cab x c hfn hc)))).trans (I.base.keep b o e n hb hx)
  ·obtain ⟨sl,e1⟩:=I.base.slot b o e n hb hx
   exact ⟨sl,(hs.2 b (Nat.ne_of_lt (Nat.lt_of_lt_of_le (Heap.lt_size e) (I.ok.cab x c hfn hc)))).trans e1⟩
  ·obtain ⟨o',e1⟩:=I.base.there b o e hx
   exact ⟨o',(hs.2 b (Nat.ne_of_lt (Nat.lt_of_lt_of_le (Heap.lt_size e) (I.ok.cab x c hfn hc)))).trans e1⟩
  ·by_cases hj:j=i
   ·subst hj
    rw [hi] at e1;cases e1;rw [getElem?_set_self hiσ] at e2
    cases e2;exact ⟨u,r,.inr ⟨.inl hk,c,hc,hc'⟩⟩
   ·rw [getElem?_set_ne (Ne.symm hj)] at e2
    obtain ⟨u',r',q⟩:=hl j y v' e1 e2 e3
    refine ⟨u',r',?_⟩
    rcases q with q | ⟨k,c',e,z'⟩
    ·exact .inl q
    ·refine .inr ⟨k,c',e,z'.sameBut hs ?_⟩
     rintro rfl
     exact hj (nD hN e1 (I.ok.inj _ _ _ e hc▸hi))
  ·by_cases hcc:c'=c
   ·subst hcc;exact ⟨_,hc'⟩
   ·obtain ⟨w2,z2⟩:=I.cell y c' e
    exact ⟨w2,z2.sameBut hs hcc⟩
  ·obtain ⟨e,n,ne,nf,d⟩:=I.pin p hp
   refine ⟨(hs.2 p.1 ?_).trans e,n,ne,nf,d⟩
   intro q;rw [q,hoc] at e;have q':oc=p.2:=Option.some.inj e
   exact d w' (by rw [<-q'];exact hocd)
theorem Ib {M:Model} {A:Around} {E:Value->Shared->Prop} {i:Nat} {x:Str} {v:V} {u:Value} {Q:Unit->Shared->Prop} (I:Inv X pins σ H s) (hN:X.N.Nodup) (hi:X.N[i]?=some x) (hx:Loc X.env.scope x) (r:RelV v u)
  (h:∀s',Inv X pins (σ.set i (some v)) H s'->Q () s') (hf:X.fn x=true\/X.env.scope.names.lookup x=some .local:=by first | exact .inl rfl | exact .inr rfl | assumption):wpAny M A (storeName X.env x u) Q E s:=
 kJ I hN hi hx r (fun s' I' _=>h s' I') hf
theorem Inv.call' {s':Shared} {ch:List Addr} (I:Inv X pins σ H s) (ho:s'.os=s.os) (u:Un (vx X.stack) ch H H' s.heap s'.heap) (hok:HOk X.prog X.w H' s'.heap) (hg:AllBare s'.gens)
  (hch:∀b∈ch,(b∈X.ex\/X.s₀.heap.objs.size<=b)/\b≠X.env.locals/\(∀x c,X.env.cells.lookup x=some c->c≠b)/\∀p∈X.pn++pins,p.1≠b):Inv X pins σ H' s':=by
 obtain ⟨h',g',d',t',o'⟩:=s'
 have e:o'=s.os:=ho
 subst e;exact I.call (g':=g') (t':=t') (d':=d') u hok hg hch
end
abbrev XK:=Value->Option Addr->Hp->Prop
abbrev St:=List (Option V)
abbrev VK:=V->Hp->Prop
abbrev TE:=St->Hp->VK->Prop
abbrev TT:=St->Hp->(Bool->Hp->Prop)->Prop
abbrev TA:=St->Hp->(List V->Hp->Prop)->Prop
structure jP where
 nx:St->Hp->Prop
 rt:VK
 bk:St->Hp->Prop:=fun _ _=>False
 ct:St->Hp->Prop:=fun _ _=>False
abbrev TS:=jP->St->Hp->Prop
noncomputable def EP (X:Cx) (pins:List (Addr×Obj)) (σ:St) (Q:VK) (u:Value) (s':Shared):Prop:=∃v H',Inv X pins σ H' s'/\RelV v u/\Q v H'
noncomputable def TP (X:Cx) (pins:List (Addr×Obj)) (σ:St) (Q:Bool->Hp->Prop) (b:Bool) (s':Shared):Prop:=∃H',Inv X pins σ H' s'/\Q b H'
noncomputable def AP (X:Cx) (pins:List (Addr×Obj)) (σ:St) (Q:List V->Hp->Prop) (us:List Value) (s':Shared):Prop:=∃vs H',Inv X pins σ H' s'/\Vals vs us/\Q vs H'
noncomputable def SP (X:Cx) (pins:List (Addr×Obj)) (D:jP) (f:Flow) (s':Shared):Prop:=
 match f with
 | .next=>∃σ' H',Inv X pins σ' H' s'/\D.nx σ' H'
 | .brk=>∃σ' H',Inv X pins σ' H' s'/\D.bk σ' H'
 | .cont=>∃σ' H',Inv X pins σ' H' s'/\D.ct σ' H'
 | .ret u=>∃v σ' H',Inv X pins σ' H' s'/\RelV v u/\D.rt v H'
noncomputable def PE (X:Cx) (e:Expr) (t:TE):Prop:=
 ∀(pins:List (Addr×Obj)) (s:Shared) (σ:St) (H:Hp) (Q:VK),Inv X pins σ H s->t σ H Q->wpAny (model X.prog X.w) X.A (eval e X.env) (EP X pins σ Q) X.xe s
noncomputable def PT (X:Cx) (e:Expr) (t:TT):Prop:=
 ∀(pins:List (Addr×Obj)) (s:Shared) (σ:St) (H:Hp) (Q:Bool->Hp->Prop),Inv X pins σ H s->t σ H Q->wpAny (model X.prog X.w) X.A (isTrue e X.env (eval e X.env)) (TP X pins σ Q) X.xe s
noncomputable def PW (X:Cx) (e:Expr) (t:TT):Prop:=
 ∀(whole:Sem Value) (pins:List (Addr×Obj)) (s:Shared) (σ:St) (H:Hp) (Q:Bool->Hp->Prop),Inv X pins σ H s->t σ H Q->wpAny (model X.prog X.w) X.A (isTrue e X.env whole) (TP X pins σ Q) X.xe s
theorem PW.pt {X:Cx} {e:Expr} {t:TT} (h:PW X e t):PT X e t:=h _
noncomputable def PA (X:Cx) (es:List Expr) (t:TA):Prop:=
 ∀(pos:Pos) (pins:List (Addr×Obj)) (s:Shared) (σ:St) (H:Hp) (Q:List V->Hp->Prop),Inv X pins σ H s->t σ H Q->wpAny (model X.prog X.w) X.A (spliced (backTo pos (starEach es X.env))) (AP X pins σ Q) X.xe s
noncomputable def PS (X:Cx) (st:Stmt) (t:TS):Prop:=
 ∀(pins:List (Addr×Obj)) (s:Shared) (σ:St) (H:Hp) (D:jP),Inv X pins σ H s->t D σ H->wpAny (model X.prog X.w) X.A (exec st X.env) (SP X pins D) X.xe s
noncomputable def PSs (X:Cx) (st:List Stmt) (t:TS):Prop:=
 ∀(pins:List (Addr×Obj)) (s:Shared) (σ:St) (H:Hp) (D:jP),Inv X pins σ H s->t D σ H->wpAny (model X.prog X.w) X.A (execs st X.env) (SP X pins D) X.xe s
theorem b6 {α:Type} {t:Sem α} {Q Q':α->Shared->Prop} {M:Model} {A:Around} {E:Value->Shared->Prop} {s:Shared} (h:wpAny M A t Q E s) (hQ:∀a s,Q a s->Q' a s):wpAny M A t Q' E s:=wpAny_mono h hQ fun _ _ x=>x
section
variable {X:Cx}
noncomputable def fx (i:Nat):TE:=fun σ H Q=>∃v,σ[i]?=some (some v)/\Q v H
noncomputable def tC (v:V):TE:=fun _ H Q=>Q v H
theorem Aa {i:Nat} {x:Str} {pos:Pos} (hN:X.N[i]?=some x) (hv:CP X.env.scope x) (hd:(x==("__debug__":Str))=false:=by decide) (hcd:(x==("__classdict__":Str))=false:=by decide):PE X (.Name x pos) (fx i):=by
 intro pins s σ H Q I h;obtain ⟨v,e,h⟩:=h;obtain ⟨m,hn,hl⟩:=I.loc;obtain ⟨u,r,l⟩:=hl i x v hN e hv;have fin:EP X pins σ Q u s:=⟨v,H,I,r,h⟩
 rcases l with ⟨hk,hm⟩ | ⟨hk,c,hc,hcell⟩
 ·exact wpAny_Name (wpAny_loadName_local I.ok.kind hk hn hm fin) hd
 ·rcases hk with hk | hk
  ·exact wpAny_Name (wpAny_loadName_cell I.ok.kind hk hc hcell fin) hd
  ·exact wpAny_Name (wpAny_loadName_free I.ok.kind hk hc hcell fin hcd) hd
theorem BD {i j pos}:PE X (.Constant (.int i) j pos) (tC (.int i)):=fun _ _ _ H _ I h=>wpAny_Constant_int ⟨.int i,H,I.tok _,⟨_,rfl⟩,h⟩
theorem EA {b j pos}:PE X (.Constant (.bool b) j pos) (tC (.bl b)):=fun _ _ _ H _ I h=>Constant_bool ⟨.bl b,H,I,rfl,h⟩
theorem BB {j pos}:PE X (.Constant .none j pos) (tC .non):=fun _ _ _ H _ I h=>Constant_none ⟨.non,H,I,rfl,h⟩
theorem FV {x j pos}:PE X (.Constant (.str x) j pos) (tC (.str x)):=fun _ _ _ H _ I h=>Calls.Constant_str ⟨.str x,H,I.tok _,⟨_,rfl⟩,h⟩
noncomputable def Gl (X:Cx) (x:Str):Prop:=X.env.kindOf x=some .globalImplicit
theorem Dt {E:Value->Shared->Prop} {pins:List (Addr×Obj)} {s:Shared} {σ:St} {H:Hp} {x:Str} {u:Value} {pos:Pos} {Q:Value->Shared->Prop} (I:Inv X pins σ H s) (hg:Gl X x) (hm:X.mg x=some u) (h:Q u s)
  (hd:(x==("__debug__":Str))=false:=by decide):wpAny (model X.prog X.w) X.A (eval (.Name x pos) X.env) Q E s:=
 Calls.Name_function_global I.ok.kind hg (Calls.loadGlobal_global (by rw [I.ok.glob];exact I.mod.glob.keeps I.bk) hm h) hd
theorem vY {E:Value->Shared->Prop} {pins:List (Addr×Obj)} {s:Shared} {σ:St} {H:Hp} {x:Str} {u:Value} {pos:Pos} {Q:Value->Shared->Prop} (I:Inv X pins σ H s) (hg:Gl X x) (hm:X.mg x=none) (hv:bootBuiltins x=some u) (h:Q u s)
  (hn:x ≠ "__name__":=by decide) (hd:(x==("__debug__":Str))=false:=by decide):wpAny (model X.prog X.w) X.A (eval (.Name x pos) X.env) Q E s:=by
 obtain ⟨mb,h1,h2⟩:=I.mod.blt;exact Calls.Name_function_global I.ok.kind hg (Calls.loadGlobal_builtin (by rw [I.ok.glob];exact I.mod.glob.keeps I.bk) hm (by rw [I.ok.blt];exact h1.keeps I.bk) ((h2 x hn).trans hv) h) hd
theorem xR {x:Str} {v:V} {u:Value} {pos:Pos} (hg:Gl X x) (hm:X.mg x=some u) (r:RelV v u) (hd:(x==("__debug__":Str))=false:=by decide):PE X (.Name x pos) (tC v):=
 fun _ _ _ H _ I h=>Dt I hg hm ⟨v,H,I,r,h⟩ hd
theorem xT {x:Str} {v:V} {u:Value} {pos:Pos} (hg:Gl X x) (hm:X.mg x=none) (hv:bootBuiltins x=some u) (r:RelV v u) (hn:x ≠ "__name__":=by decide) (hd:(x==("__debug__":Str))=false:=by decide):PE X (.Name x pos) (tC v):=
 fun _ _ _ H _ I h=>vY I hg hm hv ⟨v,H,I,r,h⟩ hn hd
variable {a b:Expr} {ta tb:TE} {pos:Pos}
noncomputable def PC (X:Cx) (op:CmpOp) (a b:Expr) (t:TE):Prop:=
 ∀(pins:List (Addr×Obj)) (s:Shared) (σ:St) (H:Hp) (Q:VK),Inv X pins σ H s->t σ H Q ->
  wpAny (model X.prog X.w) X.A (eval a X.env) (fun v s₁=>wpAny (model X.prog X.w) X.A (eval b X.env) (fun u s₂=>wpAny (model X.prog X.w) X.A (compareOp op v u) (EP X pins σ Q) X.xe s₂) X.xe s₁) X.xe s
noncomputable def tB (t:TE):TT:=fun σ H Q=>t σ H fun x H1=>∃c,x=.bl c/\Q c H1
theorem BE {op:CmpOp} {t:TE} (h:PC X op a b t) (h1:behindInMarks op b=false:=by first | exact nobehind _ (by decide) (by decide) | rfl):PE X (.Compare a [op] [b] pos) t:=fun pins s σ H Q I hw=>wpAny_Compare1 (h pins s σ H Q I hw) h1
theorem Bo {op:CmpOp} {t:TE} (h:PC X op a b t) (h1:behindInMarks op b=false:=by first | exact nobehind _ (by decide) (by decide) | rfl):PT X (.Compare a [op] [b] pos) (tB t):=by
 intro pins s σ H Q I hw;refine wpAny_isTrue_Compare1 (b6 (h pins s σ H _ I hw) fun v s1 h1=>b6 h1 fun u s2 h2=>b6 h2 fun c s3 ⟨x,H1,I1,r1,q1⟩=>?_) h1
 obtain ⟨d,rfl,q⟩:=q1
 cases r1;exact wpAny_truthy_bool ⟨H1,I1,q⟩
variable {tA tB':TT} {rest:List Expr}
noncomputable def D1 (t u:TT):TT:=fun σ H Q=>t σ H fun c H1=>if c=true then u σ H1 Q else Q false H1
noncomputable def JS (t u:TT):TT:=fun σ H Q=>t σ H fun c H1=>if c=true then Q true H1 else u σ H1 Q
noncomputable def DU (t:TT):TT:=fun σ H Q=>t σ H fun c H1=>Q (!c) H1
theorem xJ (ha:PT X a tA):PW X (.BoolOp .And [a] pos) tA:=by
 intro wh pins s σ H Q I h;refine isTrue_and (b6 (ha pins s σ H Q I h) fun c s1 e=>?_)
 cases c with
 | true=>exact isTrue_and_nil e
 | false=>exact e
theorem Bk (ha:PT X a tA):PW X (.BoolOp .Or [a] pos) tA:=by
 intro wh pins s σ H Q I h;refine isTrue_or (b6 (ha pins s σ H Q I h) fun c s1 e=>?_)
 cases c with
 | false=>exact isTrue_or_nil e
 | true=>exact e
theorem Bl (ha:PT X a tA) (hb:PW X (.BoolOp .And (b::rest) pos) tB'):PW X (.BoolOp .And (a::b::rest) pos) (D1 tA tB'):=by
 intro wh pins s σ H Q I h;refine isTrue_and (b6 (ha pins s σ H _ I h) fun c s1 ⟨H1,I1,q1⟩=>?_)
 cases c with
 | true=>exact hb wh pins s1 σ H1 Q I1 q1
 | false=>exact ⟨H1,I1,q1⟩
theorem Er (ha:PT X a tA) (hb:PW X (.BoolOp .Or (b::rest) pos) tB'):PW X (.BoolOp .Or (a::b::rest) pos) (JS tA tB'):=by
 intro wh pins s σ H Q I h;refine isTrue_or (b6 (ha pins s σ H _ I h) fun c s1 ⟨H1,I1,q1⟩=>?_)
 cases c with
 | true=>exact ⟨H1,I1,q1⟩
 | false=>exact hb wh pins s1 σ H1 Q I1 q1
theorem Bn (ha:PT X a tA):PT X (.UnaryOp .Not a pos) (DU tA):=by
 intro pins s σ H Q I h;exact isTrue_not (ha pins s σ H (fun c H1=>Q (!c) H1) I h)
noncomputable def zy (ta tb:TE):TE:=fun σ H Q=>ta σ H fun x H1=>∃c,x=.bl c/\if c=true then tb σ H1 Q else Q (.bl false) H1
noncomputable def DT (ta tb:TE):TE:=fun σ H Q=>ta σ H fun x H1=>∃c,x=.bl c/\if c=true then Q (.bl true) H1 else tb σ H1 Q
noncomputable def zw (ta:TE):TE:=fun σ H Q=>ta σ H fun x H1=>∃c,x=.bl c/\Q (.bl (!c)) H1
theorem pe_one {op} {t:TE} (h:PE X a t):PE X (.BoolOp op [a] pos) t:=fun pins s σ H Q I hw=>BoolOp_one (h pins s σ H Q I hw)
theorem BF (ha:PE X a ta) (hb:PE X (.BoolOp .And (b::rest) pos) tb):PE X (.BoolOp .And (a::b::rest) pos) (zy ta tb):=by
 intro pins s σ H Q I h;refine BoolOp_and (b6 (ha pins s σ H _ I h) fun v s1 ⟨x,H1,I1,r1,q1⟩=>?_)
 obtain ⟨c,rfl,q1⟩:=q1
 cases r1;refine wpAny_truthy_bool ?_
 cases c with
 | true=>exact hb pins s1 σ H1 Q I1 q1
 | false=>exact ⟨.bl false,H1,I1,rfl,q1⟩
theorem Ey (ha:PE X a ta) (hb:PE X (.BoolOp .Or (b::rest) pos) tb):PE X (.BoolOp .Or (a::b::rest) pos) (DT ta tb):=by
 intro pins s σ H Q I h;refine BoolOp_or (b6 (ha pins s σ H _ I h) fun v s1 ⟨x,H1,I1,r1,q1⟩=>?_)
 obtain ⟨c,rfl,q1⟩:=q1
 cases r1;refine wpAny_truthy_bool ?_
 cases c with
 | false=>exact hb pins s1 σ H1 Q I1 q1
 | true=>exact ⟨.bl true,H1,I1,rfl,q1⟩
theorem BA (ha:PE X a ta):PE X (.UnaryOp .Not a pos) (zw ta):=by
 intro pins s σ H Q I h;refine UnaryOp_ (b6 (ha pins s σ H _ I h) fun v s1 ⟨x,H1,I1,r1,q1⟩=>?_)
 obtain ⟨c,rfl,q1⟩:=q1
 cases r1;exact not_of (wpAny_truthy_bool ⟨.bl (!c),H1,I1,rfl,q1⟩)
noncomputable def JV (t:TT) (ta tb:TE):TE:=fun σ H Q=>t σ H fun c H1=>if c=true then ta σ H1 Q else tb σ H1 Q
theorem uP {c:Expr} (hc:PT X c tA) (ha:PE X a ta) (hb:PE X b tb):PE X (.IfExp c a b pos) (JV tA ta tb):=by
 intro pins s σ H Q I h;refine wpAny_IfExp (b6 (hc pins s σ H _ I h) fun d s1 ⟨H1,I1,q1⟩=>?_)
 cases d with
 | true=>exact ha pins s1 σ H1 Q I1 q1
 | false=>exact hb pins s1 σ H1 Q I1 q1
end
noncomputable def SqL (K:Fg) (H:Hp) (a:Addr) (xs:List V):Prop:=
 Rd H a (.lst xs) \/
  ∃(o:Obj) (its:Array Value) (n:Nat),K.lookup a=some o/\o.cls=.type "list"/\o.dict=none/\o.data=.seq its n/\its.size<=sizeLine/\Vals xs its.toList
noncomputable def SqT (K:Fg) (H:Hp) (a:Addr) (xs:List V):Prop:=
 Rd H a (.tup xs) \/
  ∃(o:Obj) (its:Array Value) (n:Nat),K.lookup a=some o/\o.cls=.type "tuple"/\o.data=.seq its n/\its.size<=sizeLine/\Vals xs its.toList
noncomputable def JD:Value->Option V
 | .none=>some .non
 | .bool b=>some (.bl b)
 | .int i _=>some (.int i)
 | .str x _=>some (.str x)
 | .bytes b _=>some (.byt b)
 | .float b _=>some (.flt b)
 | .ref a=>some (.ref a)
 | .type n=>some (.ty n)
 | _=>none
theorem RelV.abs {x:V} {u:Value} (r:RelV x u):JD u=some x:=by
 cases x with
 | non=>cases r;rfl
 | bl _=>cases r;rfl
 | int _=>obtain ⟨t,rfl⟩:=r;rfl
 | str _=>obtain ⟨t,rfl⟩:=r;rfl
 | byt _=>obtain ⟨t,rfl⟩:=r;rfl
 | flt _=>obtain ⟨t,rfl⟩:=r;rfl
 | ref _=>cases r;rfl
 | ty _=>cases r;rfl
theorem RelV.inj {x y:V} {u:Value} (r:RelV x u) (q:RelV y u):x=y:=Option.some.inj (r.abs.symm.trans q.abs)
theorem Vals.inj:∀{xs ys:List V} {us:List Value},Vals xs us->Vals ys us->xs=ys
 | _,_,_,.nil,.nil=>rfl
 | _,_,_,.cons r t,.cons r' t'=>by rw [r.inj r',Vals.inj t t']
section
variable {X:Cx} {pins:List (Addr×Obj)} {σ:St} {H:Hp} {s:Shared} {a:Addr} {xs ys:List V}
theorem SqL.of {K:Fg} (h:H a=some (.lst xs)):SqL K H a xs:=.inl (.inl h)
theorem SqT.of {K:Fg} (h:H a=some (.tup xs)):SqT K H a xs:=.inl (.inl h)
theorem Inv.list (I:Inv X pins σ H s) (h:SqL X.K H a xs):∃its:List Value,Vals xs its/\PlainL s.heap a its.toArray/\xs.length<=sizeLine:=by
 rcases h with h | ⟨o,its,n,hk,hc,hd,hs,hz,r⟩
 ·obtain ⟨z,its,n,r,e⟩:=h.ok I.hok
  exact ⟨its,r,⟨_,n,e,rfl,rfl,rfl⟩,z⟩
 ·refine ⟨its.toList,r,⟨o,n,I.kIn a o hk,hc,hd,by simpa using hs⟩,?_⟩
  have e:=r.length
  simp only [Array.length_toList] at e
  omega
theorem Inv.tuple (I:Inv X pins σ H s) (h:SqT X.K H a xs):∃its:List Value,Vals xs its/\IsTup s.heap a its.toArray/\xs.length<=sizeLine:=by
 rcases h with h | ⟨o,its,n,hk,hc,hs,hz,r⟩
 ·obtain ⟨z,its,r,p⟩:=h.ok I.hok
  exact ⟨its,r,p,z⟩
 ·refine ⟨its.toList,r,⟨o,I.kIn a o hk,hc,n,by simpa using hs⟩,?_⟩
  have e:=r.length
  simp only [Array.length_toList] at e
  omega
theorem Inv.list_inj (I:Inv X pins σ H s) (h:SqL X.K H a xs) (h':SqL X.K H a ys):xs=ys:=by
 obtain ⟨its,r,⟨o,n,e,_,_,d⟩,_⟩:=I.list h;obtain ⟨its',r',⟨o',n',e',_,_,d'⟩,_⟩:=I.list h'
 rw [e] at e';cases e'
 rw [d] at d';injection d' with d1 _
 have:its=its':=by simpa using congrArg Array.toList d1
 subst this;exact r.inj r'
theorem Inv.tuple_inj (I:Inv X pins σ H s) (h:SqT X.K H a xs) (h':SqT X.K H a ys):xs=ys:=by
 obtain ⟨its,r,⟨o,e,_,n,d⟩,_⟩:=I.tuple h;obtain ⟨its',r',⟨o',e',_,n',d'⟩,_⟩:=I.tuple h'
 rw [e] at e';cases e'
 rw [d] at d';injection d' with d1 _
 have:its=its':=by simpa using congrArg Array.toList d1
 subst this;exact r.inj r'
end
noncomputable abbrev Cx.wish (X:Cx) (E:Value->Shared->Prop):Cx:={ X with xe:=E }
noncomputable abbrev Cx.nox (X:Cx):Cx:=X.wish fun _ _=>False
theorem Cx.Ok.wish {X:Cx} (ok:X.Ok) (E:Value->Shared->Prop):(X.wish E).Ok:=
 ⟨ok.mod,ok.kind,ok.glob,ok.blt,ok.above,ok.inj,ok.has,ok.cab,ok.hd,ok.frames,ok.stk,ok.exf,ok.bs,ok.bsz,ok.noex,ok.exfs,ok.funs,ok.frf⟩
theorem Cx.Ok.unwish {X:Cx} {E:Value->Shared->Prop} (ok:(X.wish E).Ok):X.Ok:=
 ⟨ok.mod,ok.kind,ok.glob,ok.blt,ok.above,ok.inj,ok.has,ok.cab,ok.hd,ok.frames,ok.stk,ok.exf,ok.bs,ok.bsz,ok.noex,ok.exfs,ok.funs,ok.frf⟩
section
variable {X:Cx} {pins:List (Addr×Obj)} {σ:St} {H:Hp} {s:Shared} {E:Value->Shared->Prop}
theorem Inv.wish (I:Inv X pins σ H s) (E:Value->Shared->Prop):Inv (X.wish E) pins σ H s:=⟨I.ok.wish E,I.os,I.bare,I.base,I.loc,I.cell,I.free,I.freeC,I.pin,I.hok,I.len⟩
theorem Inv.unwish (I:Inv (X.wish E) pins σ H s):Inv X pins σ H s:=⟨I.ok.unwish,I.os,I.bare,I.base,I.loc,I.cell,I.free,I.freeC,I.pin,I.hok,I.len⟩
theorem SP.unwish {D:jP} {f:Flow} {s':Shared} (h:SP (X.wish E) pins D f s'):SP X pins D f s':=by
 cases f with
 | next=>obtain ⟨σ',H',I,q⟩:=h;exact ⟨σ',H',I.unwish,q⟩
 | brk=>obtain ⟨σ',H',I,q⟩:=h;exact ⟨σ',H',I.unwish,q⟩
 | cont=>obtain ⟨σ',H',I,q⟩:=h;exact ⟨σ',H',I.unwish,q⟩
 | ret u=>obtain ⟨v,σ',H',I,r,q⟩:=h;exact ⟨v,σ',H',I.unwish,r,q⟩
theorem PSs.nox {st:List Stmt} {t:TS} (h:PSs X.nox st t):PSs X st t:=fun pins s σ H D I hw=>
 wpAny_mono (h pins s σ H D (I.wish _) hw) (fun _ _ q=>q.unwish) fun _ _ z=>False.elim z
end
section
variable {X:Cx} {st:Stmt} {rest:List Stmt} {t u:TS} {e:Expr} {te:TE} {pos:Pos}
noncomputable def zx:TS:=fun D σ H=>D.nx σ H
noncomputable def DR (t u:TS):TS:=fun D σ H=>t { D with nx:=u D } σ H
theorem xN:PSs X [] zx:=fun _ _ σ H _ I h=>wpAny_execs_nil ⟨σ,H,I,h⟩
theorem uM (h1:PS X st t) (h2:PSs X rest u):PSs X (st::rest) (DR t u):=by
 intro pins s σ H D I h;refine wpAny_execs_cons (b6 (h1 pins s σ H { D with nx:=u D } I h) fun f s1 q=>?_)
 cases f with
 | next=>
  obtain ⟨σ',H',I',q⟩:=q;exact h2 pins s1 σ' H' D I' q
 | ret v=>exact q
 | brk=>exact q
 | cont=>exact q
theorem xM (h1:PS X st t):PSs X [st] t:=by
 intro pins s σ H D I h;refine wpAny_execs_cons (b6 (h1 pins s σ H D I h) fun f s1 q=>?_)
 cases f with
 | next=>exact wpAny_execs_nil q
 | ret v=>exact q
 | brk=>exact q
 | cont=>exact q
theorem Inv.quiet {pins:List (Addr×Obj)} {σ:St} {H:Hp} {s:Shared} (I:Inv X pins σ H s):interactive X.env=false:=by simp [interactive,I.ok.kind]
noncomputable def qf (te:TE):TS:=fun D σ H=>te σ H fun _ H1=>D.nx σ H1
theorem HA (he:PE X e te) (hs:swapsWith e none pos.line X.env=pure false:=by rfl):PS X (.Expr e pos) (qf te):=by
 intro pins s σ H D I h;exact wpAny_Expr_any (b6 (he pins s σ H _ I h) fun v s1 ⟨x,H1,I1,r1,q1⟩=>⟨σ,H1,I1,q1⟩) I.quiet hs
noncomputable def DS (te:TE):TS:=fun D σ H=>te σ H D.rt
theorem Bq (he:PE X e te):PS X (.Return (some e) pos) (DS te):=by
 intro pins s σ H D I h;exact wpAny_Return_some (b6 (he pins s σ H _ I h) fun v s1 ⟨x,H1,I1,r1,q1⟩=>⟨x,σ,H1,I1,r1,q1⟩)
noncomputable def DW (c:TT) (t u:TS):TS:=fun D σ H=>c σ H fun b H1=>if b=true then t D σ H1 else u D σ H1
theorem Et {c:Expr} {a b:List Stmt} {tc:TT} (hc:PT X c tc) (ha:PSs X a t) (hb:PSs X b u):PS X (.If c a b pos) (DW tc t u):=by
 intro pins s σ H D I h;refine wpAny_If (b6 (hc pins s σ H _ I h) fun d s1 ⟨H1,I1,q1⟩=>?_)
 cases d with
 | true=>exact ha pins s1 σ H1 D I1 q1
 | false=>exact hb pins s1 σ H1 D I1 q1
end
abbrev TG:=V->St->Hp->(St->Hp->Prop)->Prop
abbrev CT:=List V->St->Hp->(St->Hp->Prop)->Prop
noncomputable def PG (X:Cx) (target:Expr) (t:TG):Prop:=
 ∀(pins:List (Addr×Obj)) (s:Shared) (σ:St) (H:Hp) (v:V) (u:Value) (Q:St->Hp->Prop),Inv X pins σ H s->RelV v u->t v σ H Q ->
  wpAny (model X.prog X.w) X.A (assign target X.env u) (fun _ s'=>∃σ' H',Inv X pins σ' H' s'/\Q σ' H') X.xe s
noncomputable def GZ (X:Cx) (ts:List Expr) (t:CT):Prop:=
 ∀(pins:List (Addr×Obj)) (s:Shared) (σ:St) (H:Hp) (vs:List V) (us:List Value) (Q:St->Hp->Prop),Inv X pins σ H s->Vals vs us->t vs σ H Q ->
  wpAny (model X.prog X.w) X.A (assignInOrder ((assignEach ts X.env).map (·.2)) us) (fun _ s'=>∃σ' H',Inv X pins σ' H' s'/\Q σ' H') X.xe s
abbrev CS:=V->V->V->Hp->(Hp->Prop)->Prop
noncomputable def Fu (X:Cx) (t:CS):Prop:=
 ∀(pins:List (Addr×Obj)) (s:Shared) (σ:St) (H:Hp) (o i v:V) (ov iv u:Value) (Q:Hp->Prop),Inv X pins σ H s->RelV o ov->RelV i iv->RelV v u->t o i v H Q ->
  wpAny (model X.prog X.w) X.A (setItem ov iv u) (fun _ s'=>∃H',Inv X pins σ H' s'/\Q H') X.xe s
abbrev GY:=V->V->Hp->VK->Prop
noncomputable def Kp (X:Cx) (op:Operator) (t:GY):Prop:=
 ∀(pins:List (Addr×Obj)) (s:Shared) (σ:St) (H:Hp) (x y:V) (v u:Value) (Q:VK),Inv X pins σ H s->RelV x v->RelV y u->t x y H Q ->
  wpAny (model X.prog X.w) X.A (inplaceOp op v u) (EP X pins σ Q) X.xe s
section
variable {X:Cx} {pos:Pos}
noncomputable def iE (i:Nat):TG:=fun v σ H Q=>Q (σ.set i (some v)) H
theorem Dv {i:Nat} {x:Str} (hN:X.N.Nodup) (hi:X.N[i]?=some x) (hx:Loc X.env.scope x) (hf:X.fn x=true\/X.env.scope.names.lookup x=some .local:=by first | exact .inl rfl | exact .inr rfl | assumption):PG X (.Name x pos) (iE i):=by
 intro pins s σ H v u Q I r h;exact wpAny_assign_Name (Ib I hN hi hx r (fun s' I'=>⟨_,H,I',h⟩) hf)
noncomputable def EY:CT:=fun vs σ H Q=>vs=[]/\Q σ H
noncomputable def vw (t:TG) (u:CT):CT:=fun vs σ H Q=>∃v r,vs=v::r/\t v σ H fun σ' H'=>u r σ' H' Q
theorem xQ:GZ X [] EY:=by
 intro pins s σ H vs us Q I r h;obtain ⟨e,h⟩:=h;subst e
 cases r;exact assignInOrder_nil ⟨σ,H,I,h⟩
theorem m8 {e:Expr} {es:List Expr} {t:TG} {u:CT} (h1:PG X e t) (h2:GZ X es u)
  (hs:(assignEach (e::es) X.env).map (·.2)=assign e X.env::(assignEach es X.env).map (·.2):=by rfl):GZ X (e::es) (vw t u):=by
 intro pins s σ H vs us Q I r h;obtain ⟨v,vr,e1,h⟩:=h;subst e1
 cases r with
 | cons r rr=>
  rw [hs];refine assignInOrder_cons (b6 (h1 pins s σ H _ _ _ I r h) fun _ s1 ⟨σ1,H1,I1,q1⟩=>?_)
  exact h2 pins s1 σ1 H1 _ _ Q I1 rr q1
noncomputable def EX (K:Fg) (n:Nat) (t:CT):TG:=fun v σ H Q=>∃a xs,v=.ref a/\SqT K H a xs/\xs.length=n/\t xs σ H Q
theorem Bv {es:List Expr} {k:Nat} {t:CT} {n:Nat} (hc:X.calm=true) (h:GZ X es t)
  (hn:(assignEach es X.env).length=n:=by rfl) (hst:(assignEach es X.env).findIdx? (·.1)=none:=by rfl):PG X (.Tuple es k pos) (EX X.K n t):=by
 intro pins s σ H v u Q I r hw;obtain ⟨a,xs,e1,hq,hl,hw⟩:=hw;subst e1
 cases r;obtain ⟨its,rv,ht,hz⟩:=I.tuple hq;refine assign_Tuple_tuple (I.ok.hd hc) ht (by simp [hn,<-hl,rv.length]) hst fun h' hx=>?_
 have I1:Inv X pins σ H { s with heap:=h' }:=I.kept (t':=s.toks) fun b o e=>hx b o (Nat.ne_of_lt (Heap.lt_size e)) e
 exact h pins _ σ H xs _ Q I1 (by simpa using rv) hw
noncomputable def gSub (to ti:TE) (t:CS):TG:=fun v σ H Q=>to σ H fun o H1=>ti σ H1 fun i H2=>t o i v H2 fun H3=>Q σ H3
theorem Bw {o i:Expr} {to ti:TE} {t:CS} (ho:PE X o to) (hi:PE X i ti) (hs:Fu X t)
  (ha:∀v,assign (.Subscript o i pos) X.env v=(do
   let ov <-holding [v] (eval o X.env)
   let iv <-holding [v,ov] (eval i X.env)
   standAt pos
   holding [v,ov,iv] (setItem ov iv v)
   release [v,ov,iv] []):=by intro _;rfl):PG X (.Subscript o i pos) (gSub to ti t):=by
 intro pins s σ H v u Q I r h;rw [ha];refine KR (wpAny_holding (b6 (ho pins s σ H _ I h) fun ov s1 ⟨x,H1,I1,r1,q1⟩=>?_))
 refine KR (wpAny_holding (b6 (hi pins s1 σ H1 _ I1 q1) fun iv s2 ⟨y,H2,I2,r2,q2⟩=>?_))
 refine KR (wpAny_standAt (KR (wpAny_holding (b6 (hs pins s2 σ H2 x y v ov iv u _ I2 r1 r2 r q2) fun _ s3 ⟨H3,I3,q3⟩=>?_))))
 exact wpAny_release ⟨σ,H3,I3,q3⟩
noncomputable def ue (te:TE) (g:TG):TS:=fun D σ H=>te σ H fun x H1=>g x σ H1 D.nx
theorem Bt {tg e:Expr} {te:TE} {g:TG} (he:PE X e te) (hg:PG X tg g) (hs:swapsWithSole [tg] e pos.line X.env=pure false:=by rfl) (hw:swappedStores [tg] e X.env=pure none:=by rfl)
  (h1:(assignEach [tg] X.env).map (·.2)=[assign tg X.env]:=by rfl):PS X (.Assign [tg] e pos) (ue te g):=by
 intro pins s σ H D I h;refine wpAny_Assign_stores (b6 (he pins s σ H _ I h) fun v s1 ⟨x,H1,I1,r1,q1⟩=>?_) hs hw
 rw [h1];exact b6 (hg pins s1 σ H1 x v _ I1 r1 q1) fun _ s2 q=>q
theorem Bp {i:Nat} {x:Str} {e:Expr} {te:TE} {pos':Pos} (hN:X.N.Nodup) (hi:X.N[i]?=some x) (hx:Loc X.env.scope x) (he:PE X e te) (hs:swapsWith e (some (.Name x pos')) pos.line X.env=pure false:=by rfl) (hf:X.fn x=true\/X.env.scope.names.lookup x=some .local:=by first | exact .inl rfl | exact .inr rfl | assumption) :
  PS X (.Assign [.Name x pos'] e pos) (ue te (iE i)):=by
 intro pins s σ H D I h;refine wpAny_Assign_Name (b6 (he pins s σ H _ I h) fun v s1 ⟨y,H1,I1,r1,q1⟩=>?_) hs
 exact Ib I1 hN hi hx r1 (fun s2 I2=>⟨_,H1,I2,q1⟩) hf
noncomputable def D0 (i:Nat) (te:TE) (ti:GY):TS:=fun D σ H=>∃x,σ[i]?=some (some x)/\te σ H fun y H1=>ti x y H1 fun z H2=>D.nx (σ.set i (some z)) H2
theorem Bs {i:Nat} {x:Str} {e:Expr} {te:TE} {op:Operator} {ti:GY} {pos':Pos} (hN:X.N.Nodup) (hi:X.N[i]?=some x) (hx:Loc X.env.scope x) (he:PE X e te) (ho:Kp X op ti) (hf:X.fn x=true\/X.env.scope.names.lookup x=some .local:=by first | exact .inl rfl | exact .inr rfl | assumption) :
  PS X (.AugAssign (.Name x pos') op e pos) (D0 i te ti):=by
 intro pins s σ H D I h;obtain ⟨v,e1,h⟩:=h;obtain ⟨m,hn,hl⟩:=I.loc;have vis:CP X.env.scope x:=by rcases hx with k | k;exact .inl k;exact .inr (.inl k)
 obtain ⟨u,r,l⟩:=hl i x v hi e1 vis;refine wpAny_AugAssign_Name ?_
 have go:wpAny (model X.prog X.w) X.A (eval e X.env) (fun w s₂=>wpAny (model X.prog X.w) X.A (inplaceOp op u w) (fun r s₃=>wpAny (model X.prog X.w) X.A (storeName X.env x r) (fun _=>SP X pins D .next) X.xe s₃) X.xe s₂) X.xe s:=by
  refine b6 (he pins s σ H _ I h) fun w s1 ⟨y,H1,I1,r1,q1⟩=>?_
  refine b6 (ho pins s1 σ H1 v y u w _ I1 r r1 q1) fun z s2 ⟨zv,H2,I2,r2,q2⟩=>?_
  exact Ib I2 hN hi hx r2 (fun s3 I3=>⟨_,H2,I3,q2⟩) hf
 rcases l with ⟨hk,hm⟩ | ⟨hk,c,hc,hcell⟩
 ·exact wpAny_loadName_local I.ok.kind hk hn hm go
 ·rcases hk with hk | hk
  ·exact wpAny_loadName_cell I.ok.kind hk hc hcell go
  ·rcases hx with k | k
   ·have:X.env.scope.names.lookup x=some .free:=hk
    rw [k] at this;cases this
   ·have:X.env.scope.names.lookup x=some .free:=hk
    rw [k] at this;cases this
noncomputable def Ki (f:Int->Int->Int):GY:=fun x y H Q=>∃i j,x=.int i/\y=.int j/\Q (.int (f i j)) H
theorem B5:Kp X .Add (Ki fun i j=>i+j):=by
 intro pins s σ H x y v u Q I r1 r2 h;obtain ⟨i,j,e1,e2,q⟩:=h;subst e1;subst e2;obtain ⟨t,rfl⟩:=r1;obtain ⟨t',rfl⟩:=r2;exact iadd_int ⟨.int _,H,I.tok _,⟨_,rfl⟩,q⟩
end
section
variable {X:Cx} {pos:Pos}
noncomputable def ub (c:TT) (tb:TS):TS:=fun D σ H=>∃W:Nat->St->Hp->Prop,(∃m,W m σ H)/\∀m σ H,W m σ H ->
 c σ H fun b H1=>if b=true then ∃N:St->Hp->Prop,(∀σ' H',N σ' H'->∃m',m'<m/\W m' σ' H')/\tb { D with nx:=N,ct:=N,bk:=D.nx } σ H1 else D.nx σ H1
theorem uN {c:Expr} {body:List Stmt} {tc:TT} {tb:TS} (hp:PassesOwn (model X.prog X.w) X.A X.env X.xe) (hc:PT X c tc) (hb:PSs X body tb):PS X (.While c body [] pos) (ub tc tb):=by
 intro pins s σ H D I h;obtain ⟨W,⟨m0,w0⟩,turn⟩:=h;refine wpAny_While (codeAny_whileLoop (fun n s'=>∃σ' H',Inv X pins σ' H' s'/\W n σ' H') ?_ m0 ⟨σ,H,I,w0⟩)
 rintro n s1 ⟨σ1,H1,I1,w1⟩
 refine wpAny_passesOwn hp (b6 (hc pins s1 σ1 H1 _ I1 (turn n σ1 H1 w1)) fun b s2 ⟨H2,I2,q2⟩=>?_)
 cases b with
 | true=>
  obtain ⟨N,hN,q2⟩:=q2;rw [if_pos rfl];refine wpAny_passesOwn hp (b6 (hb pins s2 σ1 H2 _ I2 q2) fun f s3 q3=>?_)
  cases f with
  | next=>
   obtain ⟨σ3,H3,I3,n3⟩:=q3;obtain ⟨m',hm,w3⟩:=hN σ3 H3 n3;exact ⟨m',hm,σ3,H3,I3,w3⟩
  | cont=>
   obtain ⟨σ3,H3,I3,n3⟩:=q3;obtain ⟨m',hm,w3⟩:=hN σ3 H3 n3;exact ⟨m',hm,σ3,H3,I3,w3⟩
  | brk=>exact q3
  | ret v=>exact q3
 | false=>
  rw [if_neg Bool.false_ne_true];exact wpAny_execs_nil ⟨σ1,H2,I2,q2⟩
end
structure It where
 go:Nat->Hp->Prop
 yld:Nat->Hp->V->Hp->Prop
 stop:Nat->Hp->Prop
noncomputable def kz (X:Cx) (pins:List (Addr×Obj)) (H:Hp) (b:Addr):Prop:=
 H b=none/\b≠X.env.locals/\b∉X.fs/\(b∈X.ex\/X.s₀.heap.objs.size<=b)/\(∀x c,X.env.cells.lookup x=some c->c≠b)/\∀p∈X.pn++pins,p.1≠b
theorem Inv.fpOk {X:Cx} {pins:List (Addr×Obj)} {σ:St} {H H':Hp} {s:Shared} {b:Addr} (I:Inv X pins σ H s) (hb:s.heap.objs.size<=b) (hn:H' b=none):kz X pins H' b:=by
 refine ⟨hn,Nat.ne_of_gt (Nat.lt_of_lt_of_le I.lt hb),I.nofs hb,.inr (Nat.le_trans I.sz hb),fun x c e z=>?_,fun p hp z=>?_⟩
 ·obtain ⟨v,q⟩:=I.cell x c e
  exact absurd (Nat.lt_of_lt_of_le q.lt (by rw [z];exact hb)) (Nat.lt_irrefl _)
 ·exact absurd (Nat.lt_of_lt_of_le (Heap.lt_size (I.pin p hp).1) (by rw [z];exact hb)) (Nat.lt_irrefl _)
structure vU (P:Program) (w:World) (K:Fg) (tg:Expr) (J:It) (fp:List Addr) (it:Addr) (tn:Nat->Heap->Prop):Prop where
 mem:it∈fp
 obj:∀i h,tn i h->∀b∈fp,∃o,h.get? b=some o/\∀v,o.data≠.cell v
 keep:∀i h h',tn i h->(∀b∈fp,∀o,h.get? b=some o->h'.get? b=some o)->tn i h'
 item:∀(X:Cx),X.prog=P->X.w=w->X.K=K->X.calm=true->∀(i:Nat) (pins:List (Addr×Obj)) (s:Shared) (σ:St) (H:Hp) (E:Value->Shared->Prop),Inv X pins σ H s->(∀b∈fp,kz X pins H b)->tn i s.heap->J.go i H ->
  wpAny (model P w) X.A (pyNext (.ref it)) (fun r s1=>∃u,r=some u /\
   wpAny (model P w) X.A (letOwnedTupleGo tg (.ref it) u) (fun _ s2=>∃x H',Inv X pins σ H' s2/\RelV x u/\J.yld i H x H'/\tn (i+1) s2.heap/\∀b∈fp,H' b=none) E s1) E s
 done:∀(X:Cx),X.prog=P->X.w=w->X.K=K->X.calm=true->∀(i:Nat) (pins:List (Addr×Obj)) (s:Shared) (σ:St) (H:Hp) (E:Value->Shared->Prop),Inv X pins σ H s->(∀b∈fp,kz X pins H b)->tn i s.heap->J.stop i H ->
  wpAny (model P w) X.A (pyNext (.ref it)) (fun r s1=>r=none/\Inv X pins σ H s1) E s
 self:∀(A:Around) (i:Nat) (s:Shared) (Q:Value->Shared->Prop) (E:Value->Shared->Prop),tn i s.heap->Q (.ref it) s->wpAny (model P w) A (pyIter (.ref it)) Q E s
abbrev TI:=St->Hp->(It->Hp->Prop)->Prop
noncomputable def Kq (X:Cx) (pins:List (Addr×Obj)) (σ:St) (tg:Expr) (R:It->Hp->Prop) (itv:Value) (s2:Shared):Prop:=
 ∃(it:Addr) (fp:List Addr) (tn:Nat->Heap->Prop) (J:It) (H':Hp),itv=.ref it/\Inv X pins σ H' s2/\vU X.prog X.w X.K tg J fp it tn/\tn 0 s2.heap/\(∀b∈fp,kz X pins H' b)/\R J H'
noncomputable def PI (X:Cx) (tg iter:Expr) (wi:TI):Prop:=
 ∀(pins:List (Addr×Obj)) (s:Shared) (σ:St) (H:Hp) (R:It->Hp->Prop),Inv X pins σ H s->wi σ H R ->
  wpAny (model X.prog X.w) X.A (eval iter X.env) (fun v s1=>wpAny (model X.prog X.w) X.A (pyIter v) (Kq X pins σ tg R) X.xe s1) X.xe s
theorem vo {M:Model} {A:Around} {E:Value->Shared->Prop} {s:Shared} {tg:Expr} {it:Addr} {u:Value} {o:Obj} {n:String} {vs:Array Value} {Q:Unit->Shared->Prop} (ho:s.heap.get? it=some o) (hc:o.cls=.type n) (hd:o.data=.fields vs)
  (hn:["enumerate", "zip", "dict_itemiterator", "dict_reverseitemiterator", "odict_iterator", "itertools.zip_longest", "itertools.pairwise"].contains n=false) (hQ:Q () s):wpAny M A (letOwnedTupleGo tg (.ref it) u) Q E s:=by
 unfold letOwnedTupleGo
 cases tg<;>first
  | exact KS hQ
  | (cases u<;>first
      | exact KS hQ
      | (refine KR (wpAny_load ho ?_)
         rw [hc,hd];show wpAny M A (if (["enumerate", "zip", "dict_itemiterator", "dict_reverseitemiterator", "odict_iterator", "itertools.zip_longest", "itertools.pairwise"].contains n&&vs[0]?==some (rawInt _))=true then _ else _) Q E s
         rw [if_neg (by intro h;rw [hn,Bool.false_and] at h;cases h)]
         exact KS hQ))
noncomputable def G5 (K:Fg) (a:Addr):It:=
 ⟨fun i H=>∃xs x,SqL K H a xs/\xs[i]?=some x,fun i H x H'=>H'=H/\∀xs,SqL K H a xs->xs[i]?=some x,fun i H=>∃xs,SqL K H a xs/\xs.length<=i⟩
noncomputable def G4 (K:Fg) (a:Addr):It:=
 ⟨fun i H=>∃xs x,SqT K H a xs/\xs[i]?=some x,fun i H x H'=>H'=H/\∀xs,SqT K H a xs->xs[i]?=some x,fun i H=>∃xs,SqT K H a xs/\xs.length<=i⟩
noncomputable def CW (lo:Int) (n:Nat):It:=⟨fun i _=>i<n,fun i H x H'=>H'=H/\x=.int (lo+i),fun i _=>n<=i⟩
theorem rq {P:Program} {w:World} {K:Fg} {tg:Expr} (a it:Addr):vU P w K tg (G5 K a) [it] it (fun i h=>h.IsListIter it a i) where
 mem:=by simp
 obj:=fun i h st b hb=>by
  have e:b=it:=by simpa using hb
  subst e;obtain ⟨o,e,c,d⟩:=st;exact ⟨o,e,fun v z=>by rw [d] at z;cases z⟩
 keep:=fun i h h' st k=>st.at fun o e=>k it (by simp) o e
 item:=by
  intro X hP hw hK hc i pins s σ H E I hf st hg;subst hP hw hK;obtain ⟨xs,x,hq,hx⟩:=hg;obtain ⟨its,rv,p,hz⟩:=I.list hq;obtain ⟨u,hu,ru⟩:=rv.get hx;obtain ⟨f0,f1,f2,f3,f4,f5⟩:=hf it (by simp)
  refine wpAny_pyNext_list_item st p.isList (x:=u) (by simpa using hu) fun h' st' sb=>?_
  have I1:Inv X pins σ H { s with heap:=h' }:=I.turned (t':=s.toks) (fun b o hb e=>(sb.2 b hb).trans e) f0 f1 f3 f4 f5
  obtain ⟨o,e,c,d⟩:=id st'
  exact ⟨u,rfl,vo (s:={ s with heap:=h' }) e c d (by decide) ⟨x,H,I1,ru,⟨rfl,fun ys hy=>by rw [I.list_inj hy hq];exact hx⟩,st',fun b hb=>(hf b hb).1⟩⟩
 done:=by
  intro X hP hw hK hc i pins s σ H E I hf st hg;subst hP hw hK;obtain ⟨xs,hq,hx⟩:=hg;obtain ⟨its,rv,p,hz⟩:=I.list hq;obtain ⟨f0,f1,f2,f3,f4,f5⟩:=hf it (by simp)
  have hl:=rv.length
  exact wpAny_pyNext_list_end (I.ok.hd hc) st p.isList (by simp;omega) fun h' eb=>⟨rfl,I.turned (t':=s.toks) (fun b o hb e=>eb b o hb e) f0 f1 f3 f4 f5⟩
 self:=fun _ _ _ _ _ st h=>wpAny_pyIter_listiter st h
theorem oN {P:Program} {w:World} {K:Fg} {tg:Expr} (a it:Addr):vU P w K tg (G4 K a) [it] it (fun i h=>h.IsTupleIter it a i) where
 mem:=by simp
 obj:=fun i h st b hb=>by
  have e:b=it:=by simpa using hb
  subst e;obtain ⟨o,e,c,d⟩:=st;exact ⟨o,e,fun v z=>by rw [d] at z;cases z⟩
 keep:=fun i h h' st k=>st.at fun o e=>k it (by simp) o e
 item:=by
  intro X hP hw hK hc i pins s σ H E I hf st hg;subst hP hw hK;obtain ⟨xs,x,hq,hx⟩:=hg;obtain ⟨its,rv,p,hz⟩:=I.tuple hq;obtain ⟨u,hu,ru⟩:=rv.get hx;obtain ⟨f0,f1,f2,f3,f4,f5⟩:=hf it (by simp)
  refine wpAny_pyNext_tuple_item st (show s.heap.IsTuple a its.toArray from p) (x:=u) (by simpa using hu) fun h' st' sb=>?_
  have I1:Inv X pins σ H { s with heap:=h' }:=I.turned (t':=s.toks) (fun b o hb e=>(sb.2 b hb).trans e) f0 f1 f3 f4 f5
  obtain ⟨o,e,c,d⟩:=id st'
  exact ⟨u,rfl,vo (s:={ s with heap:=h' }) e c d (by decide) ⟨x,H,I1,ru,⟨rfl,fun ys hy=>by rw [I.tuple_inj hy hq];exact hx⟩,st',fun b hb=>(hf b hb).1⟩⟩
 done:=by
  intro X hP hw hK hc i pins s σ H E I hf st hg;subst hP hw hK;obtain ⟨xs,hq,hx⟩:=hg;obtain ⟨its,rv,p,hz⟩:=I.tuple hq;obtain ⟨f0,f1,f2,f3,f4,f5⟩:=hf it (by simp)
  have hl:=rv.length
  exact wpAny_pyNext_tuple_end (I.ok.hd hc) st (show s.heap.IsTuple a its.toArray from p) (by simp;omega) fun h' eb=>⟨rfl,I.turned (t':=s.toks) (fun b o hb e=>eb b o hb e) f0 f1 f3 f4 f5⟩
 self:=fun _ _ _ _ _ st h=>wpAny_pyIter_tupleiter st h
theorem oO {P:Program} {w:World} {K:Fg} {tg:Expr} (it:Addr) (lo:Int) (n:Nat):vU P w K tg (CW lo n) [it] it (fun i h=>IsRangeIter h it (lo+(i:Nat)*1) ((n:Int)-(i:Nat)) 1) where
 mem:=by simp
 obj:=fun i h st b hb=>by
  have e:b=it:=by simpa using hb
  subst e;exact ⟨_,st,fun v z=>by
   have z':Data.fields _=Data.cell v:=z
   cases z'⟩
 keep:=fun i h h' st k=>k it (by simp) _ st
 item:=by
  intro X hP hw hK hc i pins s σ H E I hf st hg;subst hP hw hK;obtain ⟨f0,f1,f2,f3,f4,f5⟩:=hf it (by simp)
  have W:=Walks.range (prog:=X.prog) (w:=X.w) (I.ok.hd hc) it lo 1 n
  refine W.item i s _ _ hg st fun v h' tk hv st' kk=>?_
  obtain ⟨t,rfl⟩:=hv;have I1:Inv X pins σ H { s with heap:=h',toks:=tk }:=I.turned (fun b o hb e=>kk b o (by simpa using hb) e) f0 f1 f3 f4 f5
  refine ⟨_,rfl,vo (s:={ s with heap:=h',toks:=tk }) (n := "range_iterator") st' rfl rfl (by decide) ⟨.int (lo+i),H,I1,⟨t,?_⟩,⟨rfl,rfl⟩,st',fun b hb=>(hf b hb).1⟩⟩
  rw [Int.mul_one]
 done:=by
  intro X hP hw hK hc i pins s σ H E I hf st hg;subst hP hw hK;obtain ⟨f0,f1,f2,f3,f4,f5⟩:=hf it (by simp)
  exact wpAny_pyNext_range_end (I.ok.hd hc) st (by have:n<=i:=hg;omega) fun h' eb=>⟨rfl,I.turned (t':=s.toks) (fun b o hb e=>eb b o hb e) f0 f1 f3 f4 f5⟩
 self:=fun _ _ _ _ _ st h=>wpAny_pyIter_rangeiter st h
section
variable {X:Cx} {tg:Expr}
noncomputable def zK (K:Fg) (tl:TE):TI:=fun σ H R=>tl σ H fun x H1=>∃a,x=.ref a/\(∃xs,SqL K H1 a xs)/\R (G5 K a) H1
noncomputable def EW (K:Fg) (tl:TE):TI:=fun σ H R=>tl σ H fun x H1=>∃a,x=.ref a/\(∃xs,SqT K H1 a xs)/\R (G4 K a) H1
theorem xP {l:Expr} {tl:TE} (hl:PE X l tl):PI X tg l (zK X.K tl):=by
 intro pins s σ H R I h;refine b6 (hl pins s σ H _ I h) fun v s1 ⟨x,H1,I1,r1,q1⟩=>?_
 obtain ⟨a,e,⟨xs,hq⟩,q⟩:=q1;subst e
 cases r1;obtain ⟨its,rv,p,hz⟩:=I1.list hq;refine wpAny_pyIter_list p.isList ?_
 refine ⟨s1.heap.objs.size,[s1.heap.objs.size],_,_,H1,rfl,I1.kept (t':=s1.toks) fun b o e=>KU _ e,rq a _,⟨_,Heap.get?_push_size _ rfl,rfl,rfl⟩,fun b hb=>?_,q⟩
 have e:b=s1.heap.objs.size:=by simpa using hb
 subst e;exact I1.fpOk (KW _) (I1.hok.fresh (KW _))
theorem Bu {l:Expr} {tl:TE} (hl:PE X l tl):PI X tg l (EW X.K tl):=by
 intro pins s σ H R I h;refine b6 (hl pins s σ H _ I h) fun v s1 ⟨x,H1,I1,r1,q1⟩=>?_
 obtain ⟨a,e,⟨xs,hq⟩,q⟩:=q1;subst e
 cases r1;obtain ⟨its,rv,p,hz⟩:=I1.tuple hq;refine wpAny_pyIter_tuple (show s1.heap.IsTuple a its.toArray from p) ?_
 refine ⟨s1.heap.objs.size,[s1.heap.objs.size],_,_,H1,rfl,I1.kept (t':=s1.toks) fun b o e=>KU _ e,oN a _,⟨_,Heap.get?_push_size _ rfl,rfl,rfl⟩,fun b hb=>?_,q⟩
 have e:b=s1.heap.objs.size:=by simpa using hb
 subst e;exact I1.fpOk (KW _) (I1.hok.fresh (KW _))
theorem m6 {pins:List (Addr×Obj)} {σ:St} {H:Hp} {s:Shared} {R:It->Hp->Prop} {E:Value->Shared->Prop} {lo hi:Int} {t u v:Tok} {tk:Nat} (I:Inv X pins σ H s) (h1:-(2 ^ 62)<=lo) (h2:lo<2 ^ 62) (h3:-(2 ^ 62)<=hi) (h4:hi<2 ^ 62)
  (q:R (CW lo (hi-lo).toNat) H):wpAny (model X.prog X.w) X.A (pyIter (.ref s.heap.objs.size)) (Kq X pins σ tg R) E { s with heap:=s.heap.push { cls:=.type "range",data:=.fields #[.int lo t,.int hi u,.int 1 v] },toks:=tk }:=by
 refine wpAny_pyIter_range (IsRange.new ..) (small_one h1 h2 h3 h4) ?_
 have I1:Inv X pins σ H { s with heap:=s.heap.push { cls:=.type "range",data:=.fields #[.int lo t,.int hi u,.int 1 v] },toks:=tk }:=I.kept fun b o e=>KU _ e
 refine ⟨(s.heap.push { cls:=.type "range",data:=.fields #[.int lo t,.int hi u,.int 1 v] }).objs.size,[(s.heap.push { cls:=.type "range",data:=.fields #[.int lo t,.int hi u,.int 1 v] }).objs.size],_,_,H,rfl,
  I1.kept (t':=tk) fun b o e=>KU _ e,oO _ lo (hi-lo).toNat,?_,fun b hb=>?_,q⟩
 ·have e1:lo+((0:Nat):Int)*1=lo:=by simp
  have e2:(((hi-lo).toNat:Nat):Int)-((0:Nat):Int)=Builtin.Range.rangeSize lo hi 1:=by rw [rangeSize_one];split<;>omega
  show IsRangeIter _ _ (lo+((0:Nat):Int)*1) ((((hi-lo).toNat:Nat):Int)-((0:Nat):Int)) 1
  rw [e1,e2];exact Heap.get?_push_size _ rfl
 ·have e:b=(s.heap.push { cls:=.type "range",data:=.fields #[.int lo t,.int hi u,.int 1 v] }).objs.size:=by simpa using hb
  subst e;exact I1.fpOk (KW _) (I1.hok.fresh (KW _))
noncomputable def zJ (ta:TA):TI:=fun σ H R=>ta σ H fun vs H1=>∃j:Int,vs=[.int j]/\-(2 ^ 62)<=j/\j<2 ^ 62/\R (CW 0 j.toNat) H1
noncomputable def zI (ta:TA):TI:=fun σ H R=>ta σ H fun vs H1=>∃i j:Int,vs=[.int i,.int j]/\(-(2 ^ 62)<=i/\i<2 ^ 62/\-(2 ^ 62)<=j/\j<2 ^ 62)/\R (CW i (j-i).toNat) H1
theorem r0 {a:Expr} {ta:TA} {p pos:Pos} (hg:Gl X "range") (hm:X.mg "range"=none) (ha:PA X [a] ta) (hs:starEach [a] X.env=[(false,eval a X.env)]:=by rfl):PI X tg (.Call (.Name "range" p) [a] [] pos) (zJ ta):=by
 intro pins s σ H R I h;refine Call_ (vY I hg hm boot_range (PyProof.Rows.callWith_type1 (b6 (ha pos pins s σ H _ I h) fun us s1 ⟨vs,H1,I1,r1,q1⟩=>?_) hs rfl))
 obtain ⟨j,e,q1,q2,q⟩:=q1;subst e
 cases r1 with
 | cons r rr=>
  cases rr;obtain ⟨t,rfl⟩:=r;exact call_range_1 (m6 I1 (by omega) (by omega) q1 q2 (by simpa using q))
theorem rZ {a b:Expr} {ta:TA} {p pos:Pos} (hg:Gl X "range") (hm:X.mg "range"=none) (ha:PA X [a,b] ta) (hs:starEach [a,b] X.env=[(false,eval a X.env),(false,eval b X.env)]:=by rfl) (hs2:starEach [b] X.env=[(false,eval b X.env)]:=by rfl) :
  PI X tg (.Call (.Name "range" p) [a,b] [] pos) (zI ta):=by
 intro pins s σ H R I h;refine Call_ (vY I hg hm boot_range (PyProof.Rows.callWith_type1 (b6 (ha pos pins s σ H _ I h) fun us s1 ⟨vs,H1,I1,r1,q1⟩=>?_) (by rw [hs,hs2]) (by rw [hs2];rfl)))
 obtain ⟨i,j,e,⟨q1,q2,q3,q4⟩,q⟩:=q1;subst e
 cases r1 with
 | cons r rr=>
  cases rr with
  | cons r' rr=>
   cases rr;obtain ⟨t,rfl⟩:=r;obtain ⟨t',rfl⟩:=r'
   exact call_range_2 (m6 I1 q1 q2 q3 q4 q)
noncomputable def DX (wi:TI) (g:TG) (tb:TS):TS:=fun D σ H=>wi σ H fun J H1=>∃W:Nat->Nat->St->Hp->Prop,(∃m,W 0 m σ H1)/\∀i m σ H,W i m σ H ->
 (J.stop i H/\D.nx σ H)\/(J.go i H/\∃N:St->Hp->Prop,(∀σ' H',N σ' H'->∃m',m'<m/\W (i+1) m' σ' H')/\∀x H',J.yld i H x H'->g x σ H' fun σ2 H2=>tb { D with nx:=N,ct:=N,bk:=D.nx } σ2 H2)
noncomputable def je (fp:List Addr) (h:Heap):List (Addr×Obj):=fp.filterMap fun b=>(h.get? b).map fun o=>(b,o)
theorem Gk {fp:List Addr} {h:Heap} {b:Addr} {o:Obj} (hb:b∈fp) (e:h.get? b=some o):(b,o)∈je fp h:=List.mem_filterMap.mpr ⟨b,hb,by rw [e];rfl⟩
theorem sj {fp:List Addr} {h:Heap} {p:Addr×Obj} (hp:p∈je fp h):p.1∈fp/\h.get? p.1=some p.2:=by
 obtain ⟨b,hb,e⟩:=List.mem_filterMap.mp hp
 cases q:h.get? b with
 | none=>rw [q] at e;cases e
 | some o=>
  rw [q] at e;have e':(b,o)=p:=Option.some.inj e
  subst e'
  exact ⟨hb,q⟩
theorem Inv.pinned {pins:List (Addr×Obj)} {σ:St} {H:Hp} {s:Shared} {fp:List Addr} (I:Inv X pins σ H s) (hf:∀b∈fp,kz X pins H b) (ho:∀b∈fp,∃o,s.heap.get? b=some o/\∀v,o.data≠.cell v):Inv X (pins++je fp s.heap) σ H s:=
 I.pins_of fun p hp=>(KJ hp).elim (fun z=>I.pin p (KH _ z)) fun z=>by
  obtain ⟨hb,e⟩:=sj z;obtain ⟨f0,f1,f2,_⟩:=hf p.1 hb;obtain ⟨o,e',d⟩:=ho p.1 hb;rw [e] at e';cases e'
  exact ⟨e,f0,f1,f2,d⟩
theorem Inv.unpinned {pins pl:List (Addr×Obj)} {σ:St} {H:Hp} {s:Shared} (I:Inv X (pins++pl) σ H s):Inv X pins σ H s:=I.pins_of fun p hp=>I.pin p (KH _ (KI _ hp))
theorem Br {iter:Expr} {body:List Stmt} {wi:TI} {g:TG} {tb:TS} {pos:Pos} (hp:PassesOwn (model X.prog X.w) X.A X.env X.xe) (hc:X.calm=true) (hi:PI X tg iter wi) (hg:PG X tg g) (hb:PSs X body tb)
  (hs:∀x,foldedSetIterable iter X.env x=pure x:=by intro _;rfl):PS X (.For tg iter body [] pos) (DX wi g tb):=by
 intro pins s σ H D I h;refine wpAny_For (b6 (hi pins s σ H _ I h) fun v s1 h1=>b6 h1 fun itv s2 h2=>?_) hs
 obtain ⟨it,fp,tn,J,H2,e,I2,T,st2,f2,W,⟨m0,w0⟩,turn⟩:=h2;subst e;have stat:∀{H':Hp},(∀b∈fp,H' b=none)->∀b∈fp,kz X pins H' b:=fun hn b hb=>⟨hn b hb,(f2 b hb).2⟩
 refine codeAny_forLoop_any (fun n s'=>∃i σ' H',Inv X pins σ' H' s'/\tn i s'.heap/\(∀b∈fp,H' b=none)/\W i n σ' H') ?_ m0 ⟨0,σ,H2,I2,st2,fun b hb=>(f2 b hb).1,w0⟩
 rintro n s3 ⟨i,σ3,H3,I3,st3,fr3,w3⟩
 rcases turn i n σ3 H3 w3 with ⟨stop,qn⟩ | ⟨go,N,hN,step⟩
 ·refine wpAny_passesOwn hp (b6 (T.done X rfl rfl rfl hc i pins s3 σ3 H3 X.xe I3 (stat fr3) st3 stop) fun r s4 ⟨hr,I4⟩=>?_)
  subst hr;exact wpAny_execs_nil ⟨σ3,H3,I4,qn⟩
 ·refine wpAny_passesOwn hp (b6 (T.item X rfl rfl rfl hc i pins s3 σ3 H3 X.xe I3 (stat fr3) st3 go) fun r s4 ⟨u,hr,h4⟩=>?_)
  subst hr;refine wpAny_passesOwn hp (b6 h4 fun _ s5 ⟨x,H5,I5,r5,y5,st5,fr5⟩=>?_)
  have I5':=I5.pinned (stat fr5) (T.obj _ _ st5)
  refine wpAny_passesOwn hp (b6 (hg _ s5 σ3 H5 x u _ I5' r5 (step x H5 y5)) fun _ s6 ⟨σ6,H6,I6,q6⟩=>?_)
  refine wpAny_passesOwn hp (b6 (hb _ s6 σ6 H6 _ I6 q6) fun f s7 q7=>?_)
  have again:∀{σ7:St} {H7:Hp},Inv X (pins++je fp s5.heap) σ7 H7 s7->N σ7 H7->∃m,m<n/\∃i σ' H',Inv X pins σ' H' s7/\tn i s7.heap/\(∀b∈fp,H' b=none)/\W i m σ' H':=fun {σ7 H7} I7 n7=>by
   obtain ⟨m',hm,w7⟩:=hN σ7 H7 n7;refine ⟨m',hm,i+1,σ7,H7,I7.unpinned,T.keep _ _ _ st5 fun b hb o e=>(I7.pin (b,o) (KH _ (KH _ (Gk hb e)))).1,fun b hb=>?_,w7⟩
   obtain ⟨o,e,d⟩:=T.obj _ _ st5 b hb;exact (I7.pin (b,o) (KH _ (KH _ (Gk hb e)))).2.1
  cases f with
  | next=>obtain ⟨σ7,H7,I7,n7⟩:=q7;exact again I7 n7
  | cont=>obtain ⟨σ7,H7,I7,n7⟩:=q7;exact again I7 n7
  | brk=>obtain ⟨σ7,H7,I7,q7⟩:=q7;exact ⟨σ7,H7,I7.unpinned,q7⟩
  | ret v=>obtain ⟨x7,σ7,H7,I7,r7,q7⟩:=q7;exact ⟨x7,σ7,H7,I7.unpinned,r7,q7⟩
end
abbrev R2:=V->V->Hp->VK->Prop
noncomputable def OpR (X:Cx) (f:Value->Value->Sem Value) (r:R2):Prop:=
 ∀(pins:List (Addr×Obj)) (s:Shared) (σ:St) (H:Hp) (x y:V) (v u:Value) (Q:VK),Inv X pins σ H s->RelV x v->RelV y u->r x y H Q ->
  wpAny (model X.prog X.w) X.A (f v u) (EP X pins σ Q) X.xe s
noncomputable def Ko (X:Cx) (f:Value->Sem Value) (r:V->Hp->VK->Prop):Prop:=
 ∀(pins:List (Addr×Obj)) (s:Shared) (σ:St) (H:Hp) (x:V) (v:Value) (Q:VK),Inv X pins σ H s->RelV x v->r x H Q ->
  wpAny (model X.prog X.w) X.A (f v) (EP X pins σ Q) X.xe s
noncomputable def CallR (X:Cx) (f:Value) (r:List V->Hp->VK->Prop):Prop:=
 ∀(pins:List (Addr×Obj)) (s:Shared) (σ:St) (H:Hp) (xs:List V) (us:List Value) (Q:VK),Inv X pins σ H s->Vals xs us->r xs H Q ->
  wpAny (model X.prog X.w) X.A (call f us) (EP X pins σ Q) X.xe s
noncomputable def JF (X:Cx) (r:V->Hp->(Bool->Hp->Prop)->Prop):Prop:=
 ∀(pins:List (Addr×Obj)) (s:Shared) (σ:St) (H:Hp) (x:V) (v:Value) (Q:Bool->Hp->Prop),Inv X pins σ H s->RelV x v->r x H Q ->
  wpAny (model X.prog X.w) X.A (truthy v) (TP X pins σ Q) X.xe s
noncomputable def w6 (r:R2) (ta tb:TE):TE:=fun σ H Q=>ta σ H fun x H1=>tb σ H1 fun y H2=>r x y H2 Q
noncomputable def JP (r:V->Hp->VK->Prop) (ta:TE):TE:=fun σ H Q=>ta σ H fun x H1=>r x H1 Q
noncomputable def rI (C:Int->Int->Prop) (g:Int->Int->V):R2:=fun x y H Q=>∃i j,x=.int i/\y=.int j/\C i j/\Q (g i j) H
noncomputable def qt (g:Int->Int->V):R2:=fun x y H Q=>∃i j,x=.int i/\y=.int j/\Q (g i j) H
section
variable {X:Cx} {a b c:Expr} {ta tb tc:TE} {pos:Pos}
theorem CK (ha:PE X a ta) (hb:PE X b tb) {pins:List (Addr×Obj)} {s:Shared} {σ:St} {H:Hp} {R:V->V->Hp->Prop} (I:Inv X pins σ H s)
  (h:ta σ H fun x H1=>tb σ H1 fun y H2=>R x y H2) {Q:Value->Shared->Prop} {f:Value->Value->Sem Value}
  (hf:∀v u s2 x y H2,Inv X pins σ H2 s2->RelV x v->RelV y u->R x y H2->wpAny (model X.prog X.w) X.A (f v u) Q X.xe s2) :
  wpAny (model X.prog X.w) X.A (eval a X.env) (fun v s₁=>wpAny (model X.prog X.w) X.A (eval b X.env) (fun u s₂=>wpAny (model X.prog X.w) X.A (f v u) Q X.xe s₂) X.xe s₁) X.xe s:=by
 refine b6 (ha pins s σ H _ I h) fun v s1 ⟨x,H1,I1,r1,q1⟩=>?_
 refine b6 (hb pins s1 σ H1 _ I1 q1) fun u s2 ⟨y,H2,I2,r2,q2⟩=>?_
 exact hf v u s2 x y H2 I2 r1 r2 q2
theorem iy {op:Operator} {r:R2} (ho:OpR X (binaryOp op) r) (ha:PE X a ta) (hb:PE X b tb):PE X (.BinOp a op b pos) (w6 r ta tb):=by
 intro pins s σ H Q I h;exact wpAny_BinOp (CK ha hb I h fun v u s2 x y H2 I2 rx ry q=>ho pins s2 σ H2 x y v u Q I2 rx ry q)
theorem Ex {op:UnaryOp} {r:V->Hp->VK->Prop} (ho:Ko X (unaryOp op) r) (ha:PE X a ta):PE X (.UnaryOp op a pos) (JP r ta):=by
 intro pins s σ H Q I h;exact UnaryOp_ (b6 (ha pins s σ H _ I h) fun v s1 ⟨x,H1,I1,r1,q1⟩=>ho pins s1 σ H1 x v Q I1 r1 q1)
theorem GF {f:Value->Value->Sem Value} {C:Int->Int->Prop} {g:Int->Int->Int}
  (rule:∀(i j:Int) (t u:Tok) (s:Shared) (Q:Value->Shared->Prop) (E:Value->Shared->Prop),C i j->Q (.int (g i j) s.toks) { s with toks:=s.toks+1 }->wpAny (model X.prog X.w) X.A (f (.int i t) (.int j u)) Q E s) :
  OpR X f (rI C fun i j=>.int (g i j)):=by
 intro pins s σ H x y v u Q I rx ry h;obtain ⟨i,j,rfl,rfl,hc,q⟩:=h;obtain ⟨t,rfl⟩:=rx;obtain ⟨t',rfl⟩:=ry;exact rule i j t t' s _ _ hc ⟨.int (g i j),H,I.tok _,⟨_,rfl⟩,q⟩
theorem ED {f:Value->Value->Sem Value} {g:Int->Int->Int}
  (rule:∀(i j:Int) (t u:Tok) (s:Shared) (Q:Value->Shared->Prop) (E:Value->Shared->Prop),Q (.int (g i j) s.toks) { s with toks:=s.toks+1 }->wpAny (model X.prog X.w) X.A (f (.int i t) (.int j u)) Q E s) :
  OpR X f (qt fun i j=>.int (g i j)):=by
 intro pins s σ H x y v u Q I rx ry h;obtain ⟨i,j,rfl,rfl,q⟩:=h;obtain ⟨t,rfl⟩:=rx;obtain ⟨t',rfl⟩:=ry;exact rule i j t t' s _ _ ⟨.int (g i j),H,I.tok _,⟨_,rfl⟩,q⟩
theorem yb {f:Value->Value->Sem Value} {g:Int->Int->Bool}
  (rule:∀(i j:Int) (t u:Tok) (s:Shared) (Q:Value->Shared->Prop) (E:Value->Shared->Prop),Q (.bool (g i j)) s->wpAny (model X.prog X.w) X.A (f (.int i t) (.int j u)) Q E s) :
  OpR X f (qt fun i j=>.bl (g i j)):=by
 intro pins s σ H x y v u Q I rx ry h;obtain ⟨i,j,rfl,rfl,q⟩:=h;obtain ⟨t,rfl⟩:=rx;obtain ⟨t',rfl⟩:=ry;exact rule i j t t' s _ _ ⟨.bl (g i j),H,I,rfl,q⟩
noncomputable def JL (i j:Int):Prop:=0<j/\j<1073741824
noncomputable def JK (i j:Int):Prop:=0<=j/\j<=1000000/\i.natAbs<2 ^ 64
noncomputable def CMul (i j:Int):Prop:=(-(2 ^ 64)<i/\i<2 ^ 64)\/(-(2 ^ 64)<j/\j<2 ^ 64)
theorem CMul.ok {i j:Int} (h:CMul i j):IntMulOk i j:=by
 rcases h with ⟨h1,h2⟩ | ⟨h1,h2⟩
 ·exact .of_left (intBits_le_64 h1 h2)
 ·exact .of_right (intBits_le_64 h1 h2)
theorem BQ:OpR X (binaryOp .Add) (qt fun i j=>.int (i+j)):=ED fun _ _ _ _ _ _ _ q=>add_int q
theorem BI:OpR X (binaryOp .Sub) (qt fun i j=>.int (i-j)):=ED fun _ _ _ _ _ _ _ q=>sub_int q
theorem BL:OpR X (binaryOp .Mult) (rI CMul fun i j=>.int (i*j)):=GF fun _ _ _ _ _ _ _ hc q=>mul_int q hc.ok
theorem xY:OpR X (binaryOp .FloorDiv) (rI JL fun i j=>.int (i / j)):=GF fun i j _ _ _ _ _ hc q=>by
 have h1:(0:Int)<j:=hc.1
 have h2:j<1073741824:=hc.2
 exact floordiv_int (by omega) (by rw [Int.fdiv_eq_ediv_of_nonneg i (by omega)];exact q) (.inl (PyProof.noPylong_small (by omega)))
theorem BM:OpR X (binaryOp .Mod) (rI (fun _ j=>0<j) fun i j=>.int (i % j)):=GF fun i j _ _ _ _ _ hc q=>by
 have h1:(0:Int)<j:=hc
 exact mod_int' (by omega) (by rw [Int.fmod_eq_emod_of_nonneg i (by omega)];exact q)
theorem BJ:OpR X (binaryOp .Pow) (rI JK fun i j=>.int (i ^ j.toNat)):=GF fun _ _ _ _ _ _ _ hc q=>pow_int_small hc.1 hc.2.1 hc.2.2 q
end
section
variable {X:Cx} {a b c:Expr} {ta tb tc:TE} {pos:Pos}
theorem Do {pins:List (Addr×Obj)} {σ:St} {H:Hp} {s:Shared} {Q:VK} {k k':Bool} (I:Inv X pins σ H s) (q:Q (.bl k) H) (e:k=k'):EP X pins σ Q (.bool k') s:=by
 subst e;exact ⟨.bl k,H,I,rfl,q⟩
theorem op_lt:OpR X (compareOp .Lt) (qt fun i j=>.bl (decide (i<j))):=yb fun _ _ _ _ _ _ _ q=>lt_int q
theorem EB:OpR X (compareOp .LtE) (qt fun i j=>.bl (decide (i<=j))):=yb fun _ _ _ _ _ _ _ q=>le_int q
theorem EC:OpR X (compareOp .Gt) (qt fun i j=>.bl (decide (j<i))):=yb fun _ _ _ _ _ _ _ q=>gt_int q
theorem op_ge:OpR X (compareOp .GtE) (qt fun i j=>.bl (decide (j<=i))):=yb fun _ _ _ _ _ _ _ q=>ge_int q
theorem se:OpR X (compareOp .Lt) (fun x y H Q=>∃i j,x=.str i/\y=.str j/\Q (.bl (decide (i.cps.toList<j.cps.toList))) H):=by
 intro pins s σ H x y v u Q I rx ry h;obtain ⟨i,j,rfl,rfl,q⟩:=h;obtain ⟨t,rfl⟩:=rx;obtain ⟨t',rfl⟩:=ry;exact lt_str (Do I q rfl)
theorem BN:OpR X (compareOp .Is) (fun x y H Q=>y=.non/\Q (.bl (decide (x=.non))) H):=by
 intro pins s σ H x y v u Q I rx ry h;obtain ⟨rfl,q⟩:=h
 cases ry;refine is_none_gen (Do I q ?_)
 cases x<;>first
  | (cases rx;rfl)
  | (obtain ⟨t,rfl⟩:=rx;rfl)
theorem xW:OpR X (compareOp .IsNot) (fun x y H Q=>y=.non/\Q (.bl (!decide (x=.non))) H):=by
 intro pins s σ H x y v u Q I rx ry h;obtain ⟨rfl,q⟩:=h
 cases ry;refine isnot_none_gen (Do I q ?_)
 cases x<;>first
  | (cases rx;rfl)
  | (obtain ⟨t,rfl⟩:=rx;rfl)
theorem OpR.or {f:Value->Value->Sem Value} {r r':R2} (h:OpR X f r) (h':OpR X f r'):OpR X f (fun x y H Q=>r x y H Q\/r' x y H Q):=by
 intro pins s σ H x y v u Q I rx ry q;rcases q with q | q
 ·exact h pins s σ H x y v u Q I rx ry q
 ·exact h' pins s σ H x y v u Q I rx ry q
theorem xS {op:CmpOp} {r:R2} (ho:OpR X (compareOp op) r) (ha:PE X a ta) (hb:PE X b tb) (hm:behindInMarks op b=false):PE X (.Compare a [op] [b] pos) (w6 r ta tb):=by
 intro pins s σ H Q I h;exact wpAny_Compare1 (CK ha hb I h fun v u s2 x y H2 I2 rx ry q=>ho pins s2 σ H2 x y v u Q I2 rx ry q) hm
noncomputable def zt (t:TE):TT:=fun σ H Q=>t σ H fun x H'=>∃k,x=.bl k/\Q k H'
theorem xK {op:CmpOp} {r:R2} (ho:OpR X (compareOp op) r) (ha:PE X a ta) (hb:PE X b tb) (hm:behindInMarks op b=false):PT X (.Compare a [op] [b] pos) (zt (w6 r ta tb)):=by
 intro pins s σ H Q I h;refine wpAny_isTrue_Compare1 (b6 (ha pins s σ H _ I h) fun v s1 ⟨x,H1,I1,r1,q1⟩=>b6 (hb pins s1 σ H1 _ I1 q1) fun u s2 ⟨y,H2,I2,r2,q2⟩=>
  b6 (ho pins s2 σ H2 x y v u _ I2 r1 r2 q2) fun c s3 ⟨z,H3,I3,r3,k,e,q3⟩=>?_) hm
 subst e
 cases r3;exact wpAny_truthy_bool ⟨H3,I3,q3⟩
noncomputable def uc (r r':R2) (ta tb tc:TE):TE:=fun σ H Q=>ta σ H fun x H1=>tb σ H1 fun y H2=>r x y H2 fun z H3=>∃k,z=.bl k /\
 (if k=true then tc σ H3 fun w' H4=>r' y w' H4 Q else Q (.bl false) H3)
theorem uQ {op op':CmpOp} {r r':R2} (ho:OpR X (compareOp op) r) (ho':OpR X (compareOp op') r') (ha:PE X a ta) (hb:PE X b tb) (hc:PE X c tc)
  (hm:lastMarks [op,op'] [b,c]=false:=by with_unfolding_all rfl):PE X (.Compare a [op,op'] [b,c] pos) (uc r r' ta tb tc):=by
 intro pins s σ H Q I h;refine Compare_chain (b6 (ha pins s σ H _ I h) fun v s1 ⟨x,H1,I1,r1,q1⟩=>chain_link (b6 (hb pins s1 σ H1 _ I1 q1) fun u s2 ⟨y,H2,I2,r2,q2⟩=>
  b6 (ho pins s2 σ H2 x y v u _ I2 r1 r2 q2) fun d s3 ⟨z,H3,I3,r3,k,e,q3⟩=>?_)) hm
 subst e
 cases r3;refine wpAny_truthy_bool ?_
 cases k with
 | false=>exact ite_ff ⟨.bl false,H3,I3,rfl,q3⟩
 | true=>exact ite_tt (chain_last (b6 (hc pins s3 σ H3 _ I3 q3) fun w' s4 ⟨z',H4,I4,r4,q4⟩=>ho' pins s4 σ H4 y z' u w' Q I4 r2 r4 q4))
noncomputable def CQ (K:Fg) (x:V) (H:Hp) (k:Bool):Prop:=
 match x with
 | .non=>k=false
 | .bl b=>k=b
 | .int i=>k=(i != 0)
 | .str y=>y.length<=sizeLine/\k=((y.length:Int) != 0)
 | .byt y=>y.size<=sizeLine/\k=((y.size:Int) != 0)
 | .ref p=>(∃xs,SqL K H p xs/\k=!xs.isEmpty)\/(∃xs,SqT K H p xs/\k=!xs.isEmpty)\/∃kvs,H p=some (.dK kvs)/\k=!kvs.isEmpty
 | _=>False
theorem pG {κ:Type} {kvs:List (κ×V)} {vs:List (κ×Value)} (r:KV kvs vs):(!vs.isEmpty)=!kvs.isEmpty:=by
 cases r<;>rfl
theorem ju {xs:List V} {its:List Value} (r:Vals xs its):(!its.toArray.isEmpty)=!xs.isEmpty:=by
 cases r<;>simp
theorem zZ:(sizeLine:Nat)<2 ^ 63:=by rw [sizeLine_eq];decide
theorem Ar:JF X (fun x H Q=>∃k,CQ X.K x H k/\Q k H):=by
 intro pins s σ H x v Q I rx h;obtain ⟨k,e,q⟩:=h;have hl:=zZ
 have hs:sizeLine=16777216:=sizeLine_eq
 cases x with
 | non=>
  cases rx;have e':k=false:=e
  subst e'
  exact truthy_none ⟨H,I,q⟩
 | bl b=>
  cases rx;have e':k=b:=e
  subst e'
  exact wpAny_truthy_bool ⟨H,I,q⟩
 | int i=>
  obtain ⟨t,rfl⟩:=rx;have e':k=(i != 0):=e
  subst e'
  exact PySem.P.truthy_int ⟨H,I,q⟩
 | str y=>
  obtain ⟨t,rfl⟩:=rx;obtain ⟨hy,e'⟩:y.length<=sizeLine/\k=((y.length:Int) != 0):=e
  subst e'
  exact PySem.P.truthy_str (by omega) ⟨H,I.tok _,q⟩
 | byt y=>
  obtain ⟨t,rfl⟩:=rx;obtain ⟨hy,e'⟩:y.size<=sizeLine/\k=((y.size:Int) != 0):=e
  subst e'
  exact PySem.W.truthy_bytes (by omega) ⟨H,I.tok _,q⟩
 | ref p=>
  cases rx;have e':(∃xs,SqL X.K H p xs/\k=!xs.isEmpty)\/(∃xs,SqT X.K H p xs/\k=!xs.isEmpty)\/∃kvs,H p=some (.dK kvs)/\k=!kvs.isEmpty:=e
  rcases e' with ⟨xs,hx,e'⟩ | ⟨xs,hx,e'⟩ | ⟨kvs,hx,e'⟩
  ·subst e'
   obtain ⟨its,r,pl,hz⟩:=I.list hx;have hlen:=r.length
   exact wpAny_truthy_list pl.isList (by simp only [size_toArray];omega) ⟨H,I.tok _,by rw [ju r];exact q⟩
  ·subst e'
   obtain ⟨its,r,pl,hz⟩:=I.tuple hx;have hlen:=r.length
   exact truthy_tuple pl (by simp only [size_toArray];omega) ⟨H,I.tok _,by rw [ju r];exact q⟩
  ·subst e'
   obtain ⟨hz,hS,vs,r,m⟩:kvs.length<=sizeLine/\(p==sysModules)=false/\∃vs,KV kvs vs/\s.heap.DictOf (lR X.prog X.w) p vs:=I.hok p _ hx
   have hlen:kvs.length=vs.length:=Paired.length r
   exact wpAny_truthy_dict hS m (by omega) ⟨H,I.tok _,by rw [pG r];exact q⟩
 | _=>exact (show False from e).elim
theorem uL (ha:PE X a ta) (he:∀whole,isTrue a X.env whole=(do let v <-whole;standAt a.pos;holding [v] (truthy v))) :
  PT X a (fun σ H Q=>ta σ H fun x H'=>∃k,CQ X.K x H' k/\Q k H'):=by
 intro pins s σ H Q I h;exact isTrue_plain (b6 (ha pins s σ H _ I h) fun v s1 ⟨x,H1,I1,r1,q1⟩=>Ar pins s1 σ H1 x v Q I1 r1 q1) (he _)
theorem vals1 {x:V} {us:List Value} (r:Vals [x] us):∃u,us=[u]/\RelV x u:=by
 cases r with
 | cons r1 r2=>cases r2;exact ⟨_,rfl,r1⟩
theorem sY:CallR X (.type "int") (fun xs H Q=>(∃i,xs=[.int i]/\Q (.int i) H)\/∃k,xs=[.bl k]/\Q (.int (if k then 1 else 0)) H):=by
 intro pins s σ H xs us Q I r h;rcases h with ⟨i,rfl,q⟩ | ⟨k,rfl,q⟩
 ·obtain ⟨u,rfl,t,rfl⟩:=vals1 r
  exact call_int_int ⟨.int i,H,I,⟨_,rfl⟩,q⟩
 ·obtain ⟨u,rfl,r1⟩:=vals1 r
  cases r1;exact call_int_bool ⟨.int (if k then 1 else 0),H,I.tok _,⟨_,rfl⟩,q⟩
end
structure ObjM (h:Heap) (x dx C:Addr) (mA:Str->Option Value):Prop where
 obj:h.get? x=some (PySem.W.instObj C dx)
 ns:h.Ns1 dx mA
 ne:dx≠x
theorem sA {h:Heap} {dx:Addr} {mA:Str->Option Value} (n:h.Ns1 dx mA):∃od,h.get? dx=some od/\∀name,PySem.W.lookIn name od=some (mA name):=by
 obtain ⟨o,es,ep,ho,hd,hk,_,hm⟩:=n;refine ⟨o,ho,fun name=>?_⟩
 have e:=hm name
 unfold nsFind findBy at e;rw [<-Array.find?_toList] at e;unfold PySem.W.lookIn;rw [hd];dsimp only;split
 ·rename_i y q
  rw [q] at e;exact congrArg some e
 ·rename_i q
  rw [q] at e;have a:es.toList.any (·.refKey)=false:=by
   rw [List.any_eq_false];intro y hy;obtain ⟨z,t,hkey⟩:=hk y (Array.mem_toList_iff.mp hy);simp [DictEntry.refKey,hkey]
  have a':¬es.toList.any (·.refKey)=true:=by rw [a];exact Bool.false_ne_true
  rw [if_neg a'];exact congrArg some e
theorem ObjM.look {h:Heap} {x dx C:Addr} {mA:Str->Option Value} (I:ObjM h x dx C mA):∃od,PySem.W.InstAt h x (PySem.W.instObj C dx) C (some od)/\∀name,PySem.W.lookIn name od=some (mA name):=
 let ⟨od,ho,hl⟩:=sA I.ns
 ⟨od,⟨I.obj,rfl,rfl,ho⟩,hl⟩
section
variable {P:Program} {w:World} {H H':Hp} {h h':Heap} {a C dx:Addr} {fs fs':List (Str×V)}
theorem yn (hok:HOk P w H h) (e:H a=some (.ins C dx fs)):∃mA,ObjM h a dx C mA/\(∀f,CU (fs.lookup f) (mA f))/\PySem.Within mA (fs.map (·.1))/\fs.length<=1000/\H dx=some (.own a):=by
 obtain ⟨d,z,ne,ob,mA,n,r,q⟩:=(show ObjOk P w H h a (.ins C dx fs) from hok a _ e);exact ⟨mA,⟨ob,n,ne⟩,r,q,z,d⟩
end
structure Cls (K:Fg) (C:Addr):Prop where
 pg:PySem.W.plainGet K C Str.empty=true
 hd:PySem.W.hasDictIn K C=true
 po:PySem.W.plainOver K C=true
 sa:PySem.W.findIn K (.ref C) "__setattr__"=some (some (.builtin "object.__setattr__"))
theorem Cls.get {K:Fg} {C:Addr} (c:Cls K C) (f:Str):PySem.W.plainGet K C f=true:=c.pg
section
variable {X:Cx} {pins:List (Addr×Obj)} {σ:St} {H:Hp} {s:Shared} {A:Around} {E:Value->Shared->Prop} {Q:Value->Shared->Prop} {c:Value} {b:Bool}
inductive iX (K:Fg) (H:Hp):V->Value->Prop where
 | non:iX K H .non (.type "NoneType")
 | bl (x:Bool):iX K H (.bl x) (.type "bool")
 | int (i:Int):iX K H (.int i) (.type "int")
 | str (x:Str):iX K H (.str x) (.type "str")
 | flt (x:UInt64):iX K H (.flt x) (.type "float")
 | lst {a:Addr} {xs:List V} (e:H a=some (.lst xs)):iX K H (.ref a) (.type "list")
 | frz {a:Addr} {o:Obj} {xs:List V} (e:H a=some (.frz o (.lst xs))):iX K H (.ref a) (.type "list")
 | tup {a:Addr} {xs:List V} (e:H a=some (.tup xs)):iX K H (.ref a) (.type "tuple")
 | dK {a:Addr} {kvs:List (my×V)} (e:H a=some (.dK kvs)):iX K H (.ref a) (.type "dict")
 | dT {a:Addr} {kvs:List (List my×V)} (e:H a=some (.dT kvs)):iX K H (.ref a) (.type "dict")
 | ins {a C dx:Addr} {fs:List (Str×V)} (e:H a=some (.ins C dx fs)) (cl:Cls K C) (ha:PySem.W.findIn K (.ref C) "__class__"=some (some (.builtin "object.__class__")))
   (hn:PySem.W.specialIn K (.builtin "object.__class__") "__get__"=some (some (.builtin "getset_descriptor.__get__"))) (htk:PySem.W.takesIn K (.builtin "object.__class__")=some true)
   (hm:PySem.W.mroIn K C (.type "object")=some true):iX K H (.ref a) (.ref C)
theorem Ai {x:V} {u t:Value} (I:Inv X pins σ H s) (rx:RelV x u) (ty:iX X.K H x t) (e:PySem.W.kitOne X.K t c=some b) (h:∀tk,Q (.bool b) { s with toks:=tk }) :
  wpAny (model X.prog X.w) A (call (.builtin "isinstance") [u,c]) Q E s:=by
 cases ty with
 | non=>cases (show u=Value.none from rx);exact PySem.W.kia_one PySem.W.kitx_none I.kIn True.intro e nofun h
 | bl y=>cases (show u=Value.bool y from rx);exact PySem.W.kia_one PySem.W.kitx_bool I.kIn True.intro e nofun h
 | int i=>obtain ⟨t,q⟩:=(show ∃t,u=Value.int i t from rx);cases q;exact PySem.W.kia_one PySem.W.kitx_int I.kIn True.intro e nofun h
 | str y=>obtain ⟨t,q⟩:=(show ∃t,u=Value.str y t from rx);cases q;exact PySem.W.kia_one PySem.W.kitx_str I.kIn True.intro e nofun h
 | flt y=>obtain ⟨t,q⟩:=(show ∃t,u=Value.float y t from rx);cases q;exact PySem.W.kia_one PySem.W.kitx_float I.kIn True.intro e nofun h
 | @lst a xs ea=>
  cases (show u=Value.ref a from rx)
  obtain ⟨_,_,n,_,h1⟩:=(show ObjOk X.prog X.w H s.heap a (.lst xs) from I.hok a _ ea);exact PySem.W.kia_one PySem.W.kitx_list I.kIn ⟨_,h1,rfl⟩ e nofun h
 | @frz a ob xs ea=>
  cases (show u=Value.ref a from rx)
  obtain ⟨_,_,_,n,_,h1⟩:=(show ObjOk X.prog X.w H s.heap a (.frz ob (.lst xs)) from I.hok a _ ea);exact PySem.W.kia_one PySem.W.kitx_list I.kIn ⟨_,h1,rfl⟩ e nofun h
 | @tup a xs ea=>
  cases (show u=Value.ref a from rx)
  obtain ⟨_,_,_,p⟩:=(show ObjOk X.prog X.w H s.heap a (.tup xs) from I.hok a _ ea);obtain ⟨o,h1,h2,_⟩:=p;exact PySem.W.kia_one PySem.W.kitx_tuple I.kIn ⟨o,h1,h2⟩ e nofun h
 | @dK a kvs ea=>
  cases (show u=Value.ref a from rx)
  obtain ⟨_,_,vs,_,p⟩:=(show ObjOk X.prog X.w H s.heap a (.dK kvs) from I.hok a _ ea);obtain ⟨o,es,ep,h1,h2,_⟩:=p;exact PySem.W.kia_one PySem.W.kitx_dict I.kIn ⟨o,h1,h2.1⟩ e nofun h
 | @dT a kvs ea=>
  cases (show u=Value.ref a from rx)
  obtain ⟨_,_,xs,_,o,es,ep,h1,h2,_⟩:=(show ObjOk X.prog X.w H s.heap a (.dT kvs) from I.hok a _ ea);exact PySem.W.kia_one PySem.W.kitx_dict I.kIn ⟨o,h1,h2.1⟩ e nofun h
 | @ins a C dx fs ea cl ha hn htk hm=>
  cases (show u=Value.ref a from rx)
  obtain ⟨mA,O,_⟩:=yn I.hok ea;obtain ⟨od,J,_⟩:=O.look;exact PySem.W.kia_one (PySem.W.kitx_own (cl.get _) cl.hd ha hn htk hm) I.kIn J e nofun h
end
structure Room (k:Nat) (A:Around):Prop where
 hd:A.handled=none
 dp:A.depth+3*k+5<recursionLimit
 un:A.units+16*k+200<cLine
 gd:A.guards=some []
theorem Room.mono {j k:Nat} {A:Around} (r:Room k A) (h:j<=k):Room j A:=⟨r.hd,by have:=r.dp;omega,by have:=r.un;omega,r.gd⟩
theorem Room.deeper {k:Nat} {A:Around} (r:Room (k+1) A) (env:Env):Room k (A.deeper env):=
 ⟨r.hd,by have:=r.dp;show A.depth+1+3*k+5<_;omega,by have:=r.un;show A.units+3+16*k+200<_;omega,r.gd⟩
theorem Room.depth {k:Nat} {A:Around} (r:Room k A):A.depth<recursionLimit:=by have:=r.dp;omega
theorem Room.units {k:Nat} {A:Around} (r:Room k A):A.units+64<cLine:=by have:=r.un;omega
noncomputable def w9:TA:=fun _ H Q=>Q [] H
noncomputable def kG (ta:TE) (tr:TA):TA:=fun σ H Q=>ta σ H fun x H1=>tr σ H1 fun xs H2=>Q (x::xs) H2
section
variable {X:Cx} {e:Expr} {es:List Expr} {te:TE} {t:TA} {pos:Pos}
theorem Hk:PA X [] w9:=fun _ _ _ _ H Q I h=>Calls.spliced_nil ⟨[],H,I,.nil,h⟩
theorem Du (ha:PE X e te) (hr:PA X es t) (hs:starEach (e::es) X.env=(false,eval e X.env)::starEach es X.env:=by rfl):PA X (e::es) (kG te t):=by
 intro pos pins s σ H Q I h;rw [hs];show wpAny _ _ (spliced ((false,eval e X.env)::backTo pos (starEach es X.env))) _ _ s
 refine Calls.spliced_cons (b6 (ha pins s σ H _ I h) fun u s1 ⟨x,H1,I1,r1,q1⟩=>?_)
 exact b6 (hr pos pins s1 σ H1 _ I1 q1) fun us s2 ⟨xs,H2,I2,r2,q2⟩=>⟨x::xs,H2,I2,.cons r1 r2,q2⟩
noncomputable def DP (t:TA):TE:=fun σ H Q=>t σ H fun xs H1=>xs.length<=sizeLine/\∀p,H1 p=none->Q (.ref p) (cy H1 p (.tup xs))
noncomputable def DV (t:TA):TE:=fun σ H Q=>t σ H fun xs H1=>xs.length<=sizeLine/\∀p,H1 p=none->Q (.ref p) (cy H1 p (.lst xs))
theorem Bz {x1} (h:PA X es t):PE X (.Tuple es x1 pos) (DP t):=by
 intro pins s σ H Q I hq;refine wpAny_Tuple_spliced (b6 (h pos pins s σ H _ I hq) fun us s1 ⟨xs,H1,I1,r,z,q⟩=>⟨by rw [<-r.length];exact z,?_⟩)
 have hf:H1 s1.heap.objs.size=none:=I1.hok.fresh (KW _)
 refine ⟨.ref s1.heap.objs.size,cy H1 s1.heap.objs.size (.tup xs),I1.laid (t':=s1.toks) (fun b u e=>KU _ e) (KW _) ?_,rfl,q _ hf⟩
 exact ⟨z,us,r,⟨_,Heap.get?_push_size _ rfl,rfl,_,rfl⟩⟩
theorem BC (h:PA X es t):PE X (.List es pos) (DV t):=by
 intro pins s σ H Q I hq;refine wpAny_List_spliced (b6 (h pos pins s σ H _ I hq) fun us s1 ⟨xs,H1,I1,r,z,q⟩=>⟨by rw [<-r.length];exact z,?_⟩)
 have hf:H1 s1.heap.objs.size=none:=I1.hok.fresh (KW _)
 refine ⟨.ref s1.heap.objs.size,cy H1 s1.heap.objs.size (.lst xs),I1.laid (t':=s1.toks) (fun b u e=>KU _ e) (KW _) ?_,rfl,q _ hf⟩
 exact ⟨z,us,0,r,Heap.get?_push_size _ rfl⟩
end
abbrev Sp:=List V->Hp->VK->XK->Prop
abbrev wz:=List Env->Hp->Shared->XK->Value->Shared->Prop
structure y2 (P:Program) (w:World) (K:Fg) (mg:Str->Option Value) (base:Heap) (A:Around) (outer:List Env) (s:Shared) (H:Hp):Prop where
 frames:A.frames=some outer
 mod:Mod K mg base
 bs:∀b o,base.get? b=some o->s.heap.get? b=some o/\H b=none
 bsz:base.objs.size<=s.heap.objs.size
 funs:s.heap.FunFrames base outer
 frf:∀b∈vx outer,H b=none
 hok:HOk P w H s.heap
 bare:AllBare s.gens
noncomputable def CE (outer:List Env) (P:Program) (w:World) (H:Hp) (s:Shared) (Q:VK) (u:Value) (s':Shared):Prop:=
 ∃v H',s'.os=s.os/\AllBare s'.gens/\Un (vx outer) [] H H' s.heap s'.heap/\HOk P w H' s'.heap/\RelV v u/\Q v H'
noncomputable def CR (CX:wz) (outer:List Env) (P:Program) (w:World) (H:Hp) (s:Shared) (Q:VK) (E:XK) (r:Result) (s':Shared):Prop:=
 match r with
 | .ok (.ret u)=>CE outer P w H s Q u s'
 | .ok _=>False
 | .error e=>CX outer H s E e s'
structure gy (P:Program) (w:World) (K:Fg) (mg:Str->Option Value) (base:Heap) (CX:wz) (k:Nat) (f:Addr) (fd:FuncData) (ps:List Str) (sp:Sp):Prop where
 len:∀vs H Q E,sp vs H Q E->vs.length=ps.length
 run:∀(A:Around) (outer:List Env) (s:Shared) (H:Hp) (args:Args) (us:List Value) (vs:List V) (Q:VK) (E:XK),Room k A->y2 P w K mg base A outer s H->BindsTo s fd args (ps.zip us)->Vals vs us->sp vs H Q E ->
  codeAny (model P w) A (.call (.ref f) args) (CR CX outer P w H s Q E) s
section
variable {X:Cx} {pins:List (Addr×Obj)} {σ:St} {H:Hp} {s s':Shared}
theorem Inv.env0 (I:Inv X pins σ H s):y2 X.prog X.w X.K X.mg X.base X.A X.stack s H:=
 ⟨I.ok.frames,I.ok.mod,I.bs,Nat.le_trans I.ok.bsz I.sz,I.stack,I.stkFree,I.hok,I.bare⟩
theorem Inv.after {Q:VK} {u:Value} (I:Inv X pins σ H s) (h:CE X.stack X.prog X.w H s Q u s'):EP X pins σ Q u s':=by
 obtain ⟨v,H',os,bare,un,hok,r,q⟩:=h;obtain ⟨hh,g,d,t,os'⟩:=s'
 obtain rfl:os'=s.os:=os
 exact ⟨v,H',I.call (h':=hh) (g':=g) (d':=d) (t':=t) (ch:=[]) un hok bare (fun b z=>absurd z (by simp)),r,q⟩
end
noncomputable def ud (sp:Sp) (dvs:List V) (E:XK) (t:TA):TE:=fun σ H Q=>t σ H fun vs H1=>sp (vs++dvs) H1 Q E
noncomputable def Binds (K:Fg) (fd:FuncData) (ps:List Str) (ds:List Value):Prop:=
 ∀(s:Shared) (us:List Value),K.In s.heap->(us++ds).length=ps.length->BindsTo s fd ⟨us,[]⟩ (ps.zip (us++ds))
theorem Binds.all {K:Fg} {fd:FuncData} {ps:List Str} (h:∀us:List Value,us.length=ps.length->bindArgs fd ⟨us,[]⟩=pure (ps.zip us)):Binds K fd ps []:=fun s us _ hl=>by
 rw [append_nil] at hl ⊢;exact .of_eq (h us hl)
noncomputable def pX (CX:wz) (X:Cx) (E:XK):Prop:=∀(pins:List (Addr×Obj)) (σ:St) (H:Hp) (s:Shared) (e:Value) (s':Shared),Inv X pins σ H s->CX X.stack H s E e s'->X.xe e s'
section
variable {X:Cx} {CX:wz} {k:Nat} {f C:Addr} {fd:FuncData} {ps:List Str} {sp:Sp} {dvs:List V} {ds:List Value} {E:XK} {x m:Str} {p pos apos:Pos} {e o:Expr} {es:List Expr} {ta:TE} {t:TA}
theorem AG {pins:List (Addr×Obj)} {σ:St} {H:Hp} {s:Shared} {Q:VK} {us:List Value} {vs:List V} (F:gy X.prog X.w X.K X.mg X.base CX k f fd ps sp) (hr:Room k X.A) (hb:Binds X.K fd ps ds) (hd:Vals dvs ds) (hx:pX CX X E)
  (I:Inv X pins σ H s) (r:Vals vs us) (h:sp (vs++dvs) H Q E):wpAny (model X.prog X.w) X.A (call (.ref f) us) (EP X pins σ Q) X.xe s:=by
 have r2:Vals (vs++dvs) (us++ds):=r.append hd
 have hl:(us++ds).length=ps.length:=by rw [<-r2.length];exact F.len _ _ _ _ h
 refine wpAny_call (codeAny_mono (F.run X.A X.stack s H ⟨us,[]⟩ (us++ds) (vs++dvs) Q E hr I.env0 (hb s us I.kIn hl) r2 h) fun r s' hq=>?_)
 cases r with
 | error e=>exact hx pins σ H s e s' I hq
 | ok fl=>
  cases fl with
  | ret u=>exact I.after hq
  | next=>exact False.elim hq
  | brk=>exact False.elim hq
  | cont=>exact False.elim hq
theorem qx (F:gy X.prog X.w X.K X.mg X.base CX k f fd ps sp) (hr:Room k X.A) (hg:Gl X x) (hm:X.mg x=some (.ref f)) (hk:PySem.W.keepIn X.K (.ref f)=true) (hb:Binds X.K fd ps ds) (hd:Vals dvs ds) (hx:pX CX X E)
  (ha:PA X (e::es) t) (hdb:(x==("__debug__":Str))=false:=by decide) (he:starEach (e::es) X.env=(false,eval e X.env)::starEach es X.env:=by rfl) (hpl:(backTo pos (starEach es X.env)).any (·.1)=false:=by rfl) :
  PE X (.Call (.Name x p) (e::es) [] pos) (ud sp dvs E t):=by
 intro pins s σ H Q I h;refine wpAny_Call_Name_kw (Dt I hg hm ?_ hdb)
 refine PySem.W.callWith_K (h₀:=X.base) I.ok.mod.kin hk (b6 (ha pos pins s σ H _ I h) fun us s1 ⟨vs,H1,I1,r,q⟩=>⟨I1.kIn,?_⟩) he hpl
 exact AG F hr hb hd hx I1 r q
end
structure g9 (N P:List Str) (sc:Scope):Prop where
 kind:sc.kind=.function
 co:sc.isCoroutine=false
 gen:sc.isGenerator=false
 nd:N.Nodup
 pre:N.take P.length=P
 par:∀x∈P,sc.names.lookup x=some .local\/sc.names.lookup x=some .cell
 nofree:∀y∈sc.names,y.2≠.free
theorem lx {kindOf:Str->Option NameKind} {x:Str}:∀{binds:List (Str×Value)} {m:Str->Option Value},(∀v,(x,v)∉binds)->bindL kindOf binds m x=m x
 | [],_,_=>rfl
 | (n,v)::r,m,h=>by
  unfold bindL;rw [lx fun w hw=>h w (KO _ hw)]
  split
  ·have:x≠n:=by rintro rfl;exact h v mem_cons_self
   simp [this]
  ·rfl
theorem lz {kindOf:Str->Option NameKind} {x:Str}:∀{binds:List (Str×Value)} {m:Str->Option Value},(∀v,(x,v)∉binds)->bindC kindOf binds m x=m x
 | [],_,_=>rfl
 | (n,v)::r,m,h=>by
  unfold bindC;rw [lz fun w hw=>h w (KO _ hw)]
  split
  ·rfl
  ·have:x≠n:=by rintro rfl;exact h v mem_cons_self
   simp [this]
theorem ly {kindOf:Str->Option NameKind} {x:Str} {v:Value}:∀{P:List Str} {vs:List Value} {i:Nat} {m:Str->Option Value},P.Nodup->P[i]?=some x->vs[i]?=some v->kindOf x=some .local ->
  bindL kindOf (P.zip vs) m x=some v
 | [],_,_,_,_,h,_,_=>by simp at h
 | _::_,[],_,_,_,_,h,_=>by simp at h
 | p::P,w::vs,0,m,nd,h1,h2,hk=>by
  simp at h1 h2;subst h1;subst h2;show bindL kindOf ((p,w)::P.zip vs) m p=_
  unfold bindL;rw [lx fun v hv=>(List.nodup_cons.mp nd).1 (List.of_mem_zip hv).1,if_pos hk]
  simp
 | p::P,w::vs,i+1,m,nd,h1,h2,hk=>by
  show bindL kindOf ((p,w)::P.zip vs) m x=_
  unfold bindL;exact ly (i:=i) (List.nodup_cons.mp nd).2 (by simpa using h1) (by simpa using h2) hk
theorem lA {kindOf:Str->Option NameKind} {x:Str} {v:Value}:∀{P:List Str} {vs:List Value} {i:Nat} {m:Str->Option Value},P.Nodup->P[i]?=some x->vs[i]?=some v->kindOf x≠some .local ->
  bindC kindOf (P.zip vs) m x=some v
 | [],_,_,_,_,h,_,_=>by simp at h
 | _::_,[],_,_,_,_,h,_=>by simp at h
 | p::P,w::vs,0,m,nd,h1,h2,hk=>by
  simp at h1 h2;subst h1;subst h2;show bindC kindOf ((p,w)::P.zip vs) m p=_
  unfold bindC;rw [lz fun v hv=>(List.nodup_cons.mp nd).1 (List.of_mem_zip hv).1,if_neg hk]
  simp
 | p::P,w::vs,i+1,m,nd,h1,h2,hk=>by
  show bindC kindOf ((p,w)::P.zip vs) m x=_
  unfold bindC;exact lA (i:=i) (List.nodup_cons.mp nd).2 (by simpa using h1) (by simpa using h2) hk
noncomputable def start (N:List Str) (vs:List V):St:=vs.map some++List.replicate (N.length-vs.length) none
noncomputable def oq (CX:wz) (P:Program) (w:World) (K:Fg) (mg:Str->Option Value) (base:Heap) (N:List Str) (qual:Str) (scope:Scope) (f:Addr) (cd:Value) (A:Around) (outer:List Env) (s:Shared) (H:Hp) (E:XK):Cx where
 prog:=P
 w:=w
 K:=K
 mg:=mg
 base:=base
 A:=A.deeper (envOfC qual scope s.heap.objs.size f cd)
 N:=N
 s₀:=s
 H₀:=H
 env:=envOfC qual scope s.heap.objs.size f cd
 outer:=outer
 stack:=envOfC qual scope s.heap.objs.size f cd::outer
 ex:=[]
 calm:=true
 fn:=fun _=>true
 pn:=[]
 xe:=fun e s'=>wpAny (model P w) (A.deeper (envOfC qual scope s.heap.objs.size f cd)) (leaving (envOfC qual scope s.heap.objs.size f cd) e) (fun _ s''=>CX outer H s E e s'') (fun e' s''=>CX outer H s E e' s'') s'
theorem oA {sc:Scope} {n:Nat} {x:Str} (h:sc.names.lookup x=some .cell):∃c,(cellsFrom n sc.names []).lookup x=some c:=by
 have q:=PySem.W.cellsFrom_some sc.names n [] (.inl h)
 exact Option.isSome_iff_exists.mp q
theorem sD {CX:wz} {P:Program} {w:World} {K:Fg} {mg:Str->Option Value} {base:Heap} {N ps:List Str} {qual:Str} {scope:Scope} {f:Addr} {cd:Value} {A:Around} {outer:List Env} {s s1:Shared} {H:Hp} {E:XK} {us:List Value} {vs:List V}
  (S:g9 N ps scope) (hd:A.handled=none) (e0:y2 P w K mg base A outer s H) (hl:vs.length=ps.length) (r:Vals vs us)
  (x:InCallC s s.heap.objs.size (bindL (envOfC qual scope s.heap.objs.size f cd).kindOf (ps.zip us) fun _=>none) (cellsFrom (s.heap.objs.size+1) scope.names []) (bindC (envOfC qual scope s.heap.objs.size f cd).kindOf (ps.zip us) fun _=>none) s1) :
  Inv (oq CX P w K mg base N qual scope f cd A outer s H E) [] (start N vs) H s1:=by
 have hpl:ps.length<=N.length:=by have:=congrArg List.length S.pre;rw [length_take] at this;omega
 obtain ⟨h1,tk,rfl,hk⟩:=x.done;have noA:∀b:Addr,b∉(oq CX P w K mg base N qual scope f cd A outer s H E).ex:=fun b z=>absurd (show b∈([]:List Addr) from z) (by simp)
 refine ⟨⟨e0.mod,S.kind,rfl,rfl,KW _,fun y z c h1 h2=>?_,fun y hy=>?_,fun y c _ h=>?_,fun _=>hd,Around.frames_deeper e0.frames,.inr ⟨rfl,rfl⟩,fun b z=>absurd z (noA b),e0.bs,e0.bsz,fun b _ _=>noA b,fun b z=>absurd z (noA b),e0.funs,e0.frf⟩,
  rfl,e0.bare,Un.kept hk,⟨_,x.toInCall.ns,fun i y v h1 h2 h3=>?_⟩,fun y c h=>⟨_,x.cell y c h⟩,e0.hok.fresh (KW _),fun y c h=>?_,fun p hp=>absurd (show p∈([]:List (Addr×Obj)) from hp) (by simp),e0.hok.kept hk,?_⟩
 ·exact name_of_addr x.apart (PySem.mem_of_lookup h1) (PySem.mem_of_lookup h2)
 ·have hy:scope.names.lookup y=some .cell\/scope.names.lookup y=some .free:=hy
  rcases hy with hy | hy
  ·exact oA hy
  ·exact absurd rfl (S.nofree _ (PySem.mem_of_lookup hy))
 ·exact Nat.le_of_lt (x.above y c (PySem.mem_of_lookup h))
 ·have hi:i<vs.length:=by
   unfold start at h2;by_cases hi:i<vs.length
   ·exact hi
   ·rw [getElem?_append_right (by simpa using hi)] at h2
    rw [getElem?_replicate] at h2;split at h2<;>cases h2
  have ha:vs[i]?=some v:=by
   unfold start at h2;rw [getElem?_append_left (by simpa using hi),getElem?_map] at h2
   cases e:vs[i]? with
   | none=>rw [e] at h2;cases h2
   | some a=>rw [e] at h2;cases h2;rfl
  obtain ⟨u,hu,rv⟩:=r.get ha;have hp:ps[i]?=some y:=by
   rw [<-S.pre,List.getElem?_take_of_lt (by omega)];exact h1
  have ndP:ps.Nodup:=by rw [<-S.pre];exact S.nd.sublist (List.take_sublist _ _)
  refine ⟨u,rv,?_⟩
  rcases S.par y (mem_of_getElem? hp) with k | k
  ·exact .inl ⟨k,ly ndP hp hu k⟩
  ·obtain ⟨c,e⟩:=oA (n:=s.heap.objs.size+1) k
   refine .inr ⟨.inl k,c,e,?_⟩
   have q:=x.cell y c e
   rw [lA ndP hp hu (by show scope.names.lookup y≠_;rw [k];decide)] at q
   exact q
 ·exact e0.hok.fresh (Nat.le_of_lt (x.above y c (PySem.mem_of_lookup h)))
 ·unfold start
  show _=N.length
  rw [length_append,length_map,List.length_replicate];omega
theorem EZ {CX:wz} {P:Program} {w:World} {K:Fg} {mg:Str->Option Value} {base:Heap} {k:Nat} {f:Addr} {name qual:Str} {params:Arguments} {body:List Stmt} {scope:Scope} {dV kV doc pm cdv ct oc:Value} {an od:Option Addr}
  {osl:Array (Option Value)} {N ps:List Str} {sp:Sp} (lk:K.lookup f=some ⟨oc,od,.func (PySem.W.fnOf name qual params body scope dV kV doc pm an cdv ct),osl⟩) (hcd:PySem.W.codeIn K cdv qual=true) (S:g9 N ps scope)
  (len:∀vs H Q E,sp vs H Q E->vs.length=ps.length)
  (hbody:∀(A:Around) (outer:List Env) (s:Shared) (H:Hp) (vs:List V) (Q:VK) (E:XK),Room k (A.deeper (envOfC qual scope s.heap.objs.size f cdv))->sp vs H Q E ->
   ∃t,PSs (oq CX P w K mg base N qual scope f cdv A outer s H E) body t/\t { nx:=fun _ H'=>Q .non H',rt:=Q } (start N vs) H) :
  gy P w K mg base CX (k+1) f (PySem.W.fnOf name qual params body scope dV kV doc pm an cdv ct) ps sp:=by
 refine ⟨len,fun A outer s H args us vs Q E hr e0 hb r hsp=>?_⟩
 have hl:=len _ _ _ _ hsp
 have KX:K.In s.heap:=e0.mod.kin.keeps fun b o e=>(e0.bs b o e).1
 have lim:s.heap.NoLimit:=e0.mod.nolimit.keeps fun b o e=>(e0.bs b o e).1
 have hkind:∀y∈ps.zip us,scope.names.lookup y.1=some .local\/(scope.names.lookup y.1=some .cell/\((cellsFrom (s.heap.objs.size+1) scope.names []).lookup y.1).isSome=true):=fun ⟨n,v⟩ hy=>by
  rcases S.par n (List.of_mem_zip hy).1 with q | q
  ·exact .inl q
  ·exact .inr ⟨q,PySem.W.cellsFrom_some _ _ _ (.inl q)⟩
 refine codeAny_call_function hr.depth (KX _ _ lk) rfl S.co S.gen rfl (PySem.W.codeRec_of KX hcd) (hb _ _ _ _ ?_)
 refine wpAny_newFunctionEnv_cells S.kind hkind fun env he s1 x=>?_
 subst he;refine ⟨lim.keeps x.toInCall.keep,codeAny_func ?_⟩
 obtain ⟨t,ht,hq⟩:=hbody A outer s H vs Q E (hr.deeper _) hsp;have I:Inv (oq CX P w K mg base N qual scope f cdv A outer s H E) [] (start N vs) H s1:=sD S hr.hd e0 hl r x
 refine wpAny_mono (ht [] s1 (start N vs) H _ I hq) (fun fl s' hs=>?_) fun e s' hs=>hs
 have fin:∀{σ':St} {H':Hp} {v:V} {u:Value},Inv (oq CX P w K mg base N qual scope f cdv A outer s H E) [] σ' H' s'->RelV v u->Q v H'->CE outer P w H s Q u s':=
  fun {σ' H' v u} J rv q=>⟨v,H',J.os,J.bare,J.base,J.hok,rv,q⟩
 cases fl with
 | ret u=>
  obtain ⟨v,σ',H',J,rv,q⟩:=hs;exact fin J rv q
 | next=>
  obtain ⟨σ',H',J,q⟩:=hs;exact fin (v:=V.non) (u:=Value.none) J rfl q
 | brk=>
  obtain ⟨_,_,_,q⟩:=hs;exact False.elim q
 | cont=>
  obtain ⟨_,_,_,q⟩:=hs;exact False.elim q
section
variable {X:Cx} {x:Str} {p pos:Pos} {e:Expr} {es:List Expr} {t:TA} {id T:String} {r:List V->Hp->VK->Prop}
noncomputable def DY (r:List V->Hp->VK->Prop) (t:TA):TE:=fun σ H Q=>t σ H fun vs H1=>r vs H1 Q
theorem ni (hc:CallR X (.builtin id) r) (hg:Gl X x) (hm:X.mg x=none) (hv:bootBuiltins x=some (.builtin id)) (ha:PA X (e::es) t) (hn:x ≠ "__name__":=by decide) (hdb:(x==("__debug__":Str))=false:=by decide)
  (he:starEach (e::es) X.env=(false,eval e X.env)::starEach es X.env:=by rfl) (hpl:(backTo pos (starEach es X.env)).any (·.1)=false:=by rfl):PE X (.Call (.Name x p) (e::es) [] pos) (DY r t):=by
 intro pins s σ H Q I h;refine wpAny_Call_Name_kw (vY I hg hm hv ?_ hn hdb)
 exact PyProof.Rows.callWith_builtin1 (b6 (ha pos pins s σ H _ I h) fun us s1 ⟨vs,H1,I1,r1,q1⟩=>hc pins s1 σ H1 vs us Q I1 r1 q1) he hpl
theorem kL (hc:CallR X (.type T) r) (hg:Gl X x) (hm:X.mg x=none) (hv:bootBuiltins x=some (.type T)) (ha:PA X (e::es) t) (hn:x ≠ "__name__":=by decide) (hdb:(x==("__debug__":Str))=false:=by decide)
  (he:starEach (e::es) X.env=(false,eval e X.env)::starEach es X.env:=by rfl) (hpl:(backTo pos (starEach es X.env)).any (·.1)=false:=by rfl):PE X (.Call (.Name x p) (e::es) [] pos) (DY r t):=by
 intro pins s σ H Q I h;refine wpAny_Call_Name_kw (vY I hg hm hv ?_ hn hdb)
 exact PyProof.Rows.callWith_type1 (b6 (ha pos pins s σ H _ I h) fun us s1 ⟨vs,H1,I1,r1,q1⟩=>hc pins s1 σ H1 vs us Q I1 r1 q1) he hpl
end
end L2
namespace HT
open PySem PyProof.Rows
section
variable {prog:Program} {w:World} {A:Around} {E:Value->Shared->Prop} {s:Shared}
theorem cat_tup {t b:Addr} {vs ws:List Value} {Q:Value->Shared->Prop} (ht:IsTup s.heap t vs.toArray) (hb:IsTup s.heap b ws.toArray) (hv:vs≠[])
  (h1:ws=[]->Q (.ref t) s) (h2:ws≠[]->Q (.ref s.heap.objs.size) { s with heap:=s.heap.push { cls:=.type "tuple",data:=.seq (vs++ws).toArray } })
  (hsz:vs.length+ws.length<=sizeLine):wpAny (model prog w) A (binaryOp .Add (.ref t) (.ref b)) Q E s:=by
 obtain ⟨⟨cls,dd,data,sl⟩,ho,hc,n,hd⟩:=id ht;obtain ⟨⟨cls2,dd2,data2,sl2⟩,ho2,hc2,n2,hd2⟩:=id hb;simp only at hc hd hc2 hd2
 subst hc hd hc2 hd2;have e:vs.toArray++ws.toArray=(vs++ws).toArray:=by simp
 by_cases hw:ws=[]
 ·exact concat_meets ⟨_,ho,rfl⟩ ⟨_,ho2,rfl⟩ noFill_tuple_add seq_tuple_add PySem.F.slot_tuple_add PySem.F.entry_tuple_add (PySem.F.args_tuple_add_2 _ _)
   (tuple_addW1 t b vs.toArray ws.toArray n n2 dd dd2 sl sl2 (by simpa using hv) (by simp [hw])) ⟨ho,ho2,h1 hw⟩
 ·refine concat_meets ⟨_,ho,rfl⟩ ⟨_,ho2,rfl⟩ noFill_tuple_add seq_tuple_add PySem.F.slot_tuple_add PySem.F.entry_tuple_add (PySem.F.args_tuple_add_2 _ _)
   (tuple_addW2 t b vs.toArray ws.toArray n n2 dd dd2 sl sl2 (by simpa using hv) (by simpa using hw) (by rw [size_toArray,size_toArray];exact hsz)) ⟨ho,ho2,?_⟩
  rw [e];exact h2 hw
noncomputable def sIx (n d:Nat):Option Int->Nat
 | none=>d
 | some v=>if v<0 then (v+(n:Int)).toNat else min v.toNat n
theorem sIx_none (n d:Nat):sIx n d none=d:=rfl
theorem sIx_nat (n d k:Nat):sIx n d (some (k:Int))=min k n:=by
 show (if (k:Int)<0 then ((k:Int)+(n:Int)).toNat else min (k:Int).toNat n)=min k n
 rw [if_neg (by omega),Int.toNat_natCast]
theorem AF (n d:Nat) (hd:d<=n) (o:Option Int):sIx n d o<=n:=by
 cases o with
 | none=>exact hd
 | some v=>
  show (if v<0 then (v+(n:Int)).toNat else min v.toNat n)<=n
  by_cases hv:v<0
  ·rw [if_pos hv];omega
  ·rw [if_neg hv];exact Nat.min_le_right _ _
theorem qR (v:Int) (n d:Nat):(if v<0 then max (v+(n:Int)) 0 else min v (n:Int))=((sIx n d (some v):Nat):Int):=by
 show (if v<0 then max (v+(n:Int)) 0 else min v (n:Int))=(((if v<0 then (v+(n:Int)).toNat else min v.toNat n):Nat):Int)
 by_cases hv:v<0
 ·simp only [if_pos hv];omega
 ·simp only [if_neg hv];omega
theorem pW (lo hi:Option Int) (n:Nat):Builtin.Slice.sliceAdjust lo hi 1 (n:Int)=(((sIx n 0 lo:Nat):Int),((sIx n n hi:Nat):Int)):=by
 have h1:¬((1:Int)<0):=by omega
 unfold Builtin.Slice.sliceAdjust;simp only [h1,if_false]
 refine Prod.ext ?_ ?_
 ·cases lo with
  | none=>rfl
  | some v=>exact qR v n 0
 ·cases hi with
  | none=>rfl
  | some v=>exact qR v n n
theorem pe (i j:Nat):Builtin.Slice.slicePlaces (i:Int) (j:Int) 1=j-i:=by
 unfold Builtin.Slice.slicePlaces;have h1:(1:Int)>0:=by omega
 simp only [h1,if_true,Int.ediv_one]
 split<;>omega
theorem i9 {v:Value} {o:Option Int} {Q:Option Int->Shared->Prop} (p:IsPart v o) (h:Q o s):wpAny (model prog w) A (Builtin.Slice.slicePartIndex v) Q E s:=by
 cases p with
 | none=>exact slicePart_none h
 | int i t=>exact slicePart_int h
theorem hV {sl:Addr} {vl vu:Value} {lo hi:Option Int} {n:Nat} {Q:Int×Int×Nat->Shared->Prop} (hs:s.heap.IsSliceOf sl vl vu .none) (pl:IsPart vl lo) (pu:IsPart vu hi)
  (h:Q (((sIx n 0 lo:Nat):Int),1,sIx n n hi-sIx n 0 lo) s):wpAny (model prog w) A (Builtin.Slice.sliceApplied (.ref sl) (pure (n:Int))) Q E s:=by
 obtain ⟨os,hos,hcs,hds⟩:=id hs;unfold Builtin.Slice.sliceApplied Builtin.Slice.sliceFields;refine KR (KR (wpAny_field hos hds (x:=vl) rfl (KR (wpAny_field hos hds (x:=vu) rfl (KR (wpAny_field hos hds (x:=.none) rfl (KS ?_)))))))
 refine KR (slicePart_none ?_)
 show wpAny _ _ (if ((1:Int)==0)=true then _ else _) _ _ s
 rw [if_neg (by decide)]
 refine KR (i9 pl (KR (i9 pu (KR (KS ?_)))))
 show wpAny _ _ (match Builtin.Slice.sliceAdjust lo hi 1 (n:Int) with | (lo,hi)=>pure (lo,(1:Int),Builtin.Slice.slicePlaces lo hi 1)) _ _ s
 rw [pW lo hi n];show wpAny _ _ (pure (((sIx n 0 lo:Nat):Int),(1:Int),Builtin.Slice.slicePlaces ((sIx n 0 lo:Nat):Int) ((sIx n n hi:Nat):Int) 1)) _ _ s
 rw [pe];exact KS h
theorem uO (xs:Array Value) (i k:Nat):((List.range k).filterMap fun (m:Nat)=>xs[((i:Int)+(m:Int)*1).toNat]?).toArray=((xs.toList.drop i).take k).toArray:=by
 have e:(fun (m:Nat)=>xs[((i:Int)+(m:Int)*1).toNat]?)=fun m=>xs[i+m]?:=by
  funext m
  have:((i:Int)+(m:Int)*1).toNat=i+m:=by omega
  rw [this]
 rw [e];have:=pick_run xs i k
 rw [List.filterMap_map] at this;have e2:((fun x=>xs[x]?)∘fun x=>i+x)=fun m=>xs[i+m]?:=rfl
 rw [e2] at this;rw [this]
theorem getItem_tuple_cut {t sl:Addr} {items:Array Value} {vl vu:Value} {lo hi:Option Int} {Q:Value->Shared->Prop} (ht:IsTup s.heap t items) (hs:s.heap.IsSliceOf sl vl vu .none) (pl:IsPart vl lo) (pu:IsPart vu hi)
  (hw:¬(sIx items.size 0 lo=0/\sIx items.size items.size hi=items.size))
  (h:Q (.ref s.heap.objs.size) { s with heap:=s.heap.push { cls:=.type "tuple",data:=.seq ((items.toList.drop (sIx items.size 0 lo)).take (sIx items.size items.size hi-sIx items.size 0 lo)).toArray } })
  (hsz:items.size<=sizeLine):wpAny (model prog w) A (getItem (.ref t) (.ref sl)) Q E s:=by
 have htake:sizeOk (.seq ((items.toList.drop (sIx items.size 0 lo)).take (sIx items.size items.size hi-sIx items.size 0 lo)).toArray):=by
  show ((items.toList.drop (sIx items.size 0 lo)).take (sIx items.size items.size hi-sIx items.size 0 lo)).toArray.size<=sizeLine
  rw [size_toArray,length_take,length_drop,Array.length_toList];omega
 have hj:sIx items.size items.size hi<=items.size:=AF _ _ (KW _) hi
 obtain ⟨os,hos,hcs,hds⟩:=id hs;have hTs:s.TypeIs (.ref sl) "slice":=⟨os,hos,hcs⟩
 unfold getItem;try with_reducible refine wpAny_holding ?_
 first | refine KR (KS ?_) | skip
 refine KR (wpAny_sequenceKey ht.typeIs (by decide) ?_)
 refine KR (wpAny_callSpecial?_slot (name:=Str.ofString "__getitem__") ht.typeIs PyProof.Rows.slot_tuple_getitem
  (wpAny_call_entry PyProof.Rows.slot_tuple_getitem ht.typeIs entry_tuple_getitem ?_ (args_tuple_getitem _ _)))
 show wpAny _ _ (Builtin.Tuple.tupleItemsOf (.ref t) >>= _) _ _ s
 refine KR (tupleItemsOf_ ht ?_)
 refine KR (wpAny_typeOf hTs ?_)
 rw [if_pos (by decide)]
 refine KR (hV hs pl pu ?_)
 have hno:¬((((sIx items.size 0 lo:Nat):Int)==0&&(1:Int)==1&&(sIx items.size items.size hi-sIx items.size 0 lo)==items.size)=true):=by
  intro q;rw [Bool.and_eq_true,Bool.and_eq_true] at q;have q1:((sIx items.size 0 lo:Nat):Int)=0:=eq_of_beq q.1.1
  have q2:sIx items.size items.size hi-sIx items.size 0 lo=items.size:=eq_of_beq q.2
  exact hw ⟨by omega,by omega⟩
 show wpAny _ _ (if (((sIx items.size 0 lo:Nat):Int)==0&&(1:Int)==1&&(sIx items.size items.size hi-sIx items.size 0 lo)==items.size)=true then _ else _) _ _ s
 rw [if_neg hno,uO];first
  | exact KR (m:=Builtin.Tuple.tupleExact _) (wpAny_newObj_type (KS ⟨_,rfl,KS h⟩) htake)
  | exact KR (m:=Builtin.Tuple.tupleExact _) (wpAny_newObj_type (KR (KS (KS ⟨_,rfl,KS h⟩))) htake)
  | exact KR (KR (m:=Builtin.Tuple.tupleExact _) (wpAny_newObj_type (KS (KS ⟨_,rfl,KS h⟩)) htake))
  | exact KR (KR (m:=Builtin.Tuple.tupleExact _) (wpAny_newObj_type (KS ⟨_,rfl,KS h⟩) htake))
end
end HT
namespace L2
open PySem PySem.Spec PyProof.Rows
abbrev TO:=St->Hp->(Option Int->Hp->Prop)->Prop
noncomputable def PO (X:Cx) (e:Option Expr) (t:TO):Prop:=
 ∀(pins:List (Addr×Obj)) (s:Shared) (σ:St) (H:Hp) (Q:Option Int->Hp->Prop),Inv X pins σ H s->t σ H Q ->
  wpAny (model X.prog X.w) X.A (evalPart e X.env) (fun u s'=>∃o H',Inv X pins σ H' s'/\IsPart u o/\Q o H') X.xe s
noncomputable def qc:TO:=fun _ H Q=>Q none H
noncomputable def zu (t:TE):TO:=fun σ H Q=>t σ H fun x H1=>∃i,x=.int i/\Q (some i) H1
section
variable {X:Cx} {e:Expr} {te:TE} {lo hi:Option Expr} {tl th:TO} {pos p2:Pos}
theorem xO:PO X none qc:=by
 intro pins s σ H Q I h;rw [evalPart_none];exact KS ⟨none,H,I,.none,h⟩
theorem Hz (h:PE X e te):PO X (some e) (zu te):=by
 intro pins s σ H Q I hw;rw [evalPart_some];refine b6 (h pins s σ H _ I hw) fun u s1 ⟨x,H1,I1,r1,q1⟩=>?_
 obtain ⟨i,rfl,q⟩:=q1;obtain ⟨t,rfl⟩:=r1;exact ⟨some i,H1,I1,.int i t,q⟩
noncomputable def JG (X:Cx) (r:V->Option Int->Option Int->Hp->VK->Prop):Prop:=
 ∀(pins:List (Addr×Obj)) (s:Shared) (σ:St) (H:Hp) (x:V) (v vl vu:Value) (lo hi:Option Int) (sl:Addr) (Q:VK),Inv X pins σ H s->RelV x v->s.heap.IsSliceOf sl vl vu .none->IsPart vl lo->IsPart vu hi->r x lo hi H Q ->
  ∃T id,typeLookup (.type T) "__getitem__"=pure (some (.builtin id))/\s.TypeIs v T/\wpAny (model X.prog X.w) X.A (getItem v (.ref sl)) (EP X pins σ Q) X.xe s
noncomputable def JQ (r:V->Option Int->Option Int->Hp->VK->Prop) (te:TE) (tl th:TO):TE:=fun σ H Q=>te σ H fun x H1=>tl σ H1 fun l H2=>th σ H2 fun u H3=>r x l u H3 Q
theorem nh {r:V->Option Int->Option Int->Hp->VK->Prop} (hr:JG X r) (he:PE X e te) (hl:PO X lo tl) (hu:PO X hi th):PE X (.Subscript e (.Slice lo hi none p2) pos) (JQ r te tl th):=by
 intro pins s σ H Q I h;refine Subscript_ (b6 (he pins s σ H _ I h) fun v s1 ⟨x,H1,I1,r1,q1⟩=>?_)
 refine wpAny_Slice (b6 (hl pins s1 σ H1 _ I1 q1) fun vl s2 ⟨l,H2,I2,pl,q2⟩=>b6 (hu pins s2 σ H2 _ I2 q2) fun vu s3 ⟨u,H3,I3,pu,q3⟩=>?_)
 rw [evalPart_none];refine KS ?_
 have I4:Inv X pins σ H3 { s3 with heap:=s3.heap.push { cls:=.type "slice",data:=.fields #[vl,vu,.none] } }:=I3.kept (t':=s3.toks) fun b ob q=>KU _ q
 obtain ⟨T,id,hT,ht,hg⟩:=hr pins { s3 with heap:=s3.heap.push { cls:=.type "slice",data:=.fields #[vl,vu,.none] } } σ H3 x v vl vu l u s3.heap.objs.size Q I4 r1 (Heap.IsSliceOf.new ..) pl pu q3
 show wpAny (model X.prog X.w) X.A (subscriptTail e (.Slice lo hi none p2) v (.ref s3.heap.objs.size)) (EP X pins σ Q) X.xe { s3 with heap:=s3.heap.push { cls:=.type "slice",data:=.fields #[vl,vu,.none] } }
 exact tail_any (ops:=[.ref s3.heap.objs.size,v]) ht hT hg (by with_unfolding_all rfl)
noncomputable def sS (xs:List V) (lo hi:Option Int):List V:=(xs.drop (HT.sIx xs.length 0 lo)).take (HT.sIx xs.length xs.length hi-HT.sIx xs.length 0 lo)
theorem ou (xs:List V) (lo hi:Option Int):(sS xs lo hi).length<=xs.length:=by
 unfold sS;rw [length_take,length_drop];omega
noncomputable def Be (K:Fg):V->Option Int->Option Int->Hp->VK->Prop:=fun x lo hi H Q=>∃a xs,x=.ref a/\SqT K H a xs /\
 ¬(HT.sIx xs.length 0 lo=0/\HT.sIx xs.length xs.length hi=xs.length)/\∀p,H p=none->Q (.ref p) (cy H p (.tup (sS xs lo hi)))
theorem Ax:JG X (Be X.K):=by
 intro pins s σ H x v vl vu lo hi sl Q I rx hs pl pu h;obtain ⟨a,xs,rfl,hx,hw,q⟩:=h
 cases rx;obtain ⟨its,r,ht,hz⟩:=I.tuple hx;have hlen:its.toArray.size=xs.length:=by rw [size_toArray];exact r.length.symm
 refine ⟨"tuple",_,PyProof.Rows.slot_tuple_getitem.lookup,ht.typeIs,?_⟩
 refine HT.getItem_tuple_cut ht hs pl pu (by rw [hlen];exact hw) ?_ (by rw [hlen];exact hz)
 rw [hlen];refine ⟨.ref s.heap.objs.size,_,I.laid (t':=s.toks) (o:=.tup (sS xs lo hi)) (fun b ob q=>KU _ q) (KW _) ?_,rfl,q _ (I.hok.fresh (KW _))⟩
 exact ⟨Nat.le_trans (ou xs lo hi) hz,_,(r.drop (HT.sIx xs.length 0 lo)).take (HT.sIx xs.length xs.length hi-HT.sIx xs.length 0 lo),IsTup.new _ _⟩
noncomputable def uJ (K:Fg):R2:=fun x y H Q=>∃a b xs ys,x=.ref a/\y=.ref b/\SqT K H a xs/\SqT K H b ys/\xs≠[]/\xs.length+ys.length<=sizeLine /\
 (ys=[]->Q (.ref a) H)/\(ys≠[]->∀p,H p=none->Q (.ref p) (cy H p (.tup (xs++ys))))
theorem Vals.nil_iff {xs:List V} {us:List Value} (r:Vals xs us):us=[]↔xs=[]:=by
 cases r with
 | nil=>simp
 | cons _ _=>simp
theorem xZ:OpR X (binaryOp .Add) (uJ X.K):=by
 intro pins s σ H x y v u Q I rx ry h;obtain ⟨a,b,xs,ys,rfl,rfl,ha,hb,hx,hz,q1,q2⟩:=h
 cases rx
 cases ry;obtain ⟨its,r1,p1,_⟩:=I.tuple ha;obtain ⟨its2,r2,p2,_⟩:=I.tuple hb;refine HT.cat_tup p1 p2 (fun z=>hx (r1.nil_iff.mp z)) (fun z=>⟨.ref a,H,I,rfl,q1 (r2.nil_iff.mp z)⟩) (fun z=>?_) (by rw [<-r1.length,<-r2.length];exact hz)
 refine ⟨.ref s.heap.objs.size,_,I.laid (t':=s.toks) (o:=.tup (xs++ys)) (fun b ob q=>KU _ q) (KW _) ?_,rfl,q2 (fun w=>z (r2.nil_iff.mpr w)) _ (I.hok.fresh (KW _))⟩
 exact ⟨by rw [length_append];exact hz,_,r1.append r2,IsTup.new _ _⟩
end
noncomputable def eT (n:Nat) (i:Int):Option Nat:=if 0<=i then (if i<n then some i.toNat else none) else if -(n:Int)<=i then some (i+n).toNat else none
noncomputable def fE {α:Type} (xs:List α) (i:Int):Option α:=(eT xs.length i).bind fun j=>xs[j]?
theorem qH {n:Nat} {i:Int} {j:Nat} (h:eT n i=some j):seqIndex? i n=some j/\j<n/\-(n:Int)<=i/\i<n:=by
 unfold eT at h;by_cases h0:0<=i
 ·rw [if_pos h0] at h
  by_cases h1:i<n
  ·rw [if_pos h1] at h
   have e:i.toNat=j:=Option.some.inj h
   exact ⟨by rw [seqIndex_of h0 h1,e],by omega,by omega,h1⟩
  ·rw [if_neg h1] at h;cases h
 ·rw [if_neg h0] at h
  by_cases h1:-(n:Int)<=i
  ·rw [if_pos h1] at h
   have e:(i+n).toNat=j:=Option.some.inj h
   exact ⟨by rw [seqIndex_neg (by omega) h1,e],by omega,h1,by omega⟩
  ·rw [if_neg h1] at h;cases h
theorem HL {α:Type} {xs:List α} {i:Int} {v:α} (h:fE xs i=some v):∃j,seqIndex? i xs.length=some j/\xs[j]?=some v/\j<xs.length/\-(xs.length:Int)<=i/\i<xs.length:=by
 unfold fE at h
 cases e:eT xs.length i with
 | none=>rw [e] at h;cases h
 | some j=>
  rw [e] at h;obtain ⟨h1,h2,h3,h4⟩:=qH e;exact ⟨j,h1,h,h2,h3,h4⟩
theorem atI_nat {α:Type} {xs:List α} {j:Nat} {v:α} (h:xs[j]?=some v):fE xs (j:Int)=some v:=by
 have hj:j<xs.length:=(KQ h).1
 have e:eT xs.length (j:Int)=some j:=by
  unfold eT;rw [if_pos (by omega),if_pos (by omega)];simp
 unfold fE;rw [e];exact h
noncomputable def g6 (b:Expr):Prop:=∀o i,subscripted b false o i=operate [o,i] (getItem o i)
noncomputable def IxR (X:Cx) (r:R2):Prop:=
 ∀(value slice:Expr) (pins:List (Addr×Obj)) (s:Shared) (σ:St) (H:Hp) (x y:V) (v u:Value) (Q:VK),Inv X pins σ H s->RelV x v->RelV y u->r x y H Q ->
  subscripted slice false v u=operate [v,u] (getItem v u)->wpAny (model X.prog X.w) X.A (subscriptTail value slice v u) (EP X pins σ Q) X.xe s
noncomputable def JH (X:Cx) (id:String) (r:V->List V->Hp->VK->Prop):Prop:=
 ∀(pins:List (Addr×Obj)) (s:Shared) (σ:St) (H:Hp) (x:V) (xs:List V) (v:Value) (us:List Value) (Q:VK),Inv X pins σ H s->RelV x v->Vals xs us->r x xs H Q ->
  wpAny (model X.prog X.w) X.A (call (.builtin id) (v::us)) (EP X pins σ Q) X.xe s
section
variable {X:Cx} {a b:Expr} {ta tb:TE} {pos:Pos}
theorem IxR.or {r r':R2} (h:IxR X r) (h':IxR X r'):IxR X (fun x y H Q=>r x y H Q\/r' x y H Q):=by
 intro value slice pins s σ H x y v u Q I rx ry q hs;rcases q with q | q
 ·exact h value slice pins s σ H x y v u Q I rx ry q hs
 ·exact h' value slice pins s σ H x y v u Q I rx ry q hs
theorem zA {r:R2} (hr:IxR X r) (ha:PE X a ta) (hb:PE X b tb) (hs:g6 b):PE X (.Subscript a b pos) (w6 r ta tb):=by
 intro pins s σ H Q I h;exact Subscript_ (CK ha hb I h fun v u s2 x y H2 I2 rx ry q=>hr a b pins s2 σ H2 x y v u Q I2 rx ry q (hs _ _))
noncomputable def Eo (K:Fg):R2:=fun x y H Q=>∃p xs i v,x=.ref p/\y=.int i/\SqL K H p xs/\fE xs i=some v/\Q v H
noncomputable def Em (K:Fg):R2:=fun x y H Q=>∃p xs i v,x=.ref p/\y=.int i/\SqT K H p xs/\fE xs i=some v/\Q v H
noncomputable def En:R2:=fun x y H Q=>∃z i c,x=.str z/\y=.int i/\z.length<=sizeLine/\fE z.cps.toList i=some c/\Q (.str ⟨#[c]⟩) H
theorem ix_list:IxR X (Eo X.K):=by
 intro value slice pins s σ H x y v u Q I rx ry h hs;obtain ⟨p,xs,i,z,rfl,rfl,hq,he,q⟩:=h
 cases rx;obtain ⟨t,rfl⟩:=ry;obtain ⟨its,r,pl,hz⟩:=I.list hq;obtain ⟨j,h1,h2,h3,h4,h5⟩:=HL he;obtain ⟨w,ew,rw'⟩:=r.get h2;have hl:=r.length
 have hn:=zZ
 have fin:EP X pins σ Q w s:=⟨z,H,I,rw',q⟩
 by_cases h0:0<=i
 ·have hj:i.toNat=j:=by
   rw [seqIndex_of h0 h5] at h1;exact Option.some.inj h1
  exact item_listR pl.isList h0 (by omega) (by rw [hj];simpa using ew) fin hs
 ·have hj:(i+(its.toArray.size:Int)).toNat=j:=by
   rw [seqIndex_neg (by omega) h4] at h1
   rw [size_toArray,<-hl];exact Option.some.inj h1
  exact subscriptTail_builtinR (x:=w) pl.isList.typeIs slot_list_getitem.lookup
   (wpAny_getItem_list_neg (Q:=fun r s'=>r=w/\EP X pins σ Q r s') pl.isList (by omega) (by rw [size_toArray]<;>omega) (by omega) (by rw [hj];simpa using ew) ⟨rfl,fin⟩) hs
theorem ix_tup:IxR X (Em X.K):=by
 intro value slice pins s σ H x y v u Q I rx ry h hs;obtain ⟨p,xs,i,z,rfl,rfl,hq,he,q⟩:=h
 cases rx;obtain ⟨t,rfl⟩:=ry;obtain ⟨its,r,pl,hz⟩:=I.tuple hq;obtain ⟨j,h1,h2,h3,h4,h5⟩:=HL he;obtain ⟨w,ew,rw'⟩:=r.get h2;have hl:=r.length
 have hn:=zZ
 have fin:EP X pins σ Q w s:=⟨z,H,I,rw',q⟩
 exact subscriptTail_builtinR (x:=w) pl.typeIs slot_tuple_getitem.lookup
  (getItem_tuple (j:=j) (Q:=fun r s'=>r=w/\EP X pins σ Q r s') pl (by omega) (by omega) (by rw [size_toArray,<-hl];exact h1) (by simpa using ew) ⟨rfl,fin⟩) hs
theorem B2:IxR X En:=by
 intro value slice pins s σ H x y v u Q I rx ry h hs;obtain ⟨z,i,c,rfl,rfl,hz,he,q⟩:=h;obtain ⟨t,rfl⟩:=rx;obtain ⟨t',rfl⟩:=ry;obtain ⟨j,h1,h2,h3,h4,h5⟩:=HL he;have hl:z.cps.toList.length=z.length:=by simp [Str.length]
 rw [hl] at h1 h4 h5
 have hn:=zZ
 exact tail_any (typeIs_str s z t) slot_str_getitem.lookup (getItem_str (c:=c) (by
  have e1:decide (i < -(2 ^ 63:Int))=false:=decide_eq_false (by omega)
  have e2:decide (i≥2 ^ 63)=false:=decide_eq_false (by omega)
  rw [e1,e2,Bool.or_false]) (by rw [h1];simpa using h2) ⟨.str ⟨#[c]⟩,H,I.tok _,⟨_,rfl⟩,q⟩) hs
noncomputable def Jo (K:Fg):R2:=fun x y H Q=>Eo K x y H Q\/Em K x y H Q\/En x y H Q
theorem vc:IxR X (Jo X.K):=ix_list.or (ix_tup.or B2)
theorem pC (its:List Value) (n j:Nat) (u:Value):Obj.mapSeq (·.setIfInBounds j u) { cls:=.type "list",data:=.seq its.toArray n }={ cls:=.type "list",data:=.seq (its.set j u).toArray n }:=by
 simp [Obj.mapSeq]
theorem Inv.lst {pins:List (Addr×Obj)} {σ:St} {H:Hp} {s:Shared} {p:Addr} {xs:List V} (I:Inv X pins σ H s) (h:H p=some (.lst xs)) :
  ∃(its:List Value) (n:Nat),Vals xs its/\s.heap.get? p=some { cls:=.type "list",data:=.seq its.toArray n }/\xs.length<=sizeLine:=by
 obtain ⟨z,its,n,r,e⟩:=I.hok p _ h;exact ⟨its,n,r,e,z⟩
theorem Inv.lstUpd {pins:List (Addr×Obj)} {σ:St} {H:Hp} {s:Shared} {p:Addr} {xs ys:List V} {its its':List Value} {n n':Nat} {f:Obj->Obj} (I:Inv X pins σ H s) (h:H p=some (.lst xs))
  (ho:s.heap.get? p=some { cls:=.type "list",data:=.seq its.toArray n }) (hf:f { cls:=.type "list",data:=.seq its.toArray n }={ cls:=.type "list",data:=.seq its'.toArray n' }) (r:Vals ys its') (hz:ys.length<=sizeLine) (t:Nat) :
  Inv X pins σ (cy H p (.lst ys)) { s with heap:=s.heap.update p f,toks:=t }:=by
 have e:(s.heap.update p f).get? p=some { cls:=.type "list",data:=.seq its'.toArray n' }:=by
  rw [Heap.get?_update_self f ho (by rw [hf]<;>rfl),hf]
 refine I.write (x:=p) (e:=p) (by rw [h];trivial) (.inl rfl) (fun b u hb q=>(Heap.get?_update_other _ _ (Ne.symm hb)).trans q) ⟨_,e⟩ ?_
 exact ⟨hz,its',n',r,e⟩
noncomputable def uH:V->V->V->Hp->(Hp->Prop)->Prop:=fun o i v H Q=>∃p xs k j,o=.ref p/\i=.int k/\H p=some (.lst xs)/\eT xs.length k=some j/\Q (cy H p (.lst (xs.set j v)))
theorem ug:Fu X uH:=by
 intro pins s σ H o i v ov iv u Q I ro ri rv h;obtain ⟨p,xs,k,j,rfl,rfl,hp,hj,q⟩:=h
 cases ro;obtain ⟨t,rfl⟩:=ri;obtain ⟨its,n,r,ho,hz⟩:=I.lst hp;obtain ⟨h1,h2,h3,h4⟩:=qH hj;have hl:=r.length
 have hn:=zZ
 have I':Inv X pins σ (cy H p (.lst (xs.set j v))) { s with heap:=s.heap.update p (Obj.mapSeq (·.setIfInBounds j u)) }:=
  I.lstUpd hp ho (pC its n j u) (r.set rv j) (by rw [length_set];exact hz) s.toks
 by_cases h0:0<=k
 ·have hk:k.toNat=j:=by
   rw [seqIndex_of h0 h4] at h1;exact Option.some.inj h1
  exact PySem.W.ki_setAt ho h0 (by omega) (by rw [size_toArray,<-hl];exact h4) (by rw [hk];exact ⟨_,I',q⟩)
 ·have hk:(k+(its.toArray.size:Int)).toNat=j:=by
   rw [seqIndex_neg (by omega) h3] at h1
   rw [size_toArray,<-hl];exact Option.some.inj h1
  exact PySem.W.ki_setBack ho (by omega) (by rw [size_toArray,<-hl];exact h3) (by omega) (by rw [hk];exact ⟨_,I',q⟩)
theorem call_len_seq:CallR X (.builtin "len") (fun xs H Q=>∃p ys,xs=[.ref p]/\(SqL X.K H p ys\/SqT X.K H p ys)/\Q (.int ys.length) H):=by
 intro pins s σ H xs us Q I r h;obtain ⟨p,ys,rfl,hq,q⟩:=h;obtain ⟨u,rfl,rx⟩:=vals1 r
 cases rx;have hn:=zZ
 rcases hq with hq | hq
 ·obtain ⟨its,r',pl,hz⟩:=I.list hq
  have hlen:=r'.length
  exact Calls.call_len_list pl.isList (by simp only [size_toArray]<;>omega) ⟨.int ys.length,H,I.tok _,⟨s.toks+1,by rw [size_toArray,hlen]⟩,q⟩
 ·obtain ⟨its,r',pl,hz⟩:=I.tuple hq
  have hlen:=r'.length
  exact len_tuple pl (by simp only [size_toArray]<;>omega) ⟨.int ys.length,H,I.tok _,⟨s.toks+1,by rw [size_toArray,hlen]⟩,q⟩
theorem ml:CallR X (.builtin "len") (fun xs H Q=>∃z,xs=[.str z]/\z.length<=sizeLine/\Q (.int z.length) H):=by
 intro pins s σ H xs us Q I r h;obtain ⟨z,rfl,hz,q⟩:=h;obtain ⟨u,rfl,t,rfl⟩:=vals1 r;have hn:=zZ
 exact len_str (by omega) ⟨.int z.length,H,I.tok _,⟨_,rfl⟩,q⟩
theorem CallR.or {f:Value} {r r':List V->Hp->VK->Prop} (h:CallR X f r) (h':CallR X f r'):CallR X f (fun xs H Q=>r xs H Q\/r' xs H Q):=by
 intro pins s σ H xs us Q I rs q;rcases q with q | q
 ·exact h pins s σ H xs us Q I rs q
 ·exact h' pins s σ H xs us Q I rs q
theorem kx:CallR X (.type "tuple") (fun xs H Q=>∃p ys,xs=[.ref p]/\((SqL X.K H p ys/\∀l,H l=none->Q (.ref l) (cy H l (.tup ys)))\/(SqT X.K H p ys/\Q (.ref p) H))):=by
 intro pins s σ H xs us Q I r h;obtain ⟨p,ys,rfl,h⟩:=h;obtain ⟨u,rfl,rx⟩:=vals1 r
 cases rx;rcases h with ⟨hq,q⟩ | ⟨hq,q⟩
 ·obtain ⟨its,r',pl,hz⟩:=I.list hq
  have hlen:=r'.length
  refine call_tuple_list pl.isList (fun h' kp=>?_) (by simp only [size_toArray]<;>omega)
  have I1:Inv X pins σ H { s with heap:=h' }:=I.kept (t':=s.toks) kp
  have I2:Inv X pins σ (cy H h'.objs.size (.tup ys)) { s with heap:=h'.push { cls:=.type "tuple",data:=.seq its.toArray } }:=
   I1.laid (t':=s.toks) (fun b o e=>KU _ e) (KW _) (show ObjOk X.prog X.w _ _ _ (.tup ys) from ⟨hz,its,r',IsTup.new _ _⟩)
  exact ⟨.ref h'.objs.size,_,I2,rfl,q _ (I1.hok.fresh (KW _))⟩
 ·obtain ⟨its,r',pl,hz⟩:=I.tuple hq
  exact call_tuple_same pl ⟨.ref p,H,I,rfl,q⟩
noncomputable def JN (K:Fg) (T:String) (x:V) (H:Hp):Prop:=match x with
 | .str _=>T = "str"
 | .int _=>T = "int"
 | .ref p=>(T = "list"/\∃xs,SqL K H p xs)\/(T = "tuple"/\∃o,K.lookup p=some o/\o.cls=.type "tuple"/\o.dict=none) \/
   (T = "dict"/\((∃kvs,H p=some (.dK kvs))\/∃kvs,H p=some (.dT kvs)))\/(T = "set"/\∃S n,H p=some (.set S n))
 | _=>False
theorem Aq {pins:List (Addr×Obj)} {σ:St} {H:Hp} {s:Shared} {T:String} {x:V} {v:Value} (I:Inv X pins σ H s) (r:RelV x v) (ty:JN X.K T x H) :
  s.TypeIs v T/\∀a,v=.ref a->∃ob,s.heap.get? a=some ob/\ob.dict=none:=by
 cases x with
 | str z=>
  obtain ⟨t,rfl⟩:=r
  cases (show T = "str" from ty)
  exact ⟨typeIs_str s z t,fun _ e=>nomatch e⟩
 | int i=>
  obtain ⟨t,rfl⟩:=r
  cases (show T = "int" from ty)
  exact ⟨typeIs_int s i t,fun _ e=>nomatch e⟩
 | ref p=>
  cases r;rcases ty with ⟨rfl,xs,hq⟩ | ⟨rfl,o,hk,hc,hd⟩ | ⟨rfl,hk⟩ | ⟨rfl,S,n,hk⟩
  ·obtain ⟨its,_,pl,_⟩:=I.list hq
   refine ⟨pl.isList.typeIs,fun a e=>?_⟩
   cases e;obtain ⟨o,n,e,c,hd,_⟩:=pl;exact ⟨o,e,hd⟩
  ·refine ⟨⟨o,I.kIn p o hk,hc⟩,fun a e=>?_⟩
   cases e;exact ⟨o,I.kIn _ o hk,hd⟩
  ·have z:∃o,s.heap.get? p=some o/\o.ExactDict:=by
    rcases hk with ⟨kvs,hk⟩ | ⟨kvs,hk⟩
    ·obtain ⟨_,_,_,_,o,_,_,e,ex,_⟩:=I.hok p _ hk
     exact ⟨o,e,ex⟩
    ·obtain ⟨_,_,_,_,o,_,_,e,ex,_⟩:=I.hok p _ hk
     exact ⟨o,e,ex⟩
   obtain ⟨o,e,ex⟩:=z;refine ⟨⟨o,e,ex.1⟩,fun a e2=>?_⟩
   cases e2;exact ⟨o,e,ex.2.1⟩
  ·obtain ⟨o,_,_,_,e,ex,_⟩:=I.hok p _ hk
   refine ⟨⟨o,e,ex.1⟩,fun a e2=>?_⟩
   cases e2;exact ⟨o,e,ex.2.1⟩
 | _=>exact False.elim ty
noncomputable def DZ (K:Fg) (T:String) (r:V->List V->Hp->VK->Prop) (to:TE) (t:TA):TE:=fun σ H Q=>to σ H fun x H1=>JN K T x H1/\t σ H1 fun xs H2=>r x xs H2 Q
variable {o e:Expr} {es:List Expr} {to:TE} {t:TA} {name:Str} {apos cpos:Pos} {T id:String} {r:V->List V->Hp->VK->Prop}
theorem qy (pa:PlainAttrs T) (slot:Slot T name id) (hty:typeOf (.builtin id)=pure (.type "method_descriptor")) (hm:JH X id r) (ho:PE X o to) (ha:PA X (e::es) t)
  (hbase:attributeBase o name X.env (eval o X.env)=eval o X.env:=by rfl)
  (hfew:((backTo cpos (starEach (e::es) X.env)).all (fun x=>!x.1)&&(backToKw cpos (keywordEach [] X.env)).all (fun x=>x.1.isSome)
   && decide ((e::es).length+([]:List Keyword).length+(if ([]:List Keyword).isEmpty then 0 else 1)<30))=true:=by rfl)
  (hline:(apos.endLine==cpos.line)=true:=by rfl) (hs:starEach (e::es) X.env=(false,eval e X.env)::starEach es X.env:=by rfl) (hplain:(backTo cpos (starEach es X.env)).any (·.1)=false:=by rfl) :
  PE X (.Call (.Attribute o name apos) (e::es) [] cpos) (DZ X.K T r to t):=by
 intro pins s σ H Q I h;refine wpAny_Call_method_late hbase hfew hline rfl (b6 (ho pins s σ H _ I h) fun v s1 ⟨x,H1,I1,r1,ty,q1⟩=>?_)
 obtain ⟨h1,h2⟩:=Aq I1 r1 ty;refine ⟨T,id,pa,slot,hty,h1,h2,?_⟩
 have hA:=ha cpos pins s1 σ H1 _ I1 q1
 rw [hs] at hA ⊢;refine Calls.callWith_builtin (by show (false||(backTo cpos (starEach es X.env)).any (·.1))=false;rw [hplain]<;>rfl) (Calls.evalArgs_plain ?_)
 exact b6 hA fun us s2 ⟨vs,H2,I2,r2,q2⟩=>hm pins s2 σ H2 x vs v us Q I2 r1 r2 q2
end
noncomputable def Kr (X:Cx) (id:String) (r:V->List V->Hp->VK->Prop):Prop:=
 ∀(pins:List (Addr×Obj)) (s:Shared) (σ:St) (H:Hp) (x:V) (xs:List V) (v:Value) (us:List Value) (Q:VK),Inv X pins σ H s->RelV x v->Vals xs us->r x xs H Q ->
  wpAny (model X.prog X.w) X.A (call (.builtin id) (v::us)) (EP X pins σ Q) X.xe s
theorem Vals.one:∀{x:V} {us:List Value},Vals [x] us->∃u,us=[u]/\RelV x u
 | _,_,.cons r .nil=>⟨_,rfl,r⟩
section
variable {X:Cx} {pins:List (Addr×Obj)} {σ:St} {H:Hp} {s:Shared} {l b:Addr} {xs ys zs:List V}
theorem Inv.lset {its its':List Value} {n:Nat} {f:Array Value->Array Value} {t':Nat} (I:Inv X pins σ H s) (hH:H l=some (.lst xs))
  (e:s.heap.get? l=some { cls:=.type "list",data:=.seq its.toArray n }) (hf:f its.toArray=its'.toArray) (hv:Vals ys its') (hz:ys.length<=sizeLine) :
  Inv X pins σ (cy H l (.lst ys)) { s with heap:=s.heap.update l (Obj.mapSeq f),toks:=t' }:=by
 have q:=PySem.IsL.update e f
 rw [hf] at q;refine I.write (x:=l) (e:=l) (by rw [hH];exact trivial) (.inl rfl) (fun b' u hb hu=>(Heap.get?_update_other s.heap (Obj.mapSeq f) (Ne.symm hb)).trans hu) ⟨_,q⟩ ?_
 exact ⟨hz,its',_,hv,q⟩
theorem Inv.lnew {its:List Value} {t':Nat} (I:Inv X pins σ H s) (hv:Vals ys its) (hz:ys.length<=sizeLine) :
  Inv X pins σ (cy H s.heap.objs.size (.lst ys)) { s with heap:=s.heap.push { cls:=.type "list",data:=.seq its.toArray },toks:=t' }:=
 I.laid (fun _ _ q=>KU _ q) (KW _) ⟨hz,its,0,hv,Heap.get?_push_size _ rfl⟩
theorem Inv.fresh (I:Inv X pins σ H s):H s.heap.objs.size=none:=I.hok.fresh (KW _)
theorem Inv.lstM (I:Inv X pins σ H s) (hH:H l=some (.lst xs)):xs.length<=sizeLine/\∃(its:List Value) (n:Nat),Vals xs its/\xs.length=its.length/\s.heap.get? l=some { cls:=.type "list",data:=.seq its.toArray n }:=by
 obtain ⟨z,its,n,r,e⟩:=I.hok l _ hH;exact ⟨z,its,n,r,r.length,e⟩
theorem uW {n:Nat} (h:n<=sizeLine):Builtin.List.listTooLong n=false:=by
 unfold Builtin.List.listTooLong;exact decide_eq_false (by omega)
end
section
variable {X:Cx}
noncomputable def qu:V->List V->Hp->VK->Prop:=fun x vs H Q=>∃l xs y,x=.ref l/\vs=[y]/\H l=some (.lst xs)/\xs.length<sizeLine/\Q .non (cy H l (.lst (xs++[y])))
theorem kN:Kr X "list.append" qu:=by
 intro pins s σ H x vs v us Q I rx rv h;obtain ⟨l,xs,y,rfl,rfl,hH,hz,q⟩:=h
 cases rx;obtain ⟨u,rfl,ru⟩:=rv.one;obtain ⟨z,its,n,r,hl,e⟩:=I.lstM hH;refine call_meets F.slot_list_append ⟨_,e,rfl⟩ F.entry_list_append (F.args_list_append_2 _ _) (PySem.list_append l its.toArray n u (by rw [size_toArray];omega)) ⟨e,?_⟩
 refine ⟨.non,_,I.lset (its':=its++[u]) hH e (by simp) (r.append (.cons ru .nil)) ?_,rfl,q⟩
 rw [length_append,length_singleton];omega
end
section
variable {prog:Program} {w:World} {A:Around} {E:Value->Shared->Prop} {s:Shared}
set_option maxRecDepth 100000 in
end
end L2
namespace Att
open PySem PySem.W PySem.Calls PyProof.Rows
theorem iS {P:Params} {h:Heap}:∀(ns:List Int) (vs:List Value),WellAll P h vs (ns.map WData.int)->IntsAre vs ns:=by
 intro ns;induction ns with
 | nil=>
  intro vs w;rw [map_nil] at w
  cases w;exact .nil
 | cons n ns ih=>
  intro vs w;rw [map_cons] at w
  cases w with
  | cons a b=>
   cases a;exact .cons _ _ (ih _ b)
theorem rE {l:OpenLaw} {n:Nat} (hn:l.most=some n) {P:Params} {h:Heap} {args:List WData} {vals:List Value}
  (hpre:l.row.toRowW.claim.pre args=true) (hwl:WellAll P h vals args) :
  ∃a vs ns,vals=[Value.ref a]/\args=[WData.list (ns.map WData.int)]/\h.get? a=some { cls:=.type "list",data:=.seq vs.toArray }/\IntsAre vs ns/\ns.length<=n:=by
 have hsh:WShape.hasAll [] args [.list .int]=true:=(pre_splitW hpre).1
 have hc:l.pre.holds [] { args:=args }=true:=(pre_splitW hpre).2
 obtain ⟨d,r,rfl,h1,h2⟩:=hasAllW_cons hsh;obtain rfl:=hasAllW_nil h2
 obtain ⟨xs,rfl,h3⟩:=hasW_list h1;obtain ⟨ns,rfl⟩:=items_int h3;have hlen:ns.length<=n:=by
  unfold OpenLaw.pre at hc;have h4:(WTm.not (.lt (.lit (.int (n:Int))) (.len (.arg 0)))).holds [] { args:=[.list (ns.map .int)] }=true:=by
   have h4:=(holds_andW hc).1
   rw [hn] at h4;exact h4
  have h5:=condW_of h4 (w_not (w_lt w_lit (w_len_list (w_arg rfl))))
  rw [length_map] at h5;refine Nat.le_of_not_lt fun q=>?_
  have q':(n:Int)<((ns.length:Nat):Int):=by omega
  first
   | (rw [decide_eq_true q'] at h5;exact absurd h5 (by decide))
   | (simp at h5;omega)
 cases hwl with
 | cons w1 w2=>
  cases w2
  cases w1 with
  | list ho hall=>exact ⟨_,_,ns,rfl,rfl,ho,iS ns _ hall,hlen⟩
theorem rY (l:OpenLaw) (args:List WData):l.row.toRowW.claim.post args (.bool true) args=true:=
 postW_of (r:=l.row.toRowW) (X:=(true==true))
  (show WShape.has [] (.bool true) .bool=true by first | rfl | decide | simp [WShape.has,WShape.arms,WShape.armsAll])
  (show (WTm.eq .res (.lit (.bool true))).value [] { args:=args,res:=some (.bool true),after:=args }=some (.bool (true==true)) from w_eq_bool (w_res rfl) w_lit) rfl
theorem attach_call {l:OpenLaw} {n:Nat} {q:Program} {loose:List Str} {XP:(Str->Option Value)->Heap->Prop} {YP:World->Heap->Prop} {d:DefRec}
  (hn:l.most=some n) (hdf:d.params.defaults=[])
  (call:∀(w:World) (s₀ s₁:Shared) (mg mb:Str->Option Value) (fa:Addr) (o:Obj) (pm cd doc:Value) (a:Addr) (vs:List Value) (ns:List Int),
   Ground q loose [] XP w s₀ mg mb s₁.heap->YP w s₁.heap ->
   s₁.heap.get? fa=some o->o.data=.func (docDef d.name d.params d.body d.scope pm cd doc)->s₁.heap.CodeRec cd d.name->mg d.name=some (.ref fa) ->
   s₁.heap.get? a=some { cls:=.type "list",data:=.seq vs.toArray }->IntsAre vs ns->ns.length<=n->s₁.gens=#[] ->
   codeAny (model l.prog w) callerA (.call (.ref fa) ⟨[.ref a],[]⟩) (fun r s'=>r=.ok (.ret (.bool true))/\OldK s₁.heap s'.heap/\s'.os=s₁.os/\AllBare s'.gens) s₁) :
  WalkO q loose XP YP l.row.toRowW d [] (fun f vs=>PySem.call f vs):=by
 intro w s₀ s₁ mg mb G Y fa o pm cd doc dV kV ho hd hcd hD hmg hg args vals as hpre hlay hrd hwl hlo;obtain rfl:dV=.none:=Dflts.none hD hdf
 obtain rfl:kV=.none:=Dflts.noKw hD
 obtain ⟨a,vs,ns,rfl,rfl,hobj,hints,hlen⟩:=rE hn hpre hwl;refine enter_call (codeAny_mono (call w s₀ s₁ mg mb fa o pm cd doc a vs ns G Y ho (fd_plain hd) hcd hmg hobj hints hlen hg) fun r s' hq=>?_)
 obtain ⟨rfl,h2,h3,h4⟩:=hq;exact ⟨.inl ⟨.bool true,.bool true,[],rfl,fun _=>rfl,.bool true,rY l _,fun _=>⟨List.Pairwise.nil,fun _ hm=>(nomatch hm)⟩⟩,h2,h3,h4⟩
end Att
namespace L2
open PySem PySem.Spec PyProof.Rows
theorem kF:∀{vs:List Value} {ns:List Int},IntsAre vs ns->Vals (ns.map V.int) vs
 | _,_,.nil=>.nil
 | _,_,.cons n t h=>.cons ⟨t,rfl⟩ (kF h)
noncomputable def CV (H:Hp):Prop:=∀b,H b=none\/∃o xs,H b=some (.frz o (.lst xs))
theorem va {P:Program} {w:World} {K:Fg} {mg mb:Str->Option Value} {CX:wz} {k:Nat} {fa a:Addr} {fd:FuncData} {x:Str} {sp:Sp} {s₁:Shared} {vs:List Value} {ns:List Int}
  (KX:K.In s₁.heap) (hns:s₁.heap.Ns mainGlobals mg) (hb:s₁.heap.Ns builtinsNs mb) (hbb:∀x:Str,x ≠ "__name__"->mb x=bootBuiltins x) (hlim:s₁.heap.NoLimit) (hg:s₁.gens=#[])
  (ha:s₁.heap.get? a=some { cls:=.type "list",data:=.seq vs.toArray }) (hi:IntsAre vs ns) (hl:ns.length<=sizeLine) (hr:Room k callerA)
  (F:∀base:Heap,K.In base->base.Ns mainGlobals mg->gy P w K mg base CX k fa fd [x] sp) (hbind:∀(s:Shared) (u:Value),BindsTo s fd ⟨[u],[]⟩ [(x,u)])
  (hsp:∀H:Hp,CV H->SqL K H a (ns.map V.int)->sp [.ref a] H (fun v _=>v=.bl true) fun _ _ _=>False)
  (hCX:∀H e s',CX [] H s₁ (fun _ _ _=>False) e s'->False) :
  codeAny (model P w) callerA (.call (.ref fa) ⟨[.ref a],[]⟩) (fun r s'=>r=.ok (.ret (.bool true))/\OldK s₁.heap s'.heap/\s'.os=s₁.os/\AllBare s'.gens) s₁:=by
 have rv:=kF hi
 have lenV:=hi.length
 have core:∀H:Hp,CV H->SqL K H a (ns.map V.int)->HOk P w H s₁.heap->(∀b,H b≠none->b=a)->(H a≠none->K.lookup a=none) ->
   codeAny (model P w) callerA (.call (.ref fa) ⟨[.ref a],[]⟩) (fun r s'=>r=.ok (.ret (.bool true))/\OldK s₁.heap s'.heap/\s'.os=s₁.os/\AllBare s'.gens) s₁:=by
  intro H hO hS hok hA hK;have base_of:∀{b:Addr} {o:Obj},s₁.heap.get? b=some o->H b=none->(lW s₁.heap H).get? b=some o:=fun e n=>vj e n
  have noA:∀{b:Addr} {o:Obj} {es:Array DictEntry} {ep:Nat},s₁.heap.get? b=some o->o.data=.dict es ep->H b=none:=fun {b o es ep} e d=>by
   cases q:H b with
   | none=>rfl
   | some u=>
    have e':b=a:=hA b (by rw [q];simp)
    subst e'
    rw [ha] at e;cases e;have d':Data.seq vs.toArray _=Data.dict es ep:=d
    cases d'
  have nsK:∀{b:Addr} {m:Str->Option Value},s₁.heap.Ns b m->(lW s₁.heap H).Ns b m:=fun {b m} ⟨o,es,ep,e,d,r⟩=>⟨o,es,ep,base_of e (noA e d),d,r⟩
  have hKb:K.In (lW s₁.heap H):=fun b o e=>base_of (KX b o e) (by
   cases q:H b with
   | none=>rfl
   | some u=>
    have e':b=a:=hA b (by rw [q];simp)
    subst e'
    rw [hK (by rw [q];simp)] at e;cases e)
  have hM:Mod K mg (lW s₁.heap H):=⟨hKb,nsK hns,⟨mb,nsK hb,hbb⟩,let ⟨mc,h1,h2⟩:=hlim;⟨mc,nsK h1,h2⟩⟩
  have e0:y2 P w K mg (lW s₁.heap H) callerA [] s₁ H:=⟨rfl,hM,fun b o e=>yc e,Nat.le_of_eq (sE _ _),trivial,fun b hb=>absurd (show b∈([]:List Addr) from hb) (by simp),hok,.of_eq hg⟩
  refine codeAny_mono ((F _ hKb (nsK hns)).run callerA [] s₁ H ⟨[.ref a],[]⟩ [.ref a] [.ref a] _ _ hr e0 (hbind s₁ (.ref a)) (.cons rfl .nil) (hsp H hO hS)) fun r s' h=>?_
  cases r with
  | error e=>exact (hCX H e s' h).elim
  | ok fl=>
   cases fl with
   | next=>exact False.elim h
   | brk=>exact False.elim h
   | cont=>exact False.elim h
   | ret u=>
    obtain ⟨v,H',os,bare,un,hok',r',q⟩:=h;have q':v=.bl true:=q
    subst q'
    obtain rfl:u=Value.bool true:=r'
    refine ⟨rfl,OldK.of_keep fun b o e=>?_,os,bare⟩
    cases q:H b with
    | none=>exact un.keep b o e q (by intro z;exact absurd (show b∈([]:List Addr) from z) (by simp)) (by simp)
    | some u=>
     rcases hO b with z | ⟨ob,xs,z⟩
     ·rw [q] at z;cases z
     ·have z2:=un.frzs b ob _ z
      obtain ⟨e1,_⟩:=hok b _ z;obtain ⟨e2,_⟩:=hok' b _ z2
      rw [e] at e1;cases e1;exact e2
 cases hk:K.lookup a with
 | some o=>
  have e:=KX a o hk
  rw [ha] at e
  cases e;refine core (fun _=>none) (fun _=>.inl rfl) (.inr ⟨_,vs.toArray,_,hk,rfl,rfl,rfl,by rw [size_toArray,lenV];exact hl,by simpa using rv⟩) (fun b u z=>by have z':(none:Option HO)=some u:=z;cases z') (fun b z=>absurd rfl z) fun z=>absurd rfl z
 | none=>
  refine core (fun b=>if b=a then some (.frz { cls:=.type "list",data:=.seq vs.toArray } (.lst (ns.map V.int))) else none) (fun b=>?_) (.inl (.inr ⟨{ cls:=.type "list",data:=.seq vs.toArray },if_pos rfl⟩)) (fun b u z=>?_) (fun b z=>?_) fun _=>hk
  ·by_cases hb:b=a
   ·exact .inr ⟨_,_,if_pos hb⟩
   ·exact .inl (if_neg hb)
  ·by_cases hb:b=a
   ·have z':=(if_pos hb).symm.trans z
    cases z'
    subst hb;exact ⟨ha,by rw [length_map];exact hl,vs,_,rv,ha⟩
   ·have z':=(if_neg hb).symm.trans z
    cases z'
  ·by_cases hb:b=a
   ·exact hb
   ·exact absurd (if_neg hb) z
theorem walk_of {l:PySem.W.OpenLaw} {n k:Nat} {q:Program} {loose:List Str} {XP:(Str->Option Value)->Heap->Prop} {YP:World->Heap->Prop} {d:DefRec} {K:Params->Fg} {CX:World->wz} {sp:World->Sp} {x:Str}
  (hn:l.most=some n) (hn2:n<=sizeLine) (hdf:d.params.defaults=[]) (hr:Room k callerA)
  (hY:∀(w:World) (h:Heap),YP w h->(K w.params).In h)
  (F:∀(w:World) (mg:Str->Option Value) (fa:Addr) (h:Heap),(K w.params).In h->h.Ns mainGlobals mg->mg d.name=some (.ref fa) ->
   ∃fd:FuncData,(∀(s:Shared) (u:Value),BindsTo s fd ⟨[u],[]⟩ [(x,u)]) /\
    ∀base:Heap,(K w.params).In base->base.Ns mainGlobals mg->gy l.prog w (K w.params) mg base (CX w) k fa fd [x] (sp w))
  (hsp:∀(w:World) (H:Hp) (a:Addr) (ns:List Int),ns.length<=n->CV H->SqL (K w.params) H a (ns.map V.int)->sp w [.ref a] H (fun v _=>v=.bl true) fun _ _ _=>False)
  (hCX:∀(w:World) (H:Hp) (s:Shared) (e:Value) (s':Shared),CX w [] H s (fun _ _ _=>False) e s'->False) :
  PySem.W.WalkO q loose XP YP l.row.toRowW d [] (fun f vs=>PySem.call f vs):=by
 refine Att.attach_call hn hdf fun w s₀ s₁ mg mb fa o pm cd doc a vs ns G Y ho hd hcd hmg hobj hints hlen hg=>?_
 have KX:=hY w _ Y
 obtain ⟨fd,hb,hF⟩:=F w mg fa _ KX G.T.g hmg;exact va KX G.T.g G.T.b G.T.builtins G.T.nolimit hg hobj hints (Nat.le_trans hlen hn2) hr hF hb (fun H hO hS=>hsp w H a ns hlen hO hS) fun H e s'=>hCX w H s₁ e s'
noncomputable def fR (s:Stmt):Arguments:=match s with
 | .FunctionDef _ a _ _ _ _ _ _ _ _=>a
 | _=>{ posonlyargs:=[],args:=[],vararg:=none,kwonlyargs:=[],kw_defaults:=[],kwarg:=none,defaults:=[] }
noncomputable def dI (s:Stmt):List Stmt:=match s with
 | .FunctionDef _ _ b _ _ _ _ _ _ _=>b
 | _=>[]
noncomputable def br (s:Stmt):Scope:=match s with
 | .FunctionDef _ _ _ _ _ _ sc _ _ _=>sc
 | _=>{ kind:=.function,names:=[],isGenerator:=false,isCoroutine:=false }
noncomputable abbrev pY:wz:=fun _ _ _ _ _ _=>False
noncomputable abbrev E0:XK:=fun _ _ _=>False
theorem zC {X:Cx}:pX pY X E0:=fun _ _ _ _ _ _ _ h=>h.elim
structure Fun (K:Fg) (x qual:Str) (st:Stmt) (f:Addr) (fd:FuncData):Prop where
 ex:∃(oc:Value) (od:Option Addr) (kV doc pm:Value) (an:Option Addr) (cdv ct:Value) (osl:Array (Option Value)),
  fd=PySem.W.fnOf x qual (fR st) (dI st) (br st) .none kV doc pm an cdv ct/\K.lookup f=some ⟨oc,od,.func fd,osl⟩/\PySem.W.codeIn K cdv qual=true
 kp:PySem.W.keepIn K (.ref f)=true
section
variable {P:Program} {w:World} {K:Fg} {mg:Str->Option Value} {base:Heap}
theorem Fun.ok {x qual:Str} {st:Stmt} {f:Addr} {fd:FuncData} {N ps:List Str} {k:Nat} {sp:Sp} (F:Fun K x qual st f fd) (S:g9 N ps (br st)) (len:∀vs H Q E,sp vs H Q E->vs.length=ps.length)
  (hbody:∀(cdv:Value) (A:Around) (outer:List Env) (s:Shared) (H:Hp) (vs:List V) (Q:VK) (E:XK),Room k (A.deeper (envOfC qual (br st) s.heap.objs.size f cdv))->sp vs H Q E ->
   ∃t,PSs (oq pY P w K mg base N qual (br st) f cdv A outer s H E).nox (dI st) t/\t { nx:=fun _ H'=>Q .non H',rt:=Q } (start N vs) H):gy P w K mg base pY (k+1) f fd ps sp:=by
 obtain ⟨oc,od,kV,doc,pm,an,cdv,ct,osl,rfl,lk,hcd⟩:=F.ex;refine EZ lk hcd S len fun A outer s H vs Q E hr hsp=>?_
 obtain ⟨t,h,q⟩:=hbody cdv A outer s H vs Q E hr hsp;exact ⟨t,h.nox,q⟩
theorem Fun.binds {x qual:Str} {st:Stmt} {f:Addr} {fd:FuncData} {ps:List Str} (F:Fun K x qual st f fd)
  (h:∀(kV doc pm:Value) (an:Option Addr) (cdv ct:Value) (us:List Value),us.length=ps.length->bindArgs (PySem.W.fnOf x qual (fR st) (dI st) (br st) .none kV doc pm an cdv ct) ⟨us,[]⟩=pure (ps.zip us)):Binds K fd ps []:=by
 obtain ⟨oc,od,kV,doc,pm,an,cdv,ct,osl,rfl,lk,hcd⟩:=F.ex;exact .all (h kV doc pm an cdv ct)
theorem Cs {x qual:Str} {st:Stmt} {f:Addr} {oc:Value} {od an:Option Addr} {osl:Array (Option Value)} {kV doc pm cdv ct:Value} (l:K.lookup f=some ⟨oc,od,.func (PySem.W.fnOf x qual (fR st) (dI st) (br st) .none kV doc pm an cdv ct),osl⟩)
  (c:PySem.W.codeIn K cdv qual=true) (k:PySem.W.keepIn K (.ref f)=true):Fun K x qual st f (PySem.W.fnOf x qual (fR st) (dI st) (br st) .none kV doc pm an cdv ct):=⟨⟨oc,od,kV,doc,pm,an,cdv,ct,osl,rfl,l,c⟩,k⟩
end
theorem lV {A B:Prop} (h:B):if false=true then A else B:=by
 rw [if_neg Bool.false_ne_true];exact h
theorem lU {A B:Prop} (h:A):if true=true then A else B:=by
 rw [if_pos rfl];exact h
noncomputable def Same (H H':Hp):Prop:=∀b o,H b=some o->H' b=some o
theorem Same.refl (H:Hp):Same H H:=fun _ _ h=>h
theorem Same.trans {H H1 H2:Hp} (a:Same H H1) (b:Same H1 H2):Same H H2:=fun c o h=>b c o (a c o h)
theorem Same.free {H H':Hp} (e:Same H H') {l:Addr} (h:H' l=Option.none):H l=Option.none:=by
 cases q:H l with
 | none=>rfl
 | some o=>
  rw [e l o q] at h
  cases h
theorem Same.seq {K:Fg} {H H':Hp} {a:Addr} {xs:List V} (e:Same H H') (h:SqL K H a xs):SqL K H' a xs:=by
 rcases h with (h | ⟨o,h⟩) | h
 ·exact .inl (.inl (e _ _ h))
 ·exact .inl (.inr ⟨o,e _ _ h⟩)
 ·exact .inr h
section
variable {prog:Program} {w:World} {A:Around} {R:Result->Shared->Prop} {s:Shared}
noncomputable abbrev yZ:Value->Shared->Prop:=fun _ _=>False
theorem mi {elt target iter:Expr} {ifs:List Expr} {scope:Scope} {pos:Pos} {it acc:Value} {env:Env} (I:Nat->Shared->Prop)
  (turn:∀n s,I n s->wpAny (model prog w) A (pyNext it) (fun r s₁=>match r with
   | none=>R (.ok .next) s₁
   | some v=>wpAny (model prog w) A (letOwnedTupleGo target it v) (fun _ s₁'=>wpAny (model prog w) A (assign target env v) (fun _ s₂=>
     wpAny (model prog w) A (forIn ifs true fun c r=>if r=true then do let ok <-isTrue c env (eval c env);pure (ForInStep.yield ok) else pure (ForInStep.yield r)) (fun ok s₃=>
      if ok=true then wpAny (model prog w) A (eval elt env) (fun x s₄=>
       wpAny (model prog w) A (call (.builtin "list.append") [acc,x]) (fun _ s₅=>∃m,m<n/\I m s₅) yZ s₄) yZ s₃
      else ∃m,m<n/\I m s₃) yZ s₂) yZ s₁') yZ s₁) yZ s)
  (n:Nat) (h:I n s) :
  codeAny (model prog w) A (.compLoop (.ListComp elt [⟨target,iter,ifs,0⟩] scope pos) 0 it acc env) R s:=by
 refine codeAny_loop rfl I (fun n s hI=>?_) n h
 show wpAny _ A ((compTurn (.ListComp elt [⟨target,iter,ifs,0⟩] scope pos) 0 it acc env).onRaise (fun x=>do noteFrame x env;theTreesLotGoes x)) _ _ s
 refine wpAny_noted ?_
 rw [compTurn_list];have F:∀{Z:Value->Shared->Prop},∀(e:Value) (s:Shared),yZ e s->Z e s:=fun _ _ x=>x.elim
 refine KR (wpAny_standAt (KR (wpAny_mono (turn n s hI) (fun r s₁ h₁=>?_) F)))
 cases r with
 | none=>exact KS h₁
 | some v=>
  refine KR (wpAny_mono h₁ (fun _ s₁' h₁'=>?_) F)
  refine KR (wpAny_mono h₁' (fun _ s₂ h₂=>KR (wpAny_mono h₂ (fun ok s₃ h₃=>?_) F)) F)
  cases ok with
  | false=>exact KS ⟨rfl,h₃⟩
  | true=>
   exact KR (KR (wpAny_mono h₃ (fun x s₄ h₄=>KR (wpAny_mono h₄ (fun _ s₅ h₅=>KS (KS ⟨rfl,h₅⟩)) F)) F))
end
noncomputable def dv (env:Env):List (Str×NameKind)->List (Str×Addr)->List (Str×Addr)
 | [],acc=>acc
 | (n,k)::r,acc=>if k==.free then dv env r ((n,(env.cells.lookup n).getD 0)::acc) else dv env r acc
theorem HP {env:Env}:∀(names:List (Str×NameKind)) (acc:List (Str×Addr)),(∀n,(n,NameKind.free)∈names->∃c,env.cells.lookup n=some c) ->
  (forIn names acc fun (x:Str×NameKind) (cs:List (Str×Addr))=>(match x with | (name,kind)=>if kind==.free then (do let a <-cellOf env name;pure (ForInStep.yield ((name,a)::cs))) else pure (ForInStep.yield cs):Sem (ForInStep (List (Str×Addr)))))=(pure (dv env names acc):Sem (List (Str×Addr)))
 | [],acc,_=>by rw [forIn_nil];rfl
 | (n,k)::r,acc,h=>by
  rw [List.forIn_cons];unfold dv;by_cases hk:(k==.free)=true
  ·simp only [hk,if_true]
   have hk':k=.free:=by simpa using hk
   obtain ⟨c,hc⟩:=h n (by rw [hk'];exact mem_cons_self)
   have e:cellOf env n=pure c:=by unfold cellOf;rw [hc]
   rw [e,hc];exact HP r ((n,c)::acc) fun n' hn=>h n' (KO _ hn)
  ·rw [if_neg hk]
   simp only [hk]
   exact HP r acc fun n' hn=>h n' (KO _ hn)
theorem gZ {env:Env} {scope:Scope} (h:∀n,(n,NameKind.free)∈scope.names->∃c,env.cells.lookup n=some c):closureFor scope env=pure (dv env scope.names []):=by
 have:=HP (env:=env) scope.names [] h
 unfold closureFor;rw [show (pure (dv env scope.names []):Sem (List (Str×Addr)))=(pure (dv env scope.names []) >>= fun x=>pure x) from rfl,<-this]
theorem Iw {env:Env} {x:Str} {c:Addr}:∀{names:List (Str×NameKind)} {acc:List (Str×Addr)},(∀n,(n,NameKind.free)∈names->∃c,env.cells.lookup n=some c)->(dv env names acc).lookup x=some c->env.cells.lookup x=some c\/acc.lookup x=some c
 | [],_,_,e=>.inr e
 | (n,k)::r,acc,h,e=>by
  unfold dv at e;have h':∀n',(n',NameKind.free)∈r->∃c,env.cells.lookup n'=some c:=fun n' hn=>h n' (KO _ hn)
  by_cases hk:(k==.free)=true
  ·rw [if_pos hk] at e
   rcases Iw h' e with q | q
   ·exact .inl q
   ·rw [lookup_cons] at q
    have hk':k=.free:=by simpa using hk
    obtain ⟨c',hc⟩:=h n (by rw [hk'];exact mem_cons_self)
    cases hx:x==n with
    | true=>
     rw [hx,hc] at q
     cases q;rw [eq_of_beq hx];exact .inl hc
    | false=>
     rw [hx] at q;exact .inr q
  ·rw [if_neg hk] at e
   exact Iw h' e
theorem De {env:Env} {x:Str}:∀{names:List (Str×NameKind)} {acc:List (Str×Addr)},(x,NameKind.free)∈names\/(acc.lookup x).isSome=true->((dv env names acc).lookup x).isSome=true
 | [],_,h=>h.elim nofun id
 | (n,k)::r,acc,h=>by
  unfold dv;by_cases hk:(k==.free)=true
  ·rw [if_pos hk]
   refine De (names:=r) ?_
   rcases h with h | h
   ·rcases KL h with e | h
    ·cases e
     exact .inr (by rw [lookup_cons];simp)
    ·exact .inl h
   ·right
    rw [lookup_cons]
    cases hx:x==n with
    | true=>rfl
    | false=>exact h
  ·rw [if_neg hk]
   refine De (names:=r) ?_
   rcases h with h | h
   ·rcases KL h with e | h
    ·cases e
     exact absurd rfl hk
    ·exact .inl h
   ·exact .inr h
theorem DG {x:Str} {c:Addr}:∀{names:List (Str×NameKind)} {n:Nat} {acc:List (Str×Addr)},(cellsFrom n names acc).lookup x=some c->((x,NameKind.cell)∈names/\n<=c)\/acc.lookup x=some c
 | [],_,_,e=>.inr e
 | (y,k)::r,n,acc,e=>by
  unfold cellsFrom at e;by_cases hk:(k==.cell)=true
  ·rw [if_pos hk] at e
   have hk':k=.cell:=by simpa using hk
   rcases DG e with ⟨q,l⟩ | q
   ·exact .inl ⟨KO _ q,by omega⟩
   ·rw [lookup_cons] at q
    cases hx:x==y with
    | true=>
     rw [hx] at q
     cases q;exact .inl ⟨by rw [eq_of_beq hx,hk'];exact mem_cons_self,KW _⟩
    | false=>
     rw [hx] at q;exact .inr q
  ·rw [if_neg hk] at e
   rcases DG e with ⟨q,l⟩ | q
   ·exact .inl ⟨KO _ q,l⟩
   ·exact .inr q
theorem Iy {x y:Str} {c:Addr}:∀{names:List (Str×NameKind)} {n:Nat} {acc:List (Str×Addr)},(∀z d,acc.lookup z=some d->d<n)->(∀x y d,acc.lookup x=some d->acc.lookup y=some d->x=y) ->
  (cellsFrom n names acc).lookup x=some c->(cellsFrom n names acc).lookup y=some c->x=y
 | [],_,_,_,hi,e,e'=>hi _ _ _ e e'
 | (z,k)::r,n,acc,hl,hi,e,e'=>by
  unfold cellsFrom at e e'
  by_cases hk:(k==.cell)=true
  ·rw [if_pos hk] at e e'
   refine Iy (names:=r) (n:=n+1) (acc:=(z,n)::acc) (fun a d q=>?_) (fun a b d q q'=>?_) e e'
   ·rw [lookup_cons] at q
    cases hx:a==z with
    | true=>rw [hx] at q;cases q;exact Nat.lt_succ_self _
    | false=>rw [hx] at q;exact Nat.lt_succ_of_lt (hl a d q)
   ·rw [lookup_cons] at q q'
    cases hx:a==z with
    | true=>
     rw [hx] at q
     cases q
     cases hy:b==z with
     | true=>rw [eq_of_beq hx,eq_of_beq hy]
     | false=>rw [hy] at q';exact absurd (hl b n q') (Nat.lt_irrefl _)
    | false=>
     rw [hx] at q
     cases hy:b==z with
     | true=>rw [hy] at q';cases q';exact absurd (hl a n q) (Nat.lt_irrefl _)
     | false=>rw [hy] at q';exact hi a b d q q'
  ·rw [if_neg hk] at e e'
   exact Iy hl hi e e'
theorem HQ {env:Env} {x:Str} {c:Addr}:∀{names:List (Str×NameKind)} {acc:List (Str×Addr)},(dv env names acc).lookup x=some c->(x,NameKind.free)∈names\/acc.lookup x=some c
 | [],_,e=>.inr e
 | (n,k)::r,acc,e=>by
  unfold dv at e;by_cases hk:(k==.free)=true
  ·rw [if_pos hk] at e
   have hk':k=.free:=by simpa using hk
   rcases HQ e with q | q
   ·exact .inl (KO _ q)
   ·rw [lookup_cons] at q
    cases hx:x==n with
    | true=>rw [eq_of_beq hx,hk'];exact .inl mem_cons_self
    | false=>rw [hx] at q;exact .inr q
  ·rw [if_neg hk] at e
   rcases HQ e with q | q
   ·exact .inl (KO _ q)
   ·exact .inr q
theorem Gp {x:Str}:∀{names:List (Str×NameKind)} {n:Nat} {acc:List (Str×Addr)},(x,NameKind.cell)∈names\/(acc.lookup x).isSome=true->((cellsFrom n names acc).lookup x).isSome=true
 | [],_,_,h=>h.elim nofun id
 | (y,k)::r,n,acc,h=>by
  unfold cellsFrom;by_cases hk:(k==.cell)=true
  ·rw [if_pos hk]
   refine Gp (names:=r) ?_
   rcases h with h | h
   ·rcases KL h with e | h
    ·cases e
     exact .inr (by rw [lookup_cons];simp)
    ·exact .inl h
   ·right
    rw [lookup_cons]
    cases hx:x==y with
    | true=>rfl
    | false=>exact h
  ·rw [if_neg hk]
   refine Gp (names:=r) ?_
   rcases h with h | h
   ·rcases KL h with e | h
    ·cases e
     exact absurd rfl hk
    ·exact .inl h
   ·exact .inr h
theorem Gn {x:Str}:∀{names:List (Str×NameKind)} {n:Nat} {acc:List (Str×Addr)},(x,NameKind.cell)∉names->(cellsFrom n names acc).lookup x=acc.lookup x
 | [],_,_,_=>rfl
 | (y,k)::r,n,acc,h=>by
  unfold cellsFrom;have hr:(x,NameKind.cell)∉r:=fun z=>h (KO _ z)
  by_cases hk:(k==.cell)=true
  ·rw [if_pos hk,Gn hr,lookup_cons]
   have hk':k=.cell:=by simpa using hk
   cases hx:x==y with
   | true=>exact absurd (by rw [eq_of_beq hx,hk'];exact mem_cons_self) h
   | false=>rfl
  ·rw [if_neg hk]
   exact Gn hr
theorem Gq {x:Str} {c:Addr}:∀{names:List (Str×NameKind)} {n:Nat} {acc:List (Str×Addr)},(x,NameKind.cell)∈names->(cellsFrom n names acc).lookup x=some c->(cellsFrom n names []).lookup x=some c
 | [],_,_,h,_=>nomatch h
 | (y,k)::r,n,acc,h,e=>by
  unfold cellsFrom at e ⊢
  by_cases hk:(k==.cell)=true
  ·rw [if_pos hk] at e ⊢
   by_cases hr:(x,NameKind.cell)∈r
   ·have:∀{acc acc':List (Str×Addr)},(cellsFrom (n+1) r acc).lookup x=some c->(cellsFrom (n+1) r acc').lookup x=some c:=fun {a a'} q=>by
     have q0:=Gq hr q
     have hs:=Gp (n:=n+1) (acc:=a') (.inl hr)
     obtain ⟨c',hc'⟩:=Option.isSome_iff_exists.mp hs;have q1:=Gq hr hc'
     rw [q0] at q1
     cases q1;exact hc'
    exact this e
   ·rw [Gn hr] at e ⊢
    rw [lookup_cons] at e ⊢
    cases hx:x==y with
    | true=>rw [hx] at e;exact e
    | false=>
     rcases KL h with z | z
     ·cases z
      simp at hx
     ·exact absurd z hr
  ·rw [if_neg hk] at e ⊢
   rcases KL h with z | z
   ·cases z
    exact absurd rfl hk
   ·exact Gq z e
noncomputable def blk (X:Cx) (scope:Scope) (cells:List (Str×Addr)) (C:Addr) (s₀:Shared) (H₀:Hp) (ex:List Addr):Cx where
 prog:=X.prog
 w:=X.w
 K:=X.K
 mg:=X.mg
 base:=X.base
 A:=X.A
 N:=X.N
 s₀:=s₀
 H₀:=H₀
 env:={ scope:=relabel scope X.env,locals:=C,globals:=X.env.globals,cells:=cells,qual:=X.env.qual,func:=none,code:=X.env.code,frame:=X.env.frame,builtins:=X.env.builtins }
 outer:=X.stack
 stack:=X.stack
 ex:=ex
 fn:=fun x=>scope.names.any fun y=>y.1==x&&y.2==.cell
 calm:=X.calm
 pn:=[]
 xe:=fun _ _=>False
structure eB (N:List Str) (is:List Nat) (osc scope:Scope):Prop where
 kind:scope.kind=.function
 free:∀n,(n,NameKind.free)∈scope.names->osc.names.lookup n=some .cell\/osc.names.lookup n=some .free
 own:∀(i:Nat) (x:Str),N[i]?=some x->(x,NameKind.local)∈scope.names\/(x,NameKind.cell)∈scope.names->i∈is
 loc:∀x∈scope.names,x.2=.local->scope.names.lookup x.1=some .local
 one:∀n,(n,NameKind.free)∈scope.names->(n,NameKind.cell)∉scope.names
noncomputable def bL (is:List Nat) (σ:St):St:=σ.mapIdx fun i v=>if i∈is then none else v
theorem zk (is:List Nat) (σ:St):(bL is σ).length=σ.length:=by unfold bL;simp
theorem F9 {is:List Nat} {σ:St} {i:Nat} {v:V} (h:(bL is σ)[i]?=some (some v)):i∉is/\σ[i]?=some (some v):=by
 unfold bL at h;rw [List.getElem?_mapIdx] at h
 cases e:σ[i]? with
 | none=>rw [e] at h;cases h
 | some o=>
  rw [e] at h;simp only [Option.map_some,Option.some.injEq] at h
  by_cases hi:i∈is
  ·rw [if_pos hi] at h;cases h
  ·rw [if_neg hi] at h;exact ⟨hi,by rw [h]⟩
noncomputable def Ks (σ0 σ2:St):Prop:=σ2.length=σ0.length/\∀(i:Nat) v,σ0[i]?=some (some v)->σ2[i]?=some (some v)
theorem js {x:Str} {k:NameKind} {l:List (Str×NameKind)} (h:l.lookup x=some k):(x,k)∈l:=PySem.mem_of_lookup h
theorem Dd {scope:Scope} {env:Env} {x:Str} {k:NameKind} (h:(relabel scope env).names.lookup x=some k) :
  (x,k)∈scope.names\/((x,NameKind.free)∈scope.names/\k=.cell):=by
 have h:=js h
 unfold relabel at h;obtain ⟨⟨n,k'⟩,hm,e⟩:=List.mem_map.mp h;dsimp only at e;by_cases hc:(k'==NameKind.free&&env.scope.kind==.function&&env.kindOf n==some .cell)=true
 ·rw [if_pos hc] at e
  cases e;have:k'=.free:=by
   simp only [Bool.and_eq_true,beq_iff_eq] at hc
   exact hc.1.1
  exact .inr ⟨this▸hm,rfl⟩
 ·rw [if_neg hc] at e
  cases e;exact .inl hm
noncomputable def bt (X:Cx) (scope:Scope) (C:Addr):List (Str×Addr):=cellsFrom (C+1) scope.names (dv X.env scope.names [])
section
variable {X:Cx} {pins:List (Addr×Obj)} {σ:St} {H:Hp} {s:Shared} {scope:Scope} {is:List Nat}
theorem Inv.freeCells (I:Inv X pins σ H s) (S:eB X.N is X.env.scope scope):∀n,(n,NameKind.free)∈scope.names->∃c,X.env.cells.lookup n=some c:=fun n hn=>
 I.ok.has n (S.free n hn)
theorem Inv.blkOld (I:Inv X pins σ H s) (S:eB X.N is X.env.scope scope) {x:Str} {c:Addr} (h:(dv X.env scope.names []).lookup x=some c):X.env.cells.lookup x=some c:=by
 rcases Iw (I.freeCells S) h with q | q
 ·exact q
 ·cases q
theorem Inv.block {fp:List Addr} {t':Nat} (I:Inv X pins σ H s) (S:eB X.N is X.env.scope scope) (hf:∀b∈fp,kz X pins H b) (hfs:∀b∈fp,b<s.heap.objs.size) :
  Inv (blk X scope (bt X scope (s.heap.objs.size+1)) (s.heap.objs.size+1) s H fp) [] (bL is σ) (cy H s.heap.objs.size (.lst []))
   { s with heap:=pushCells ((s.heap.push { cls:=.type "list",data:=.seq ([]:List Value).toArray }).push { cls:=.type "dict",data:=.dict #[] }) scope.names,toks:=t' }:=by
 generalize hC:s.heap.objs.size+1=C
 have hDn:H s.heap.objs.size=none:=I.hok.fresh (KW _)
 have s1:(s.heap.push { cls:=.type "list",data:=.seq ([]:List Value).toArray }).objs.size=C:=by rw [Heap.size_push,hC]
 have kept:∀b o,s.heap.get? b=some o->(pushCells ((s.heap.push { cls:=.type "list",data:=.seq ([]:List Value).toArray }).push { cls:=.type "dict",data:=.dict #[] }) scope.names).get? b=some o:=
  fun b o e=>pushCells_keeps _ _ b o (KU _ (KU _ e))
 have cellsL:∀x c,(bt X scope C).lookup x=some c->((x,NameKind.cell)∈scope.names/\C+1<=c)\/X.env.cells.lookup x=some c:=fun x c e=>by
  rcases DG e with q | q
  ·exact .inl q
  ·exact .inr (I.blkOld S q)
 have oldLt:∀x c,X.env.cells.lookup x=some c->c<s.heap.objs.size:=fun x c e=>by
  obtain ⟨v,q⟩:=I.cell x c e;exact q.lt
 have cok:CellsOk (pushCells ((s.heap.push { cls:=.type "list",data:=.seq ([]:List Value).toArray }).push { cls:=.type "dict",data:=.dict #[] }) scope.names) (C+1)
   (cellsFrom (C+1) scope.names []):=by
  have:=cellsFrom_ok scope.names ((s.heap.push { cls:=.type "list",data:=.seq ([]:List Value).toArray }).push { cls:=.type "dict",data:=.dict #[] }) (C+1) [] ⟨fun _ _ hm=>(nomatch hm),List.Pairwise.nil⟩ (by rw [Heap.size_push,s1];exact KW _)
  rw [Heap.size_push,s1] at this;exact this
 have lt1:∀{b:Nat},b<s.heap.objs.size->b≠C:=fun {b} h e=>by subst e;rw [<-hC] at h;exact absurd (Nat.lt_of_succ_lt h) (Nat.lt_irrefl _)
 have hDle:s.heap.objs.size<=C:=by rw [<-hC];exact Nat.le_succ _
 have cellAt:∀x c,(bt X scope C).lookup x=some c->(C<c/\(pushCells ((s.heap.push { cls:=.type "list",data:=.seq ([]:List Value).toArray }).push { cls:=.type "dict",data:=.dict #[] }) scope.names).IsCell c none)\/X.env.cells.lookup x=some c:=fun x c e=>by
  rcases cellsL x c e with ⟨q1,q2⟩ | q
  ·exact .inl ⟨q2,(cok.empty x c (PySem.mem_of_lookup (Gq q1 e))).1⟩
  ·exact .inr q
 refine ⟨⟨I.ok.mod,S.kind,I.ok.glob,I.ok.blt,hDle,?_,?_,?_,I.ok.hd,I.ok.frames,.inl rfl,?_,I.bs,Nat.le_trans I.ok.bsz I.sz,?_,?_,I.stack,I.stkFree⟩,rfl,I.bare,?_,?_,?_,?_,?_,fun p hp=>absurd (show p∈([]:List (Addr×Obj)) from hp) (by simp),?_,(zk _ _).trans I.len⟩
 ·-- inj
  intro x y c hx hy;refine Iy (fun z d q=>?_) (fun a b d q q'=>I.ok.inj a b d (I.blkOld S q) (I.blkOld S q')) hx hy
  exact Nat.lt_succ_of_lt (Nat.lt_of_lt_of_le (oldLt z d (I.blkOld S q)) hDle)
 ·-- has
  intro x hx;have q:((bt X scope C).lookup x).isSome=true:=by
   refine Gp ?_
   have hx:(relabel scope X.env).names.lookup x=some .cell\/(relabel scope X.env).names.lookup x=some .free:=hx
   rcases hx with hx | hx
   ·rcases Dd hx with z | ⟨z,_⟩
    ·exact .inl z
    ·exact .inr (De (.inl z))
   ·rcases Dd hx with z | ⟨z,_⟩
    ·exact .inr (De (.inl z))
    ·exact .inr (De (.inl z))
  exact Option.isSome_iff_exists.mp q
 ·-- cab
  intro x c hx e;have hx:(scope.names.any fun y=>y.1==x&&y.2==NameKind.cell)=true:=hx
  obtain ⟨y,hy,hz⟩:=List.any_eq_true.mp hx;simp only [Bool.and_eq_true,beq_iff_eq] at hz
  have hm:(x,NameKind.cell)∈scope.names:=by rw [<-hz.1,<-hz.2];exact hy
  rcases DG e with ⟨_,q⟩ | q
  ·exact Nat.le_trans hDle (Nat.le_of_succ_le q)
  ·rcases HQ q with z | z
   ·exact absurd hm (S.one x z)
   ·cases z
 ·-- exf
  intro b hb;obtain ⟨f0,f1,f2,f3,f4,f5⟩:=hf b hb;refine ⟨lt1 (hfs b hb),fun x c e z=>?_⟩
  rcases cellsL x c e with ⟨_,q⟩ | q
  ·subst z
   exact absurd (Nat.lt_of_lt_of_le (hfs _ hb) hDle) (Nat.not_lt.mpr (Nat.le_of_succ_le q))
  ·exact f4 x c q z
 ·-- noex
  intro b o e hb;obtain ⟨f0,f1,f2,f3,f4,f5⟩:=hf b hb;rcases f3 with z | z
  ·exact I.ok.noex b o e z
  ·exact absurd (Nat.lt_of_lt_of_le (Heap.lt_size e) (Nat.le_trans I.ok.bsz z)) (Nat.lt_irrefl _)
 ·-- exfs
  intro b hb z;obtain ⟨f0,f1,f2,f3,f4,f5⟩:=hf b hb;rcases KL (I.stkSub b z) with e | e
  ·exact f1 e
  ·exact f2 e
 ·-- base
  exact Un.laid kept (KW _) hDn
 ·-- loc
  refine ⟨fun _=>none,?_,fun i x v e1 e2 e3=>?_⟩
  ·have:=(Heap.Ns.new (s.heap.push { cls:=.type "list",data:=.seq ([]:List Value).toArray }) (.type "dict")).keeps (pushCells_keeps scope.names _)
   rw [s1] at this;exact this
  ·obtain ⟨hni,e2'⟩:=F9 e2
   obtain ⟨m,hn,hl⟩:=id I.loc;have hfree:(x,NameKind.free)∈scope.names:=by
    have e3:(relabel scope X.env).names.lookup x=some .local\/(relabel scope X.env).names.lookup x=some .cell\/(relabel scope X.env).names.lookup x=some .free:=e3
    rcases e3 with z | z | z
    ·rcases Dd z with y | ⟨y,_⟩
     ·exact absurd (S.own i x e1 (.inl y)) hni
     ·exact y
    ·rcases Dd z with y | ⟨y,_⟩
     ·exact absurd (S.own i x e1 (.inr y)) hni
     ·exact y
    ·rcases Dd z with y | ⟨y,_⟩
     ·exact y
     ·exact y
   have hk:=S.free x hfree
   obtain ⟨u,r,l⟩:=hl i x v e1 e2' (.inr hk)
   refine ⟨u,r,?_⟩
   rcases l with ⟨k,_⟩ | ⟨k,c,e,z⟩
   ·have k:X.env.scope.names.lookup x=some .local:=k
    rcases hk with q | q<;>(rw [q] at k;cases k)
   ·refine .inr ⟨?_,c,?_,z.keeps kept⟩
    ·have e3:(relabel scope X.env).names.lookup x=some .local\/(relabel scope X.env).names.lookup x=some .cell\/(relabel scope X.env).names.lookup x=some .free:=e3
     rcases e3 with y | y | y
     ·rcases Dd y with y' | ⟨_,y'⟩
      ·exact absurd (S.own i x e1 (.inl y')) hni
      ·cases y'
     ·exact .inl y
     ·exact .inr y
    ·have q:=De (env:=X.env) (acc:=[]) (.inl hfree)
     obtain ⟨c',hc'⟩:=Option.isSome_iff_exists.mp q;have:=I.blkOld S hc'
     rw [e] at this
     cases this;show (bt X scope C).lookup x=some c
     unfold bt;rw [Gn (S.one x hfree)];exact hc'
 ·-- cell
  intro x c e;rcases cellAt x c e with ⟨_,q⟩ | q
  ·exact ⟨_,q⟩
  ·obtain ⟨v,z⟩:=I.cell x c q
   exact ⟨v,z.keeps kept⟩
 ·-- free
  show cy H s.heap.objs.size (.lst []) C=none
  rw [gz (by rw [<-hC];exact Nat.ne_of_gt (Nat.lt_succ_self _))]
  exact I.hok.fresh hDle
 ·-- freeC
  intro x c e;show cy H s.heap.objs.size (.lst []) c=none
  rcases cellAt x c e with ⟨q,_⟩ | q
  ·have hc:s.heap.objs.size<c:=Nat.lt_of_le_of_lt hDle q
   rw [gz (Nat.ne_of_gt hc)];exact I.hok.fresh (Nat.le_of_lt hc)
  ·rw [gz (Nat.ne_of_lt (oldLt x c q))]
   exact I.freeC x c q
 ·-- hok
  exact I.hok.laid kept (KW _) ⟨Nat.zero_le _,[],0,.nil,pushCells_keeps _ _ _ _ (KU _ (Heap.get?_push_size _ rfl))⟩
end
section
variable {M:Model} {A:Around} {E:Value->Shared->Prop} {s:Shared}
theorem ki {scope:Scope} {globals:Addr} {cl:List (Str×Addr)} {qual:Str} {env:Env} {Q:Env->Shared->Prop}
  (hQ:Q (newEnv scope s.heap.objs.size globals (cellsFrom (s.heap.objs.size+1) scope.names cl) qual none .none (some env) builtinsNs) { s with heap:=pushCells (s.heap.push { cls:=.type "dict",data:=.dict #[] }) scope.names }) :
  wpAny M A (newFunctionEnv scope globals cl [] qual none .none (some env)) Q E s:=by
 simp only [newFunctionEnv,Option.isSome_some,if_true]
 refine KR (wpAny_alloc ?_)
 refine KR (wpAny_layCells _ (fun name kind cells=>by cases hkc:kind==NameKind.cell<;>simp [hkc]) _ _ _ _ ?_)
 rw [show ({ s with heap:=s.heap.push { cls:=.type "dict",data:=.dict #[] } }:Shared).heap.objs.size=s.heap.objs.size+1 from Heap.size_push ..]
 rw [forIn_nil];exact KR (KS (KS hQ))
end
noncomputable def PF (X:Cx) (ifs:List Expr) (t:TT):Prop:=
 ∀(pins:List (Addr×Obj)) (s:Shared) (σ:St) (H:Hp) (Q:Bool->Hp->Prop),Inv X pins σ H s->t σ H Q ->
  wpAny (model X.prog X.w) X.A (forIn ifs true fun c r=>if r=true then do let ok <-isTrue c X.env (eval c X.env);pure (ForInStep.yield ok) else pure (ForInStep.yield r)) (TP X pins σ Q) X.xe s
noncomputable def DQ:TT:=fun _ H Q=>Q true H
theorem By {X:Cx}:PF X [] DQ:=fun pins s σ H Q I h=>wpAny_tests_nil ⟨H,I,h⟩
theorem Bx {X:Cx} {c:Expr} {t:TT} (h:PT X c t):PF X [c] t:=fun pins s σ H Q I q=>wpAny_tests_one (h pins s σ H Q I q)
noncomputable def mJ (is:List Nat) (wi:TI) (g:TG) (tc:TT) (te:TE):TE:=fun σ H Q=>wi σ H fun J H1=>∀D,H1 D=none->∃W:Nat->Nat->List V->Hp->Prop,(∃m,W 0 m [] (cy H1 D (.lst [])))/\∀k m ys H,W k m ys H ->
 H D=some (.lst ys)/\((J.stop k H/\Q (.ref D) H)\/(J.go k H/\ys.length<sizeLine/\∀x H',J.yld k H x H'->g x (bL is σ) H' fun σ2 H2=>Ks (bL is σ) σ2/\tc σ2 H2 fun b H3=>
  if b=true then te σ2 H3 fun v H4=>H4 D=some (.lst ys)/\∃m',m'<m/\W (k+1) m' (ys++[v]) (cy H4 D (.lst (ys++[v]))) else ∃m',m'<m/\W (k+1) m' ys H3))
section
variable {X:Cx} {scope:Scope} {is:List Nat} {tg iter elt:Expr} {ifs:List Expr} {wi:TI} {g:TG} {tc:TT} {te:TE} {pos:Pos}
theorem lh {pins:List (Addr×Obj)} {s:Shared} {σ:St} {H:Hp} {Q:VK} {RR:Value->Addr->Result->Shared->Prop} (S:eB X.N is X.env.scope scope) (hcalm:X.calm=true) (hi:PI X tg iter wi)
  (hg:∀cells C s₀ H₀ ex,PG (blk X scope cells C s₀ H₀ ex) tg g) (hc:∀cells C s₀ H₀ ex,PF (blk X scope cells C s₀ H₀ ex) ifs tc) (he:∀cells C s₀ H₀ ex,PE (blk X scope cells C s₀ H₀ ex) elt te)
  (I:Inv X pins σ H s) (h:mJ is wi g tc te σ H Q)
  (hRR:∀D C s' H' m,Inv X pins σ H' s'->s'.heap.Ns C m->Q (.ref D) H'->H' C=none->C≠X.env.locals->X.s₀.heap.objs.size<=C->(∀x c,X.env.cells.lookup x=some c->c≠C)->(∀p∈X.pn++pins,p.1≠C)->RR (.ref D) C (.ok .next) s') :
  wpAny (model X.prog X.w) X.A (eval iter X.env) (fun x s₁=>wpAny (model X.prog X.w) X.A (pyIter x) (fun it s₂=>wpAny (model X.prog X.w) X.A (newList []) (fun acc s₃=>
   wpAny (model X.prog X.w) X.A (newFunctionEnv scope X.env.globals (dv X.env scope.names []) [] X.env.qual none .none (some X.env)) (fun cenv s₄=>
    codeAny (model X.prog X.w) X.A (.compStart (.ListComp elt [⟨tg,iter,ifs,0⟩] scope pos) 0 it acc { cenv with scope:=relabel scope X.env }) (RR acc cenv.locals) s₄) X.xe s₃) X.xe s₂) X.xe s₁) X.xe s:=by
 refine b6 (hi pins s σ H _ I h) fun v s1 h1=>b6 h1 fun itv s2 h2=>?_
 obtain ⟨it,fp,tn,J,H2,e,I2,T,st2,f2,hW⟩:=h2;subst e;obtain ⟨W,⟨m0,w0⟩,turn⟩:=hW s2.heap.objs.size (I2.hok.fresh (KW _));refine wpAny_newObj_type (ki ?_)
 have s1:(s2.heap.push { cls:=.type "list",dict:=none,data:=.seq ([]:List Value).toArray }).objs.size=s2.heap.objs.size+1:=by rw [Heap.size_push]
 dsimp only;rw [s1];have hfs:∀b∈fp,b<s2.heap.objs.size:=fun b hb=>by
  obtain ⟨o,e,_⟩:=T.obj 0 _ st2 b hb;exact Heap.lt_size e
 have I4:=I2.block (t':=s2.toks) S f2 hfs
 generalize hCC:s2.heap.objs.size+1=C at I4 ⊢
 have hDC:s2.heap.objs.size<C:=by rw [<-hCC];exact Nat.lt_succ_self _
 have Hg:=hg (bt X scope C) C s2 H2 fp
 have Hc:=hc (bt X scope C) C s2 H2 fp
 have He:=he (bt X scope C) C s2 H2 fp
 have Ha:=kN (X:=blk X scope (bt X scope C) C s2 H2 fp)
 have hYcell:∀x c,(blk X scope (bt X scope C) C s2 H2 fp).env.cells.lookup x=some c->s2.heap.objs.size<=c\/X.env.cells.lookup x=some c:=fun x c e=>by
  have e:(cellsFrom (C+1) scope.names (dv X.env scope.names [])).lookup x=some c:=e
  rcases DG e with ⟨_,q⟩ | q
  ·exact .inl (Nat.le_trans (Nat.le_of_lt hDC) (Nat.le_of_succ_le q))
  ·exact .inr (I2.blkOld S q)
 have FY:∀{H':Hp},(∀b∈fp,H' b=none)->∀b∈fp,kz (blk X scope (bt X scope C) C s2 H2 fp) [] H' b:=fun {H'} hn b hb=>by
  obtain ⟨f0,f1,f3,f4,f5,f6⟩:=f2 b hb;refine ⟨hn b hb,Nat.ne_of_lt (Nat.lt_trans (hfs b hb) hDC),fun z=>?_,.inl hb,fun x c e z=>?_,fun p hp=>absurd (show p∈([]:List (Addr×Obj)) from hp) (by simp)⟩
  ·rcases KL (I2.stkSub b z) with e | e
   ·exact f1 e
   ·exact f3 e
  ·rcases hYcell x c e with q | q
   ·rw [z] at q
    exact absurd (Nat.lt_of_lt_of_le (hfs b hb) q) (Nat.lt_irrefl _)
   ·exact f5 x c q z
 have hCx:∀x c,X.env.cells.lookup x=some c->c≠C:=fun x c e z=>by
  obtain ⟨v,q⟩:=I2.cell x c e;have:=q.lt
  rw [z] at this;exact absurd (Nat.lt_trans this hDC) (Nat.lt_irrefl _)
 have hCp:∀p∈X.pn++pins,p.1≠C:=fun p hp z=>by
  have:=Heap.lt_size (I2.pin p hp).1
  rw [z] at this;exact absurd (Nat.lt_trans this hDC) (Nat.lt_irrefl _)
 have out:∀{σ':St} {H':Hp} {s':Shared},Inv (blk X scope (bt X scope C) C s2 H2 fp) [] σ' H' s'->Inv X pins σ H' s':=fun {σ' H' s'} J=>
  I2.call' (ch:=fp) J.os J.base J.hok J.bare fun b hb=>by
   obtain ⟨f0,f1,f3,f4,f5,f6⟩:=f2 b hb;exact ⟨f4,f1,f5,f6⟩
 have loop:∀s₃:Shared,s₃={ s2 with heap:=pushCells ((s2.heap.push { cls:=.type "list",data:=.seq ([]:List Value).toArray }).push { cls:=.type "dict",data:=.dict #[] }) scope.names } ->
   codeAny (model X.prog X.w) X.A (.compLoop (.ListComp elt [⟨tg,iter,ifs,0⟩] scope pos) 0 (.ref it) (.ref s2.heap.objs.size) (blk X scope (bt X scope C) C s2 H2 fp).env) (RR (.ref s2.heap.objs.size) C) s₃:=by
  rintro s₃ rfl
  refine mi (fun n s'=>∃k ys H',Inv (blk X scope (bt X scope C) C s2 H2 fp) [] (bL is σ) H' s'/\tn k s'.heap/\(∀b∈fp,H' b=none)/\W k n ys H') ?_ m0
   ⟨0,[],_,I4,T.keep 0 _ _ st2 fun b _ o e=>pushCells_keeps _ _ b o (KU _ (KU _ e)),fun b hb=>by rw [gz (Nat.ne_of_lt (hfs b hb))];exact (f2 b hb).1,w0⟩
  rintro n s3 ⟨k,ys,H3,I3,st3,fr3,w3⟩
  obtain ⟨hD3,hcase⟩:=turn k n ys H3 w3;rcases hcase with ⟨stop,qn⟩ | ⟨go,hlen,step⟩
  ·refine b6 (T.done (blk X scope (bt X scope C) C s2 H2 fp) rfl rfl rfl hcalm k [] s3 (bL is σ) H3 yZ I3 (FY fr3) st3 stop) fun r s4 ⟨hr,I4⟩=>?_
   subst hr;obtain ⟨m,hn,_⟩:=id I4.loc;exact hRR _ C s4 H3 m (out I4) hn qn I4.free (fun z=>Nat.lt_irrefl _ (Nat.lt_trans (Nat.lt_of_lt_of_eq hDC z) I2.lt)) (Nat.le_trans I2.sz (Nat.le_of_lt hDC)) hCx hCp
  ·refine b6 (T.item (blk X scope (bt X scope C) C s2 H2 fp) rfl rfl rfl hcalm k [] s3 (bL is σ) H3 yZ I3 (FY fr3) st3 go) fun r s4 ⟨u,hr,h4⟩=>?_
   subst hr;refine b6 h4 fun _ s5 ⟨x,H5,I5,r5,y5,st5,fr5⟩=>?_
   have I5':=I5.pinned (FY fr5) (T.obj _ _ st5)
   refine b6 (Hg _ s5 (bL is σ) H5 x u _ I5' r5 (step x H5 y5)) fun _ s6 ⟨σ6,H6,I6,le6,q6⟩=>?_
   refine b6 (Hc _ s6 σ6 H6 _ I6 q6) fun ok s7 ⟨H7,I7,q7⟩=>?_
   have again:∀{H8:Hp} {s8:Shared} {ys':List V},Inv (blk X scope (bt X scope C) C s2 H2 fp) ([]++je fp s5.heap) σ6 H8 s8->(∃m',m'<n/\W (k+1) m' ys' H8) ->
     ∃m,m<n/\∃k ys H',Inv (blk X scope (bt X scope C) C s2 H2 fp) [] (bL is σ) H' s8/\tn k s8.heap/\(∀b∈fp,H' b=none)/\W k m ys H':=fun {H8 s8 ys'} I8 ⟨m',hm,w8⟩=>by
    refine ⟨m',hm,k+1,ys',H8,(I8.weak le6.1.symm le6.2).unpinned,T.keep _ _ _ st5 fun b hb o e=>(I8.pin (b,o) (KH _ (KH _ (Gk hb e)))).1,fun b hb=>?_,w8⟩
    obtain ⟨o,e,d⟩:=T.obj _ _ st5 b hb;exact (I8.pin (b,o) (KH _ (KH _ (Gk hb e)))).2.1
   cases ok with
   | false=>
    rw [if_neg Bool.false_ne_true] at q7;exact again I7 q7
   | true=>
    rw [if_pos rfl] at q7;refine b6 (He _ s7 σ6 H7 _ I7 q7) fun y s8 ⟨v8,H8,I8,r8,q8⟩=>?_
    obtain ⟨hD8,q8⟩:=q8;refine b6 (Ha _ s8 σ6 H8 (.ref s2.heap.objs.size) [v8] (.ref s2.heap.objs.size) [y] (fun _ H9=>∃m',m'<n/\W (k+1) m' (ys++[v8]) H9) I8 rfl (.cons r8 .nil) ⟨_,ys,v8,rfl,rfl,hD8,hlen,q8⟩) fun _ s9 ⟨_,H9,I9,_,q9⟩=>?_
    exact again I9 q9
 exact codeAny_compStart_list (loop _ rfl) (T.self X.A 0 _ _ _ (T.keep 0 _ _ st2 fun b _ o e=>pushCells_keeps _ _ b o (KU _ (KU _ e))) (loop _ rfl))
theorem qw (S:eB X.N is X.env.scope scope) (hcalm:X.calm=true) (hi:PI X tg iter wi)
  (hg:∀cells C s₀ H₀ ex,PG (blk X scope cells C s₀ H₀ ex) tg g) (hc:∀cells C s₀ H₀ ex,PF (blk X scope cells C s₀ H₀ ex) ifs tc) (he:∀cells C s₀ H₀ ex,PE (blk X scope cells C s₀ H₀ ex) elt te)
  (hs:∀x,foldedSetIterable iter X.env x=pure x:=by intro _;rfl):PE X (.ListComp elt [⟨tg,iter,ifs,0⟩] scope pos) (mJ is wi g tc te):=by
 intro pins s σ H Q I h;rw [eval_ListComp];refine wpAny_comprehension_free (use:=none) rfl hs (gZ (I.freeCells S)) S.kind S.loc (lh (RR:=fun acc C=>compPost (model X.prog X.w) X.A X.xe none (EP X pins σ Q) acc C) S hcalm hi hg hc he I h ?_)
 intro D C s' H' m I' hn q n1 n2 n3 n4 n5
 refine ⟨m,hn,fun h' hs'=>?_⟩
 exact ⟨.ref D,H',I'.turned (t':=s'.toks) (fun b o hb e=>(hs'.2 b hb).trans e) n1 n2 (.inr n3) n4 n5,rfl,q⟩
theorem pb {i:Nat} {y:Str} {pos' spos:Pos} (hN:X.N.Nodup) (hy:X.N[i]?=some y) (hl:X.env.scope.names.lookup y=some .local) (S:eB X.N is X.env.scope scope) (hcalm:X.calm=true) (hi:PI X tg iter wi)
  (hg:∀cells C s₀ H₀ ex,PG (blk X scope cells C s₀ H₀ ex) tg g) (hc:∀cells C s₀ H₀ ex,PF (blk X scope cells C s₀ H₀ ex) ifs tc) (he:∀cells C s₀ H₀ ex,PE (blk X scope cells C s₀ H₀ ex) elt te)
  (hsw:swapsWith (.ListComp elt [⟨tg,iter,ifs,0⟩] scope pos) (some (.Name y pos')) spos.line X.env=pure true)
  (hs:∀x,foldedSetIterable iter X.env x=pure x:=by intro _;rfl):PS X (.Assign [.Name y pos'] (.ListComp elt [⟨tg,iter,ifs,0⟩] scope pos) spos) (fun D σ H=>mJ is wi g tc te σ H fun v H'=>D.nx (σ.set i (some v)) H'):=by
 intro pins s σ H Ds I h;rw [exec_Assign_Name_used _ _ _ _ hsw];refine KR (wpAny_standAt (KR ?_))
 show wpAny _ X.A (do let _ <-comprehension (.ListComp elt [⟨tg,iter,ifs,0⟩] scope pos) scope X.env _ (newList []) false (eval iter X.env) (some (assign (.Name y pos') X.env))) _ _ s
 refine KR (wpAny_mono (wpAny_comprehension_free (use:=some (assign (.Name y pos') X.env)) (Q:=fun _ s'=>SP X pins Ds .next s') rfl hs (gZ (I.freeCells S)) S.kind S.loc
  (lh (RR:=fun acc C=>compPost (model X.prog X.w) X.A X.xe (some (assign (.Name y pos') X.env)) (fun _ s'=>SP X pins Ds .next s') acc C) S hcalm hi hg hc he I h ?_)) (fun _ s' hq=>KS (KS hq)) fun _ _ e=>e)
 intro D C s' H' m I' hn q n1 n2 n3 n4 n5
 show wpAny _ X.A (assign (.Name y pos') X.env (.ref D)) _ _ _
 refine wpAny_assign_Name (kJ (v:=.ref D) I' hN hy (.inl hl) rfl (fun s'' I'' hch=>?_) (.inr hl))
 obtain ⟨a,hsb,ha⟩:=hch;have hCa:C≠a:=by
  rcases ha with e | e
  ·rw [e];exact n2
  ·exact (n4 y a e).symm
 refine ⟨m,hn.sameBut hsb hCa,fun h' hs'=>?_⟩
 exact ⟨_,H',I''.turned (t':=s''.toks) (fun b o hb e=>(hs'.2 b hb).trans e) n1 n2 (.inr n3) n4 n5,q⟩
end
end L2
namespace T
open PySem PySem.Spec L2
open PyProof.Rows hiding St
abbrev D:=PyData
inductive Rep (K:Fg) (H:Hp):V->D->Prop where
 | non:Rep K H .non .none
 | bl (b:Bool):Rep K H (.bl b) (.bool b)
 | int (i:Int):Rep K H (.int i) (.int i)
 | str (x:Str):Rep K H (.str x) (.str x)
 | lst {p:Addr} {vs:List V} {ds:List D}:SqL K H p vs->vs.length=ds.length->(∀(i:Nat) v d,vs[i]?=some v->ds[i]?=some d->Rep K H v d)->Rep K H (.ref p) (.list ds)
 | tup {p:Addr} {vs:List V} {ds:List D}:SqT K H p vs->vs.length=ds.length->(∀(i:Nat) v d,vs[i]?=some v->ds[i]?=some d->Rep K H v d)->Rep K H (.ref p) (.tuple ds)
theorem gm {K:Fg} {H H':Hp} {a:Addr} {xs:List V} (e:Same H H') (h:SqT K H a xs):SqT K H' a xs:=by
 rcases h with (h | ⟨o,h⟩) | h
 ·exact .inl (.inl (e _ _ h))
 ·exact .inl (.inr ⟨o,e _ _ h⟩)
 ·exact .inr h
theorem Rep.mono {K:Fg} {H H':Hp} {v:V} {d:D} (e:Same H H') (h:Rep K H v d):Rep K H' v d:=by
 induction h with
 | non=>exact .non
 | bl b=>exact .bl b
 | int i=>exact .int i
 | str x=>exact .str x
 | lst hs hl _ ih=>exact .lst (e.seq hs) hl ih
 | tup hs hl _ ih=>exact .tup (gm e hs) hl ih
noncomputable def Reps (K:Fg) (H:Hp) (vs:List V) (ds:List D):Prop:=vs.length=ds.length/\∀(i:Nat) v d,vs[i]?=some v->ds[i]?=some d->Rep K H v d
noncomputable def dD (H:Hp) (O:List Addr):Hp:=fun a=>if a∈O then none else H a
theorem hid_le {H:Hp} {O:List Addr}:Same (dD H O) H:=fun b o h=>by
 unfold dD at h;split at h
 ·cases h
 ·exact h
theorem Dr {H:Hp} {O:List Addr} {a:Addr} {o:HO} (h:H a=some o) (n:a∉O):dD H O a=some o:=by
 unfold dD;rw [if_neg n];exact h
theorem we {H H':Hp} {O O':List Addr} (e:Same H H') (h:∀a∈O',a∈O\/H a=none):Same (dD H O) (dD H' O'):=fun b o q=>by
 unfold dD at q ⊢
 split at q
 ·cases q
 ·rename_i hn
  have hb:b∉O':=fun z=>(h b z).elim hn fun z=>by rw [z] at q;cases q
  rw [if_neg hb];exact e b o q
theorem Ht {H:Hp} {O:List Addr} {p:Addr} {o:HO} (h:p∈O):dD (cy H p o) O=dD H O:=by
 funext b
 unfold dD;split
 ·rfl
 ·rename_i hb
  exact gz fun e=>hb (e▸h)
theorem Hs {H:Hp}:dD H []=H:=by
 funext b;unfold dD;simp
theorem lD {H:Hp} {p:Addr} {o:HO} (h:H p=none):Same H (cy H p o):=fun b u e=>by
 rw [gz (wq e h)];exact e
inductive Sh where
 | view | leaf | lst (s:Sh) | tup (ss:List Sh)
noncomputable def Sh.isView:Sh->Bool
 | .view=>true
 | _=>false
inductive Own (K:Fg) (O:List Addr) (H:Hp):Sh->List Addr->V->D->Prop where
 | view {v d}:Rep K H v d->Own K O H .view [] v d
 | leaf {v d}:Rep K (dD H O) v d->Own K O H .leaf [] v d
 | lst {s:Sh} {p:Addr} {vs:List V} {ds:List D} {Fs:List (List Addr)}:s.isView=false->H p=some (.lst vs)->vs.length=ds.length->Fs.length=ds.length->(p::Fs.flatten).Nodup ->
   (∀(i:Nat) v d F,vs[i]?=some v->ds[i]?=some d->Fs[i]?=some F->Own K O H s F v d)->Own K O H (.lst s) (p::Fs.flatten) (.ref p) (.list ds)
 | tup {ss:List Sh} {p:Addr} {vs:List V} {ds:List D} {Fs:List (List Addr)}:(∀s∈ss,s.isView=false)->H p=some (.tup vs)->p∉O->vs.length=ds.length->Fs.length=ds.length->ss.length=ds.length->Fs.flatten.Nodup ->
   (∀(i:Nat) v d F s,vs[i]?=some v->ds[i]?=some d->Fs[i]?=some F->ss[i]?=some s->Own K O H s F v d)->Own K O H (.tup ss) Fs.flatten (.ref p) (.tuple ds)
theorem Own.mono {K:Fg} {O O':List Addr} {H H':Hp} {s:Sh} {G:List Addr} {v:V} {d:D} (h:Own K O H s G v d) (e:Same H H') (hO:∀a∈O',a∈O\/H a=none):Own K O' H' s G v d:=by
 induction h with
 | view r=>exact .view (r.mono e)
 | leaf r=>exact .leaf (r.mono (we e hO))
 | lst hv hp hl hf nd _ ih=>exact .lst hv (e _ _ hp) hl hf nd fun i v d F h1 h2 h3=>ih i v d F h1 h2 h3
 | tup hv hp hn hl hf hs nd _ ih=>exact .tup hv (e _ _ hp) (fun z=>(hO _ z).elim hn fun z=>by rw [z] at hp;cases hp) hl hf hs nd fun i v d F s h1 h2 h3 h4=>ih i v d F s h1 h2 h3 h4
theorem Own.rep {K:Fg} {O:List Addr} {H:Hp} {s:Sh} {G:List Addr} {v:V} {d:D} (h:Own K O H s G v d):Rep K H v d:=by
 induction h with
 | view r=>exact r
 | leaf r=>exact r.mono hid_le
 | lst hv hp hl hf _ q ih=>
  refine .lst (.of hp) hl fun i v d h1 h2=>?_
  rename_i Fs _;obtain ⟨F,hF⟩:∃F,Fs[i]?=some F:=by
   have:=(KQ h2).1
   exact ⟨Fs[i]'(by omega),KM _⟩
  exact ih i v d F h1 h2 hF
 | tup hv hp hn hl hf hs _ q ih=>
  refine .tup (.of hp) hl fun i v d h1 h2=>?_
  rename_i ss _ _ _ Fs _;have hi:=(KQ h2).1
  exact ih i v d (Fs[i]'(by omega)) (ss[i]'(by omega)) h1 h2 (KM _) (KM _)
theorem oH {Fs:List (List Addr)} {i:Nat} {F:List Addr} {a:Addr} (h:Fs[i]?=some F) (ha:a∈F):a∈Fs.flatten:=List.mem_flatten.mpr ⟨F,mem_of_getElem? h,ha⟩
theorem Own.freeze {K:Fg} {O O':List Addr} {H:Hp} {s:Sh} {G:List Addr} {v:V} {d:D} (h:Own K O H s G v d) (hs:s.isView=false) (h1:∀a∈O',a∈O) (h2:∀a∈G,a∉O'):Rep K (dD H O') v d:=by
 induction h with
 | view r=>cases hs
 | leaf r=>exact r.mono (we (Same.refl _) fun a z=>.inl (h1 a z))
 | lst hv hp hl hf _ q ih=>
  refine .lst (.of (Dr hp (h2 _ mem_cons_self))) hl fun i v d e1 e2=>?_
  rename_i Fs _;obtain ⟨F,hF⟩:∃F,Fs[i]?=some F:=by
   have:=(KQ e2).1
   exact ⟨Fs[i]'(by omega),KM _⟩
  exact ih i v d F e1 e2 hF hv fun a ha=>h2 a (KO _ (oH hF ha))
 | tup hv hp hn hl hf hs' _ q ih=>
  refine .tup (.of (Dr hp fun z=>hn (h1 _ z))) hl fun i v d e1 e2=>?_
  rename_i ss _ _ _ Fs _;have hi:=(KQ e2).1
  have e3:Fs[i]?=some (Fs[i]'(by omega)):=KM _
  exact ih i v d _ (ss[i]'(by omega)) e1 e2 e3 (KM _) (hv _ (getElem_mem _)) fun a ha=>h2 a (oH e3 ha)
theorem Own.mut {K:Fg} {O:List Addr} {H:Hp} {s:Sh} {G:List Addr} {v:V} {d:D} {p:Addr} {o:HO} {xs:List V} (h:Own K O H s G v d) (hs:s.isView=false) (hp:p∈O) (hg:p∉G) (hl:H p=some (.lst xs)):Own K O (cy H p o) s G v d:=by
 induction h with
 | view r=>cases hs
 | leaf r=>refine .leaf ?_;rw [Ht hp];exact r
 | lst hv hq hl' hf nd q ih=>
  refine .lst hv ?_ hl' hf nd fun i v d F e1 e2 e3=>ih i v d F e1 e2 e3 hv fun z=>hg (KO _ (oH e3 z))
  rw [gz (fun z=>hg (by rw [<-z];exact mem_cons_self))]
  exact hq
 | tup hv hq hn hl' hf hs' nd q ih=>
  refine .tup hv ?_ hn hl' hf hs' nd fun i v d F s e1 e2 e3 e4=>ih i v d F s e1 e2 e3 e4 (hv _ (mem_of_getElem? e4)) fun z=>hg (oH e3 z)
  rw [gz (fun z=>by rw [z,hl] at hq;cases hq)]
  exact hq
inductive Sc:V->D->Prop where
 | non:Sc .non .none
 | bl (b:Bool):Sc (.bl b) (.bool b)
 | int (i:Int):Sc (.int i) (.int i)
 | str (x:Str):Sc (.str x) (.str x)
theorem Sc.rep {K:Fg} {H:Hp} {v:V} {d:D} (h:Sc v d):Rep K H v d:=by cases h<;>constructor
noncomputable def bP:D->Bool
 | .list _=>false
 | .tuple _=>false
 | .dict _=>false
 | _=>true
theorem Rep.sc {K:Fg} {H:Hp} {v:V} {d:D} (h:Rep K H v d) (s:bP d=true):Sc v d:=by
 cases h with
 | non=>exact .non
 | bl b=>exact .bl b
 | int i=>exact .int i
 | str x=>exact .str x
 | lst _ _ _=>cases s
 | tup _ _ _=>cases s
structure PV where
 s:Sh
 d:D
abbrev Ev:=List (Option PV)
@[simp] abbrev KZ (d:PySem.PyData):Option PV:=some ⟨.leaf,d⟩
inductive Out (α:Type) where
 | ok (a:α) (e:Ev)
 | er (c:Str) (e:Ev)
 | no
noncomputable def Out.bind {α β:Type} (x:Out α) (k:α->Ev->Out β):Out β:=match x with
 | .ok a e=>k a e
 | .er c e=>.er c e
 | .no=>.no
structure EnvOk (K:Fg) (He:Hp) (O:List Addr) (Fs:List (List Addr)) (H:Hp) (σ:St) (Γ:Ev):Prop where
 len1:σ.length=Γ.length
 len2:Fs.length=Γ.length
 same:Same He H
 nd:(O++Fs.flatten).Nodup
 inH:∀a∈O++Fs.flatten,H a≠none
 fresh:∀a∈Fs.flatten,He a=none
 slot:∀(i:Nat) (p:PV),Γ[i]?=some (some p)->p.s.isView=false/\∃v F,σ[i]?=some (some v)/\Fs[i]?=some F/\Own K (O++Fs.flatten) H p.s F v p.d
section
variable {K:Fg} {He H H':Hp} {O O' G:List Addr} {Fs:List (List Addr)} {σ:St} {Γ:Ev}
theorem EnvOk.grow (h:EnvOk K He O Fs H σ Γ) (e:Same H H'):EnvOk K He O Fs H' σ Γ:=
 ⟨h.len1,h.len2,h.same.trans e,h.nd,fun a ha z=>h.inH a ha (e.free z),h.fresh,fun i p q=>let ⟨a,v,F,b,c,d⟩:=h.slot i p q;⟨a,v,F,b,c,d.mono e fun _ z=>.inl z⟩⟩
theorem EnvOk.drop (h:EnvOk K He O Fs H σ Γ) (hs:∀a∈O',a∈O) (nd:O'.Nodup):EnvOk K He O' Fs H σ Γ:=by
 obtain ⟨n1,n2,n3⟩:=KP h.nd;refine ⟨h.len1,h.len2,h.same,List.nodup_append.mpr ⟨nd,n2,fun a ha b hb=>n3 a (hs a ha) b hb⟩,fun a ha=>h.inH a ?_,h.fresh,fun i p q=>let ⟨a,v,F,b,c,d⟩:=h.slot i p q;⟨a,v,F,b,c,d.mono (Same.refl _) fun a z=>.inl ?_⟩⟩
 ·rcases KJ ha with z | z
  ·exact KI _ (hs a z)
  ·exact KH _ z
 ·rcases KJ z with z | z
  ·exact KI _ (hs a z)
  ·exact KH _ z
theorem EnvOk.dropL (h:EnvOk K He (G++O) Fs H σ Γ):EnvOk K He O Fs H σ Γ:=h.drop (fun a z=>KH _ z) (KP (KP h.nd).1).2.1
theorem EnvOk.hide (h:EnvOk K He O Fs H σ Γ) (e:Same H H') (nd:G.Nodup) (hn:∀a∈G,H a=none) (hi:∀a∈G,H' a≠none):EnvOk K He (G++O) Fs H' σ Γ:=by
 refine ⟨h.len1,h.len2,h.same.trans e,?_,fun a ha=>?_,h.fresh,fun i p q=>let ⟨a,v,F,b,c,d⟩:=h.slot i p q;⟨a,v,F,b,c,d.mono e fun a z=>?_⟩⟩
 ·rw [append_assoc]
  exact List.nodup_append.mpr ⟨nd,h.nd,fun a ha b hb z=>h.inH b hb (by rw [<-z];exact hn a ha)⟩
 ·rw [append_assoc] at ha
  rcases KJ ha with z | z
  ·exact hi a z
  ·exact fun q=>h.inH a z (e.free q)
 ·rw [append_assoc] at z
  rcases KJ z with z | z
  ·exact .inr (hn a z)
  ·exact .inl z
end
structure Aft (K:Fg) (He:Hp) (O:List Addr) (Fs:List (List Addr)) (H:Hp) (σ:St) (Γ':Ev) (p:PV) (v:V) (H':Hp) (G:List Addr) (Fs':List (List Addr)):Prop where
 same:Same H H'
 env:EnvOk K He (G++O) Fs' H' σ Γ'
 new:∀a∈G++Fs'.flatten,a∈Fs.flatten\/H a=none
 own:Own K (G++O++Fs'.flatten) H' p.s G v p.d
abbrev XW:=Str->St->Hp->Prop
abbrev F1:=Ev->Out PV
noncomputable def tE (K:Fg) (W:XW) (f:F1):TE:=fun σ H Q=>∃He O Fs Γ,EnvOk K He O Fs H σ Γ/\match f Γ with
 | .ok p Γ'=>∀v H' G Fs',Aft K He O Fs H σ Γ' p v H' G Fs'->Q v H'
 | .er c Γ'=>∀H' Fs',Same H H'->EnvOk K He O Fs' H' σ Γ'->W c σ H'
 | .no=>False
noncomputable def Wants (K:Fg) (W:XW) (He:Hp) (O:List Addr) (Fs:List (List Addr)) (H:Hp) (σ:St) (Q:VK) (o:Out PV):Prop:=match o with
 | .ok p Γ'=>∀v H' G Fs',Aft K He O Fs H σ Γ' p v H' G Fs'->Q v H'
 | .er c Γ'=>∀H' Fs',Same H H'->EnvOk K He O Fs' H' σ Γ'->W c σ H'
 | .no=>False
section
variable {K:Fg} {W:XW} {He H:Hp} {O:List Addr} {Fs:List (List Addr)} {σ:St} {Γ Γ':Ev} {Q:VK}
theorem Wants.scal {H2:Hp} {O2:List Addr} {Fs2:List (List Addr)} {v:V} {d:D} (h:Wants K W He O Fs H σ Q (.ok ⟨.leaf,d⟩ Γ')) (s:Sc v d) (e:Same H H2) (E:EnvOk K He O2 Fs2 H2 σ Γ')
  (hO:∀a∈O,a∈O2) (nd:O.Nodup) (new:∀a∈Fs2.flatten,a∈Fs.flatten\/H a=none):Q v H2:=
 h v H2 [] Fs2 ⟨e,by rw [nil_append];exact E.drop hO nd,by rw [nil_append];exact new,.leaf s.rep⟩
theorem EnvOk.ndO (E:EnvOk K He O Fs H σ Γ):O.Nodup:=(KP E.nd).1
end
noncomputable def ba {β:Type} (f:F1) (k:PV->Ev->Out β):Ev->Out β:=fun Γ=>(f Γ).bind k
section
variable {K:Fg} {W:XW} {σ:St} {H:Hp} {Q:VK} {fa fb:F1}
theorem wa {k:PV->F1} {R:VK} (h:tE K W (ba fa k) σ H Q)
  (hk:∀He O Fs Γ1 p v H1 G Fs1,O.Nodup->Aft K He O Fs H σ Γ1 p v H1 G Fs1->Wants K W He O Fs H σ Q (k p Γ1)->R v H1):tE K W fa σ H R:=by
 obtain ⟨He,O,Fs,Γ,E,h⟩:=h;refine ⟨He,O,Fs,Γ,E,?_⟩
 unfold ba at h
 cases e:fa Γ with
 | ok p Γ1=>
  rw [e] at h;exact fun v H' G Fs' A=>hk He O Fs Γ1 p v H' G Fs' E.ndO A h
 | er c Γ1=>
  rw [e] at h;exact h
 | no=>
  rw [e] at h;exact h
theorem C1 {k:PV->PV->F1} {R:V->V->Hp->Prop} (h:tE K W (ba fa fun p=>ba fb fun q=>k p q) σ H Q)
  (hk:∀He O Fs Γ2 p q v u H1 H2 G1 G2 Fs2,O.Nodup->Same H H1->Same H1 H2->EnvOk K He (G2++(G1++O)) Fs2 H2 σ Γ2->(∀a∈G2++(G1++Fs2.flatten),a∈Fs.flatten\/H a=none) ->
   Own K (G2++(G1++O)++Fs2.flatten) H2 p.s G1 v p.d->Own K (G2++(G1++O)++Fs2.flatten) H2 q.s G2 u q.d->Wants K W He O Fs H σ Q (k p q Γ2)->R v u H2) :
  tE K W fa σ H fun v H1=>tE K W fb σ H1 fun u H2=>R v u H2:=by
 refine wa (k:=fun p=>ba fb fun q=>k p q) h fun He O Fs Γ1 p v H1 G1 Fs1 nd A1 h1=>?_
 refine ⟨He,G1++O,Fs1,Γ1,A1.env,?_⟩
 unfold ba at h1
 cases e:fb Γ1 with
 | ok q Γ2=>
  rw [e] at h1;intro u H2 G2 Fs2 A2;have new:∀a∈G2++(G1++Fs2.flatten),a∈Fs.flatten\/H a=none:=fun a ha=>by
   have up:a∈G1++Fs1.flatten->a∈Fs.flatten\/H a=none:=A1.new a
   rcases KJ ha with z | z
   ·rcases A2.new a (KI _ z) with y | y
    ·exact up (KH _ y)
    ·exact .inr (A1.same.free y)
   ·rcases KJ z with z | z
    ·exact up (KI _ z)
    ·rcases A2.new a (KH _ z) with y | y
     ·exact up (KH _ y)
     ·exact .inr (A1.same.free y)
  refine hk He O Fs Γ2 p q v u H1 H2 G1 G2 Fs2 nd A1.same A2.same A2.env new (A1.own.mono A2.same fun a ha=>?_) A2.own h1
  rcases KJ ha with z | z
  ·rcases KJ z with z | z
   ·rcases A2.new a (KI _ z) with y | y
    ·exact .inl (KH _ y)
    ·exact .inr y
   ·exact .inl (KI _ z)
  ·rcases A2.new a (KH _ z) with y | y
   ·exact .inl (KH _ y)
   ·exact .inr y
 | er c Γ2=>
  rw [e] at h1;intro H2 Fs2 hs E2;exact h1 H2 Fs2 (A1.same.trans hs) E2.dropL
 | no=>
  rw [e] at h1;exact h1
end
section
variable {X:Cx} {e:Expr}
theorem bp {t t':TE} (h:PE X e t) (i:∀σ H Q,t' σ H Q->t σ H Q):PE X e t':=fun pins s σ H Q I q=>h pins s σ H Q I (i σ H Q q)
theorem qU {t t':TT} (h:PT X e t) (i:∀σ H Q,t' σ H Q->t σ H Q):PT X e t':=fun pins s σ H Q I q=>h pins s σ H Q I (i σ H Q q)
theorem zS {t t':TT} (h:PW X e t) (i:∀σ H Q,t' σ H Q->t σ H Q):PW X e t':=fun whole pins s σ H Q I q=>h whole pins s σ H Q I (i σ H Q q)
theorem zT {es:List Expr} {t t':TA} (h:PA X es t) (i:∀σ H Q,t' σ H Q->t σ H Q):PA X es t':=fun pos pins s σ H Q I q=>h pos pins s σ H Q I (i σ H Q q)
theorem fP {st:Stmt} {t t':TS} (h:PS X st t) (i:∀D σ H,t' D σ H->t D σ H):PS X st t':=fun pins s σ H D I q=>h pins s σ H D I (i D σ H q)
theorem vW {st:List Stmt} {t t':TS} (h:PSs X st t) (i:∀D σ H,t' D σ H->t D σ H):PSs X st t':=fun pins s σ H D I q=>h pins s σ H D I (i D σ H q)
theorem Fv {es:List Expr} {t t':TT} (h:PF X es t) (i:∀σ H Q,t' σ H Q->t σ H Q):PF X es t':=fun pins s σ H Q I q=>h pins s σ H Q I (i σ H Q q)
end
theorem Iv {h:Heap}:∀{vs:List V} {its:List Value} {ds:List D},Vals vs its->vs.length=ds.length->(∀(i:Nat) v d,vs[i]?=some v->ds[i]?=some d->∀u,RelV v u->∃as,Reads h u d as)->∃as,ReadsAll h its ds as
 | _,_,[],.nil,_,_=>⟨_,.nil⟩
 | _,_,d::ds,.cons (a:=v) (b:=u) r t,hl,h=>by
  obtain ⟨as,ra⟩:=h 0 v d rfl rfl u r;obtain ⟨bs,rb⟩:=Iv t (by simpa using hl) fun i v d h1 h2=>h (i+1) v d (by simpa using h1) (by simpa using h2)
  exact ⟨_,.cons ra rb⟩
 | _,_,[],.cons _ _,hl,_=>by simp at hl
 | _,_,_::_,.nil,hl,_=>by simp at hl
theorem Rep.reads {X:Cx} {pins:List (Addr×Obj)} {σ:St} {H:Hp} {s:Shared} {x:V} {d:D} (I:Inv X pins σ H s) (r:Rep X.K H x d):∀u,RelV x u->∃as,Reads s.heap u d as:=by
 induction r with
 | non=>rintro u rfl;exact ⟨_,.none⟩
 | bl b=>rintro u rfl;exact ⟨_,.bool b⟩
 | int i=>rintro u ⟨t,rfl⟩;exact ⟨_,.int i t⟩
 | str x=>rintro u ⟨t,rfl⟩;exact ⟨_,.str x t⟩
 | lst hq hl _ ih=>
  rintro u rfl
  obtain ⟨its,rv,⟨o,n,e1,e2,e3,e4⟩,_⟩:=I.list hq;obtain ⟨as,ra⟩:=Iv rv hl ih;exact ⟨_,.list e1 e2 e4 (by simpa using ra)⟩
 | tup hq hl _ ih=>
  rintro u rfl
  obtain ⟨its,rv,⟨o,e1,e2,n,e4⟩,_⟩:=I.tuple hq;obtain ⟨as,ra⟩:=Iv rv hl ih;exact ⟨_,.tuple e1 e2 e4 (by simpa using ra)⟩
theorem p7 {α:Type} {F G:List α}:∀{Fs:List (List α)} {i:Nat},Fs[i]?=some F->(F++(Fs.set i G).flatten).Perm (G++Fs.flatten)
 | [],_,h=>by simp at h
 | A::r,0,h=>by
  simp at h
  subst h;simp only [List.set_cons_zero,flatten_cons]
  rw [<-append_assoc,<-append_assoc];exact List.Perm.append_right _ perm_append_comm
 | A::r,i+1,h=>by
  have ih:=p7 (G:=G) (Fs:=r) (i:=i) (by simpa using h)
  simp only [List.set_cons_succ,flatten_cons]
  calc (F++(A++(r.set i G).flatten)).Perm (A++(F++(r.set i G).flatten)):=by
        rw [<-append_assoc,<-append_assoc];exact List.Perm.append_right _ perm_append_comm
    _ |>.Perm (A++(G++r.flatten)):=List.Perm.append_left _ ih
    _ |>.Perm (G++(A++r.flatten)):=by
        rw [<-append_assoc,<-append_assoc];exact List.Perm.append_right _ perm_append_comm
section
variable {K:Fg} {He H:Hp} {O G:List Addr} {Fs:List (List Addr)} {σ:St} {Γ:Ev}
theorem EnvOk.lt (E:EnvOk K He O Fs H σ Γ) {i:Nat} (h:i<Γ.length):∃F,Fs[i]?=some F:=⟨Fs[i]'(by rw [E.len2];exact h),KM _⟩
theorem EnvOk.move {i:Nat} {p:PV} (E:EnvOk K He O Fs H σ Γ) (h:Γ[i]?=some (some p)) :
  p.s.isView=false/\∃v F,σ[i]?=some (some v)/\EnvOk K He (F++O) (Fs.set i []) H σ (Γ.set i none)/\Own K (F++O++(Fs.set i []).flatten) H p.s F v p.d/\(∀a∈F++(Fs.set i []).flatten,a∈Fs.flatten):=by
 obtain ⟨hv,v,F,h1,h2,h3⟩:=E.slot i p h;have pm:(F++(Fs.set i []).flatten).Perm Fs.flatten:=by simpa using p7 (G:=[]) h2
 have pm2:(F++O++(Fs.set i []).flatten).Perm (O++Fs.flatten):=by
  rw [append_assoc]
  calc (F++(O++(Fs.set i []).flatten)).Perm (O++(F++(Fs.set i []).flatten)):=by
        rw [<-append_assoc,<-append_assoc];exact List.Perm.append_right _ perm_append_comm
    _ |>.Perm (O++Fs.flatten):=List.Perm.append_left _ pm
 refine ⟨hv,v,F,h1,⟨by rw [length_set];exact E.len1,by rw [length_set,length_set];exact E.len2,E.same,pm2.nodup_iff.mpr E.nd,fun a ha=>E.inH a (pm2.mem_iff.mp ha),fun a ha=>E.fresh a (pm.mem_iff.mp (KH _ ha)),fun j q hq=>?_⟩,h3.mono (Same.refl _) fun a ha=>.inl (pm2.mem_iff.mp ha),fun a ha=>pm.mem_iff.mp ha⟩
 by_cases hj:j=i
 ·subst hj
  rw [List.getElem?_set] at hq;split at hq
  ·split at hq<;>cases hq
  ·rename_i z
   exact absurd rfl z
 ·rw [getElem?_set_ne (Ne.symm hj)] at hq
  obtain ⟨w1,v',F',e1,e2,e3⟩:=E.slot j q hq;exact ⟨w1,v',F',e1,by rw [getElem?_set_ne (Ne.symm hj)];exact e2,e3.mono (Same.refl _) fun a ha=>.inl (pm2.mem_iff.mp ha)⟩
theorem EnvOk.put {i:Nat} {p:PV} {v:V} (E:EnvOk K He (G++O) Fs H σ Γ) (ho:Own K (G++O++Fs.flatten) H p.s G v p.d) (hv:p.s.isView=false) (hn:∀a∈G,He a=none) (hi:i<Γ.length) :
  EnvOk K He O (Fs.set i G) H (σ.set i (some v)) (Γ.set i (some p)):=by
 obtain ⟨F,hF⟩:=E.lt hi;have pm:=p7 (G:=G) hF
 have nd:=E.nd
 rw [append_assoc] at nd;have sub:∀a∈O++(Fs.set i G).flatten,a∈G++O++Fs.flatten:=fun a ha=>by
  rw [append_assoc];rcases KJ ha with z | z
  ·exact KH _ (KI _ z)
  ·rcases KJ (pm.mem_iff.mp (KH _ z)) with y | y
   ·exact KI _ y
   ·exact KH _ (KH _ y)
 refine ⟨by rw [length_set,length_set];exact E.len1,by rw [length_set,length_set];exact E.len2,E.same,?_,fun a ha=>E.inH a (sub a ha),fun a ha=>?_,fun j q hq=>?_⟩
 ·have p1:(O++(F++(Fs.set i G).flatten)).Perm (G++(O++Fs.flatten)):=by
   calc (O++(F++(Fs.set i G).flatten)).Perm (O++(G++Fs.flatten)):=List.Perm.append_left _ pm
     _ |>.Perm (G++(O++Fs.flatten)):=by
       rw [<-append_assoc,<-append_assoc];exact List.Perm.append_right _ perm_append_comm
  have p2:=p1.nodup_iff.mpr nd
  refine p2.sublist ?_
  exact List.Sublist.append_left (List.sublist_append_right _ _) _
 ·rcases KJ (pm.mem_iff.mp (KH _ ha)) with y | y
  ·exact hn a y
  ·exact E.fresh a y
 ·by_cases hj:j=i
  ·subst hj
   rw [getElem?_set_self hi] at hq
   cases hq;refine ⟨hv,v,G,?_,?_,ho.mono (Same.refl _) fun a ha=>.inl (sub a ha)⟩
   ·rw [getElem?_set_self (by rw [E.len1];exact hi)]
   ·rw [getElem?_set_self (by rw [E.len2];exact hi)]
  ·rw [getElem?_set_ne (Ne.symm hj)] at hq
   obtain ⟨w1,v',F',e1,e2,e3⟩:=E.slot j q hq;exact ⟨w1,v',F',by rw [getElem?_set_ne (Ne.symm hj)];exact e1,by rw [getElem?_set_ne (Ne.symm hj)];exact e2,e3.mono (Same.refl _) fun a ha=>.inl (sub a ha)⟩
theorem Aft.freshG {Γ':Ev} {p:PV} {v:V} {H':Hp} {Fs':List (List Addr)} (E:EnvOk K He O Fs H σ Γ) (A:Aft K He O Fs H σ Γ' p v H' G Fs'):∀a∈G,He a=none:=fun a ha=>by
 rcases A.new a (KI _ ha) with z | z
 ·exact E.fresh a z
 ·exact E.same.free z
end
noncomputable def ae (i:Nat):F1:=fun Γ=>match Γ[i]? with
 | some (some p)=>(match p.s with
  | .leaf=>.ok ⟨.leaf,p.d⟩ Γ
  | _=>.ok ⟨.view,p.d⟩ Γ)
 | _=>.no
noncomputable def dE (i:Nat):F1:=fun Γ=>match Γ[i]? with
 | some (some p)=>.ok p (Γ.set i none)
 | _=>.no
noncomputable def eK (d:D):F1:=fun Γ=>.ok ⟨.leaf,d⟩ Γ
section
variable {X:Cx} {W:XW} {i:Nat} {e:Expr} {pos:Pos}
theorem AI {K:Fg} {σ:St} {H:Hp} {Q:VK} (h:tE K W (ae i) σ H Q):fx i σ H Q:=by
 obtain ⟨He,O,Fs,Γ,E,h⟩:=h;unfold ae at h
 cases e:Γ[i]? with
 | none=>rw [e] at h;exact h.elim
 | some o=>
  rw [e] at h
  cases o with
  | none=>exact h.elim
  | some p=>
   obtain ⟨hv,v,F,h1,h2,h3⟩:=E.slot i p e;obtain ⟨s,d⟩:=p;have new:∀a∈[]++Fs.flatten,a∈Fs.flatten\/H a=none:=fun a ha=>.inl (by simpa using ha)
   cases s with
   | leaf=>
    cases h3 with
    | leaf r=>exact ⟨v,h1,h v H [] Fs ⟨Same.refl _,by simpa using E,new,.leaf r⟩⟩
   | view=>cases hv
   | lst s=>exact ⟨v,h1,h v H [] Fs ⟨Same.refl _,by simpa using E,new,.view h3.rep⟩⟩
   | tup ss=>exact ⟨v,h1,h v H [] Fs ⟨Same.refl _,by simpa using E,new,.view h3.rep⟩⟩
theorem xv {K:Fg} {σ:St} {H:Hp} {Q:VK} (h:tE K W (dE i) σ H Q):fx i σ H Q:=by
 obtain ⟨He,O,Fs,Γ,E,h⟩:=h;unfold dE at h
 cases e:Γ[i]? with
 | none=>rw [e] at h;exact h.elim
 | some o=>
  rw [e] at h
  cases o with
  | none=>exact h.elim
  | some p=>
   obtain ⟨hv,v,F,h1,E',o',sub⟩:=E.move e;exact ⟨v,h1,h v H F (Fs.set i []) ⟨Same.refl _,E',fun a ha=>.inl (sub a ha),o'⟩⟩
theorem CG (h:PE X e (fx i)):PE X e (tE X.K W (ae i)):=bp h fun _ _ _=>AI
theorem yG (h:PE X e (fx i)):PE X e (tE X.K W (dE i)):=bp h fun _ _ _=>xv
theorem uy {K:Fg} {σ:St} {H:Hp} {Q:VK} {v:V} {d:D} (hs:∀H,Rep K H v d) (h:tE K W (eK d) σ H Q):Q v H:=by
 obtain ⟨He,O,Fs,Γ,E,h⟩:=h;exact h v H [] Fs ⟨Same.refl _,by simpa using E,fun a ha=>.inl (by simpa using ha),.leaf (hs _)⟩
theorem yH {x:Str} {v:V} {u:Value} {d:D} (hg:Gl X x) (hm:X.mg x=some u) (r:RelV v u) (hr:∀H,Rep X.K H v d) (hd:(x==("__debug__":Str))=false:=by decide):PE X (.Name x pos) (tE X.K W (eK d)):=
 bp (xR hg hm r hd) fun _ _ _=>uy hr
end
noncomputable def az (g:D->D->Option D) (fa fb:F1):F1:=ba fa fun p=>ba fb fun q=>fun Γ=>match g p.d q.d with
 | some d=>.ok ⟨.leaf,d⟩ Γ
 | none=>.no
noncomputable def GOp (K:Fg) (r:R2) (g:D->D->Option D):Prop:=∀x y H Q a b d,Rep K H x a->Rep K H y b->g a b=some d->(∀v,Sc v d->Q v H)->r x y H Q
section
variable {K:Fg} {W:XW} {σ:St} {H:Hp} {Q:VK} {fa fb:F1} {r:R2} {g:D->D->Option D}
theorem iu (hg:GOp K r g) (h:tE K W (az g fa fb) σ H Q):w6 r (tE K W fa) (tE K W fb) σ H Q:=by
 refine C1 h ?_
 intro He O Fs Γ2 p q v u H1 H2 G1 G2 Fs2 nd s1 s2 E new o1 o2 w
 cases e:g p.d q.d with
 | none=>rw [e] at w;exact w.elim
 | some d=>
  rw [e] at w;exact hg v u H2 Q p.d q.d d o1.rep o2.rep e fun z s=>w.scal s (s1.trans s2) E (fun a ha=>KH _ (KH _ ha)) nd fun a ha=>new a (KH _ (KH _ ha))
end
theorem GOp.or {K:Fg} {r r':R2} {g g':D->D->Option D} (h:GOp K r g) (h':GOp K r' g'):GOp K (fun x y H Q=>r x y H Q\/r' x y H Q) (fun a b=>(g a b).or (g' a b)):=by
 intro x y H Q a b d ra rb e k;have e:(g a b).or (g' a b)=some d:=e
 cases e1:g a b with
 | some z=>rw [e1] at e;cases e;exact .inl (h x y H Q a b _ ra rb e1 k)
 | none=>rw [e1] at e;exact .inr (h' x y H Q a b d ra rb (by simpa using e) k)
noncomputable def gI (C:Int->Int->Bool) (f:Int->Int->D):D->D->Option D
 | .int i,.int j=>if C i j then some (f i j) else none
 | _,_=>none
theorem qK {K:Fg} {C:Int->Int->Prop} {C':Int->Int->Bool} {g:Int->Int->V} {f:Int->Int->D} (hC:∀i j,C' i j=true->C i j) (hs:∀i j,Sc (g i j) (f i j)):GOp K (rI C g) (gI C' f):=by
 intro x y H Q a b d ra rb e k
 cases ra<;>cases rb<;>simp only [gI] at e<;>try cases e
 rename_i i j;split at e
 ·rename_i c
  cases e;exact ⟨i,j,rfl,rfl,hC i j c,k _ (hs i j)⟩
 ·cases e
noncomputable def zM (f:Int->Int->D):D->D->Option D
 | .int i,.int j=>some (f i j)
 | _,_=>none
theorem C0 {K:Fg} {g:Int->Int->V} {f:Int->Int->D} (hs:∀i j,Sc (g i j) (f i j)):GOp K (qt g) (zM f):=by
 intro x y H Q a b d ra rb e k
 cases ra<;>cases rb<;>simp only [zM] at e<;>try cases e
 rename_i i j;exact ⟨i,j,rfl,rfl,k _ (hs i j)⟩
noncomputable abbrev gSub:=zM fun i j=>.int (i-j)
noncomputable abbrev bo:=zM fun i j=>.int (i+j)
noncomputable def tj (i j:Int):Bool:=(decide (-(2 ^ 64)<i)&&decide (i<2 ^ 64))||(decide (-(2 ^ 64)<j)&&decide (j<2 ^ 64))
noncomputable abbrev nO:=gI tj fun i j=>.int (i*j)
noncomputable def yT (_ j:Int):Bool:=decide (0<j)&&decide (j<1073741824)
noncomputable abbrev vv:=gI yT fun i j=>.int (i / j)
noncomputable def yS (_ j:Int):Bool:=decide (0<j)
noncomputable abbrev dH:=gI yS fun i j=>.int (i % j)
noncomputable def yR (i j:Int):Bool:=decide (0<=j)&&decide (j<=1000000)&&decide (i.natAbs<2 ^ 64)
noncomputable abbrev yw:=gI yR fun i j=>.int (i ^ j.toNat)
mutual
noncomputable def Sh.same:Sh->Sh->Bool
 | .view,.view=>true
 | .leaf,.leaf=>true
 | .lst a,.lst b=>Sh.same a b
 | .tup as,.tup bs=>Sh.sameL as bs
 | _,_=>false
noncomputable def Sh.sameL:List Sh->List Sh->Bool
 | [],[]=>true
 | a::as,b::bs=>Sh.same a b&&Sh.sameL as bs
 | _,_=>false
end
mutual
theorem Sh.same_eq:∀{a b:Sh},Sh.same a b=true->a=b
 | .view,.view,_=>rfl
 | .leaf,.leaf,_=>rfl
 | .lst a,.lst b,h=>by rw [Sh.same_eq (a:=a) (b:=b) (by simpa [Sh.same] using h)]
 | .tup as,.tup bs,h=>by rw [Sh.sameL_eq (as:=as) (bs:=bs) (by simpa [Sh.same] using h)]
 | .view,.leaf,h=>by simp [Sh.same] at h
 | .view,.lst _,h=>by simp [Sh.same] at h
 | .view,.tup _,h=>by simp [Sh.same] at h
 | .leaf,.view,h=>by simp [Sh.same] at h
 | .leaf,.lst _,h=>by simp [Sh.same] at h
 | .leaf,.tup _,h=>by simp [Sh.same] at h
 | .lst _,.view,h=>by simp [Sh.same] at h
 | .lst _,.leaf,h=>by simp [Sh.same] at h
 | .lst _,.tup _,h=>by simp [Sh.same] at h
 | .tup _,.view,h=>by simp [Sh.same] at h
 | .tup _,.leaf,h=>by simp [Sh.same] at h
 | .tup _,.lst _,h=>by simp [Sh.same] at h
theorem Sh.sameL_eq:∀{as bs:List Sh},Sh.sameL as bs=true->as=bs
 | [],[],_=>rfl
 | a::as,b::bs,h=>by
  have h:Sh.same a b=true/\Sh.sameL as bs=true:=by simpa [Sh.sameL] using h
  rw [Sh.same_eq h.1,Sh.sameL_eq h.2]
 | [],_::_,h=>by simp [Sh.sameL] at h
 | _::_,[],h=>by simp [Sh.sameL] at h
end
noncomputable def coer (s:Sh) (p:PV):Bool:=match s with
 | .leaf=>!p.s.isView||bP p.d
 | .view=>false
 | s=>Sh.same s p.s
noncomputable def aW (s:Sh) (G:List Addr):List Addr:=match s with
 | .leaf=>[]
 | _=>G
theorem HW {s:Sh} {G:List Addr} {a:Addr} (h:a∈aW s G):a∈G:=by
 unfold aW at h;split at h
 ·simp at h
 ·exact h
theorem Own.coer {K:Fg} {O O':List Addr} {H:Hp} {s:Sh} {p:PV} {G:List Addr} {v:V} (h:Own K O H p.s G v p.d) (c:coer s p=true) (h1:∀a∈O',a∈O) (h2:∀a∈G,a∈O'->a∈aW s G):Own K O' H s (aW s G) v p.d:=by
 cases s with
 | view=>simp [T.coer] at c
 | leaf=>
  show Own K O' H .leaf [] v p.d
  have c:(!p.s.isView||bP p.d)=true:=c
  cases hv:p.s.isView with
  | false=>exact .leaf (h.freeze hv h1 fun a ha z=>by simpa [aW] using h2 a ha z)
  | true=>
   rw [hv] at c;exact .leaf (h.rep.sc (by simpa using c)).rep
 | lst s=>
  have e:Sh.lst s=p.s:=Sh.same_eq c
  show Own K O' H (.lst s) G v p.d
  rw [e];exact h.mono (Same.refl _) fun a ha=>.inl (h1 a ha)
 | tup ss=>
  have e:Sh.tup ss=p.s:=Sh.same_eq c
  show Own K O' H (.tup ss) G v p.d
  rw [e];exact h.mono (Same.refl _) fun a ha=>.inl (h1 a ha)
open PySem.SeqAt in
noncomputable def bj:D->D->Option D:=fun a b=>if shaped a&&shaped b then some (.bool (PyData.eqv a b)) else none
open PySem.SeqAt in
noncomputable def jT:D->D->Option D:=fun a b=>if shaped a&&shaped b then some (.bool (!PyData.eqv a b)) else none
open PySem.SeqAt in
noncomputable def rU (K:Fg) (neg:Bool):R2:=fun x y H Q=>∃a b,Rep K H x a/\Rep K H y b/\shaped a=true/\shaped b=true/\Q (.bl (if neg then !PyData.eqv a b else PyData.eqv a b)) H
section
variable {X:Cx}
theorem BP (hu:X.A.units+64<cLine):OpR X (compareOp .Eq) (rU X.K false):=by
 intro pins s σ H x y v u Q I rx ry h;obtain ⟨a,b,ra,rb,sa,sb,q⟩:=h;obtain ⟨as,r1⟩:=ra.reads I v rx;obtain ⟨bs,r2⟩:=rb.reads I u ry;exact SeqAt.compareEq_shaped r1 r2 sa sb hu ⟨.bl _,H,I,rfl,q⟩
theorem BK (hu:X.A.units+64<cLine):OpR X (compareOp .NotEq) (rU X.K true):=by
 intro pins s σ H x y v u Q I rx ry h;obtain ⟨a,b,ra,rb,sa,sb,q⟩:=h;obtain ⟨as,r1⟩:=ra.reads I v rx;obtain ⟨bs,r2⟩:=rb.reads I u ry;exact SeqAt.compareNe_shaped r1 r2 sa sb hu ⟨.bl _,H,I,rfl,q⟩
end
theorem Ci {K:Fg}:GOp K (rU K false) bj:=by
 intro x y H Q a b d ra rb e k;unfold bj at e;split at e
 ·rename_i c
  cases e;simp only [Bool.and_eq_true] at c
  exact ⟨a,b,ra,rb,c.1,c.2,k _ (.bl _)⟩
 ·cases e
theorem Ce {K:Fg}:GOp K (rU K true) jT:=by
 intro x y H Q a b d ra rb e k;unfold jT at e;split at e
 ·rename_i c
  cases e;simp only [Bool.and_eq_true] at c
  exact ⟨a,b,ra,rb,c.1,c.2,k _ (.bl _)⟩
 ·cases e
noncomputable def Cq:D->D->Option D
 | .str i,.str j=>some (.bool (decide (i.cps.toList<j.cps.toList)))
 | _,_=>none
noncomputable abbrev Jx:=zM fun i j=>.bool (decide (i<j))
noncomputable abbrev kT:D->D->Option D:=fun a b=>(Jx a b).or (Cq a b)
noncomputable abbrev GU:=zM fun i j=>.bool (decide (i<=j))
noncomputable abbrev pI:=zM fun i j=>.bool (decide (j<i))
noncomputable abbrev KB:=zM fun i j=>.bool (decide (j<=i))
theorem yq {K:Fg}:GOp K (fun x y H Q=>∃i j,x=.str i/\y=.str j/\Q (.bl (decide (i.cps.toList<j.cps.toList))) H) Cq:=by
 intro x y H Q a b d ra rb e k
 cases ra<;>cases rb<;>simp only [Cq] at e<;>try cases e
 rename_i i j;exact ⟨i,j,rfl,rfl,k _ (.bl _)⟩
theorem Cf {K:Fg}:GOp K (fun x y H Q=>qt (fun i j=>.bl (decide (i<j))) x y H Q\/∃i j,x=.str i/\y=.str j/\Q (.bl (decide (i.cps.toList<j.cps.toList))) H) kT:=
 (C0 fun _ _=>.bl _).or yq
open PySem.SeqAt in
noncomputable def bQ (neg:Bool):D->D->Option D
 | a,.list xs=>if shaped a&&shaped (.list xs) then some (.bool (if neg then !xs.any fun y=>PyData.eqv y a else xs.any fun y=>PyData.eqv y a)) else none
 | a,.tuple xs=>if shaped a&&shaped (.tuple xs) then some (.bool (if neg then !xs.any fun y=>PyData.eqv y a else xs.any fun y=>PyData.eqv y a)) else none
 | _,_=>none
noncomputable def uI (K:Fg) (neg:Bool):R2:=fun x y H Q=>∃a b d,Rep K H x a/\Rep K H y b/\bQ neg a b=some (.bool d)/\Q (.bl d) H
theorem vn {K:Fg} {neg:Bool}:GOp K (uI K neg) (bQ neg):=by
 intro x y H Q a b d ra rb e k;have:∃c,d=.bool c:=by
  cases b<;>simp only [bQ] at e<;>(try cases e)<;>(split at e<;>cases e<;>exact ⟨_,rfl⟩)
 obtain ⟨c,rfl⟩:=this;exact ⟨a,b,c,ra,rb,e,k _ (.bl c)⟩
theorem Gi {d:D} {xs:List D} (h:SeqAt.shaped d=true) (e:d=.list xs\/d=.tuple xs):PyData.canLayAll0 xs=true/\PyData.depthAll xs+1<=64:=by
 have h1:=SeqAt.canLay_of_shaped h
 have h2:=SeqAt.depth_of_shaped h
 rcases e with e | e<;>subst e<;>exact ⟨by simpa [PyData.canLay0] using h1,by simpa [PyData.depth] using h2⟩
section
variable {X:Cx}
theorem BO (hu:X.A.units+64<cLine):OpR X (compareOp .In) (uI X.K false):=by
 intro pins s σ H x y v u Q I rx ry h;obtain ⟨a,b,d,ra,rb,e,q⟩:=h;obtain ⟨as,r1⟩:=ra.reads I v rx;obtain ⟨bs,r2⟩:=rb.reads I u ry
 cases b<;>simp only [bQ] at e<;>try cases e
 all_goals
  split at e
  ·rename_i c
   simp only [Bool.and_eq_true] at c
   simp only [Option.some.injEq,PyData.bool.injEq] at e
   subst e;first
    | (obtain ⟨p1,p2⟩:=Gi c.2 (.inl rfl)
       exact SeqAt.in_list_reads r2 r1 p1 (SeqAt.canLay_of_shaped c.1) (Nat.lt_of_le_of_lt (by have:=Nat.min_le_left (PyData.depthAll ‹_›) a.depth;omega) hu) ⟨.bl _,H,I,rfl,q⟩)
    | (obtain ⟨p1,p2⟩:=Gi c.2 (.inr rfl)
       exact SeqAt.in_tuple_reads r2 r1 p1 (SeqAt.canLay_of_shaped c.1) (Nat.lt_of_le_of_lt (by have:=Nat.min_le_left (PyData.depthAll ‹_›) a.depth;omega) hu) ⟨.bl _,H,I,rfl,q⟩)
  ·cases e
theorem sd (hu:X.A.units+64<cLine):OpR X (compareOp .NotIn) (uI X.K true):=by
 intro pins s σ H x y v u Q I rx ry h;obtain ⟨a,b,d,ra,rb,e,q⟩:=h;obtain ⟨as,r1⟩:=ra.reads I v rx;obtain ⟨bs,r2⟩:=rb.reads I u ry
 cases b<;>simp only [bQ] at e<;>try cases e
 all_goals
  split at e
  ·rename_i c
   simp only [Bool.and_eq_true] at c
   simp only [Option.some.injEq,PyData.bool.injEq] at e
   subst e;first
    | (obtain ⟨p1,p2⟩:=Gi c.2 (.inl rfl)
       exact SeqAt.notIn_list_reads r2 r1 p1 (SeqAt.canLay_of_shaped c.1) (Nat.lt_of_le_of_lt (by have:=Nat.min_le_left (PyData.depthAll ‹_›) a.depth;omega) hu) ⟨.bl _,H,I,rfl,q⟩)
    | (obtain ⟨p1,p2⟩:=Gi c.2 (.inr rfl)
       exact SeqAt.notIn_tuple_reads r2 r1 p1 (SeqAt.canLay_of_shaped c.1) (Nat.lt_of_le_of_lt (by have:=Nat.min_le_left (PyData.depthAll ‹_›) a.depth;omega) hu) ⟨.bl _,H,I,rfl,q⟩)
  ·cases e
end
noncomputable def WantsB (K:Fg) (W:XW) (He:Hp) (O:List Addr) (Fs:List (List Addr)) (H:Hp) (σ:St) (Q:Bool->Hp->Prop) (o:Out Bool):Prop:=match o with
 | .ok b Γ'=>∀H' Fs',Same H H'->EnvOk K He O Fs' H' σ Γ'->(∀a∈Fs'.flatten,a∈Fs.flatten\/H a=none)->Q b H'
 | .er c Γ'=>∀H' Fs',Same H H'->EnvOk K He O Fs' H' σ Γ'->W c σ H'
 | .no=>False
abbrev FB:=Ev->Out Bool
noncomputable def tT (K:Fg) (W:XW) (f:FB):TT:=fun σ H Q=>∃He O Fs Γ,EnvOk K He O Fs H σ Γ/\WantsB K W He O Fs H σ Q (f Γ)
section
variable {K:Fg} {W:XW} {He H H1:Hp} {O:List Addr} {Fs Fs1:List (List Addr)} {σ:St} {Γ Γ':Ev} {Q:VK} {QB:Bool->Hp->Prop}
theorem Wants.after {o:Out PV} (h:Wants K W He O Fs H σ Q o) (s:Same H H1) (n:∀a∈Fs1.flatten,a∈Fs.flatten\/H a=none):Wants K W He O Fs1 H1 σ Q o:=by
 cases o with
 | ok p Γ'=>exact fun v H' G Fs' A=>h v H' G Fs' ⟨s.trans A.same,A.env,fun a ha=>(A.new a ha).elim (n a) fun z=>.inr (s.free z),A.own⟩
 | er c Γ'=>exact fun H' Fs' e E=>h H' Fs' (s.trans e) E
 | no=>exact h
theorem WantsB.after {o:Out Bool} (h:WantsB K W He O Fs H σ QB o) (s:Same H H1) (n:∀a∈Fs1.flatten,a∈Fs.flatten\/H a=none):WantsB K W He O Fs1 H1 σ QB o:=by
 cases o with
 | ok p Γ'=>exact fun H' Fs' e E n'=>h H' Fs' (s.trans e) E fun a ha=>(n' a ha).elim (n a) fun z=>.inr (s.free z)
 | er c Γ'=>exact fun H' Fs' e E=>h H' Fs' (s.trans e) E
 | no=>exact h
theorem Aft.go {p:PV} {v:V} {G:List Addr} (A:Aft K He O Fs H σ Γ' p v H1 G Fs1):EnvOk K He O Fs1 H1 σ Γ':=A.env.dropL
theorem Aft.newF {p:PV} {v:V} {G:List Addr} (A:Aft K He O Fs H σ Γ' p v H1 G Fs1):∀a∈Fs1.flatten,a∈Fs.flatten\/H a=none:=fun a ha=>A.new a (KH _ ha)
end
section
variable {K:Fg} {W:XW} {σ:St} {H:Hp} {Q:VK} {QB:Bool->Hp->Prop} {fa fb fc:F1} {ga gb:FB}
noncomputable def aL (g:D->Option Bool) (f:F1):FB:=fun Γ=>(f Γ).bind fun p Γ'=>match g p.d with
 | some b=>.ok b Γ'
 | none=>.no
theorem qe {g:D->Option Bool} {R:VK} (h:tT K W (aL g fa) σ H QB) (hR:∀v d b H1,Rep K H1 v d->g d=some b->QB b H1->R v H1):tE K W fa σ H R:=by
 obtain ⟨He,O,Fs,Γ,E,h⟩:=h;refine ⟨He,O,Fs,Γ,E,?_⟩
 unfold aL at h
 cases e:fa Γ with
 | ok p Γ'=>
  rw [e] at h;intro v H' G Fs' A
  have h:WantsB K W He O Fs H σ QB (match g p.d with | some b=>.ok b Γ' | none=>.no):=h
  cases e2:g p.d with
  | some b=>
   rw [e2] at h;exact hR v p.d b H' A.own.rep e2 (h H' Fs' A.same A.go A.newF)
  | none=>rw [e2] at h;exact h.elim
 | er c Γ'=>rw [e] at h;exact h
 | no=>rw [e] at h;exact h
noncomputable def ai:D->Option Bool
 | .bool b=>some b
 | _=>none
theorem qp {t:TE} (hi:∀Q,tE K W fa σ H Q->t σ H Q) (h:tT K W (aL ai fa) σ H QB):zt t σ H QB:=by
 refine hi _ (qe h fun v d b H1 r e q=>?_)
 cases r<;>simp only [ai] at e<;>try cases e
 exact ⟨_,rfl,q⟩
noncomputable def bX:D->Option Bool
 | .none=>some false
 | .bool b=>some b
 | .int i=>some (i != 0)
 | .str x=>if x.length<=sizeLine then some ((x.length:Int) != 0) else none
 | .list xs=>some (!xs.isEmpty)
 | .tuple xs=>some (!xs.isEmpty)
 | .dict _=>none
theorem AK (h:tT K W (aL bX fa) σ H QB):tE K W fa σ H fun x H'=>∃k,CQ K x H' k/\QB k H':=by
 refine qe h fun v d b H1 r e q=>?_
 cases r with
 | non=>cases e;exact ⟨_,rfl,q⟩
 | bl c=>cases e;exact ⟨_,rfl,q⟩
 | int i=>cases e;exact ⟨_,rfl,q⟩
 | str x=>
  simp only [bX] at e
  split at e
  ·rename_i z;cases e;exact ⟨_,⟨z,rfl⟩,q⟩
  ·cases e
 | @lst p vs ds hq hl _=>
  cases e;exact ⟨_,.inl ⟨vs,hq,by cases vs<;>cases ds<;>simp_all⟩,q⟩
 | @tup p vs ds hq hl _=>
  cases e;exact ⟨_,.inr (.inl ⟨vs,hq,by cases vs<;>cases ds<;>simp_all⟩),q⟩
noncomputable def gx (a b:FB):FB:=fun Γ=>(a Γ).bind fun c Γ'=>if c then b Γ' else .ok false Γ'
noncomputable def fD (a b:FB):FB:=fun Γ=>(a Γ).bind fun c Γ'=>if c then .ok true Γ' else b Γ'
noncomputable def ff (a:FB):FB:=fun Γ=>(a Γ).bind fun c Γ'=>.ok (!c) Γ'
theorem Ho {k:Bool->Ev->Out Bool} {R:Bool->Hp->Prop} (h:tT K W (fun Γ=>(ga Γ).bind k) σ H QB)
  (hk:∀(He:Hp) (O:List Addr) Γ1 b H1 Fs1,Same H H1->EnvOk K He O Fs1 H1 σ Γ1->WantsB K W He O Fs1 H1 σ QB (k b Γ1)->R b H1):tT K W ga σ H R:=by
 obtain ⟨He,O,Fs,Γ,E,h⟩:=h;have h:WantsB K W He O Fs H σ QB ((ga Γ).bind k):=h
 refine ⟨He,O,Fs,Γ,E,?_⟩
 cases e:ga Γ with
 | ok b Γ1=>rw [e] at h;exact fun H' Fs' s E' n=>hk He O Γ1 b H' Fs' s E' (WantsB.after (o:=k b Γ1) h s n)
 | er c Γ1=>rw [e] at h;exact h
 | no=>rw [e] at h;exact h
theorem WantsB.now {He:Hp} {O:List Addr} {Fs:List (List Addr)} {Γ:Ev} {b:Bool} (h:WantsB K W He O Fs H σ QB (.ok b Γ)) (E:EnvOk K He O Fs H σ Γ):QB b H:=h H Fs (Same.refl _) E fun _ z=>.inl z
theorem xI (h:tT K W (gx ga gb) σ H QB):D1 (tT K W ga) (tT K W gb) σ H QB:=by
 refine Ho h fun He O Γ1 b H1 Fs1 s E w=>?_
 cases b with
 | true=>exact lU ⟨He,O,Fs1,Γ1,E,w⟩
 | false=>exact lV (WantsB.now w E)
theorem A5 (h:tT K W (fD ga gb) σ H QB):JS (tT K W ga) (tT K W gb) σ H QB:=by
 refine Ho h fun He O Γ1 b H1 Fs1 s E w=>?_
 cases b with
 | false=>exact lV ⟨He,O,Fs1,Γ1,E,w⟩
 | true=>exact lU (WantsB.now w E)
theorem xH (h:tT K W (ff ga) σ H QB):DU (tT K W ga) σ H QB:=Ho h fun He O Γ1 b H1 Fs1 s E w=>WantsB.now w E
noncomputable def fU (fa fb:F1):F1:=ba fa fun p Γ=>match p.d with
 | .bool true=>fb Γ
 | .bool false=>.ok ⟨.leaf,.bool false⟩ Γ
 | _=>.no
noncomputable def vA (fa fb:F1):F1:=ba fa fun p Γ=>match p.d with
 | .bool true=>.ok ⟨.leaf,.bool true⟩ Γ
 | .bool false=>fb Γ
 | _=>.no
noncomputable def lY (fa:F1):F1:=ba fa fun p Γ=>match p.d with
 | .bool b=>.ok ⟨.leaf,.bool (!b)⟩ Γ
 | _=>.no
theorem A7 (h:tE K W (fU fa fb) σ H Q):zy (tE K W fa) (tE K W fb) σ H Q:=by
 refine wa h fun He O Fs Γ1 p v H1 G Fs1 nd A w=>?_
 have r:=A.own.rep
 obtain ⟨s,d⟩:=p
 cases r with
 | bl b=>
  cases b with
  | true=>exact ⟨true,rfl,lU ⟨He,O,Fs1,Γ1,A.go,Wants.after w A.same A.newF⟩⟩
  | false=>exact ⟨false,rfl,lV (Wants.scal w (.bl false) A.same A.env (fun a ha=>KH _ ha) nd A.newF)⟩
 | _=>exact w.elim
theorem D8 (h:tE K W (vA fa fb) σ H Q):DT (tE K W fa) (tE K W fb) σ H Q:=by
 refine wa h fun He O Fs Γ1 p v H1 G Fs1 nd A w=>?_
 have r:=A.own.rep
 obtain ⟨s,d⟩:=p
 cases r with
 | bl b=>
  cases b with
  | false=>exact ⟨false,rfl,lV ⟨He,O,Fs1,Γ1,A.go,Wants.after w A.same A.newF⟩⟩
  | true=>exact ⟨true,rfl,lU (Wants.scal w (.bl true) A.same A.env (fun a ha=>KH _ ha) nd A.newF)⟩
 | _=>exact w.elim
theorem AO (h:tE K W (lY fa) σ H Q):zw (tE K W fa) σ H Q:=by
 refine wa h fun He O Fs Γ1 p v H1 G Fs1 nd A w=>?_
 have r:=A.own.rep
 obtain ⟨s,d⟩:=p
 cases r with
 | bl b=>exact ⟨b,rfl,Wants.scal w (.bl _) A.same A.env (fun a ha=>KH _ ha) nd A.newF⟩
 | _=>exact w.elim
noncomputable def kn (c:FB) (fa fb:F1):F1:=fun Γ=>(c Γ).bind fun b Γ'=>if b then fa Γ' else fb Γ'
theorem D9 (h:tE K W (kn ga fa fb) σ H Q):JV (tT K W ga) (tE K W fa) (tE K W fb) σ H Q:=by
 obtain ⟨He,O,Fs,Γ,E,h⟩:=h;refine ⟨He,O,Fs,Γ,E,?_⟩
 unfold kn at h
 cases e:ga Γ with
 | ok b Γ1=>
  rw [e] at h;intro H' Fs' s E' n
  have h':=Wants.after (o:=if b then fa Γ1 else fb Γ1) h s n
  cases b with
  | true=>exact lU ⟨He,O,Fs',Γ1,E',h'⟩
  | false=>exact lV ⟨He,O,Fs',Γ1,E',h'⟩
 | er c Γ1=>rw [e] at h;exact h
 | no=>rw [e] at h;exact h
noncomputable def gu (g g':D->D->Option D) (fa fb fc:F1):F1:=ba fa fun p=>ba fb fun q=>fun Γ=>match g p.d q.d with
 | some (.bool true)=>if bP q.d then (fc Γ).bind fun z Γ'=>(match g' q.d z.d with | some d=>.ok ⟨.leaf,d⟩ Γ' | none=>.no) else .no
 | some (.bool false)=>.ok ⟨.leaf,.bool false⟩ Γ
 | _=>.no
theorem uB {r r':R2} {g g':D->D->Option D} (hg:GOp K r g) (hg':GOp K r' g') (h:tE K W (gu g g' fa fb fc) σ H Q):uc r r' (tE K W fa) (tE K W fb) (tE K W fc) σ H Q:=by
 refine C1 h ?_
 intro He O Fs Γ2 p q v u H1 H2 G1 G2 Fs2 nd s1 s2 E new o1 o2 w;have sub:∀a∈O,a∈G2++(G1++O):=fun a ha=>KH _ (KH _ ha)
 have newF:∀a∈Fs2.flatten,a∈Fs.flatten\/H a=none:=fun a ha=>new a (KH _ (KH _ ha))
 cases e:g p.d q.d with
 | none=>rw [e] at w;exact w.elim
 | some d=>
  rw [e] at w;refine hg v u H2 _ p.d q.d d o1.rep o2.rep e fun z s=>?_
  cases s with
  | bl b=>
   cases b with
   | false=>exact ⟨false,rfl,lV (Wants.scal w (.bl false) (s1.trans s2) E sub nd newF)⟩
   | true=>
    refine ⟨true,rfl,lU ?_⟩
    have w:Wants K W He O Fs H σ Q (if bP q.d then (fc Γ2).bind fun z Γ'=>(match g' q.d z.d with | some d=>.ok ⟨.leaf,d⟩ Γ' | none=>.no) else .no):=w
    cases hs:bP q.d with
    | false=>rw [hs] at w;exact w.elim
    | true=>
     rw [hs] at w;have w:Wants K W He O Fs H σ Q ((fc Γ2).bind fun z Γ'=>(match g' q.d z.d with | some d=>.ok ⟨.leaf,d⟩ Γ' | none=>.no)):=w
     have su:=o2.rep.sc hs
     refine ⟨He,O,Fs2,Γ2,E.drop sub nd,?_⟩
     cases e3:fc Γ2 with
     | ok p3 Γ3=>
      rw [e3] at w;intro v3 H3 G3 Fs3 A3;have w:Wants K W He O Fs H σ Q (match g' q.d p3.d with | some d=>.ok ⟨.leaf,d⟩ Γ3 | none=>.no):=w
      cases e4:g' q.d p3.d with
      | none=>rw [e4] at w;exact w.elim
      | some d4=>
       rw [e4] at w;exact hg' u v3 H3 Q q.d p3.d d4 su.rep A3.own.rep e4 fun z s=>Wants.scal w s ((s1.trans s2).trans A3.same) A3.env (fun a ha=>KH _ ha) nd fun a ha=>(A3.new a (KH _ ha)).elim (newF a) fun z=>.inr ((s1.trans s2).free z)
     | er c Γ3=>
      rw [e3] at w;exact fun H' Fs' s E'=>w H' Fs' ((s1.trans s2).trans s) E'
     | no=>rw [e3] at w;exact w
  | non=>exact w.elim
  | int i=>exact w.elim
  | str x=>exact w.elim
end
structure AftL (K:Fg) (He:Hp) (O:List Addr) (Fs:List (List Addr)) (H:Hp) (σ:St) (Γ':Ev) (ps:List PV) (vs:List V) (H':Hp) (Gs Fs':List (List Addr)):Prop where
 same:Same H H'
 len1:vs.length=ps.length
 len2:Gs.length=ps.length
 env:EnvOk K He (Gs.flatten++O) Fs' H' σ Γ'
 new:∀a∈Gs.flatten++Fs'.flatten,a∈Fs.flatten\/H a=none
 own:∀(i:Nat) v p G,vs[i]?=some v->ps[i]?=some p->Gs[i]?=some G->Own K (Gs.flatten++O++Fs'.flatten) H' p.s G v p.d
abbrev FL:=Ev->Out (List PV)
noncomputable def vT (K:Fg) (W:XW) (He:Hp) (O:List Addr) (Fs:List (List Addr)) (H:Hp) (σ:St) (Q:List V->Hp->Prop) (o:Out (List PV)):Prop:=match o with
 | .ok ps Γ'=>∀vs H' Gs Fs',AftL K He O Fs H σ Γ' ps vs H' Gs Fs'->Q vs H'
 | .er c Γ'=>∀H' Fs',Same H H'->EnvOk K He O Fs' H' σ Γ'->W c σ H'
 | .no=>False
noncomputable def tA (K:Fg) (W:XW) (f:FL):TA:=fun σ H Q=>∃He O Fs Γ,EnvOk K He O Fs H σ Γ/\vT K W He O Fs H σ Q (f Γ)
noncomputable def af:FL:=fun Γ=>.ok [] Γ
noncomputable def ab (fa:F1) (fl:FL):FL:=fun Γ=>(fa Γ).bind fun p Γ1=>(fl Γ1).bind fun ps Γ2=>.ok (p::ps) Γ2
section
variable {K:Fg} {W:XW} {σ:St} {H:Hp} {Q:VK} {QL:List V->Hp->Prop} {fa fb:F1} {fl:FL}
theorem AQ (h:tA K W af σ H QL):w9 σ H QL:=by
 obtain ⟨He,O,Fs,Γ,E,h⟩:=h;exact h [] H [] Fs ⟨Same.refl _,rfl,rfl,by simpa using E,fun a ha=>.inl (by simpa using ha),fun i v p G e=>by simp at e⟩
theorem m9 {α:Type} (A B C:List α):(A++(B++C)).Perm (B++(A++C)):=by
 rw [<-append_assoc,<-append_assoc];exact List.Perm.append_right _ perm_append_comm
theorem EnvOk.perm {He H:Hp} {O O':List Addr} {Fs:List (List Addr)} {Γ:Ev} (E:EnvOk K He O Fs H σ Γ) (p:O'.Perm O):EnvOk K He O' Fs H σ Γ:=E.drop (fun a ha=>p.mem_iff.mp ha) (p.nodup_iff.mpr E.ndO)
theorem Own.perm {H:Hp} {O O':List Addr} {s:Sh} {G:List Addr} {v:V} {d:D} (h:Own K O H s G v d) (p:∀a∈O',a∈O):Own K O' H s G v d:=h.mono (Same.refl _) fun a ha=>.inl (p a ha)
theorem xE (h:tA K W (ab fa fl) σ H QL):kG (tE K W fa) (tA K W fl) σ H QL:=by
 obtain ⟨He,O,Fs,Γ,E,h⟩:=h;refine ⟨He,O,Fs,Γ,E,?_⟩
 unfold ab at h
 cases e:fa Γ with
 | ok p Γ1=>
  rw [e] at h;intro v H1 G1 Fs1 A1;refine ⟨He,G1++O,Fs1,Γ1,A1.env,?_⟩
  have h:vT K W He O Fs H σ QL ((fl Γ1).bind fun ps Γ2=>.ok (p::ps) Γ2):=h
  cases e2:fl Γ1 with
  | ok ps Γ2=>
   rw [e2] at h;intro vs H2 Gs Fs2 A2;have pm:((G1::Gs).flatten++O).Perm (Gs.flatten++(G1++O)):=by
    rw [flatten_cons,append_assoc];exact m9 _ _ _
   refine h (v::vs) H2 (G1::Gs) Fs2 ⟨A1.same.trans A2.same,by simp [A2.len1],by simp [A2.len2],A2.env.perm pm,fun a ha=>?_,fun i u q G h1 h2 h3=>?_⟩
   ·rcases KJ ha with z | z
    ·rw [flatten_cons] at z
     rcases KJ z with z | z
     ·exact A1.new a (KI _ z)
     ·exact (A2.new a (KI _ z)).elim (fun y=>A1.new a (KH _ y)) fun y=>.inr (A1.same.free y)
    ·exact (A2.new a (KH _ z)).elim (fun y=>A1.new a (KH _ y)) fun y=>.inr (A1.same.free y)
   ·have sub:∀a∈(G1::Gs).flatten++O++Fs2.flatten,a∈Gs.flatten++(G1++O)++Fs2.flatten:=fun a ha=>by
     rcases KJ ha with z | z
     ·exact KI _ (pm.mem_iff.mp z)
     ·exact KH _ z
    cases i with
    | zero=>
     simp at h1 h2 h3
     subst h1 h2 h3;refine (A1.own.mono A2.same fun a ha=>?_).perm sub
     rcases KJ ha with z | z
     ·rcases KJ z with z | z
      ·exact (A2.new a (KI _ z)).elim (fun y=>.inl (KH _ y)) .inr
      ·exact .inl (KI _ z)
     ·exact (A2.new a (KH _ z)).elim (fun y=>.inl (KH _ y)) .inr
    | succ i=>
     simp at h1 h2 h3
     exact (A2.own i u q G h1 h2 h3).perm sub
  | er c Γ2=>
   rw [e2] at h;exact fun H2 Fs2 s E2=>h H2 Fs2 (A1.same.trans s) E2.dropL
  | no=>rw [e2] at h;exact h
 | er c Γ1=>rw [e] at h;exact h
 | no=>rw [e] at h;exact h
theorem AftL.reps {He:Hp} {O:List Addr} {Fs Gs Fs':List (List Addr)} {Γ':Ev} {ps:List PV} {vs:List V} {H':Hp} (A:AftL K He O Fs H σ Γ' ps vs H' Gs Fs'):Reps K H' vs (ps.map (·.d)):=by
 refine ⟨by rw [length_map];exact A.len1,fun i v d h1 h2=>?_⟩
 rw [getElem?_map] at h2
 cases e:ps[i]? with
 | none=>rw [e] at h2;cases h2
 | some p=>
  rw [e] at h2
  cases h2;have hi:=(KQ e).1
  exact (A.own i v p (Gs[i]'(by rw [A.len2];exact hi)) h1 e (KM _)).rep
noncomputable def bJ (g:List D->Option D) (fl:FL):F1:=fun Γ=>(fl Γ).bind fun ps Γ'=>match g (ps.map (·.d)) with
 | some d=>.ok ⟨.leaf,d⟩ Γ'
 | none=>.no
noncomputable def GCall (K:Fg) (r:List V->Hp->VK->Prop) (g:List D->Option D):Prop:=∀vs H Q ds d,Reps K H vs ds->g ds=some d->(∀v,Sc v d->Q v H)->r vs H Q
theorem uC {r:List V->Hp->VK->Prop} {g:List D->Option D} (hg:GCall K r g) (h:tE K W (bJ g fl) σ H Q):DY r (tA K W fl) σ H Q:=by
 obtain ⟨He,O,Fs,Γ,E,h⟩:=h;refine ⟨He,O,Fs,Γ,E,?_⟩
 unfold bJ at h
 cases e:fl Γ with
 | ok ps Γ'=>
  rw [e] at h;intro vs H' Gs Fs' A
  have h:Wants K W He O Fs H σ Q (match g (ps.map (·.d)) with | some d=>.ok ⟨.leaf,d⟩ Γ' | none=>.no):=h
  cases e2:g (ps.map (·.d)) with
  | none=>rw [e2] at h;exact h.elim
  | some d=>
   rw [e2] at h;exact hg vs H' Q _ d A.reps e2 fun v s=>Wants.scal h s A.same A.env (fun a ha=>KH _ ha) E.ndO fun a ha=>A.new a (KH _ ha)
 | er c Γ'=>rw [e] at h;exact h
 | no=>rw [e] at h;exact h
theorem GCall.or {r r':List V->Hp->VK->Prop} {g g':List D->Option D} (h:GCall K r g) (h':GCall K r' g'):GCall K (fun xs H Q=>r xs H Q\/r' xs H Q) (fun ds=>(g ds).or (g' ds)):=by
 intro vs H Q ds d rs e k;have e:(g ds).or (g' ds)=some d:=e
 cases e1:g ds with
 | some z=>rw [e1] at e;cases e;exact .inl (h vs H Q ds _ rs e1 k)
 | none=>rw [e1] at e;exact .inr (h' vs H Q ds d rs (by simpa using e) k)
theorem Reps.one {vs:List V} {d:D} (h:Reps K H vs [d]):∃v,vs=[v]/\Rep K H v d:=by
 obtain ⟨hl,h⟩:=h;match vs,hl with
 | [v],_=>exact ⟨v,rfl,h 0 v d rfl rfl⟩
theorem Reps.two {vs:List V} {d e:D} (h:Reps K H vs [d,e]):∃v u,vs=[v,u]/\Rep K H v d/\Rep K H u e:=by
 obtain ⟨hl,h⟩:=h;match vs,hl with
 | [v,u],_=>exact ⟨v,u,rfl,h 0 v d rfl rfl,h 1 u e rfl rfl⟩
end
noncomputable def qL:List D->Option D
 | [.list xs]=>some (.int xs.length)
 | [.tuple xs]=>some (.int xs.length)
 | _=>none
noncomputable def nP:List D->Option D
 | [.str x]=>if x.length<=sizeLine then some (.int x.length) else none
 | _=>none
noncomputable abbrev bg:List D->Option D:=fun ds=>(qL ds).or (nP ds)
theorem Cn {K:Fg}:GCall K (fun xs H Q=>(∃p ys,xs=[.ref p]/\(SqL K H p ys\/SqT K H p ys)/\Q (.int ys.length) H)\/∃z,xs=[.str z]/\z.length<=sizeLine/\Q (.int z.length) H) bg:=by
 refine GCall.or (g:=qL) (g':=nP) (r:=fun xs H Q=>∃p ys,xs=[.ref p]/\(SqL K H p ys\/SqT K H p ys)/\Q (.int ys.length) H) (r':=fun xs H Q=>∃z,xs=[.str z]/\z.length<=sizeLine/\Q (.int z.length) H) ?_ ?_
 ·intro vs H Q ds d rs e k
  match ds,e with
  | [.list xs],e=>
   obtain ⟨v,rfl,r⟩:=rs.one
   cases e
   cases r with
   | @lst p us _ hq hl _=>exact ⟨p,us,rfl,.inl hq,by rw [hl];exact k _ (.int _)⟩
  | [.tuple xs],e=>
   obtain ⟨v,rfl,r⟩:=rs.one
   cases e
   cases r with
   | @tup p us _ hq hl _=>exact ⟨p,us,rfl,.inr hq,by rw [hl];exact k _ (.int _)⟩
 ·intro vs H Q ds d rs e k
  match ds,e with
  | [.str x],e=>
   obtain ⟨v,rfl,r⟩:=rs.one;simp only [nP] at e
   split at e
   ·rename_i z
    cases e
    cases r;exact ⟨x,rfl,z,k _ (.int _)⟩
   ·cases e
noncomputable def vt:List D->Option D
 | [.int i]=>some (.int i)
 | [.bool b]=>some (.int (if b then 1 else 0))
 | _=>none
theorem Co {K:Fg}:GCall K (fun xs H Q=>(∃i,xs=[.int i]/\Q (.int i) H)\/∃k,xs=[.bl k]/\Q (.int (if k then 1 else 0)) H) vt:=by
 intro vs H Q ds d rs e k;match ds,e with
 | [.int i],e=>
  obtain ⟨v,rfl,r⟩:=rs.one
  cases e;cases r;exact .inl ⟨i,rfl,k _ (.int _)⟩
 | [.bool b],e=>
  obtain ⟨v,rfl,r⟩:=rs.one
  cases e;cases r;exact .inr ⟨b,rfl,k _ (.int _)⟩
noncomputable def KA:List D->Option D
 | [.int i,.int j]=>some (.int (if j>i then j else i))
 | _=>none
noncomputable def cR:List D->Option (List Bool)
 | []=>some []
 | .bool b::r=>(cR r).map (b :: ·)
 | _=>none
theorem jM:∀{ds:List D} {bs:List Bool},cR ds=some bs->ds=bs.map PyData.bool
 | [],bs,h=>by cases h;rfl
 | .bool b::r,bs,h=>by
  simp only [cR] at h
  cases e:cR r with
  | none=>rw [e] at h;cases h
  | some cs=>rw [e] at h;cases h;rw [jM e];rfl
 | .none::_,_,h=>by cases h
 | .int _::_,_,h=>by cases h
 | .str _::_,_,h=>by cases h
 | .list _::_,_,h=>by cases h
 | .tuple _::_,_,h=>by cases h
 | .dict _::_,_,h=>by cases h
noncomputable def cW (any:Bool):List D->Option D
 | [.list xs]=>(cR xs).map fun bs=>.bool (if any then bs.any id else bs.all id)
 | _=>none
theorem jc {K:Fg} {H:Hp}:∀{vs:List V} {bs:List Bool},Reps K H vs (bs.map PyData.bool)->vs=bs.map V.bl
 | [],[],_=>rfl
 | v::vs,b::bs,⟨hl,h⟩=>by
  have r:=h 0 v (.bool b) rfl rfl
  cases r;rw [jc (bs:=bs) (vs:=vs) ⟨by simpa using hl,fun i v d h1 h2=>h (i+1) v d (by simpa using h1) (by simpa using h2)⟩]
  rfl
 | [],_::_,⟨hl,_⟩=>by simp at hl
 | _::_,[],⟨hl,_⟩=>by simp at hl
noncomputable def Bi (K:Fg) (any:Bool):List V->Hp->VK->Prop:=fun xs H Q=>∃(p:Addr) (bs:List Bool),xs=[.ref p]/\SqL K H p (bs.map V.bl)/\Q (.bl (if any then bs.any id else bs.all id)) H
theorem vp {K:Fg} {any:Bool}:GCall K (Bi K any) (cW any):=by
 intro vs H Q ds d rs e k;match ds,e with
 | [.list xs],e=>
  obtain ⟨v,rfl,r⟩:=rs.one;simp only [cW] at e
  cases eb:cR xs with
  | none=>rw [eb] at e;cases e
  | some bs=>
   rw [eb] at e
   cases e;have:=jM eb
   subst this
   cases r with
   | @lst p us _ hq hl hr=>
    have:=jc ⟨hl,hr⟩
    subst this;exact ⟨p,bs,rfl,hq,k _ (.bl _)⟩
section
variable {X:Cx}
theorem lq {bs:List Bool}:∀{its:List Value},Vals (bs.map V.bl) its->its=bs.map Value.bool:=by
 induction bs with
 | nil=>intro its h;cases h;rfl
 | cons b bs ih=>
  intro its h
  cases h with
  | cons r t=>
   cases (show _=Value.bool b from r)
   rw [ih t];rfl
theorem rS (bs:List Bool):(List.range bs.length).all (fun i=>bs.getD i false)=bs.all id:=by
 rw [Bool.eq_iff_iff,all_eq_true,all_eq_true];constructor
 ·intro h b hb
  obtain ⟨i,hi,e⟩:=List.mem_iff_getElem.mp hb;have:=h i (List.mem_range.mpr hi)
  rw [KN,KM hi] at this;rw [<-e];simpa using this
 ·intro h i hi
  have hi:=List.mem_range.mp hi
  rw [KN,KM hi];exact h _ (getElem_mem hi)
theorem rR (bs:List Bool):(List.range bs.length).any (fun i=>bs.getD i false)=bs.any id:=by
 rw [Bool.eq_iff_iff,any_eq_true,any_eq_true];constructor
 ·rintro ⟨i,hi,h⟩
  have hi:=List.mem_range.mp hi
  rw [KN,KM hi] at h;exact ⟨_,getElem_mem hi,h⟩
 ·rintro ⟨b,hb,h⟩
  obtain ⟨i,hi,e⟩:=List.mem_iff_getElem.mp hb;refine ⟨i,List.mem_range.mpr hi,?_⟩
  rw [KN,KM hi,e];exact h
theorem iq {prog:Program} {w:World} {A:Around} {bs:List Bool}:TruthOf prog w A (fun i v=>(bs.map Value.bool).toArray[i]?=some v) (fun i=>bs.getD i false):=by
 intro i v s Q E hP hQ;simp only [getElem?_toArray,getElem?_map] at hP
 cases e:bs[i]? with
 | none=>rw [e] at hP;cases hP
 | some b=>
  rw [e] at hP
  cases hP;have hQ:Q (bs.getD i false) s:=hQ
  rw [KN,e] at hQ;exact wpAny_truthy_bool hQ
theorem tf (hc:X.calm=true):CallR X (.builtin "all") (Bi X.K false):=by
 intro pins s σ H vs us Q I rv h;obtain ⟨p,bs,rfl,hq,q⟩:=h;obtain ⟨u,rfl,ru⟩:=vals1 rv
 cases ru;obtain ⟨its,rv,pl,hz⟩:=I.list hq;have:=lq rv
 subst this;have hd:=I.ok.hd hc
 refine call_all_walk (wpAny_pyIter_list pl.isList ?_)
 have ne:p≠s.heap.objs.size:=by
  obtain ⟨o,n,e,_⟩:=pl;exact Nat.ne_of_lt (Heap.lt_size e)
 refine ⟨s.heap.objs.size,_,_,_,_,_,fun i=>bs.getD i false,rfl,Walks.list (prog:=X.prog) (w:=X.w) (A:=X.A.in1) hd s.heap.objs.size p ne (bs.map Value.bool).toArray,⟨⟨_,Heap.get?_push_size _ rfl,rfl,rfl⟩,pl.isList.at fun o e=>KU _ e⟩,iq,fun h' tk hk=>?_⟩
 refine ⟨.bl _,H,I.kept (h':=h') (t':=tk) fun b o e=>hk b o (fun z=>?_) (KU _ e),rfl,?_⟩
 ·have z:b=s.heap.objs.size:=by simpa using z
  exact absurd (Heap.lt_size e) (by rw [z];exact Nat.lt_irrefl _)
 ·rw [size_toArray,length_map,rS]
  exact q
theorem sZ (hc:X.calm=true):CallR X (.builtin "any") (Bi X.K true):=by
 intro pins s σ H vs us Q I rv h;obtain ⟨p,bs,rfl,hq,q⟩:=h;obtain ⟨u,rfl,ru⟩:=vals1 rv
 cases ru;obtain ⟨its,rv,pl,hz⟩:=I.list hq;have:=lq rv
 subst this;have hd:=I.ok.hd hc
 refine call_any_walk (wpAny_pyIter_list pl.isList ?_)
 have ne:p≠s.heap.objs.size:=by
  obtain ⟨o,n,e,_⟩:=pl;exact Nat.ne_of_lt (Heap.lt_size e)
 refine ⟨s.heap.objs.size,_,_,_,_,_,fun i=>bs.getD i false,rfl,Walks.list (prog:=X.prog) (w:=X.w) (A:=X.A.in1) hd s.heap.objs.size p ne (bs.map Value.bool).toArray,⟨⟨_,Heap.get?_push_size _ rfl,rfl,rfl⟩,pl.isList.at fun o e=>KU _ e⟩,iq,fun h' tk hk=>?_⟩
 refine ⟨.bl _,H,I.kept (h':=h') (t':=tk) fun b o e=>hk b o (fun z=>?_) (KU _ e),rfl,?_⟩
 ·have z:b=s.heap.objs.size:=by simpa using z
  exact absurd (Heap.lt_size e) (by rw [z];exact Nat.lt_irrefl _)
 ·rw [size_toArray,length_map,rR]
  exact q
end
noncomputable def cx (s:Sh) (j:Nat) (d:D):Option Sh:=match s with
 | .leaf=>some .leaf
 | .view=>some (if bP d then .leaf else .view)
 | .lst s=>some s
 | .tup ss=>ss[j]?
noncomputable def ao (fa fb:F1):F1:=ba fa fun p=>ba fb fun q=>fun Γ=>match q.d with
 | .int i=>(match p.d with
  | .list ds=>(match eT ds.length i with
   | some j=>(match ds[j]? with
    | some d=>(match cx p.s j d with
     | some s=>.ok ⟨s,d⟩ Γ
     | none=>.no)
    | none=>.no)
   | none=>.no)
  | .tuple ds=>(match eT ds.length i with
   | some j=>(match ds[j]? with
    | some d=>(match cx p.s j d with
     | some s=>.ok ⟨s,d⟩ Γ
     | none=>.no)
    | none=>.no)
   | none=>.no)
  | .str z=>if z.length<=sizeLine then (match fE z.cps.toList i with
   | some c=>.ok ⟨.leaf,.str ⟨#[c]⟩⟩ Γ
   | none=>.no) else .no
  | _=>.no)
 | _=>.no
theorem Own.item {K:Fg} {O:List Addr} {H:Hp} {s s':Sh} {G:List Addr} {p:Addr} {ds:List D} {j:Nat} {d:D} (h:Own K O H s G (.ref p) (.list ds)) (hd:ds[j]?=some d) (hs:cx s j d=some s') :
  ∃vs v G',SqL K H p vs/\vs.length=ds.length/\vs[j]?=some v/\(∀a∈G',a∈G)/\G'.Nodup/\Own K O H s' G' v d:=by
 have hi:=(KQ hd).1
 cases h with
 | view r=>
  cases r with
  | @lst _ vs _ hq hl hr=>
   have hv:vs[j]?=some (vs[j]'(by omega)):=KM _
   have r':=hr j _ d hv hd
   simp only [cx,Option.some.injEq] at hs
   cases e:bP d with
   | true=>
    rw [e] at hs
    cases hs;exact ⟨vs,_,[],hq,hl,hv,(fun _ z=>nomatch z),nodup_nil,.leaf (r'.sc e).rep⟩
   | false=>
    rw [e] at hs
    cases hs;exact ⟨vs,_,[],hq,hl,hv,(fun _ z=>nomatch z),nodup_nil,.view r'⟩
 | leaf r=>
  cases r with
  | @lst _ vs _ hq hl hr=>
   have hv:vs[j]?=some (vs[j]'(by omega)):=KM _
   cases hs;exact ⟨vs,_,[],hid_le.seq hq,hl,hv,(fun _ z=>nomatch z),nodup_nil,.leaf (hr j _ d hv hd)⟩
 | @lst s₀ _ vs _ Fs hv hp hl hf nd hr=>
  have hv':vs[j]?=some (vs[j]'(by omega)):=KM _
  have hF:Fs[j]?=some (Fs[j]'(by omega)):=KM _
  cases hs;refine ⟨vs,_,_,.of hp,hl,hv',fun a ha=>KO _ (oH hF ha),?_,hr j _ d _ hv' hd hF⟩
  exact ((List.nodup_cons.mp nd).2).sublist (List.sublist_flatten_of_mem (mem_of_getElem? hF))
theorem Own.itemT {K:Fg} {O:List Addr} {H:Hp} {s s':Sh} {G:List Addr} {p:Addr} {ds:List D} {j:Nat} {d:D} (h:Own K O H s G (.ref p) (.tuple ds)) (hd:ds[j]?=some d) (hs:cx s j d=some s') :
  ∃vs v G',SqT K H p vs/\vs.length=ds.length/\vs[j]?=some v/\(∀a∈G',a∈G)/\G'.Nodup/\Own K O H s' G' v d:=by
 have hi:=(KQ hd).1
 cases h with
 | view r=>
  cases r with
  | @tup _ vs _ hq hl hr=>
   have hv:vs[j]?=some (vs[j]'(by omega)):=KM _
   have r':=hr j _ d hv hd
   simp only [cx,Option.some.injEq] at hs
   cases e:bP d with
   | true=>
    rw [e] at hs
    cases hs;exact ⟨vs,_,[],hq,hl,hv,(fun _ z=>nomatch z),nodup_nil,.leaf (r'.sc e).rep⟩
   | false=>
    rw [e] at hs
    cases hs;exact ⟨vs,_,[],hq,hl,hv,(fun _ z=>nomatch z),nodup_nil,.view r'⟩
 | leaf r=>
  cases r with
  | @tup _ vs _ hq hl hr=>
   have hv:vs[j]?=some (vs[j]'(by omega)):=KM _
   cases hs;exact ⟨vs,_,[],gm hid_le hq,hl,hv,(fun _ z=>nomatch z),nodup_nil,.leaf (hr j _ d hv hd)⟩
 | @tup ss _ vs _ Fs hv hp hn hl hf hl2 nd hr=>
  have hv':vs[j]?=some (vs[j]'(by omega)):=KM _
  have hF:Fs[j]?=some (Fs[j]'(by omega)):=KM _
  have hs:ss[j]?=some s':=hs
  refine ⟨vs,_,_,.of hp,hl,hv',fun a ha=>oH hF ha,?_,hr j _ d _ _ hv' hd hF hs⟩
  exact nd.sublist (List.sublist_flatten_of_mem (mem_of_getElem? hF))
theorem Wants.part {K:Fg} {W:XW} {σ:St} {He H H2:Hp} {O G G':List Addr} {Fs Fs2:List (List Addr)} {Γ':Ev} {Q:VK} {s:Sh} {v:V} {d:D} (h:Wants K W He O Fs H σ Q (.ok ⟨s,d⟩ Γ')) (e:Same H H2)
  (E:EnvOk K He (G++O) Fs2 H2 σ Γ') (sub:∀a∈G',a∈G) (nd:G'.Nodup) (new:∀a∈G++Fs2.flatten,a∈Fs.flatten\/H a=none) (o:Own K (G++O++Fs2.flatten) H2 s G' v d):Q v H2:=by
 have sub2:∀a∈G'++O,a∈G++O:=fun a ha=>by
  rcases KJ ha with z | z
  ·exact KI _ (sub a z)
  ·exact KH _ z
 obtain ⟨n1,n2,n3⟩:=KP E.ndO;refine h v H2 G' Fs2 ⟨e,E.drop sub2 (List.nodup_append.mpr ⟨nd,n2,fun a ha b hb=>n3 a (sub a ha) b hb⟩),fun a ha=>new a ?_,o.perm fun a ha=>?_⟩
 ·rcases KJ ha with z | z
  ·exact KI _ (sub a z)
  ·exact KH _ z
 ·rcases KJ ha with z | z
  ·exact KI _ (sub2 a z)
  ·exact KH _ z
theorem G7 {α β:Type} {xs:List α} {ys:List β} {i:Int} {j:Nat} {v:α} (hl:xs.length=ys.length) (h:eT ys.length i=some j) (hv:xs[j]?=some v):fE xs i=some v:=by
 unfold fE;rw [hl,h];exact hv
section
variable {K:Fg} {W:XW} {σ:St} {H:Hp} {Q:VK} {fa fb:F1}
theorem AU (h:tE K W (ao fa fb) σ H Q):w6 (Jo K) (tE K W fa) (tE K W fb) σ H Q:=by
 refine C1 h ?_
 intro He O Fs Γ2 p q v u H1 H2 G1 G2 Fs2 nd s1 s2 E new o1 o2 w;obtain ⟨ps,pd⟩:=p;obtain ⟨qs,qd⟩:=q;have ri:=o2.rep
 cases qd<;>try exact w.elim
 rename_i i
 cases ri;have E':EnvOk K He ((G2++G1)++O) Fs2 H2 σ Γ2:=by rw [append_assoc];exact E
 have new':∀a∈(G2++G1)++Fs2.flatten,a∈Fs.flatten\/H a=none:=fun a ha=>new a (by rw [<-append_assoc];exact ha)
 have o1':Own K ((G2++G1)++O++Fs2.flatten) H2 ps G1 v pd:=o1.perm fun a ha=>by rw [append_assoc G2] at ha;exact ha
 have rp:=o1.rep
 cases pd with
 | list ds=>
  obtain ⟨p0,rfl⟩:∃p0,v=.ref p0:=by cases rp;exact ⟨_,rfl⟩
  have w:Wants K W He O Fs H σ Q (match eT ds.length i with | some j=>(match ds[j]? with | some d=>(match cx ps j d with | some s=>.ok ⟨s,d⟩ Γ2 | none=>.no) | none=>.no) | none=>.no):=w
  cases e1:eT ds.length i with
  | none=>rw [e1] at w;exact w.elim
  | some j=>
   rw [e1] at w;have w:Wants K W He O Fs H σ Q (match ds[j]? with | some d=>(match cx ps j d with | some s=>.ok ⟨s,d⟩ Γ2 | none=>.no) | none=>.no):=w
   cases e2:ds[j]? with
   | none=>rw [e2] at w;exact w.elim
   | some d=>
    rw [e2] at w;have w:Wants K W He O Fs H σ Q (match cx ps j d with | some s=>.ok ⟨s,d⟩ Γ2 | none=>.no):=w
    cases e3:cx ps j d with
    | none=>rw [e3] at w;exact w.elim
    | some s=>
     rw [e3] at w;obtain ⟨vs,v',G',h1,h2,h3,h4,h5,h6⟩:=o1'.item e2 e3
     exact .inl ⟨p0,vs,i,v',rfl,rfl,h1,G7 h2 e1 h3,Wants.part w (s1.trans s2) E' (fun a ha=>KH _ (h4 a ha)) h5 new' h6⟩
 | tuple ds=>
  obtain ⟨p0,rfl⟩:∃p0,v=.ref p0:=by cases rp;exact ⟨_,rfl⟩
  have w:Wants K W He O Fs H σ Q (match eT ds.length i with | some j=>(match ds[j]? with | some d=>(match cx ps j d with | some s=>.ok ⟨s,d⟩ Γ2 | none=>.no) | none=>.no) | none=>.no):=w
  cases e1:eT ds.length i with
  | none=>rw [e1] at w;exact w.elim
  | some j=>
   rw [e1] at w;have w:Wants K W He O Fs H σ Q (match ds[j]? with | some d=>(match cx ps j d with | some s=>.ok ⟨s,d⟩ Γ2 | none=>.no) | none=>.no):=w
   cases e2:ds[j]? with
   | none=>rw [e2] at w;exact w.elim
   | some d=>
    rw [e2] at w;have w:Wants K W He O Fs H σ Q (match cx ps j d with | some s=>.ok ⟨s,d⟩ Γ2 | none=>.no):=w
    cases e3:cx ps j d with
    | none=>rw [e3] at w;exact w.elim
    | some s=>
     rw [e3] at w;obtain ⟨vs,v',G',h1,h2,h3,h4,h5,h6⟩:=o1'.itemT e2 e3
     exact .inr (.inl ⟨p0,vs,i,v',rfl,rfl,h1,G7 h2 e1 h3,Wants.part w (s1.trans s2) E' (fun a ha=>KH _ (h4 a ha)) h5 new' h6⟩)
 | str z=>
  cases rp;have w:Wants K W He O Fs H σ Q (if z.length<=sizeLine then (match fE z.cps.toList i with | some c=>.ok ⟨.leaf,.str ⟨#[c]⟩⟩ Γ2 | none=>.no) else .no):=w
  by_cases hz:z.length<=sizeLine
  ·rw [if_pos hz] at w
   cases e1:fE z.cps.toList i with
   | none=>rw [e1] at w;exact w.elim
   | some c=>
    rw [e1] at w;exact .inr (.inr ⟨z,i,c,rfl,rfl,hz,e1,Wants.scal w (.str _) (s1.trans s2) E (fun a ha=>KH _ (KH _ ha)) nd fun a ha=>new a (KH _ (KH _ ha))⟩)
  ·rw [if_neg hz] at w
   exact w.elim
 | none=>exact w.elim
 | bool b=>exact w.elim
 | int k=>exact w.elim
 | dict k=>exact w.elim
end
theorem nJ (s:Sh):∀Gs:List (List Addr),((Gs.map (aW s)).flatten).Sublist Gs.flatten
 | []=>List.Sublist.refl _
 | G::Gs=>by
  simp only [map_cons,flatten_cons]
  refine List.Sublist.append ?_ (nJ s Gs)
  unfold aW;split
  ·exact List.nil_sublist _
  ·exact List.Sublist.refl _
theorem kR:∀Gs:List (List Addr),(Gs.map (aW .leaf)).flatten=[]
 | []=>rfl
 | _::Gs=>by simp only [map_cons,flatten_cons,kR Gs];rfl
section
variable {K:Fg} {W:XW} {σ:St} {He H H':Hp} {O:List Addr} {Fs Fs' Gs:List (List Addr)} {Γ':Ev} {ps:List PV} {vs:List V} {Q:VK}
theorem AftL.newList {s:Sh} {p:Addr} (A:AftL K He O Fs H σ Γ' ps vs H' Gs Fs') (hs:s.isView=false) (hc:ps.all (T.coer s)=true) (hp:H' p=none) :
  Aft K He O Fs H σ Γ' ⟨.lst s,.list (ps.map (·.d))⟩ (.ref p) (cy H' p (.lst vs)) (p::(Gs.map (aW s)).flatten) Fs':=by
 obtain ⟨n1,n2,n3⟩:=KP A.env.ndO;obtain ⟨m1,m2,m3⟩:=KP A.env.nd;have hsub:=nJ s Gs
 have E1:EnvOk K He ((Gs.map (aW s)).flatten++O) Fs' H' σ Γ':=A.env.drop (fun a ha=>by
   rcases KJ ha with z | z
   ·exact KI _ (hsub.subset z)
   ·exact KH _ z) (List.nodup_append.mpr ⟨n1.sublist hsub,n2,fun a ha b hb=>n3 a (hsub.subset ha) b hb⟩)
 have E2:=E1.hide (G:=[p]) (lD (o:=.lst vs) hp) (by simp) (fun a ha=>by simp at ha;rw [ha];exact hp) (fun a ha=>by simp at ha;rw [ha,jQ];exact Option.some_ne_none _)
 have pn:∀{a},a∈Gs.flatten++O++Fs'.flatten->a≠p:=fun {a} ha z=>A.env.inH a ha (by rw [z];exact hp)
 refine ⟨A.same.trans (lD hp),E2,fun a ha=>?_,?_⟩
 ·rcases KJ ha with z | z
  ·rcases KL z with z | z
   ·rw [z];exact .inr (A.same.free hp)
   ·exact A.new a (KI _ (hsub.subset z))
  ·exact A.new a (KH _ z)
 ·refine .lst hs jQ (by rw [length_map];exact A.len1) (by rw [length_map,length_map];exact A.len2) ?_ fun i v d F h1 h2 h3=>?_
  ·refine List.nodup_cons.mpr ⟨fun z=>pn (KI _ (KI _ (hsub.subset z))) rfl,n1.sublist hsub⟩
  ·rw [getElem?_map] at h2 h3
   cases e2:ps[i]? with
   | none=>rw [e2] at h2;cases h2
   | some q=>
    cases e3:Gs[i]? with
    | none=>rw [e3] at h3;cases h3
    | some G=>
     rw [e2] at h2;rw [e3] at h3
     cases h2
     cases h3;have cq:T.coer s q=true:=List.all_eq_true.mp hc q (mem_of_getElem? e2)
     have o1:=(A.own i v q G h1 e2 e3).mono (O':=p::(Gs.flatten++O++Fs'.flatten)) (lD (o:=.lst vs) hp) fun a ha=>by
      rcases KL ha with z | z
      ·rw [z];exact .inr hp
      ·exact .inl z
     refine o1.coer cq (fun a ha=>?_) fun a ha hO=>?_
     ·rw [append_assoc] at ha
      rcases KJ ha with z | z
      ·rcases KL z with z | z
       ·rw [z];exact mem_cons_self
       ·exact KO _ (KI _ (KI _ (hsub.subset z)))
      ·rcases KJ z with z | z
       ·exact KO _ (KI _ (KH _ z))
       ·exact KO _ (KH _ z)
     ·have hG:a∈Gs.flatten:=oH e3 ha
      cases s with
      | leaf=>
       rw [kR] at hO;exfalso
       rw [append_assoc] at hO;rcases KJ hO with z | z
       ·have z:a=p:=by simpa using z
        exact pn (KI _ (KI _ hG)) z
       ·rcases KJ z with z | z
        ·exact n3 a hG a z rfl
        ·exact m3 a (KI _ hG) a z rfl
      | view=>cases hs
      | lst s=>exact ha
      | tup ss=>exact ha
noncomputable def cc (s:Sh) (fl:FL):F1:=fun Γ=>(fl Γ).bind fun ps Γ'=>if !s.isView&&ps.all (T.coer s)&&decide (ps.length<=sizeLine) then .ok ⟨.lst s,.list (ps.map (·.d))⟩ Γ' else .no
theorem xw {s:Sh} {fl:FL} (h:tE K W (cc s fl) σ H Q):DV (tA K W fl) σ H Q:=by
 obtain ⟨He,O,Fs,Γ,E,h⟩:=h;refine ⟨He,O,Fs,Γ,E,?_⟩
 unfold cc at h
 cases e:fl Γ with
 | ok ps Γ'=>
  rw [e] at h;intro vs H' Gs Fs' A
  have h:Wants K W He O Fs H σ Q (if (!s.isView&&ps.all (T.coer s)&&decide (ps.length<=sizeLine))=true then .ok ⟨.lst s,.list (ps.map (·.d))⟩ Γ' else .no):=h
  by_cases hc:(!s.isView&&ps.all (T.coer s)&&decide (ps.length<=sizeLine))=true
  ·rw [if_pos hc] at h
   simp only [Bool.and_eq_true,decide_eq_true_eq,Bool.not_eq_true'] at hc
   exact ⟨by rw [A.len1];exact hc.2,fun p hp=>h _ _ _ _ (A.newList hc.1.1 hc.1.2 hp)⟩
  ·rw [if_neg hc] at h
   exact h.elim
 | er c Γ'=>rw [e] at h;exact h
 | no=>rw [e] at h;exact h
noncomputable def wu (p:PV):Sh:=if p.s.isView then .leaf else p.s
noncomputable def tok (p:PV):Bool:=!p.s.isView||bP p.d
theorem AftL.newTup {p:Addr} (A:AftL K He O Fs H σ Γ' ps vs H' Gs Fs') (hc:ps.all tok=true) (hp:H' p=none) :
  Aft K He O Fs H σ Γ' ⟨.tup (ps.map wu),.tuple (ps.map (·.d))⟩ (.ref p) (cy H' p (.tup vs)) Gs.flatten Fs':=by
 obtain ⟨n1,n2,n3⟩:=KP A.env.ndO;have pn:p∉Gs.flatten++O++Fs'.flatten:=fun ha=>A.env.inH p ha hp
 refine ⟨A.same.trans (lD hp),A.env.grow (lD hp),A.new,?_⟩
 refine .tup (fun s hs=>?_) jQ pn (by rw [length_map];exact A.len1) (by rw [length_map];exact A.len2) (by rw [length_map,length_map]) n1 fun i v d F s h1 h2 h3 h4=>?_
 ·obtain ⟨q,_,rfl⟩:=List.mem_map.mp hs
  unfold wu;split
  ·rfl
  ·rename_i z;simpa using z
 ·rw [getElem?_map] at h2 h4
  cases e2:ps[i]? with
  | none=>rw [e2] at h2;cases h2
  | some q=>
   rw [e2] at h2 h4
   cases h2
   cases h4;have cq:tok q=true:=List.all_eq_true.mp hc q (mem_of_getElem? e2)
   have o1:=(A.own i v q F h1 e2 h3).mono (O':=Gs.flatten++O++Fs'.flatten) (lD (o:=.tup vs) hp) fun a ha=>.inl ha
   unfold wu
   cases hv:q.s.isView with
   | false=>exact o1
   | true=>
    unfold tok at cq;rw [hv] at cq;obtain ⟨s,d⟩:=q
    cases s with
    | view=>
     cases o1 with
     | view r=>exact .leaf (r.sc (by simpa using cq)).rep
    | _=>cases hv
noncomputable def bq (fl:FL):F1:=fun Γ=>(fl Γ).bind fun ps Γ'=>if ps.all tok&&decide (ps.length<=sizeLine) then .ok ⟨.tup (ps.map wu),.tuple (ps.map (·.d))⟩ Γ' else .no
theorem AJ {fl:FL} (h:tE K W (bq fl) σ H Q):DP (tA K W fl) σ H Q:=by
 obtain ⟨He,O,Fs,Γ,E,h⟩:=h;refine ⟨He,O,Fs,Γ,E,?_⟩
 unfold bq at h
 cases e:fl Γ with
 | ok ps Γ'=>
  rw [e] at h;intro vs H' Gs Fs' A
  have h:Wants K W He O Fs H σ Q (if (ps.all tok&&decide (ps.length<=sizeLine))=true then .ok ⟨.tup (ps.map wu),.tuple (ps.map (·.d))⟩ Γ' else .no):=h
  by_cases hc:(ps.all tok&&decide (ps.length<=sizeLine))=true
  ·rw [if_pos hc] at h
   simp only [Bool.and_eq_true,decide_eq_true_eq] at hc
   exact ⟨by rw [A.len1];exact hc.2,fun p hp=>h _ _ _ _ (A.newTup hc.1 hp)⟩
  ·rw [if_neg hc] at h
   exact h.elim
 | er c Γ'=>rw [e] at h;exact h
 | no=>rw [e] at h;exact h
end
noncomputable def aE (p:PV) (ds:List D):Bool:=!p.s.isView||ds.all bP
theorem Own.items {K:Fg} {O O':List Addr} {H:Hp} {s:Sh} {G:List Addr} {v:V} {ds:List D} (h:Own K O H s G v (.list ds)) (hc:aE ⟨s,.list ds⟩ ds=true) (h1:∀a∈O',a∈O) (h2:∀a∈G,a∉O') :
  ∃p vs,v=.ref p/\SqL K H p vs/\(s.isView=false->SqL K (dD H O') p vs)/\Reps K (dD H O') vs ds:=by
 have hr:=h.rep
 cases hv:s.isView with
 | false=>
  have r:=h.freeze hv h1 h2
  cases r with
  | @lst p vs _ hq hl hr=>exact ⟨p,vs,rfl,hid_le.seq hq,fun _=>hq,hl,hr⟩
 | true=>
  unfold aE at hc;have hc:ds.all bP=true:=by simpa [hv] using hc
  cases hr with
  | @lst p vs _ hq hl hr=>exact ⟨p,vs,rfl,hq,nofun,hl,fun i v d e1 e2=>((hr i v d e1 e2).sc (List.all_eq_true.mp hc d (mem_of_getElem? e2))).rep⟩
theorem Own.itemsT {K:Fg} {O O':List Addr} {H:Hp} {s:Sh} {G:List Addr} {v:V} {ds:List D} (h:Own K O H s G v (.tuple ds)) (hc:aE ⟨s,.tuple ds⟩ ds=true) (h1:∀a∈O',a∈O) (h2:∀a∈G,a∉O') :
  ∃p vs,v=.ref p/\SqT K H p vs/\(s.isView=false->SqT K (dD H O') p vs)/\Reps K (dD H O') vs ds:=by
 have hr:=h.rep
 cases hv:s.isView with
 | false=>
  have r:=h.freeze hv h1 h2
  cases r with
  | @tup p vs _ hq hl hr=>exact ⟨p,vs,rfl,gm hid_le hq,fun _=>hq,hl,hr⟩
 | true=>
  unfold aE at hc;have hc:ds.all bP=true:=by simpa [hv] using hc
  cases hr with
  | @tup p vs _ hq hl hr=>exact ⟨p,vs,rfl,hq,nofun,hl,fun i v d e1 e2=>((hr i v d e1 e2).sc (List.all_eq_true.mp hc d (mem_of_getElem? e2))).rep⟩
theorem u7 {K:Fg} {σ:St} {He H H1:Hp} {O:List Addr} {Fs Fs1:List (List Addr)} {Γ1:Ev} {vs:List V} {ds:List D} {p:Addr} (E:EnvOk K He O Fs1 H1 σ Γ1) (s:Same H H1) (n:∀a∈Fs1.flatten,a∈Fs.flatten\/H a=none)
  (hr:Reps K (dD H1 (O++Fs1.flatten)) vs ds) (hp:H1 p=none):Aft K He O Fs H σ Γ1 ⟨.lst .leaf,.list ds⟩ (.ref p) (cy H1 p (.lst vs)) [p] Fs1:=by
 have E2:=E.hide (G:=[p]) (lD (o:=.lst vs) hp) (by simp) (fun a ha=>by simp at ha;rw [ha];exact hp) (fun a ha=>by simp at ha;rw [ha,jQ];exact Option.some_ne_none _)
 refine ⟨s.trans (lD hp),E2,fun a ha=>?_,?_⟩
 ·rcases KJ ha with z | z
  ·have z:a=p:=by simpa using z
   rw [z];exact .inr (s.free hp)
  ·exact n a z
 ·have fl:(List.replicate ds.length ([]:List Addr)).flatten=[]:=by simp
  have:[p]=p::(List.replicate ds.length ([]:List Addr)).flatten:=by rw [fl]
  rw [this];refine .lst rfl jQ hr.1 (by simp) (by rw [fl];simp) fun i v d F h1 h2 h3=>?_
  rw [getElem?_replicate] at h3;split at h3
  ·cases h3
   refine .leaf ((hr.2 i v d h1 h2).mono (we (lD hp) fun a ha=>?_))
   rw [fl] at ha;rcases KJ ha with z | z
   ·rcases KJ z with z | z
    ·have z:a=p:=by simpa using z
     rw [z];exact .inr hp
    ·exact .inl (KI _ z)
   ·exact .inl (KH _ z)
  ·cases h3
section
variable {K:Fg} {W:XW} {σ:St} {H:Hp} {Q:VK} {fa fb:F1}
theorem Aft.disj {He H1:Hp} {O G:List Addr} {Fs Fs1:List (List Addr)} {Γ1:Ev} {p:PV} {v:V} (A:Aft K He O Fs H σ Γ1 p v H1 G Fs1):∀a∈G,a∉O++Fs1.flatten:=fun a ha z=>by
 have nd:=A.env.nd
 rw [append_assoc] at nd;exact (KP nd).2.2 a ha a z rfl
theorem mL {G O F:List Addr}:∀a∈O++F,a∈G++O++F:=fun a ha=>by
 rw [append_assoc];exact KH _ ha
end
structure y1 (J:It) (P:Hp->Prop) (vs:List V):Prop where
 go:∀(i:Nat) H v,P H->vs[i]?=some v->J.go i H/\∀x H',J.yld i H x H'->H'=H/\x=v
 stop:∀H,P H->J.stop vs.length H
theorem ym {K:Fg} {a:Addr} {vs:List V}:y1 (G5 K a) (fun H=>SqL K H a vs) vs:=
 ⟨fun i H v hp hv=>⟨⟨vs,v,hp,hv⟩,fun x H' ⟨e,q⟩=>⟨e,Option.some.inj ((q vs hp).symm.trans hv)⟩⟩,fun H hp=>⟨vs,hp,KW _⟩⟩
theorem B3 {K:Fg} {a:Addr} {vs:List V}:y1 (G4 K a) (fun H=>SqT K H a vs) vs:=
 ⟨fun i H v hp hv=>⟨⟨vs,v,hp,hv⟩,fun x H' ⟨e,q⟩=>⟨e,Option.some.inj ((q vs hp).symm.trans hv)⟩⟩,fun H hp=>⟨vs,hp,KW _⟩⟩
noncomputable def fT (lo:Int) (n:Nat):List V:=(List.range n).map fun i=>.int (lo+(i:Nat))
noncomputable def cw (lo:Int) (n:Nat):List D:=(List.range n).map fun i=>.int (lo+(i:Nat))
theorem ve {lo:Int} {n:Nat}:y1 (CW lo n) (fun _=>True) (fT lo n):=by
 refine ⟨fun i H v _ hv=>?_,fun H _=>?_⟩
 ·unfold fT at hv
  rw [getElem?_map] at hv
  cases e:(List.range n)[i]? with
  | none=>rw [e] at hv;cases hv
  | some k=>
   rw [e] at hv;obtain ⟨h1,h2⟩:=KQ e
   simp at h1 h2
   subst h2
   cases hv;exact ⟨h1,fun x H' ⟨q1,q2⟩=>⟨q1,q2⟩⟩
 ·show n<=(fT lo n).length
  simp [fT]
theorem Ia {K:Fg} {H:Hp} {lo:Int} {n:Nat}:Reps K H (fT lo n) (cw lo n):=by
 refine ⟨by simp [fT,cw],fun i v d h1 h2=>?_⟩
 unfold fT at h1;unfold cw at h2;rw [getElem?_map] at h1 h2
 cases e:(List.range n)[i]? with
 | none=>rw [e] at h1;cases h1
 | some k=>
  rw [e] at h1 h2
  cases h1
  cases h2;exact .int _
structure Kt where
 ds:List D
 st:Bool
abbrev FI:=Ev->Out Kt
noncomputable def jN (K:Fg) (W:XW) (He:Hp) (O:List Addr) (Fs:List (List Addr)) (H:Hp) (σ:St) (R:It->Hp->Prop) (o:Out Kt):Prop:=match o with
 | .ok t Γ'=>∀J H' Fs' vs P,Same H H'->EnvOk K He O Fs' H' σ Γ'->(∀a∈Fs'.flatten,a∈Fs.flatten\/H a=none)->y1 J P vs->P H'->(∀H2,Same H' H2->P H2)->(t.st=true->∀H2,Same (dD H' Fs'.flatten) H2->P H2) ->
   Reps K (dD H' (O++Fs'.flatten)) vs t.ds->R J H'
 | .er c Γ'=>∀H' Fs',Same H H'->EnvOk K He O Fs' H' σ Γ'->W c σ H'
 | .no=>False
noncomputable def tI (K:Fg) (W:XW) (f:FI):TI:=fun σ H R=>∃He O Fs Γ,EnvOk K He O Fs H σ Γ/\jN K W He O Fs H σ R (f Γ)
theorem qV {X:Cx} {tg iter:Expr} {t t':TI} (h:PI X tg iter t) (i:∀σ H R,t' σ H R->t σ H R):PI X tg iter t':=fun pins s σ H R I q=>h pins s σ H R I (i σ H R q)
noncomputable def bf (fa:F1):FI:=fun Γ=>(fa Γ).bind fun p Γ'=>match p.d with
 | .list ds=>if aE p ds then .ok ⟨ds,!p.s.isView⟩ Γ' else .no
 | _=>.no
noncomputable def bV (fa:F1):FI:=fun Γ=>(fa Γ).bind fun p Γ'=>match p.d with
 | .tuple ds=>if aE p ds then .ok ⟨ds,!p.s.isView⟩ Γ' else .no
 | _=>.no
section
variable {K:Fg} {W:XW} {σ:St} {H:Hp} {R:It->Hp->Prop} {fa fb:F1}
theorem sub_hid {H:Hp} {O F:List Addr}:Same (dD H (O++F)) (dD H F):=we (Same.refl _) fun a ha=>.inl (KH _ ha)
theorem xB (h:tI K W (bf fa) σ H R):zK K (tE K W fa) σ H R:=by
 obtain ⟨He,O,Fs,Γ,E,h⟩:=h;refine ⟨He,O,Fs,Γ,E,?_⟩
 unfold bf at h
 cases e:fa Γ with
 | ok p Γ1=>
  rw [e] at h;intro v H1 G Fs1 A;obtain ⟨s,d⟩:=p
  cases d with
  | list ds=>
   have h:jN K W He O Fs H σ R (if aE ⟨s,.list ds⟩ ds then .ok ⟨ds,!s.isView⟩ Γ1 else .no):=h
   cases hc:aE ⟨s,.list ds⟩ ds with
   | false=>rw [hc] at h;exact h.elim
   | true=>
    rw [hc] at h;obtain ⟨p,vs,rfl,hq,hst,hr⟩:=A.own.items (O':=O++Fs1.flatten) hc mL A.disj
    exact ⟨p,rfl,⟨vs,hq⟩,h (G5 K p) H1 Fs1 vs (fun H=>SqL K H p vs) A.same A.go A.newF ym hq (fun H2 s2=>s2.seq hq) (fun ht H2 s2=>s2.seq (sub_hid.seq (hst (by simpa using ht)))) hr⟩
  | _=>exact h.elim
 | er c Γ'=>rw [e] at h;exact h
 | no=>rw [e] at h;exact h
theorem xA (h:tI K W (bV fa) σ H R):EW K (tE K W fa) σ H R:=by
 obtain ⟨He,O,Fs,Γ,E,h⟩:=h;refine ⟨He,O,Fs,Γ,E,?_⟩
 unfold bV at h
 cases e:fa Γ with
 | ok p Γ1=>
  rw [e] at h;intro v H1 G Fs1 A;obtain ⟨s,d⟩:=p
  cases d with
  | tuple ds=>
   have h:jN K W He O Fs H σ R (if aE ⟨s,.tuple ds⟩ ds then .ok ⟨ds,!s.isView⟩ Γ1 else .no):=h
   cases hc:aE ⟨s,.tuple ds⟩ ds with
   | false=>rw [hc] at h;exact h.elim
   | true=>
    rw [hc] at h;obtain ⟨p,vs,rfl,hq,hst,hr⟩:=A.own.itemsT (O':=O++Fs1.flatten) hc mL A.disj
    exact ⟨p,rfl,⟨vs,hq⟩,h (G4 K p) H1 Fs1 vs (fun H=>SqT K H p vs) A.same A.go A.newF B3 hq (fun H2 s2=>gm s2 hq) (fun ht H2 s2=>gm s2 (gm sub_hid (hst (by simpa using ht)))) hr⟩
  | _=>exact h.elim
 | er c Γ'=>rw [e] at h;exact h
 | no=>rw [e] at h;exact h
noncomputable def dP (j:Int):Bool:=decide (-(2 ^ 62)<=j)&&decide (j<2 ^ 62)
noncomputable def kd:List D->Option Int
 | [.int j]=>if dP j then some j else none
 | _=>none
noncomputable def rL:List D->Option (Int×Int)
 | [.int i,.int j]=>if dP i&&dP j then some (i,j) else none
 | _=>none
theorem qm {ds:List D} {j:Int} (h:kd ds=some j):ds=[.int j]/\-(2 ^ 62)<=j/\j<2 ^ 62:=by
 unfold kd at h;split at h
 ·split at h
  ·rename_i hc
   cases h;simp only [dP,Bool.and_eq_true,decide_eq_true_eq] at hc
   exact ⟨rfl,hc.1,hc.2⟩
  ·cases h
 ·cases h
theorem xn {ds:List D} {i j:Int} (h:rL ds=some (i,j)):ds=[.int i,.int j]/\(-(2 ^ 62)<=i/\i<2 ^ 62/\-(2 ^ 62)<=j/\j<2 ^ 62):=by
 unfold rL at h;split at h
 ·split at h
  ·rename_i hc
   cases h;simp only [dP,Bool.and_eq_true,decide_eq_true_eq] at hc
   exact ⟨rfl,hc.1.1,hc.1.2,hc.2.1,hc.2.2⟩
  ·cases h
 ·cases h
noncomputable def i4 (fl:FL):FI:=fun Γ=>(fl Γ).bind fun ps Γ'=>match kd (ps.map (·.d)) with
 | some j=>.ok ⟨cw 0 j.toNat,true⟩ Γ'
 | none=>.no
noncomputable def yp (fl:FL):FI:=fun Γ=>(fl Γ).bind fun ps Γ'=>match rL (ps.map (·.d)) with
 | some (i,j)=>.ok ⟨cw i (j-i).toNat,true⟩ Γ'
 | none=>.no
theorem AW {fl:FL} (h:tI K W (i4 fl) σ H R):zJ (tA K W fl) σ H R:=by
 obtain ⟨He,O,Fs,Γ,E,h⟩:=h;refine ⟨He,O,Fs,Γ,E,?_⟩
 unfold i4 at h
 cases e:fl Γ with
 | ok ps Γ1=>
  rw [e] at h;intro vs H1 Gs Fs1 A;have h:jN K W He O Fs H σ R (match kd (ps.map (·.d)) with | some j=>.ok ⟨cw 0 j.toNat,true⟩ Γ1 | none=>.no):=h
  have rs:=A.reps
  cases e1:kd (ps.map (·.d)) with
  | none=>rw [e1] at h;exact h.elim
  | some j=>
   rw [e1] at h;obtain ⟨e2,h1,h2⟩:=qm e1;rw [e2] at rs;obtain ⟨v,rfl,r⟩:=rs.one
   cases r;exact ⟨j,rfl,h1,h2,h (CW 0 j.toNat) H1 Fs1 (fT 0 j.toNat) (fun _=>True) A.same A.env.dropL (fun a ha=>A.new a (KH _ ha)) ve trivial (fun _ _=>trivial) (fun _ _ _=>trivial) Ia⟩
 | er c Γ'=>rw [e] at h;exact h
 | no=>rw [e] at h;exact h
theorem AV {fl:FL} (h:tI K W (yp fl) σ H R):zI (tA K W fl) σ H R:=by
 obtain ⟨He,O,Fs,Γ,E,h⟩:=h;refine ⟨He,O,Fs,Γ,E,?_⟩
 unfold yp at h
 cases e:fl Γ with
 | ok ps Γ1=>
  rw [e] at h;intro vs H1 Gs Fs1 A;have h:jN K W He O Fs H σ R (match rL (ps.map (·.d)) with | some (i,j)=>.ok ⟨cw i (j-i).toNat,true⟩ Γ1 | none=>.no):=h
  have rs:=A.reps
  cases e1:rL (ps.map (·.d)) with
  | none=>rw [e1] at h;exact h.elim
  | some ij=>
   obtain ⟨i,j⟩:=ij;rw [e1] at h;obtain ⟨e2,hb⟩:=xn e1;rw [e2] at rs;obtain ⟨v,u,rfl,r,r'⟩:=rs.two
   cases r
   cases r'
   exact ⟨i,j,rfl,hb,h (CW i (j-i).toNat) H1 Fs1 (fT i (j-i).toNat) (fun _=>True) A.same A.env.dropL (fun a ha=>A.new a (KH _ ha)) ve trivial (fun _ _=>trivial) (fun _ _ _=>trivial) Ia⟩
 | er c Γ'=>rw [e] at h;exact h
 | no=>rw [e] at h;exact h
end
noncomputable def cY (i:Nat) (fc:FB) (fe:F1) (s:Sh):List D->Ev->List D->Out (List D)
 | [],Γ,acc=>.ok acc Γ
 | d::r,Γ,acc=>match fc (Γ.set i (KZ d)) with
  | .ok true Γ1=>(match fe Γ1 with
   | .ok p Γ2=>if T.coer s p&&decide (acc.length<sizeLine) then cY i fc fe s r (Γ2.set i none) (acc++[p.d]) else .no
   | _=>.no)
  | .ok false Γ1=>if acc.length<sizeLine then cY i fc fe s r (Γ1.set i none) acc else .no
  | _=>.no
noncomputable def aA (s:Sh) (i:Nat) (fi:FI) (fc:FB) (fe:F1):F1:=fun Γ=>(fi Γ).bind fun t Γ1=>match cY i fc fe s t.ds (Γ1.set i none) [] with
 | .ok ds Γ2=>if !s.isView&&decide (i<Γ1.length) then .ok ⟨.lst s,.list ds⟩ (Γ2.set i (Γ1.getD i none)) else .no
 | _=>.no
noncomputable abbrev W0:XW:=fun _ _ _=>False
section
variable {K:Fg} {He H H1 H2:Hp} {O G:List Addr} {Fs Fs1 Fs2:List (List Addr)} {σ:St} {Γ Γ1 Γ2:Ev}
theorem HF {is:List Nat} {σ:St} {j:Nat} (h:j∉is):(bL is σ)[j]?=σ[j]?:=by
 unfold bL;rw [List.getElem?_mapIdx]
 cases σ[j]? with
 | none=>rfl
 | some o=>simp [h]
theorem Gh {Γ:Ev} {i j:Nat} {p:PV} (h:(Γ.set i none)[j]?=some (some p)):j≠i/\Γ[j]?=some (some p):=by
 by_cases hj:j=i
 ·subst hj
  rw [List.getElem?_set] at h;split at h
  ·split at h<;>cases h
  ·rename_i z;exact absurd rfl z
 ·rw [getElem?_set_ne (Ne.symm hj)] at h
  exact ⟨hj,h⟩
theorem EnvOk.shut {i:Nat} (E:EnvOk K He O Fs H σ Γ) (hi:i<Γ.length) :
  ∃F,Fs[i]?=some F/\EnvOk K He (F++O) (Fs.set i []) H (bL [i] σ) (Γ.set i none)/\∀a,a∈F++(Fs.set i []).flatten↔a∈Fs.flatten:=by
 obtain ⟨F,hF⟩:=E.lt hi;have pm:(F++(Fs.set i []).flatten).Perm Fs.flatten:=by simpa using p7 (G:=[]) hF
 have pm2:(F++O++(Fs.set i []).flatten).Perm (O++Fs.flatten):=by
  rw [append_assoc];exact (m9 _ _ _).trans (List.Perm.append_left _ pm)
 refine ⟨F,hF,⟨by rw [zk,length_set];exact E.len1,by rw [length_set,length_set];exact E.len2,E.same,pm2.nodup_iff.mpr E.nd,fun a ha=>E.inH a (pm2.mem_iff.mp ha),fun a ha=>E.fresh a (pm.mem_iff.mp (KH _ ha)),fun j q hq=>?_⟩,fun a=>pm.mem_iff⟩
 obtain ⟨hj,hq⟩:=Gh hq;obtain ⟨w1,v',F',e1,e2,e3⟩:=E.slot j q hq;exact ⟨w1,v',F',by rw [HF (by simpa using hj)];exact e1,by rw [getElem?_set_ne (Ne.symm hj)];exact e2,e3.mono (Same.refl _) fun a ha=>.inl (pm2.mem_iff.mp ha)⟩
theorem EnvOk.forget {i:Nat} {x:Option V} (E:EnvOk K He O Fs H ((bL [i] σ).set i x) Γ) (hi:i<Γ.length):EnvOk K He O (Fs.set i []) H (bL [i] σ) (Γ.set i none):=by
 obtain ⟨F,hF⟩:=E.lt hi;have pm:(F++(Fs.set i []).flatten).Perm Fs.flatten:=by simpa using p7 (G:=[]) hF
 have sub:∀a∈O++(Fs.set i []).flatten,a∈O++Fs.flatten:=fun a ha=>by
  rcases KJ ha with z | z
  ·exact KI _ z
  ·exact KH _ (pm.mem_iff.mp (KH _ z))
 have l1:=E.len1
 rw [length_set] at l1;obtain ⟨n1,n2,n3⟩:=KP E.nd;have n4:((Fs.set i []).flatten).Nodup:=(KP (pm.nodup_iff.mpr n2)).2.1
 refine ⟨by rw [length_set];exact l1,by rw [length_set,length_set];exact E.len2,E.same,List.nodup_append.mpr ⟨n1,n4,fun a ha b hb=>n3 a ha b (pm.mem_iff.mp (KH _ hb))⟩,fun a ha=>E.inH a (sub a ha),fun a ha=>E.fresh a (pm.mem_iff.mp (KH _ ha)),fun j q hq=>?_⟩
 obtain ⟨hj,hq⟩:=Gh hq;obtain ⟨w1,v',F',e1,e2,e3⟩:=E.slot j q hq;rw [getElem?_set_ne (Ne.symm hj)] at e1;exact ⟨w1,v',F',e1,by rw [getElem?_set_ne (Ne.symm hj)];exact e2,e3.mono (Same.refl _) fun a ha=>.inl (sub a ha)⟩
theorem EnvOk.reopen {i:Nat} {F:List Addr} (E1:EnvOk K He O Fs1 H1 σ Γ1) (hF:Fs1[i]?=some F) (E2:EnvOk K He (G++(F++O)) Fs2 H2 (bL [i] σ) Γ2) (hl:Γ2.length=Γ1.length) (s:Same H1 H2)
  (hn:Γ2[i]?=some none) (hF2:Fs2[i]?=some []) (new:∀a∈G++Fs2.flatten,a∈Fs1.flatten\/H1 a=none):EnvOk K He (G++O) (Fs2.set i F) H2 σ (Γ2.set i (Γ1.getD i none)):=by
 have pm:((Fs2.set i F).flatten).Perm (F++Fs2.flatten):=by simpa using p7 (G:=F) hF2
 have pm2:(G++O++(Fs2.set i F).flatten).Perm (G++(F++O)++Fs2.flatten):=by
  refine (List.Perm.append_left _ pm).trans ?_
  rw [append_assoc,append_assoc];refine List.Perm.append_left _ ?_
  rw [append_assoc];exact m9 _ _ _
 have hi:i<Γ2.length:=(KQ hn).1
 refine ⟨by rw [length_set,hl];exact E1.len1,by rw [length_set,length_set];exact E2.len2,E2.same,pm2.nodup_iff.mpr E2.nd,fun a ha=>E2.inH a (pm2.mem_iff.mp ha),fun a ha=>?_,fun j q hq=>?_⟩
 ·rcases KJ (pm.mem_iff.mp ha) with z | z
  ·exact E1.fresh a (oH hF z)
  ·exact E2.fresh a z
 ·by_cases hj:j=i
  ·subst hj
   rw [getElem?_set_self hi] at hq;have hq:Γ1.getD j none=some q:=Option.some.inj hq
   rw [KN] at hq;have hq':Γ1[j]?=some (some q):=by
    cases e:Γ1[j]? with
    | none=>rw [e] at hq;cases hq
    | some o=>rw [e] at hq;simp only [Option.getD_some] at hq;rw [hq]
   obtain ⟨w1,v',F',e1,e2,e3⟩:=E1.slot j q hq'
   rw [hF] at e2
   cases e2;refine ⟨w1,v',F,e1,getElem?_set_self (by rw [E2.len2];exact hi),e3.mono s fun a ha=>?_⟩
   rcases KJ ha with z | z
   ·rcases KJ z with z | z
    ·exact (new a (KI _ z)).elim (fun y=>.inl (KH _ y)) .inr
    ·exact .inl (KI _ z)
   ·rcases KJ (pm.mem_iff.mp z) with y | y
    ·exact .inl (KH _ (oH hF y))
    ·exact (new a (KH _ y)).elim (fun y=>.inl (KH _ y)) .inr
  ·rw [getElem?_set_ne (Ne.symm hj)] at hq
   obtain ⟨w1,v',F',e1,e2,e3⟩:=E2.slot j q hq;rw [HF (by simpa using hj)] at e1
   exact ⟨w1,v',F',e1,by rw [getElem?_set_ne (Ne.symm hj)];exact e2,e3.mono (Same.refl _) fun a ha=>.inl (pm2.mem_iff.mp ha)⟩
theorem EnvOk.mutO {p:Addr} {o:HO} {xs:List V} (E:EnvOk K He O Fs H σ Γ) (hp:p∈O) (hl:H p=some (.lst xs)) (hn:He p=none):EnvOk K He O Fs (cy H p o) σ Γ:=by
 obtain ⟨n1,n2,n3⟩:=KP E.nd;refine ⟨E.len1,E.len2,fun b u e=>?_,E.nd,fun a ha=>?_,E.fresh,fun j q hq=>?_⟩
 ·rw [gz (wq e hn)]
  exact E.same b u e
 ·by_cases h:a=p
  ·rw [h,jQ];exact Option.some_ne_none _
  ·rw [gz h];exact E.inH a ha
 ·obtain ⟨w1,v',F',e1,e2,e3⟩:=E.slot j q hq
  exact ⟨w1,v',F',e1,e2,e3.mut w1 (KI _ hp) (fun z=>n3 p hp p (oH e2 z) rfl) hl⟩
end
structure JJ (K:Fg) (He:Hp) (O F:List Addr) (Fs1:List (List Addr)) (H1:Hp) (σ:St) (i:Nat) (s:Sh) (A0:Addr) (n:Nat) (ys:List V) (H:Hp) (Γk:Ev) (Fk Gs:List (List Addr)) (acc:List D):Prop where
 env:EnvOk K He (A0::Gs.flatten++(F++O)) Fk H (bL [i] σ) Γk
 same:Same H1 H
 at_:H A0=some (.lst ys)
 new:∀a∈Gs.flatten++Fk.flatten,a∈Fs1.flatten\/H1 a=none
 l1:ys.length=acc.length
 l2:Gs.length=acc.length
 own:∀(j:Nat) v d G,ys[j]?=some v->acc[j]?=some d->Gs[j]?=some G->Own K (A0::Gs.flatten++(F++O)++Fk.flatten) H s G v d
 noneG:Γk[i]?=some none
 noneF:Fk[i]?=some []
 len:Γk.length=n
theorem wQ {α:Type} (Gs:List (List α)) (G:List α):(Gs++[G]).flatten=Gs.flatten++G:=by simp
section
variable {K:Fg} {W:XW} {σ:St} {H:Hp} {Q:VK} {fe:F1} {fc:FB} {fi:FI} {s:Sh} {i:Nat}
theorem qq (h:tE K W (aA s i fi fc fe) σ H Q):mJ [i] (tI K W fi) (iE i) (tT K W0 fc) (tE K W0 fe) σ H Q:=by
 obtain ⟨He,O,Fs,Γ,E,h⟩:=h;refine ⟨He,O,Fs,Γ,E,?_⟩
 unfold aA at h
 cases e:fi Γ with
 | er c Γ'=>rw [e] at h;exact h
 | no=>rw [e] at h;exact h
 | ok t Γ1=>
  rw [e] at h;intro J H1 Fs1 vs P s1 E1 n1 it hP hP1 _ hr A0 hD;have h:Wants K W He O Fs H σ Q (match cY i fc fe s t.ds (Γ1.set i none) [] with | .ok ds Γ2=>if !s.isView&&decide (i<Γ1.length) then .ok ⟨.lst s,.list ds⟩ (Γ2.set i (Γ1.getD i none)) else .no | _=>.no):=h
  cases eg:cY i fc fe s t.ds (Γ1.set i none) [] with
  | er c Γ'=>rw [eg] at h;exact h.elim
  | no=>rw [eg] at h;exact h.elim
  | ok ds' Γ2=>
   rw [eg] at h;have h:Wants K W He O Fs H σ Q (if (!s.isView&&decide (i<Γ1.length))=true then .ok ⟨.lst s,.list ds'⟩ (Γ2.set i (Γ1.getD i none)) else .no):=h
   by_cases hc:(!s.isView&&decide (i<Γ1.length))=true
   case neg=>rw [if_neg hc] at h;exact h.elim
   rw [if_pos hc] at h;simp only [Bool.and_eq_true,decide_eq_true_eq,Bool.not_eq_true'] at hc
   obtain ⟨hsv,hi⟩:=hc;obtain ⟨F,hF,E0,hmem⟩:=E1.shut hi;have hHeD:He A0=none:=E1.same.free hD
   have E0':EnvOk K He (A0::([]:List (List Addr)).flatten++(F++O)) (Fs1.set i []) (cy H1 A0 (.lst [])) (bL [i] σ) (Γ1.set i none):=
    E0.hide (G:=[A0]) (lD hD) (by simp) (fun a ha=>by simp at ha;rw [ha];exact hD) (fun a ha=>by simp at ha;rw [ha,jQ];exact Option.some_ne_none _)
   refine ⟨fun k m ys H'=>m=vs.length-k/\k<=vs.length/\∃Γk Fk Gs acc,JJ K He O F Fs1 H1 σ i s A0 Γ1.length ys H' Γk Fk Gs acc/\cY i fc fe s (t.ds.drop k) Γk acc=.ok ds' Γ2,⟨vs.length,by simp,Nat.zero_le _,Γ1.set i none,Fs1.set i [],[],[],⟨E0',lD hD,jQ,fun a ha=>.inl ((hmem a).mp (KH _ (by simpa using ha))),rfl,rfl,fun j v d G h1=>by simp at h1,getElem?_set_self hi,getElem?_set_self (by rw [E1.len2];exact hi),by rw [length_set]⟩,by simpa using eg⟩,?_⟩
   rintro k m ys H' ⟨rfl,hk,Γk,Fk,Gs,acc,g,eg'⟩
   refine ⟨g.at_,?_⟩
   have hPk:P H':=hP1 H' g.same
   have hlen:vs.length=t.ds.length:=hr.1
   by_cases hlt:k<vs.length
   case neg=>
    have hke:k=vs.length:=by omega
    left
    have:t.ds.drop k=[]:=List.drop_eq_nil_of_le (by omega)
    rw [this] at eg';have eg'':(Out.ok acc Γk:Out (List D))=.ok ds' Γ2:=eg'
    injection eg'' with e1 e2
    subst e1;subst e2;refine ⟨by rw [hke];exact it.stop H' hPk,?_⟩
    have E3:EnvOk K He ((A0::Gs.flatten)++O) (Fk.set i F) H' σ (Γk.set i (Γ1.getD i none)):=
     EnvOk.reopen (G:=A0::Gs.flatten) E1 hF g.env g.len g.same g.noneG g.noneF fun a ha=>by
      rcases KJ ha with z | z
      ·rcases KL z with z | z
       ·rw [z];exact .inr hD
       ·exact g.new a (KI _ z)
      ·exact g.new a (KH _ z)
    have pmF:((Fk.set i F).flatten).Perm (F++Fk.flatten):=by simpa using p7 (G:=F) g.noneF
    obtain ⟨n1',_,n3'⟩:=KP g.env.ndO;refine h (.ref A0) H' (A0::Gs.flatten) (Fk.set i F) ⟨s1.trans g.same,E3,fun a ha=>?_,?_⟩
    ·have up:a∈Fs1.flatten\/H1 a=none->a∈Fs.flatten\/H a=none:=fun z=>z.elim (n1 a) fun y=>.inr (s1.free y)
     rcases KJ ha with z | z
     ·rcases KL z with z | z
      ·exact up (.inr (by rw [z];exact hD))
      ·exact up (g.new a (KI _ z))
     ·rcases KJ (pmF.mem_iff.mp z) with y | y
      ·exact up (.inl (oH hF y))
      ·exact up (g.new a (KH _ y))
    ·refine .lst hsv g.at_ g.l1 g.l2 n1' fun j v d G h1 h2 h3=>(g.own j v d G h1 h2 h3).perm fun a ha=>?_
     rw [append_assoc] at ha ⊢;rcases KJ ha with z | z
     ·exact KI _ z
     ·refine KH _ ?_
      rcases KJ z with z | z
      ·exact KI _ (KH _ z)
      ·rcases KJ (pmF.mem_iff.mp z) with y | y
       ·exact KI _ (KI _ y)
       ·exact KH _ y
   case pos=>
    right
    have hv:vs[k]?=some vs[k]:=KM hlt
    have hkd:k<t.ds.length:=by omega
    have hd:t.ds[k]?=some t.ds[k]:=KM hkd
    have hdr:t.ds.drop k=t.ds[k]::t.ds.drop (k+1):=List.drop_eq_getElem_cons hkd
    rw [hdr] at eg';generalize hdk:t.ds[k]=d at hd eg'
    generalize hvk:vs[k]=v at hv
    obtain ⟨hgo,hyld⟩:=it.go k H' v hPk hv
    simp only [cY] at eg'
    have hik:i<Γk.length:=by rw [g.len];exact hi
    have rep:Rep K (dD H' (A0::Gs.flatten++(F++O)++Fk.flatten)) v d:=(hr.2 k v d hv hd).mono (we g.same fun a ha=>by
     rcases KJ ha with z | z
     ·rcases KJ z with z | z
      ·rcases KL z with z | z
       ·rw [z];exact .inr hD
       ·exact (g.new a (KI _ z)).elim (fun y=>.inl (KH _ y)) .inr
      ·rcases KJ z with z | z
       ·exact .inl (KH _ (oH hF z))
       ·exact .inl (KI _ z)
     ·exact (g.new a (KH _ z)).elim (fun y=>.inl (KH _ y)) .inr)
    have Ep:EnvOk K He (A0::Gs.flatten++(F++O)) (Fk.set i []) H' ((bL [i] σ).set i (some v)) (Γk.set i (KZ d)):=
     EnvOk.put (G:=[]) (p:=⟨.leaf,d⟩) (v:=v) g.env (.leaf rep) rfl (fun a ha=>by simp at ha) hik
    have hsl:ys.length<sizeLine:=by
     rw [g.l1]
     cases ec:fc (Γk.set i (KZ d)) with
     | no=>rw [ec] at eg';cases eg'
     | er c Γ'=>rw [ec] at eg';cases eg'
     | ok b Γa=>
      rw [ec] at eg'
      cases b with
      | false=>
       dsimp only at eg'
       split at eg'
       ·assumption
       ·cases eg'
      | true=>
       dsimp only at eg'
       split at eg'
       ·split at eg'
        ·rename_i z
         simp only [Bool.and_eq_true,decide_eq_true_eq] at z
         exact z.2
        ·cases eg'
       ·cases eg'
    refine ⟨hgo,hsl,fun x Hx hx=>?_⟩
    obtain ⟨rfl,rfl⟩:=hyld x Hx hx;show Ks (bL [i] σ) ((bL [i] σ).set i (some x))/\_
    refine ⟨⟨by rw [length_set],fun j u hj=>?_⟩,?_⟩
    ·have:=(F9 hj).1
     rw [getElem?_set_ne (by simp at this;exact fun z=>this z.symm)]
     exact hj
    refine ⟨He,_,_,_,Ep,?_⟩
    cases ec:fc (Γk.set i (KZ d)) with
    | no=>rw [ec] at eg';cases eg'
    | er c Γ'=>rw [ec] at eg';cases eg'
    | ok b Γa=>
     rw [ec] at eg';intro H3 Fs3 s3 E3 n3;have lena:Γa.length=Γ1.length:=by
      have:=E3.len1
      rw [length_set,zk,E1.len1] at this;exact this.symm
     have n3':∀a∈Fs3.flatten,a∈Fs1.flatten\/H1 a=none:=fun a ha=>(n3 a ha).elim (fun z=>by
      have pm:((Fk.set i []).flatten).Perm Fk.flatten:=by simpa using p7 (G:=[]) g.noneF
      exact g.new a (KH _ (pm.mem_iff.mp z))) fun z=>.inr (g.same.free z)
     cases b with
     | false=>
      dsimp only at eg'
      split at eg'
      case isFalse=>cases eg'
      refine lV ⟨vs.length-(k+1),by omega,rfl,hlt,Γa.set i none,Fs3.set i [],Gs,acc,⟨E3.forget (by rw [lena];exact hi),g.same.trans s3,s3 _ _ g.at_,fun a ha=>?_,g.l1,g.l2,fun j v d G h1 h2 h3=>(g.own j v d G h1 h2 h3).mono s3 fun a ha=>?_,getElem?_set_self (by rw [lena];exact hi),getElem?_set_self (by rw [E3.len2,lena];exact hi),by rw [length_set];exact lena⟩,eg'⟩
      ·rcases KJ ha with z | z
       ·exact g.new a (KI _ z)
       ·obtain ⟨F3,hF3⟩:=E3.lt (i:=i) (by rw [lena];exact hi)
        have pm:(F3++(Fs3.set i []).flatten).Perm Fs3.flatten:=by simpa using p7 (G:=[]) hF3
        exact n3' a (pm.mem_iff.mp (KH _ z))
      ·rcases KJ ha with z | z
       ·exact .inl (KI _ z)
       ·obtain ⟨F3,hF3⟩:=E3.lt (i:=i) (by rw [lena];exact hi)
        have pm:(F3++(Fs3.set i []).flatten).Perm Fs3.flatten:=by simpa using p7 (G:=[]) hF3
        have pm2:((Fk.set i []).flatten).Perm Fk.flatten:=by simpa using p7 (G:=[]) g.noneF
        exact (n3 a (pm.mem_iff.mp (KH _ z))).elim (fun y=>.inl (KH _ (pm2.mem_iff.mp y))) .inr
     | true=>
      refine lU ⟨He,_,_,_,E3,?_⟩
      dsimp only at eg'
      cases ee:fe Γa with
      | no=>rw [ee] at eg';cases eg'
      | er c Γ'=>rw [ee] at eg';cases eg'
      | ok p Γb=>
       rw [ee] at eg';dsimp only at eg'
       split at eg'
       case isFalse=>cases eg'
       rename_i hco;simp only [Bool.and_eq_true,decide_eq_true_eq] at hco
       obtain ⟨hco,_⟩:=hco;intro u H4 G Fs4 A4;have lenb:Γb.length=Γ1.length:=by
        have:=A4.env.len1
        rw [length_set,zk,E1.len1] at this;exact this.symm
       have hib:i<Γb.length:=by rw [lenb];exact hi
       have at4:H4 A0=some (.lst ys):=A4.same _ _ (s3 _ _ g.at_)
       have s14:Same H1 H4:=(g.same.trans s3).trans A4.same
       have pmk:((Fk.set i []).flatten).Perm Fk.flatten:=by simpa using p7 (G:=[]) g.noneF
       obtain ⟨F4,hF4⟩:=A4.env.lt hib;have pm4:(F4++(Fs4.set i []).flatten).Perm Fs4.flatten:=by simpa using p7 (G:=[]) hF4
       have new4:∀a∈G++Fs4.flatten,a∈Fs1.flatten\/H1 a=none:=fun a ha=>(A4.new a ha).elim (n3' a) fun z=>.inr ((g.same.trans s3).free z)
       have hG':∀a∈aW s G,a∈G:=fun a ha=>HW ha
       obtain ⟨k1,k2,k3⟩:=KP A4.env.ndO;have ndk:(aW s G).Nodup:=by
        cases s<;>first | exact nodup_nil | exact k1
       have pmO:(A0::(Gs++[aW s G]).flatten++(F++O)).Perm (aW s G++(A0::Gs.flatten++(F++O))):=by
        rw [wQ];show (A0::((Gs.flatten++aW s G)++(F++O))).Perm _
        refine List.Perm.trans ?_ List.perm_middle.symm
        refine List.Perm.cons _ ?_
        rw [append_assoc];exact m9 _ _ _
       have E5:EnvOk K He (aW s G++(A0::Gs.flatten++(F++O))) Fs4 H4 ((bL [i] σ).set i (some x)) Γb:=A4.env.drop (fun a ha=>by
        rcases KJ ha with z | z
        ·exact KI _ (hG' a z)
        ·exact KH _ z) (List.nodup_append.mpr ⟨ndk,k2,fun a ha b hb=>k3 a (hG' a ha) b hb⟩)
       have E6:=(E5.perm pmO).forget hib
       have hDin:A0∈A0::(Gs++[aW s G]).flatten++(F++O):=mem_cons_self
       have E7:=E6.mutO (o:=.lst (ys++[u])) hDin at4 hHeD
       have subH:∀a∈A0::(Gs++[aW s G]).flatten++(F++O)++(Fs4.set i []).flatten,a∈G++(A0::Gs.flatten++(F++O))++Fs4.flatten:=fun a ha=>by
        rcases KJ ha with z | z
        ·rcases KJ (pmO.mem_iff.mp z) with y | y
         ·exact KI _ (KI _ (hG' a y))
         ·exact KI _ (KH _ y)
        ·exact KH _ (pm4.mem_iff.mp (KH _ z))
       have Dnot:∀{j:Nat} {Gj:List Addr},Gs[j]?=some Gj->A0∉Gj:=fun {j Gj} hj z=>by
        have nd:=g.env.ndO
        exact (List.nodup_cons.mp nd).1 (KI _ (oH hj z))
       refine ⟨at4,vs.length-(k+1),by omega,rfl,hlt,Γb.set i none,Fs4.set i [],Gs++[aW s G],acc++[p.d],⟨E7,fun b o hb=>?_,jQ,fun a ha=>?_,by simp [g.l1],by simp [g.l2],fun j w d' G' h1 h2 h3=>?_,getElem?_set_self hib,getElem?_set_self (by rw [A4.env.len2];exact hib),by rw [length_set];exact lenb⟩,eg'⟩
       ·rw [gz (wq hb hD)]
        exact s14 b o hb
       ·rcases KJ ha with z | z
        ·rw [wQ] at z
         rcases KJ z with z | z
         ·exact g.new a (KI _ z)
         ·exact new4 a (KI _ (hG' a z))
        ·exact new4 a (KH _ (pm4.mem_iff.mp (KH _ z)))
       ·by_cases hj:j<ys.length
        ·rw [getElem?_append_left hj] at h1
         rw [getElem?_append_left (by rw [<-g.l1];exact hj)] at h2
         rw [getElem?_append_left (by rw [g.l2,<-g.l1];exact hj)] at h3
         have o1:=g.own j w d' G' h1 h2 h3
         have o2:=o1.mono (O':=A0::(Gs++[aW s G]).flatten++(F++O)++(Fs4.set i []).flatten) (s3.trans A4.same) fun a ha=>by
          have up:a∈G++Fs4.flatten->a∈A0::Gs.flatten++(F++O)++Fk.flatten\/Hx a=none:=fun z=>(A4.new a z).elim (fun y=>(n3 a y).elim (fun y=>.inl (KH _ (pmk.mem_iff.mp y))) .inr) fun y=>.inr (s3.free y)
          rcases KJ (subH a ha) with z | z
          ·rcases KJ z with z | z
           ·exact up (KI _ z)
           ·exact .inl (KI _ z)
          ·exact up (KH _ z)
         exact o2.mut hsv (KI _ hDin) (Dnot h3) at4
        ·have hj':j=ys.length:=by
          have:=(KQ h1).1
          rw [length_append,length_singleton] at this;omega
         subst hj'
         rw [getElem?_append_right (KW _),Nat.sub_self] at h1;rw [getElem?_append_right (by rw [g.l1];exact KW _),show ys.length-acc.length=0 by rw [g.l1];exact Nat.sub_self _] at h2
         rw [getElem?_append_right (by rw [g.l2,g.l1];exact KW _),show ys.length-Gs.length=0 by rw [g.l2,g.l1];exact Nat.sub_self _] at h3
         cases h1
         cases h2
         cases h3;have o3:=A4.own.coer (s:=s) (O':=A0::(Gs++[aW s G]).flatten++(F++O)++(Fs4.set i []).flatten) hco subH fun a ha hO=>by
          cases s with
          | leaf=>
           exfalso
           have hO':a∈(A0::Gs.flatten++(F++O))++(Fs4.set i []).flatten:=by
            rw [wQ] at hO;simpa [aW] using hO
           rcases KJ hO' with z | z
           ·exact k3 a ha a z rfl
           ·have nd:=A4.env.nd
            exact (KP nd).2.2 a (KI _ ha) a (pm4.mem_iff.mp (KH _ z)) rfl
          | view=>cases hsv
          | lst s=>exact ha
          | tup ss=>exact ha
         refine o3.mut hsv (KI _ hDin) (fun z=>?_) at4
         exact k3 A0 (hG' A0 z) A0 mem_cons_self rfl
end
inductive dS where
 | nx (e:Ev) | bk (e:Ev) | ct (e:Ev) | rt (p:PV) | er (c:Str) (e:Ev) | no
abbrev FS:=Ev->dS
structure RetOk (K:Fg) (He:Hp) (O:List Addr) (p:PV) (v:V) (H':Hp) (G:List Addr):Prop where
 same:Same He H'
 fresh:∀a∈G,He a=none
 inH:∀a∈G,H' a≠none
 nd:G.Nodup
 own:Own K (G++O) H' p.s G v p.d
 nv:p.s.isView=false
noncomputable def cS (K:Fg) (W:XW) (He:Hp) (O:List Addr) (D:jP):dS->Prop
 | .nx Γ'=>∀σ' H' Fs',EnvOk K He O Fs' H' σ' Γ'->D.nx σ' H'
 | .bk Γ'=>∀σ' H' Fs',EnvOk K He O Fs' H' σ' Γ'->D.bk σ' H'
 | .ct Γ'=>∀σ' H' Fs',EnvOk K He O Fs' H' σ' Γ'->D.ct σ' H'
 | .rt p=>∀v H' G,RetOk K He O p v H' G->D.rt v H'
 | .er c Γ'=>∀σ' H' Fs',EnvOk K He O Fs' H' σ' Γ'->W c σ' H'
 | .no=>False
noncomputable def tS (K:Fg) (W:XW) (g:FS):TS:=fun D σ H=>∃He O Fs Γ,EnvOk K He O Fs H σ Γ/\cS K W He O D (g Γ)
noncomputable def aJ:FS:=fun Γ=>.nx Γ
noncomputable def aq (g1 g2:FS):FS:=fun Γ=>match g1 Γ with
 | .nx Γ'=>g2 Γ'
 | o=>o
noncomputable def jS (f:F1) (k:PV->Ev->dS):FS:=fun Γ=>match f Γ with
 | .ok p Γ'=>k p Γ'
 | .er c Γ'=>.er c Γ'
 | .no=>.no
noncomputable def bW (c:FB) (a b:FS):FS:=fun Γ=>match c Γ with
 | .ok t Γ'=>if t then a Γ' else b Γ'
 | .er c Γ'=>.er c Γ'
 | .no=>.no
section
variable {K:Fg} {W:XW} {σ:St} {H:Hp} {D:jP} {fa fb:F1} {ga gb:FB} {g1 g2:FS}
theorem xu (h:tS K W aJ D σ H):zx D σ H:=by
 obtain ⟨He,O,Fs,Γ,E,h⟩:=h;exact h σ H Fs E
theorem AM (h:tS K W (aq g1 g2) D σ H):DR (tS K W g1) (tS K W g2) D σ H:=by
 obtain ⟨He,O,Fs,Γ,E,h⟩:=h;refine ⟨He,O,Fs,Γ,E,?_⟩
 unfold aq at h
 cases e:g1 Γ with
 | nx Γ'=>rw [e] at h;exact fun σ' H' Fs' E'=>⟨He,O,Fs',Γ',E',h⟩
 | bk Γ'=>rw [e] at h;exact h
 | ct Γ'=>rw [e] at h;exact h
 | rt p=>rw [e] at h;exact h
 | er c Γ'=>rw [e] at h;exact h
 | no=>rw [e] at h;exact h
theorem i8 {k:PV->Ev->dS} {R:VK} (h:tS K W (jS fa k) D σ H)
  (hk:∀He O Fs Γ1 p v H1 G Fs1,EnvOk K He O Fs H σ Γ1\/True->(∀a∈G,He a=none)->Aft K He O Fs H σ Γ1 p v H1 G Fs1->cS K W He O D (k p Γ1)->R v H1):tE K W fa σ H R:=by
 obtain ⟨He,O,Fs,Γ,E,h⟩:=h;refine ⟨He,O,Fs,Γ,E,?_⟩
 unfold jS at h
 cases e:fa Γ with
 | ok p Γ1=>rw [e] at h;exact fun v H' G Fs' A=>hk He O Fs Γ1 p v H' G Fs' (.inr trivial) (A.freshG E) A h
 | er c Γ1=>rw [e] at h;exact fun H' Fs' s E'=>h σ H' Fs' E'
 | no=>rw [e] at h;exact h
theorem AS (h:tS K W (bW ga g1 g2) D σ H):DW (tT K W ga) (tS K W g1) (tS K W g2) D σ H:=by
 obtain ⟨He,O,Fs,Γ,E,h⟩:=h;refine ⟨He,O,Fs,Γ,E,?_⟩
 unfold bW at h
 cases e:ga Γ with
 | ok b Γ1=>
  rw [e] at h;intro H' Fs' s E' n
  cases b with
  | true=>exact lU ⟨He,O,Fs',Γ1,E',h⟩
  | false=>exact lV ⟨He,O,Fs',Γ1,E',h⟩
 | er c Γ1=>rw [e] at h;exact fun H' Fs' s E'=>h σ H' Fs' E'
 | no=>rw [e] at h;exact h
noncomputable def aF (f:F1):FS:=jS f fun p _=>if p.s.isView then (if bP p.d then .rt ⟨.leaf,p.d⟩ else .no) else .rt p
theorem AN (h:tS K W (aF fa) D σ H):DS (tE K W fa) D σ H:=by
 refine i8 h fun He O Fs Γ1 p v H1 G Fs1 _ fr A w=>?_
 obtain ⟨n1,n2,n3⟩:=KP A.env.ndO;have inH:∀a∈G,H1 a≠none:=fun a ha=>A.env.inH a (KI _ (KI _ ha))
 cases hv:p.s.isView with
 | false=>
  have w:cS K W He O D (.rt p):=by simpa [hv] using w
  exact w v H1 G ⟨A.env.same,fr,inH,n1,A.own.perm fun a ha=>KI _ ha,hv⟩
 | true=>
  cases hs:bP p.d with
  | false=>rw [hv,hs] at w;exact w.elim
  | true=>
   have w:cS K W He O D (.rt ⟨.leaf,p.d⟩):=by simpa [hv,hs] using w
   exact w v H1 [] ⟨A.env.same,(fun _ z=>nomatch z),(fun _ z=>nomatch z),nodup_nil,.leaf (A.own.rep.sc hs).rep,rfl⟩
noncomputable def aB (own:Bool) (i:Nat) (f:F1):FS:=jS f fun p Γ=>if i<Γ.length then (if own&&!p.s.isView then .nx (Γ.set i (some p)) else if T.coer .leaf p then .nx (Γ.set i (KZ p.d)) else .no) else .no
theorem ux {own:Bool} {i:Nat} (h:tS K W (aB own i fa) D σ H):ue (tE K W fa) (iE i) D σ H:=by
 refine i8 h fun He O Fs Γ1 p v H1 G Fs1 _ fr A w=>?_
 show D.nx (σ.set i (some v)) H1
 have w:cS K W He O D (if i<Γ1.length then (if own&&!p.s.isView then .nx (Γ1.set i (some p)) else if T.coer .leaf p then .nx (Γ1.set i (KZ p.d)) else .no) else .no):=w
 by_cases hi:i<Γ1.length
 case neg=>rw [if_neg hi] at w;exact w.elim
 rw [if_pos hi] at w
 cases ho:(own&&!p.s.isView) with
 | true=>
  rw [ho] at w;have hv:p.s.isView=false:=by
   simp only [Bool.and_eq_true,Bool.not_eq_true'] at ho
   exact ho.2
  exact w _ H1 _ (EnvOk.put A.env A.own hv fr hi)
 | false=>
  rw [ho] at w
  cases hc:T.coer .leaf p with
  | false=>rw [hc] at w;exact w.elim
  | true=>
   rw [hc] at w;have o:=A.own.coer (s:=.leaf) (O':=O++Fs1.flatten) hc mL fun a ha z=>absurd z (A.disj a ha)
   exact w _ H1 _ (EnvOk.put (G:=[]) (p:=⟨.leaf,p.d⟩) (v:=v) A.go o rfl (fun a ha=>by simp at ha) hi)
noncomputable def dh (f:F1):FS:=jS f fun _ Γ=>.nx Γ
theorem xD (h:tS K W (dh fa) D σ H):qf (tE K W fa) D σ H:=
 i8 h fun He O Fs Γ1 p v H1 G Fs1 _ fr A w=>w σ H1 Fs1 A.go
theorem Da {α:Type} {l:List α} {i:Nat} {x:α} (h:l[i]?=some x):l.set i x=l:=by
 apply ext_getElem?
 intro j;by_cases hj:j=i
 ·subst hj
  rw [getElem?_set_self (KQ h).1,h]
 ·rw [getElem?_set_ne (Ne.symm hj)]
noncomputable def yY (i:Nat) (p:PV) (Γ:Ev):dS:=match Γ[i]? with
 | some (some ⟨.lst s,.list ds⟩)=>if T.coer s p&&decide (ds.length<sizeLine) then .nx (Γ.set i (some ⟨.lst s,.list (ds++[p.d])⟩)) else .no
 | _=>.no
noncomputable def ig:Option (Option PV)->Bool
 | some (some ⟨.lst _,.list _⟩)=>true
 | _=>false
noncomputable def aG (i:Nat) (f:F1):FS:=fun Γ=>if ig Γ[i]? then jS f (yY i) Γ else .no
theorem yX {He H:Hp} {O G:List Addr} {Fs:List (List Addr)} {Γ:Ev} {i:Nat} {s:Sh} {ds:List KY} {p:PV} {v:V} (E:EnvOk K He (G++O) Fs H σ Γ) (o:Own K (G++O++Fs.flatten) H p.s G v p.d) (fr:∀a∈G,He a=none)
  (h:Γ[i]?=some (some ⟨.lst s,.list ds⟩)) (hc:T.coer s p=true) :
  ∃l vs,σ[i]?=some (some (.ref l))/\H l=some (.lst vs)/\vs.length=ds.length/\∃Fs',EnvOk K He O Fs' (cy H l (.lst (vs++[v]))) σ (Γ.set i (some ⟨.lst s,.list (ds++[p.d])⟩)):=by
 obtain ⟨hv,u,F,h1,E1,o1,sub⟩:=E.move h;have hi:i<Γ.length:=(KQ h).1
 cases o1 with
 | @lst _ l vs _ Fs0 hsv hp hl hf nd q=>
  refine ⟨l,vs,h1,hp,hl,Fs.set i (l::(Fs0++[aW s G]).flatten),?_⟩
  have hlF:l∈Fs.flatten:=sub l (KI _ mem_cons_self)
  have hHe:He l=none:=E.fresh l hlF
  have hG':∀a∈aW s G,a∈G:=fun a ha=>HW ha
  obtain ⟨k1,k2,k3⟩:=KP E1.ndO;obtain ⟨g1,g2,g3⟩:=KP k2;have ndk:(aW s G).Nodup:=by
   cases s<;>first | exact nodup_nil | exact g1
  have pmO:((l::(Fs0++[aW s G]).flatten)++O).Perm ((l::Fs0.flatten)++(aW s G++O)):=by
   rw [wQ];show (l::((Fs0.flatten++aW s G)++O)).Perm (l::(Fs0.flatten++(aW s G++O)))
   rw [append_assoc]
  have E2:EnvOk K He ((l::Fs0.flatten)++(aW s G++O)) (Fs.set i []) H σ (Γ.set i none):=E1.drop (fun a ha=>by
   rcases KJ ha with z | z
   ·exact KI _ z
   ·refine KH _ ?_
    rcases KJ z with z | z
    ·exact KI _ (hG' a z)
    ·exact KH _ z) (List.nodup_append.mpr ⟨k1,List.nodup_append.mpr ⟨ndk,g2,fun a ha b hb=>g3 a (hG' a ha) b hb⟩,fun a ha b hb=>k3 a ha b (by
     rcases KJ hb with z | z
     ·exact KI _ (hG' b z)
     ·exact KH _ z)⟩)
  have E3:=E2.perm pmO
  have hlin:l∈(l::(Fs0++[aW s G]).flatten)++O:=mem_cons_self
  have E4:=E3.mutO (o:=.lst (vs++[v])) hlin hp hHe
  have lnG:l∉G:=fun z=>k3 l mem_cons_self l (KI _ z) rfl
  have subH:∀a∈(l::(Fs0++[aW s G]).flatten)++O++(Fs.set i []).flatten,a∈(l::Fs0.flatten)++(G++O)++(Fs.set i []).flatten:=fun a ha=>by
   rcases KJ ha with z | z
   ·refine KI _ ?_
    rcases KJ (pmO.mem_iff.mp z) with y | y
    ·exact KI _ y
    ·refine KH _ ?_
     rcases KJ y with y | y
     ·exact KI _ (hG' a y)
     ·exact KH _ y
   ·exact KH _ z
  have ownL:Own K ((l::(Fs0++[aW s G]).flatten)++O++(Fs.set i []).flatten) (cy H l (.lst (vs++[v]))) (.lst s) (l::(Fs0++[aW s G]).flatten) (.ref l) (.list (ds++[p.d])):=by
   refine .lst hsv jQ (by simp [hl]) (by simp [hf]) ?_ fun j w d' G' e1 e2 e3=>?_
   ·have nd2:=E3.ndO
    exact (KP nd2).1
   ·by_cases hj:j<vs.length
    ·rw [getElem?_append_left hj] at e1
     rw [getElem?_append_left (by omega)] at e2
     rw [getElem?_append_left (by omega)] at e3
     exact ((q j w d' G' e1 e2 e3).perm subH).mut hsv (KI _ hlin) (fun z=>(List.nodup_cons.mp nd).1 (oH e3 z)) hp
    ·have hj':j=vs.length:=by
      have:=(KQ e1).1
      rw [length_append,length_singleton] at this;omega
     subst hj'
     rw [getElem?_append_right (KW _),Nat.sub_self] at e1;rw [getElem?_append_right (by omega),show vs.length-ds.length=0 by omega] at e2
     rw [getElem?_append_right (by omega),show vs.length-Fs0.length=0 by omega] at e3
     cases e1
     cases e2
     cases e3;have osub:∀a∈(l::(Fs0++[aW s G]).flatten)++O++(Fs.set i []).flatten,a∈G++O++Fs.flatten:=fun a ha=>by
      rcases KJ (subH a ha) with z | z
      ·rcases KJ z with z | z
       ·exact KH _ (sub a (KI _ z))
       ·exact KI _ z
      ·exact KH _ (sub a (KH _ z))
     have o3:=o.coer (s:=s) hc osub fun a ha hO=>by
      cases s with
      | leaf=>
       exfalso
       rw [wQ] at hO;have hO':a∈(l::Fs0.flatten)++O++(Fs.set i []).flatten:=by simpa [aW] using hO
       have ndE:=E.nd
       rw [append_assoc] at ndE;have dis:=(KP ndE).2.2
       rcases KJ hO' with z | z
       ·rcases KJ z with z | z
        ·exact dis a ha a (KH _ (sub a (KI _ z))) rfl
        ·exact dis a ha a (KI _ z) rfl
       ·exact dis a ha a (KH _ (sub a (KH _ z))) rfl
      | view=>cases hsv
      | lst s=>exact ha
      | tup ss=>exact ha
     exact o3.mut hsv (KI _ hlin) (fun z=>lnG (hG' l z)) hp
  have fin:=EnvOk.put (i:=i) (p:=⟨.lst s,.list (ds++[p.d])⟩) (v:=.ref l) E4 ownL rfl (fun a ha=>?_) (by rw [length_set];exact hi)
  ·rw [set_set,set_set,Da h1] at fin
   exact fin
  ·rcases KL ha with z | z
   ·rw [z];exact hHe
   ·rw [wQ] at z
    rcases KJ z with z | z
    ·exact E.fresh a (sub a (KI _ (KO _ z)))
    ·exact fr a (hG' a z)
theorem Hn {QL:List V->Hp->Prop} (h1:tE K W fa σ H fun v H'=>QL [v] H'):tA K W (ab fa af) σ H QL:=by
 obtain ⟨He,O,Fs,Γ,E,h1⟩:=h1;refine ⟨He,O,Fs,Γ,E,?_⟩
 unfold ab af
 cases e:fa Γ with
 | ok p Γ'=>
  rw [e] at h1;intro vs H' Gs Fs' A
  match vs,Gs,A.len1,A.len2 with
  | [v],[G],_,_=>exact h1 v H' G Fs' ⟨A.same,by simpa using A.env,by simpa using A.new,by simpa using A.own 0 v p G rfl rfl rfl⟩
 | er c Γ'=>rw [e] at h1;exact h1
 | no=>rw [e] at h1;exact h1
theorem sC {o:Option (Option PV)} (h:ig o=true):∃s ds,o=some (some ⟨.lst s,.list ds⟩):=by
 unfold ig at h;split at h
 ·exact ⟨_,_,rfl⟩
 ·cases h
theorem EnvOk.ownL {He H:Hp} {O:List Addr} {Fs:List (List Addr)} {Γ:Ev} {i:Nat} {s:Sh} {ds:List KY} (E:EnvOk K He O Fs H σ Γ) (h:Γ[i]?=some (some ⟨.lst s,.list ds⟩)):∃l vs,σ[i]?=some (some (.ref l))/\H l=some (.lst vs)/\vs.length=ds.length:=by
 obtain ⟨hv,v,F,h1,h2,h3⟩:=E.slot i _ h
 cases h3 with
 | @lst _ l vs _ Fs0 hsv hp hl hf nd q=>exact ⟨l,vs,h1,hp,hl⟩
theorem rP {i:Nat} (h:tS K W (aG i fa) D σ H):qf (DZ K "list" qu (fx i) (tA K W (ab fa af))) D σ H:=by
 obtain ⟨He,O,Fs,Γ,E,h⟩:=h;unfold aG at h
 cases ho:ig Γ[i]? with
 | false=>rw [ho] at h;exact h.elim
 | true=>
  rw [ho] at h;obtain ⟨s,ds,e0⟩:=sC ho;obtain ⟨l,vs,h1,h2,h3⟩:=E.ownL e0;refine ⟨.ref l,h1,.inl ⟨rfl,vs,.of h2⟩,Hn (i8 (D:=D) ⟨He,O,Fs,Γ,E,h⟩ fun He O Fs Γ1 p v H1 G Fs1 _ fr A w=>?_)⟩
  unfold yY at w;split at w
  ·rename_i s1 ds1 e1
   cases hc:(T.coer s1 p&&decide (ds1.length<sizeLine)) with
   | false=>rw [hc] at w;exact w.elim
   | true=>
    rw [hc] at w;simp only [Bool.and_eq_true,decide_eq_true_eq] at hc
    obtain ⟨l1,vs1,q1,q2,q3,Fs',E'⟩:=yX A.env A.own fr e1 hc.1;rw [h1] at q1
    cases q1;exact ⟨l,vs1,v,rfl,rfl,q2,by rw [q3];exact hc.2,w σ _ Fs' E'⟩
  ·exact w.elim
noncomputable def cQ (i:Nat) (body:FS):List KY->Ev->dS
 | [],Γ=>.nx Γ
 | d::r,Γ=>if i<Γ.length then (match body (Γ.set i (KZ d)) with
  | .nx Γ'=>cQ i body r Γ'
  | .ct Γ'=>cQ i body r Γ'
  | .bk Γ'=>.nx Γ'
  | .rt p=>.rt p
  | .er c Γ'=>.er c Γ'
  | .no=>.no) else .no
noncomputable def fz (i:Nat) (fi:FI) (body:FS):FS:=fun Γ=>match fi Γ with
 | .ok t Γ1=>if t.st then cQ i body t.ds Γ1 else .no
 | .er c Γ1=>.er c Γ1
 | .no=>.no
theorem EnvOk.rebase {He H:Hp} {O:List Addr} {Fs:List (List Addr)} {Γ:Ev} (E:EnvOk K He O Fs H σ Γ):EnvOk K (dD H Fs.flatten) O Fs H σ Γ/\Same He (dD H Fs.flatten):=
 ⟨⟨E.len1,E.len2,hid_le,E.nd,E.inH,fun a ha=>by unfold dD;rw [if_pos ha],E.slot⟩,fun b o e=>Dr (E.same b o e) fun z=>by have:=E.fresh b z;rw [e] at this;cases this⟩
theorem EnvOk.unbase {He He' H:Hp} {O:List Addr} {Fs:List (List Addr)} {Γ:Ev} (E:EnvOk K He' O Fs H σ Γ) (s:Same He He'):EnvOk K He O Fs H σ Γ:=
 ⟨E.len1,E.len2,s.trans E.same,E.nd,E.inH,fun a ha=>s.free (E.fresh a ha),E.slot⟩
theorem RetOk.unbase {He He' H:Hp} {O G:List Addr} {p:PV} {v:V} (r:RetOk K He' O p v H G) (s:Same He He'):RetOk K He O p v H G:=
 ⟨s.trans r.same,fun a ha=>s.free (r.fresh a ha),r.inH,r.nd,r.own,r.nv⟩
theorem AX {i:Nat} {fi:FI} {body:FS} (h:tS K W (fz i fi body) D σ H):DX (tI K W fi) (iE i) (tS K W body) D σ H:=by
 obtain ⟨He,O,Fs,Γ,E,h⟩:=h;refine ⟨He,O,Fs,Γ,E,?_⟩
 unfold fz at h
 cases e:fi Γ with
 | er c Γ1=>rw [e] at h;exact fun H' Fs' s E'=>h σ H' Fs' E'
 | no=>rw [e] at h;exact h
 | ok t Γ1=>
  rw [e] at h;intro J H1 Fs1 vs P s1 E1 n1 it hP hP1 hst hr;have h:cS K W He O D (if t.st then cQ i body t.ds Γ1 else .no):=h
  cases ht:t.st with
  | false=>rw [ht] at h;exact h.elim
  | true=>
   rw [ht] at h;have h:cS K W He O D (cQ i body t.ds Γ1):=h
   obtain ⟨E1',sHe⟩:=E1.rebase;have hlen:vs.length=t.ds.length:=hr.1
   refine ⟨fun k m σ' H'=>m=vs.length-k/\k<=vs.length/\∃Γk Fk,EnvOk K (dD H1 Fs1.flatten) O Fk H' σ' Γk/\cS K W He O D (cQ i body (t.ds.drop k) Γk),⟨vs.length,by simp,Nat.zero_le _,Γ1,Fs1,E1',by simpa using h⟩,?_⟩
   rintro k m σ' H' ⟨rfl,hk,Γk,Fk,Ek,hw⟩
   have hPk:P H':=hst ht H' Ek.same
   by_cases hlt:k<vs.length
   case neg=>
    left
    have hke:k=vs.length:=by omega
    have:t.ds.drop k=[]:=List.drop_eq_nil_of_le (by omega)
    rw [this] at hw;exact ⟨by rw [hke];exact it.stop H' hPk,hw σ' H' Fk (Ek.unbase sHe)⟩
   case pos=>
    right
    have hv:vs[k]?=some vs[k]:=KM hlt
    have hkd:k<t.ds.length:=by omega
    have hd:t.ds[k]?=some t.ds[k]:=KM hkd
    have hdr:t.ds.drop k=t.ds[k]::t.ds.drop (k+1):=List.drop_eq_getElem_cons hkd
    rw [hdr] at hw;generalize hdk:t.ds[k]=d at hd hw
    generalize hvk:vs[k]=v at hv
    obtain ⟨hgo,hyld⟩:=it.go k H' v hPk hv
    simp only [cQ] at hw
    by_cases hi:i<Γk.length
    case neg=>rw [if_neg hi] at hw;exact hw.elim
    rw [if_pos hi] at hw;have rep:Rep K (dD H' (O++Fk.flatten)) v d:=by
     refine (hr.2 k v d hv hd).mono fun b o hb=>?_
     have hb1:dD H1 Fs1.flatten b=some o:=sub_hid b o hb
     have hbO:b∉O:=fun z=>by
      unfold dD at hb;rw [if_pos (KI _ z)] at hb
      cases hb
     have hbF:b∉Fk.flatten:=fun z=>by
      have:=Ek.fresh b z
      rw [hb1] at this
      cases this
     exact Dr (Ek.same b o hb1) fun z=>(KJ z).elim hbO hbF
    have Ep:EnvOk K (dD H1 Fs1.flatten) O (Fk.set i []) H' (σ'.set i (some v)) (Γk.set i (KZ d)):=
     EnvOk.put (G:=[]) (p:=⟨.leaf,d⟩) (v:=v) Ek (.leaf rep) rfl (fun a ha=>by simp at ha) hi
    refine ⟨hgo,fun σ2 H2=>∃Γk Fk,EnvOk K (dD H1 Fs1.flatten) O Fk H2 σ2 Γk/\cS K W He O D (cQ i body (t.ds.drop (k+1)) Γk),fun σ2 H2 q=>⟨vs.length-(k+1),by omega,rfl,hlt,q⟩,fun x Hx hx=>?_⟩
    obtain ⟨rfl,rfl⟩:=hyld x Hx hx;show tS K W body _ (σ'.set i (some x)) Hx
    refine ⟨dD H1 Fs1.flatten,O,_,_,Ep,?_⟩
    cases eb:body (Γk.set i (KZ d)) with
    | nx Γ'=>rw [eb] at hw;exact fun σ2 H2 F2 E2=>⟨Γ',F2,E2,hw⟩
    | ct Γ'=>rw [eb] at hw;exact fun σ2 H2 F2 E2=>⟨Γ',F2,E2,hw⟩
    | bk Γ'=>rw [eb] at hw;exact fun σ2 H2 F2 E2=>hw σ2 H2 F2 (E2.unbase sHe)
    | rt p=>rw [eb] at hw;exact fun u H2 G r=>hw u H2 G (r.unbase sHe)
    | er c Γ'=>rw [eb] at hw;exact fun σ2 H2 F2 E2=>hw σ2 H2 F2 (E2.unbase sHe)
    | no=>rw [eb] at hw;exact hw
end
inductive bS where
 | ok (p:PV) | er (c:Str) | no
noncomputable def rB (K:Fg) (n:Nat) (den:List KY->bS):Sp:=fun vs H Q _=>vs.length=n/\∃O ds,O.Nodup/\(∀a∈O,H a≠none)/\Reps K (dD H O) vs ds/\match den ds with
 | .ok p=>∀v H' G,RetOk K H O p v H' G->Q v H'
 | .er _=>False
 | .no=>False
noncomputable def ah (n:Nat) (ds:List KY):Ev:=ds.map (fun d=>some ⟨.leaf,d⟩)++List.replicate (n-ds.length) none
noncomputable def aC (n:Nat) (g:FS) (ds:List KY):bS:=match g (ah n ds) with
 | .nx _=>.ok ⟨.leaf,.none⟩
 | .rt p=>.ok p
 | .er c _=>.er c
 | _=>.no
section
variable {P:Program} {w:World} {K:Fg} {mg:Str->Option Value} {base:Heap}
theorem sG {N:List Str} {H:Hp} {O:List Addr} {vs:List V} {ds:List KY} (hn:vs.length<=N.length) (nd:O.Nodup) (inH:∀a∈O,H a≠none) (rs:Reps K (dD H O) vs ds) :
  EnvOk K H O (List.replicate N.length []) H (L2.start N vs) (ah N.length ds):=by
 have fl:(List.replicate N.length ([]:List Addr)).flatten=[]:=by simp
 have hl:=rs.1
 refine ⟨by simp [L2.start,ah,hl],by simp [ah];omega,Same.refl _,by rw [fl];simpa using nd,by rw [fl];simpa using inH,fun a ha=>by rw [fl] at ha;simp at ha,fun i p hp=>?_⟩
 unfold ah at hp;by_cases hi:i<ds.length
 ·rw [getElem?_append_left (by simpa using hi),getElem?_map,KM hi] at hp
  cases hp;refine ⟨rfl,vs[i]'(by omega),[],?_,?_,?_⟩
  ·unfold L2.start
   rw [getElem?_append_left (by simp;omega),getElem?_map,KM (by omega)]
   rfl
  ·rw [getElem?_replicate,if_pos (by omega)]
  ·refine .leaf ?_
   rw [fl,append_nil];exact rs.2 i _ _ (KM _) (KM hi)
 ·rw [getElem?_append_right (by simpa using hi),getElem?_replicate] at hp
  split at hp<;>cases hp
theorem Ct {x qual:Str} {st:Stmt} {f:Addr} {fd:FuncData} {N ps:List Str} {k:Nat} {g:FS} (F:Fun K x qual st f fd) (S:g9 N ps (br st))
  (hb:∀(cdv:Value) (A:Around) (outer:List Env) (s:Shared) (H:Hp) (E:XK),Room k (A.deeper (envOfC qual (br st) s.heap.objs.size f cdv)) ->
   PSs (oq pY P w K mg base N qual (br st) f cdv A outer s H E).nox (dI st) (tS K W0 g)):gy P w K mg base pY (k+1) f fd ps (rB K ps.length (aC N.length g)):=by
 have hpl:ps.length<=N.length:=by have:=congrArg List.length S.pre;rw [length_take] at this;omega
 refine F.ok S (fun vs H Q E h=>h.1) (fun cdv A outer s H vs Q E hr h=>⟨_,hb cdv A outer s H E hr,?_⟩)
 obtain ⟨hl,O,ds,nd,inH,rs,w⟩:=h;refine ⟨H,O,List.replicate N.length [],ah N.length ds,sG (by omega) nd inH rs,?_⟩
 unfold aC at w
 cases e:g (ah N.length ds) with
 | nx Γ'=>
  rw [e] at w;exact fun σ' H' Fs' E'=>w .non H' [] ⟨E'.same,(fun _ z=>nomatch z),(fun _ z=>nomatch z),nodup_nil,.leaf .non,rfl⟩
 | rt p=>rw [e] at w;exact w
 | bk Γ'=>rw [e] at w;exact w.elim
 | ct Γ'=>rw [e] at w;exact w.elim
 | er c Γ'=>rw [e] at w;exact w.elim
 | no=>rw [e] at w;exact w.elim
end
noncomputable def ag (n:Nat) (den:List KY->bS) (fl:FL):F1:=fun Γ=>(fl Γ).bind fun ps Γ'=>if ps.length=n then (match den (ps.map (·.d)) with
 | .ok p=>if ps.all (T.coer .leaf) then .ok p Γ' else if bP p.d then .ok ⟨.leaf,p.d⟩ Γ' else .ok ⟨.view,p.d⟩ Γ'
 | _=>.no) else .no
section
variable {K:Fg} {W:XW} {σ:St} {H:Hp} {Q:VK} {fl:FL}
theorem xG {n:Nat} {den:List KY->bS} {E:XK} (h:tE K W (ag n den fl) σ H Q):ud (rB K n den) [] E (tA K W fl) σ H Q:=by
 obtain ⟨He,O,Fs,Γ,E0,h⟩:=h;refine ⟨He,O,Fs,Γ,E0,?_⟩
 unfold ag at h
 cases e:fl Γ with
 | er c Γ'=>rw [e] at h;exact h
 | no=>rw [e] at h;exact h
 | ok ps Γ1=>
  rw [e] at h;intro vs H1 Gs Fs1 A;have h:Wants K W He O Fs H σ Q (if ps.length=n then (match den (ps.map (·.d)) with | .ok p=>if ps.all (T.coer .leaf) then .ok p Γ1 else if bP p.d then .ok ⟨.leaf,p.d⟩ Γ1 else .ok ⟨.view,p.d⟩ Γ1 | _=>.no) else .no):=h
  by_cases hn:ps.length=n
  case neg=>rw [if_neg hn] at h;exact h.elim
  rw [if_pos hn] at h;have hl:(vs++[]).length=n:=by rw [append_nil,A.len1];exact hn
  cases ed:den (ps.map (·.d)) with
  | er c=>rw [ed] at h;exact h.elim
  | no=>rw [ed] at h;exact h.elim
  | ok p=>
   rw [ed] at h;have h:Wants K W He O Fs H σ Q (if ps.all (T.coer .leaf) then .ok p Γ1 else if bP p.d then .ok ⟨.leaf,p.d⟩ Γ1 else .ok ⟨.view,p.d⟩ Γ1):=h
   obtain ⟨n1,n2,n3⟩:=KP A.env.nd;obtain ⟨m1,m2,m3⟩:=KP n1;have newF:∀a∈Fs1.flatten,a∈Fs.flatten\/H a=none:=fun a ha=>A.new a (KH _ ha)
   cases hc:ps.all (T.coer .leaf) with
   | true=>
    rw [hc] at h;have h:Wants K W He O Fs H σ Q (.ok p Γ1):=h
    refine ⟨hl,O++Fs1.flatten,ps.map (·.d),A.env.dropL.nd,A.env.dropL.inH,?_,?_⟩
    ·rw [append_nil]
     refine ⟨A.reps.1,fun i v d h1 h2=>?_⟩
     rw [getElem?_map] at h2
     cases e2:ps[i]? with
     | none=>rw [e2] at h2;cases h2
     | some q=>
      rw [e2] at h2
      cases h2;have hi:=(KQ e2).1
      have e3:Gs[i]?=some (Gs[i]'(by rw [A.len2];exact hi)):=KM _
      have o:=A.own i v q _ h1 e2 e3
      have o2:=o.coer (s:=.leaf) (O':=O++Fs1.flatten) (List.all_eq_true.mp hc q (mem_of_getElem? e2)) mL fun a ha z=>by
       exfalso
       have hG:=oH e3 ha
       rcases KJ z with y | y
       ·exact m3 a hG a y rfl
       ·exact n3 a (KI _ hG) a y rfl
      cases o2 with
      | leaf r=>exact r
    ·rw [ed]
     intro v H2 G r;refine h v H2 G Fs1 ⟨A.same.trans r.same,A.env.dropL.hide r.same r.nd r.fresh r.inH,fun a ha=>?_,by rw [append_assoc];exact r.own⟩
     rcases KJ ha with z | z
     ·exact .inr (A.same.free (r.fresh a z))
     ·exact newF a z
   | false=>
    rw [hc] at h;have h:Wants K W He O Fs H σ Q (if bP p.d then .ok ⟨.leaf,p.d⟩ Γ1 else .ok ⟨.view,p.d⟩ Γ1):=h
    refine ⟨hl,[],ps.map (·.d),nodup_nil,(fun _ z=>nomatch z),by rw [append_nil,Hs];exact A.reps,?_⟩
    rw [ed];intro v H2 G r
    cases hs:bP p.d with
    | true=>
     rw [hs] at h;exact Wants.scal h (r.own.rep.sc hs) (A.same.trans r.same) (A.env.dropL.grow r.same) (fun a ha=>ha) E0.ndO newF
    | false=>
     rw [hs] at h;have h:Wants K W He O Fs H σ Q (.ok ⟨.view,p.d⟩ Γ1):=h
     exact h v H2 [] Fs1 ⟨A.same.trans r.same,by simpa using A.env.dropL.grow r.same,by simpa using newF,.view r.own.rep⟩
end
theorem Fl:bootBuiltins "len"=some (.builtin "len"):=by decide +kernel
theorem Fo:bootBuiltins "all"=some (.builtin "all"):=by decide +kernel
theorem Fn:bootBuiltins "any"=some (.builtin "any"):=by decide +kernel
theorem vP:bootBuiltins "sorted"=some (.builtin "sorted"):=by decide +kernel
theorem mn:bootBuiltins "isinstance"=some (.builtin "isinstance"):=by decide +kernel
theorem Fm:bootBuiltins "int"=some (.type "int"):=by decide +kernel
theorem CL:bootBuiltins "list"=some (.type "list"):=by decide +kernel
theorem HM:bootBuiltins "tuple"=some (.type "tuple"):=by decide +kernel
theorem Fi:bootBuiltins "str"=some (.type "str"):=by decide +kernel
section
variable {X:Cx} {W:XW} {a b c e:Expr} {es:List Expr} {pos:Pos} {fa fb fc:F1} {fl:FL} {ga gb:FB} {g1 g2:FS}
theorem CH {op:CmpOp} {r:R2} {g:KY->KY->Option KY} (ho:OpR X (compareOp op) r) (hg:GOp X.K r g) (ha:PE X a (tE X.K W fa)) (hb:PE X b (tE X.K W fb)) (hm:behindInMarks op b=false:=by with_unfolding_all rfl) :
  PE X (.Compare a [op] [b] pos) (tE X.K W (az g fa fb)):=bp (xS ho ha hb hm) fun _ _ _=>iu hg
theorem CB {op:CmpOp} {r:R2} {g:KY->KY->Option KY} (ho:OpR X (compareOp op) r) (hg:GOp X.K r g) (ha:PE X a (tE X.K W fa)) (hb:PE X b (tE X.K W fb)) (hm:behindInMarks op b=false:=by with_unfolding_all rfl) :
  PT X (.Compare a [op] [b] pos) (tT X.K W (aL ai (az g fa fb))):=qU (xK ho ha hb hm) fun σ H QB=>qp fun Q=>iu hg
theorem vI {op op':CmpOp} {r r':R2} {g g':KY->KY->Option KY} (ho:OpR X (compareOp op) r) (hg:GOp X.K r g) (ho':OpR X (compareOp op') r') (hg':GOp X.K r' g') (ha:PE X a (tE X.K W fa)) (hb:PE X b (tE X.K W fb)) (hc:PE X c (tE X.K W fc))
  (hm:lastMarks [op,op'] [b,c]=false:=by with_unfolding_all rfl):PE X (.Compare a [op,op'] [b,c] pos) (tE X.K W (gu g g' fa fb fc)):=bp (uQ ho ho' ha hb hc hm) fun _ _ _=>uB hg hg'
theorem da_nil:PA X [] (tA X.K W af):=zT Hk fun _ _ _=>AQ
theorem da_cons (ha:PE X e (tE X.K W fa)) (hr:PA X es (tA X.K W fl)) (hs:starEach (e::es) X.env=(false,eval e X.env)::starEach es X.env:=by rfl):PA X (e::es) (tA X.K W (ab fa fl)):=zT (Du ha hr hs) fun _ _ _=>xE
theorem qP {x:Str} {id:String} {r:List V->Hp->VK->Prop} {g:List KY->Option KY} {p:Pos} (hc:CallR X (.builtin id) r) (hg:GCall X.K r g) (hv:bootBuiltins x=some (.builtin id)) (hm:X.mg x=none) (ha:PA X (e::es) (tA X.K W fl)) (hG:Gl X x:=by rfl)
  (hn:x ≠ "__name__":=by decide) (hdb:(x==("__debug__":Str))=false:=by decide) (he:starEach (e::es) X.env=(false,eval e X.env)::starEach es X.env:=by rfl) (hpl:(backTo pos (starEach es X.env)).any (·.1)=false:=by rfl) :
  PE X (.Call (.Name x p) (e::es) [] pos) (tE X.K W (bJ g fl)):=bp (ni hc hG hm hv ha hn hdb he hpl) fun _ _ _=>uC hg
theorem Fe {x:Str} {id:String} {r:List V->Hp->VK->Prop} {g:List KY->Option KY} {p:Pos} (hc:CallR X (.type id) r) (hg:GCall X.K r g) (hv:bootBuiltins x=some (.type id)) (hm:X.mg x=none) (ha:PA X (e::es) (tA X.K W fl)) (hG:Gl X x:=by rfl)
  (hn:x ≠ "__name__":=by decide) (hdb:(x==("__debug__":Str))=false:=by decide) (he:starEach (e::es) X.env=(false,eval e X.env)::starEach es X.env:=by rfl) (hpl:(backTo pos (starEach es X.env)).any (·.1)=false:=by rfl) :
  PE X (.Call (.Name x p) (e::es) [] pos) (tE X.K W (bJ g fl)):=bp (kL hc hG hm hv ha hn hdb he hpl) fun _ _ _=>uC hg
theorem yJ {f:Addr} {fd:FuncData} {ps:List Str} {k n:Nat} {den:List KY->bS} {x:Str} {p:Pos} (F:gy X.prog X.w X.K X.mg X.base pY k f fd ps (rB X.K n den)) (hr:Room k X.A) (hm:X.mg x=some (.ref f)) (hk:PySem.W.keepIn X.K (.ref f)=true)
  (hb:Binds X.K fd ps []) (ha:PA X (e::es) (tA X.K W fl)) (hg:Gl X x:=by rfl) (hdb:(x==("__debug__":Str))=false:=by decide) (he:starEach (e::es) X.env=(false,eval e X.env)::starEach es X.env:=by rfl)
  (hpl:(backTo pos (starEach es X.env)).any (·.1)=false:=by rfl):PE X (.Call (.Name x p) (e::es) [] pos) (tE X.K W (ag n den fl)):=bp (qx F hr hg hm hk hb .nil zC ha hdb he hpl) fun _ _ _=>xG
theorem Fd {tg:Expr} {p:Pos} (hm:X.mg "range"=none) (ha:PA X [a] (tA X.K W fl)) (hg:Gl X "range":=by rfl) (hs:starEach [a] X.env=[(false,eval a X.env)]:=by rfl):PI X tg (.Call (.Name "range" p) [a] [] pos) (tI X.K W (i4 fl)):=qV (r0 hg hm ha hs) fun _ _ _=>AW
theorem Fc {tg:Expr} {p:Pos} (hm:X.mg "range"=none) (ha:PA X [a,b] (tA X.K W fl)) (hg:Gl X "range":=by rfl) (hs:starEach [a,b] X.env=[(false,eval a X.env),(false,eval b X.env)]:=by rfl) (hs2:starEach [b] X.env=[(false,eval b X.env)]:=by rfl) :
  PI X tg (.Call (.Name "range" p) [a,b] [] pos) (tI X.K W (yp fl)):=qV (rZ hg hm ha hs hs2) fun _ _ _=>AV
noncomputable def aK:FB:=fun Γ=>.ok true Γ
theorem yI {scope:Scope} {x:Str} {px:Pos} {iter elt:Expr} {ifs:List Expr} {fi:FI} {fe:F1} {fc:FB} (s:Sh) (i:Nat) (S:eB X.N [i] X.env.scope scope) (hN:X.N.Nodup) (hi':PI X (.Name x px) iter (tI X.K W fi))
  (hc:∀cells C s₀ H₀ ex,PF (blk X scope cells C s₀ H₀ ex) ifs (tT X.K W0 fc)) (he:∀cells C s₀ H₀ ex,PE (blk X scope cells C s₀ H₀ ex) elt (tE X.K W0 fe))
  (hcalm:X.calm=true:=by rfl) (hx:X.N[i]?=some x:=by rfl) (hl:∀cells C s₀ H₀ ex,Loc (blk X scope cells C s₀ H₀ ex).env.scope x:=by first | exact fun _ _ _ _ _=>Or.inl rfl | exact fun _ _ _ _ _=>Or.inr rfl)
  (hf:∀cells C s₀ H₀ ex,(blk X scope cells C s₀ H₀ ex).fn x=true\/(blk X scope cells C s₀ H₀ ex).env.scope.names.lookup x=some .local:=by first | exact fun _ _ _ _ _=>Or.inr rfl | exact fun _ _ _ _ _=>Or.inl rfl)
  (hs:∀x,foldedSetIterable iter X.env x=pure x:=by intro _;rfl):PE X (.ListComp elt [⟨.Name x px,iter,ifs,0⟩] scope pos) (tE X.K W (aA s i fi fc fe)):=
 bp (qw S hcalm hi' (fun cells C s₀ H₀ ex=>Dv (X:=blk X scope cells C s₀ H₀ ex) (i:=i) hN hx (hl cells C s₀ H₀ ex) (hf cells C s₀ H₀ ex)) hc he hs) fun _ _ _=>qq
theorem CC (own:Bool) (i:Nat) {x:Str} {pos':Pos} (hN:X.N.Nodup) (ha:PE X a (tE X.K W fa)) (hi:X.N[i]?=some x:=by rfl) (hx:Loc X.env.scope x:=by first | exact Or.inl rfl | exact Or.inr rfl) (hs:swapsWith a (some (.Name x pos')) pos.line X.env=pure false:=by rfl)
  (hf:X.fn x=true\/X.env.scope.names.lookup x=some .local:=by first | exact .inl rfl | exact .inr rfl):PS X (.Assign [.Name x pos'] a pos) (tS X.K W (aB own i fa)):=fP (Bp hN hi hx ha hs hf) fun _ _ _=>ux
theorem pK (own:Bool) (j:Nat) {scope:Scope} {x y:Str} {px pos' spos:Pos} {iter elt:Expr} {ifs:List Expr} {fi:FI} {fe:F1} {fc:FB} (s:Sh) (i:Nat) (S:eB X.N [i] X.env.scope scope) (hN:X.N.Nodup) (hi':PI X (.Name x px) iter (tI X.K W fi))
  (hc:∀cells C s₀ H₀ ex,PF (blk X scope cells C s₀ H₀ ex) ifs (tT X.K W0 fc)) (he:∀cells C s₀ H₀ ex,PE (blk X scope cells C s₀ H₀ ex) elt (tE X.K W0 fe))
  (hsw:swapsWith (.ListComp elt [⟨.Name x px,iter,ifs,0⟩] scope pos) (some (.Name y pos')) spos.line X.env=pure true:=by rfl)
  (hy:X.N[j]?=some y:=by rfl) (hly:X.env.scope.names.lookup y=some .local:=by rfl)
  (hcalm:X.calm=true:=by rfl) (hx:X.N[i]?=some x:=by rfl) (hl:∀cells C s₀ H₀ ex,Loc (blk X scope cells C s₀ H₀ ex).env.scope x:=by first | exact fun _ _ _ _ _=>Or.inl rfl | exact fun _ _ _ _ _=>Or.inr rfl)
  (hf:∀cells C s₀ H₀ ex,(blk X scope cells C s₀ H₀ ex).fn x=true\/(blk X scope cells C s₀ H₀ ex).env.scope.names.lookup x=some .local:=by first | exact fun _ _ _ _ _=>Or.inr rfl | exact fun _ _ _ _ _=>Or.inl rfl)
  (hs:∀x,foldedSetIterable iter X.env x=pure x:=by intro _;rfl):PS X (.Assign [.Name y pos'] (.ListComp elt [⟨.Name x px,iter,ifs,0⟩] scope pos) spos) (tS X.K W (aB own j (aA s i fi fc fe))):=
 fP (pb hN hy hly S hcalm hi' (fun cells C s₀ H₀ ex=>Dv (X:=blk X scope cells C s₀ H₀ ex) (i:=i) hN hx (hl cells C s₀ H₀ ex) (hf cells C s₀ H₀ ex)) hc he hsw hs) fun D σ H h=>by
  have h2:ue (tE X.K W (aA s i fi fc fe)) (iE j) D σ H:=ux h
  exact qq h2
theorem sH (i:Nat) {x:Str} {p apos cpos:Pos} (ha:PE X a (tE X.K W fa)) (hN:X.N[i]?=some x:=by rfl) (hv:CP X.env.scope x:=by first | exact Or.inl rfl | exact Or.inr (Or.inl rfl) | exact Or.inr (Or.inr rfl)) (hd:(x==("__debug__":Str))=false:=by decide)
  (hcd:(x==("__classdict__":Str))=false:=by decide) (hs:starEach [a] X.env=[(false,eval a X.env)]:=by rfl)
  (hbase:attributeBase (.Name x p) "append" X.env (eval (.Name x p) X.env)=eval (.Name x p) X.env:=by rfl) (hline:(apos.endLine==cpos.line)=true:=by rfl)
  (hfew:((backTo cpos (starEach [a] X.env)).all (fun x=>!x.1)&&(backToKw cpos (keywordEach [] X.env)).all (fun x=>x.1.isSome)
   && decide ([a].length+([]:List Keyword).length+(if ([]:List Keyword).isEmpty then 0 else 1)<30))=true:=by rfl)
  (hsw:swapsWith (.Call (.Attribute (.Name x p) "append" apos) [a] [] cpos) none pos.line X.env=pure false:=by rfl) :
  PS X (.Expr (.Call (.Attribute (.Name x p) "append" apos) [a] [] cpos) pos) (tS X.K W (aG i fa)):=
 fP (HA (qy PySem.F.plainAttrs_list PySem.F.slot_list_append PySem.F.type_list_append kN (Aa hN hv hd hcd) (da_cons ha da_nil hs) hbase hfew hline hs rfl) hsw) fun _ _ _=>rP
theorem CD (i:Nat) {x:Str} {px:Pos} {iter:Expr} {body:List Stmt} {fi:FI} {g:FS} (hp:PassesOwn (model X.prog X.w) X.A X.env X.xe) (hN:X.N.Nodup) (hi':PI X (.Name x px) iter (tI X.K W fi)) (hb:PSs X body (tS X.K W g)) (hcalm:X.calm=true:=by rfl)
  (hx:X.N[i]?=some x:=by rfl) (hl:Loc X.env.scope x:=by first | exact Or.inl rfl | exact Or.inr rfl) (hf:X.fn x=true\/X.env.scope.names.lookup x=some .local:=by first | exact .inl rfl | exact .inr rfl)
  (hs:∀x,foldedSetIterable iter X.env x=pure x:=by intro _;rfl):PS X (.For (.Name x px) iter body [] pos) (tS X.K W (fz i fi g)):=
 fP (Br hp hcalm hi' (Dv hN hx hl hf) hb hs) fun _ _ _=>AX
end
structure Cp (X:Cx) (N gl:List Str) (vs cs ls lo gs:List Nat):Prop where
 hN:X.N=N
 nd:N.Nodup
 nm:∀x∈N,(x==("__debug__":Str))=false/\(x==("__classdict__":Str))=false
 ng:∀x∈gl,(x==("__debug__":Str))=false/\x ≠ "__name__"
 vis:∀(i:Nat) x,N[i]?=some x->vs.contains i=true->CP X.env.scope x
 cel:∀(i:Nat) x,N[i]?=some x->cs.contains i=true->X.env.scope.names.lookup x=some .cell\/X.env.scope.names.lookup x=some .free
 loc:∀(i:Nat) x,N[i]?=some x->ls.contains i=true->Loc X.env.scope x/\(X.fn x=true\/X.env.scope.names.lookup x=some .local)
 loo:∀(i:Nat) x,N[i]?=some x->lo.contains i=true->X.env.scope.names.lookup x=some .local
 glb:∀(j:Nat) x,gl[j]?=some x->gs.contains j=true->Gl X x
 calm:X.calm=true
 kind:X.env.scope.kind=.function
noncomputable def fI (sc:Scope) (ks:List NameKind) (o:Option Str):Bool:=match o with
 | some x=>(match sc.names.lookup x with
  | some k=>ks.any fun z=>decide (z=k)
  | none=>false)
 | none=>true
noncomputable def tx (N gl:List Str) (vs cs ls lo gs:List Nat) (sc:Scope):Bool:=
 decide (sc.kind=.function)&&(vs.all fun i=>fI sc [.local,.cell,.free] N[i]?)&&(cs.all fun i=>fI sc [.cell,.free] N[i]?)&&(ls.all fun i=>fI sc [.local,.cell] N[i]?)&&(lo.all fun i=>fI sc [.local] N[i]?)&&(gs.all fun j=>fI sc [.globalImplicit] gl[j]?)
noncomputable def EH (N gl:List Str):Bool:=decide N.Nodup&&(N.all fun x=>!(x==("__debug__":Str))&&!(x==("__classdict__":Str)))&&(gl.all fun x=>!(x==("__debug__":Str))&&!decide (x = "__name__"))
theorem Dc {sc:Scope} {ks:List NameKind} {x:Str} (h:fI sc ks (some x)=true):∃k∈ks,sc.names.lookup x=some k:=by
 unfold fI at h;simp only at h
 split at h
 ·rename_i k e
  simp only [any_eq_true,decide_eq_true_eq] at h
  obtain ⟨z,hz,rfl⟩:=h;exact ⟨z,hz,e⟩
 ·cases h
theorem Dn {P:Nat->Bool} {l:List Nat} {i:Nat} (h:l.all P=true) (hi:l.contains i=true):P i=true:=by
 rw [all_eq_true] at h;exact h i (by simpa using hi)
structure KF (N gl:List Str) (vs cs ls lo gs:List Nat) (sc:Scope):Prop where
 kind:sc.kind=.function
 vis:∀(i:Nat) x,N[i]?=some x->vs.contains i=true->CP sc x
 cel:∀(i:Nat) x,N[i]?=some x->cs.contains i=true->sc.names.lookup x=some .cell\/sc.names.lookup x=some .free
 loc:∀(i:Nat) x,N[i]?=some x->ls.contains i=true->Loc sc x
 loo:∀(i:Nat) x,N[i]?=some x->lo.contains i=true->sc.names.lookup x=some .local
 glb:∀(j:Nat) x,gl[j]?=some x->gs.contains j=true->sc.names.lookup x=some .globalImplicit
theorem G9 {N gl:List Str} {vs cs ls lo gs:List Nat} {sc:Scope} (h:tx N gl vs cs ls lo gs sc=true):KF N gl vs cs ls lo gs sc:=by
 unfold tx at h;simp only [Bool.and_eq_true,decide_eq_true_eq] at h
 obtain ⟨⟨⟨⟨⟨h0,h1⟩,h2⟩,h3⟩,h4⟩,h5⟩:=h;refine ⟨h0,fun i x e hi=>?_,fun i x e hi=>?_,fun i x e hi=>?_,fun i x e hi=>?_,fun i x e hi=>?_⟩
 ·have q:=Dn h1 hi
  rw [e] at q;obtain ⟨k,hk,q⟩:=Dc q;simp only [mem_cons,not_mem_nil,or_false] at hk
  rcases hk with rfl | rfl | rfl
  ·exact .inl q
  ·exact .inr (.inl q)
  ·exact .inr (.inr q)
 ·have q:=Dn h2 hi
  rw [e] at q;obtain ⟨k,hk,q⟩:=Dc q;simp only [mem_cons,not_mem_nil,or_false] at hk
  rcases hk with rfl | rfl
  ·exact .inl q
  ·exact .inr q
 ·have q:=Dn h3 hi
  rw [e] at q;obtain ⟨k,hk,q⟩:=Dc q;simp only [mem_cons,not_mem_nil,or_false] at hk
  rcases hk with rfl | rfl
  ·exact .inl q
  ·exact .inr q
 ·have q:=Dn h4 hi
  rw [e] at q;obtain ⟨k,hk,q⟩:=Dc q;simp only [mem_cons,not_mem_nil,or_false] at hk
  rw [hk] at q;exact q
 ·have q:=Dn h5 hi
  rw [e] at q;obtain ⟨k,hk,q⟩:=Dc q;simp only [mem_cons,not_mem_nil,or_false] at hk
  rw [hk] at q;exact q
theorem uY {N gl:List Str} (h:EH N gl=true):N.Nodup/\(∀x∈N,(x==("__debug__":Str))=false/\(x==("__classdict__":Str))=false)/\∀x∈gl,(x==("__debug__":Str))=false/\x ≠ "__name__":=by
 unfold EH at h;simp only [Bool.and_eq_true,decide_eq_true_eq,all_eq_true,Bool.not_eq_true',decide_eq_false_iff_not] at h
 exact ⟨h.1.1,h.1.2,h.2⟩
theorem Cp.fn {P:Program} {w:World} {K:Fg} {mg:Str->Option Value} {base:Heap} {N gl:List Str} {vs cs ls lo gs:List Nat} {qual:Str} {sc:Scope} {f:Addr} {cd:Value} {A:Around} {outer:List Env} {s:Shared} {H:Hp} {E:XK}
  (h:tx N gl vs cs ls lo gs sc=true) (h':EH N gl=true):Cp (oq pY P w K mg base N qual sc f cd A outer s H E).nox N gl vs cs ls lo gs:=by
 obtain ⟨a,b,c⟩:=uY h'
 have q:=G9 h
 exact ⟨rfl,a,b,c,q.vis,q.cel,fun i x e hi=>⟨q.loc i x e hi,.inl rfl⟩,q.loo,q.glb,rfl,q.kind⟩
theorem zz {env:Env} {x:Str} {k:NameKind}:∀{names:List (Str×NameKind)},names.lookup x=some k ->
  (names.map fun (n,k)=>if (k==NameKind.free&&env.scope.kind==.function&&env.kindOf n==some .cell) then (n,NameKind.cell) else (n,k)).lookup x=some k \/
  (k=.free/\(names.map fun (n,k)=>if (k==NameKind.free&&env.scope.kind==.function&&env.kindOf n==some .cell) then (n,NameKind.cell) else (n,k)).lookup x=some .cell)
 | [],h=>by simp at h
 | (n,k')::r,h=>by
  have ih:=@zz env x k r
  rw [map_cons];show List.lookup x ((if (k'==NameKind.free&&env.scope.kind==.function&&env.kindOf n==some .cell)=true then (n,NameKind.cell) else (n,k'))::_)=_\/_/\List.lookup x ((if (k'==NameKind.free&&env.scope.kind==.function&&env.kindOf n==some .cell)=true then (n,NameKind.cell) else (n,k'))::_)=_
  by_cases hc:(k'==NameKind.free&&env.scope.kind==.function&&env.kindOf n==some .cell)=true
  ·rw [if_pos hc]
   cases hx:x==n with
   | true=>
    simp only [lookup_cons,hx] at h ⊢
    cases h;simp only [Bool.and_eq_true,beq_iff_eq] at hc
    exact .inr ⟨hc.1.1,trivial⟩
   | false=>
    simp only [lookup_cons,hx] at h ⊢
    exact ih h
  ·rw [if_neg hc]
   cases hx:x==n with
   | true=>
    simp only [lookup_cons,hx] at h ⊢
    cases h;exact .inl rfl
   | false=>
    simp only [lookup_cons,hx] at h ⊢
    exact ih h
theorem wF {scope:Scope} {env:Env} {x:Str} {k:NameKind} (h:scope.names.lookup x=some k):(relabel scope env).names.lookup x=some k\/(k=.free/\(relabel scope env).names.lookup x=some .cell):=zz h
theorem Cp.blk {X:Cx} {N gl:List Str} {vs cs ls lo gs vs' cs' ls' lo' gs':List Nat} {scope:Scope} (S:Cp X N gl vs cs ls lo gs) (h:tx N gl vs' cs' ls' lo' gs' scope=true) (cells C s₀ H₀ ex) :
  Cp (blk X scope cells C s₀ H₀ ex) N gl vs' cs' ls' lo' gs':=by
 have q:=G9 h
 refine ⟨S.hN,S.nd,S.nm,S.ng,fun i x e hi=>?_,fun i x e hi=>?_,fun i x e hi=>?_,fun i x e hi=>?_,fun i x e hi=>?_,S.calm,q.kind⟩
 ·show CP (relabel scope X.env) x
  rcases q.vis i x e hi with z | z | z
  ·rcases wF (env:=X.env) z with y | ⟨y,_⟩
   ·exact .inl y
   ·cases y
  ·rcases wF (env:=X.env) z with y | ⟨y,_⟩
   ·exact .inr (.inl y)
   ·cases y
  ·rcases wF (env:=X.env) z with y | ⟨_,y⟩
   ·exact .inr (.inr y)
   ·exact .inr (.inl y)
 ·show (relabel scope X.env).names.lookup x=some .cell\/(relabel scope X.env).names.lookup x=some .free
  rcases q.cel i x e hi with z | z
  ·rcases wF (env:=X.env) z with y | ⟨y,_⟩
   ·exact .inl y
   ·cases y
  ·rcases wF (env:=X.env) z with y | ⟨_,y⟩
   ·exact .inr y
   ·exact .inl y
 ·show Loc (relabel scope X.env) x/\((scope.names.any fun y=>y.1==x&&y.2==.cell)=true\/(relabel scope X.env).names.lookup x=some .local)
  rcases q.loc i x e hi with z | z
  ·rcases wF (env:=X.env) z with y | ⟨y,_⟩
   ·exact ⟨.inl y,.inr y⟩
   ·cases y
  ·rcases wF (env:=X.env) z with y | ⟨y,_⟩
   ·refine ⟨.inr y,.inl ?_⟩
    rw [any_eq_true];exact ⟨(x,.cell),js z,by simp⟩
   ·cases y
 ·show (relabel scope X.env).names.lookup x=some .local
  rcases wF (env:=X.env) (q.loo i x e hi) with y | ⟨y,_⟩
  ·exact y
  ·cases y
 ·show (relabel scope X.env).names.lookup x=some .globalImplicit
  rcases wF (env:=X.env) (q.glb i x e hi) with y | ⟨y,_⟩
  ·exact y
  ·cases y
noncomputable def ll (N:List Str) (i:Nat) (cs:List Nat) (sc:Scope):Bool:=
 decide (sc.kind=.function)&&(sc.names.all fun p=>!decide (p.2=.free)||cs.any fun j=>decide (N[j]?=some p.1)) &&
 ((List.range N.length).all fun j=>j==i||(sc.names.all fun p=>!decide (some p.1=N[j]?)||(!decide (p.2=.local)&&!decide (p.2=.cell)))) &&
 (sc.names.all fun p=>!decide (p.2=.local)||decide (sc.names.lookup p.1=some .local)) &&
 (sc.names.all fun p=>!decide (p.2=.free)||sc.names.all fun q=>!decide (q.1=p.1)||!decide (q.2=.cell))
theorem oy {X:Cx} {N gl:List Str} {vs cs ls lo gs:List Nat} {scope:Scope} {i:Nat} (S:Cp X N gl vs cs ls lo gs) (h:ll N i cs scope=true):eB X.N [i] X.env.scope scope:=by
 unfold ll at h;simp only [Bool.and_eq_true,decide_eq_true_eq,all_eq_true,Bool.or_eq_true,Bool.not_eq_true',decide_eq_false_iff_not,any_eq_true,mem_range,beq_iff_eq] at h
 obtain ⟨⟨⟨⟨h0,h1⟩,h2⟩,h3⟩,h4⟩:=h;refine ⟨h0,fun n hn=>?_,fun j x e hj=>?_,fun x hx e=>?_,fun n hn hc=>?_⟩
 ·rcases h1 _ hn with z | ⟨j,hj,e⟩
  ·exact absurd rfl z
  ·exact S.cel j n e (by simpa using hj)
 ·rw [S.hN] at e
  rcases h2 j (KQ e).1 with z | z
  ·rw [z];exact List.mem_singleton.mpr rfl
  ·exfalso
   rcases hj with y | y
   ·rcases z _ y with w | w
    ·exact w e.symm
    ·exact w.1 rfl
   ·rcases z _ y with w | w
    ·exact w e.symm
    ·exact w.2 rfl
 ·rcases h3 x hx with z | z
  ·exact absurd e z
  ·exact z
 ·rcases h4 _ hn with z | z
  ·exact z rfl
  ·rcases z _ hc with w | w
   ·exact w rfl
   ·exact w rfl
structure Fx (X Y:Cx):Prop where
 prog:Y.prog=X.prog
 w:Y.w=X.w
 K:Y.K=X.K
 mg:Y.mg=X.mg
 base:Y.base=X.base
 A:Y.A=X.A
noncomputable def Rm (X:Cx):Prop:=X.A.units+64<cLine
noncomputable def Fz (X:Cx) (x:Str) (n:Nat) (den:List KY->bS):Prop:=∃(k:Nat) (f:Addr) (fd:FuncData) (ps:List Str),gy X.prog X.w X.K X.mg X.base pY k f fd ps (rB X.K n den)/\Room k X.A/\X.mg x=some (.ref f)/\PySem.W.keepIn X.K (.ref f)=true/\Binds X.K fd ps []
noncomputable def KG (X:Cx) (x:Str) (d:KY):Prop:=∃u v,X.mg x=some u/\RelV v u/\∀H,Rep X.K H v d
section
variable {X:Cx} {N gl:List Str} {vs cs ls lo gs:List Nat} {W:XW} {a b c e:Expr} {es:List Expr} {pos p:Pos} {fa fb fc:F1} {fl:FL} {ga gb:FB} {g1 g2:FS}
theorem Cp.g (S:Cp X N gl vs cs ls lo gs) {j:Nat} {x:Str} (hj:gl[j]?=some x) (hg:gs.contains j=true):Gl X x/\(x==("__debug__":Str))=false/\x ≠ "__name__":=
 ⟨S.glb j x hj hg,S.ng x (mem_of_getElem? hj)⟩
noncomputable def El:R2:=fun x y H Q=>qt (fun i j=>.bl (decide (i<j))) x y H Q\/∃i j,x=.str i/\y=.str j/\Q (.bl (decide (i.cps.toList<j.cps.toList))) H
theorem EE:OpR X (compareOp .Lt) El:=op_lt.or se
noncomputable def Cr:KY->KY->Option KY
 | .str i,.str j=>some (.bool (!decide (i.cps.toList<j.cps.toList)))
 | _,_=>none
noncomputable abbrev pJ:KY->KY->Option KY:=fun a b=>(KB a b).or (Cr a b)
noncomputable def Bg:R2:=fun x y H Q=>qt (fun i j=>.bl (decide (j<=i))) x y H Q\/∃i j,x=.str i/\y=.str j/\Q (.bl (!decide (i.cps.toList<j.cps.toList))) H
theorem sf:OpR X (compareOp .GtE) (fun x y H Q=>∃i j,x=.str i/\y=.str j/\Q (.bl (!decide (i.cps.toList<j.cps.toList))) H):=by
 intro pins s σ H x y v u Q I rx ry h;obtain ⟨i,j,rfl,rfl,q⟩:=h;obtain ⟨t,rfl⟩:=rx;obtain ⟨t',rfl⟩:=ry;exact PySem.P.ge_str (Do I q rfl)
theorem EF:OpR X (compareOp .GtE) Bg:=op_ge.or sf
theorem yt {K:Fg}:GOp K (fun x y H Q=>∃i j,x=.str i/\y=.str j/\Q (.bl (!decide (i.cps.toList<j.cps.toList))) H) Cr:=by
 intro x y H Q a b d ra rb e k
 cases ra<;>cases rb<;>simp only [Cr] at e<;>try cases e
 rename_i i j;exact ⟨i,j,rfl,rfl,k _ (.bl _)⟩
theorem Cg {K:Fg}:GOp K Bg pJ:=(C0 fun _ _=>.bl _).or yt
structure Ck (X:Cx) (op:CmpOp) (r:R2) (g:KY->KY->Option KY):Prop where
 o:OpR X (compareOp op) r
 g:GOp X.K r g
theorem rV (R:Rm X):Ck X .Lt El kT:=⟨EE,Cf⟩
theorem Jp (R:Rm X):Ck X .LtE (qt fun i j=>.bl (decide (i<=j))) GU:=⟨EB,C0 fun _ _=>.bl _⟩
theorem rX (R:Rm X):Ck X .Gt (qt fun i j=>.bl (decide (j<i))) pI:=⟨EC,C0 fun _ _=>.bl _⟩
theorem Jq (R:Rm X):Ck X .GtE Bg pJ:=⟨EF,Cg⟩
theorem bE (R:Rm X):Ck X .Eq (rU X.K false) bj:=⟨BP R,Ci⟩
theorem lL (R:Rm X):Ck X .NotEq (rU X.K true) jT:=⟨BK R,Ce⟩
theorem fA (R:Rm X):Ck X .In (uI X.K false) (bQ false):=⟨BO R,vn⟩
theorem wI (R:Rm X):Ck X .NotIn (uI X.K true) (bQ true):=⟨sd R,vn⟩
theorem ct {op:CmpOp} {r:R2} {g:KY->KY->Option KY} (k:Ck X op r g) (ha:PE X a (tE X.K W fa)) (hb:PE X b (tE X.K W fb)) (hm:behindInMarks op b=false):PT X (.Compare a [op] [b] pos) (tT X.K W (aL ai (az g fa fb))):=CB k.o k.g ha hb hm
noncomputable abbrev tF (X:Cx) (N gl:List Str) (vs cs ls lo gs:List Nat) (R:Cx->Prop):Prop:=∀Y:Cx,Cp Y N gl vs cs ls lo gs->Fx X Y->R Y
theorem co {scope:Scope} {x:Str} {px:Pos} {iter elt:Expr} {ifs:List Expr} {fi:FI} {fe:F1} {fc:FB} {vs' cs' lo' gs':List Nat} (S:Cp X N gl vs cs ls lo gs) (s:Sh) (i:Nat) (hx:N[i]?=some x) (h1:ll N i cs scope=true) (h2:tx N gl vs' cs' [i] lo' gs' scope=true)
  (hi':PI X (.Name x px) iter (tI X.K W fi)) (hc:tF X N gl vs' cs' [i] lo' gs' fun Y=>PF Y ifs (tT Y.K W0 fc)) (he:tF X N gl vs' cs' [i] lo' gs' fun Y=>PE Y elt (tE Y.K W0 fe)) (hs:∀x,foldedSetIterable iter X.env x=pure x) :
  PE X (.ListComp elt [⟨.Name x px,iter,ifs,0⟩] scope pos) (tE X.K W (aA s i fi fc fe)):=by
 have B:=fun cells C s₀ H₀ ex=>S.blk h2 cells C s₀ H₀ ex
 have L:=fun cells C s₀ H₀ ex=>(B cells C s₀ H₀ ex).loc i x hx (by simp)
 exact yI (X:=X) s i (oy S h1) (by rw [S.hN];exact S.nd) hi' (fun cells C s₀ H₀ ex=>hc _ (B cells C s₀ H₀ ex) ⟨rfl,rfl,rfl,rfl,rfl,rfl⟩) (fun cells C s₀ H₀ ex=>he _ (B cells C s₀ H₀ ex) ⟨rfl,rfl,rfl,rfl,rfl,rfl⟩)
  S.calm (by rw [S.hN];exact hx) (fun cells C s₀ H₀ ex=>(L cells C s₀ H₀ ex).1) (fun cells C s₀ H₀ ex=>(L cells C s₀ H₀ ex).2) hs
theorem oQ {elt:Expr} {gens:List Comprehension} {scope:Scope} {y:Str} {pos':Pos} {line:Nat} (hk:X.env.scope.kind=.function) (hy:X.env.scope.names.lookup y=some .local) (hl:(pos'.line==pos.line)=true)
  (hn:(scope.names.any fun (n,k)=>n==y&&(k==NameKind.local||k==NameKind.cell))=false):swapsWith (.ListComp elt gens scope pos) (some (.Name y pos')) line X.env=pure true:=by
 have e1:(X.env.blockKind==ScopeKind.function)=true:=by unfold Env.blockKind;rw [hk];rfl
 have e2:(X.env.kindOf y==some NameKind.local)=true:=by unfold Env.kindOf;rw [hy];rfl
 show (pure (X.env.blockKind==.function&&X.env.kindOf y==some .local&&pos'.line==pos.line&&!(scope.names.any fun (n,k)=>n==y&&(k==NameKind.local||k==NameKind.cell))):Sem Bool)=pure true
 rw [e1,e2,hl,hn];rfl
theorem cs_append (S:Cp X N gl vs cs ls lo gs) (i:Nat) {x:Str} {apos cpos:Pos} (hi:N[i]?=some x) (hv:vs.contains i=true) (ha:PE X a (tE X.K W fa)) (hs:starEach [a] X.env=[(false,eval a X.env)])
  (hbase:attributeBase (.Name x p) "append" X.env (eval (.Name x p) X.env)=eval (.Name x p) X.env) (hline:(apos.endLine==cpos.line)=true)
  (hfew:((backTo cpos (starEach [a] X.env)).all (fun x=>!x.1)&&(backToKw cpos (keywordEach [] X.env)).all (fun x=>x.1.isSome)
   && decide ([a].length+([]:List Keyword).length+(if ([]:List Keyword).isEmpty then 0 else 1)<30))=true)
  (hsw:swapsWith (.Call (.Attribute (.Name x p) "append" apos) [a] [] cpos) none pos.line X.env=pure false) :
  PS X (.Expr (.Call (.Attribute (.Name x p) "append" apos) [a] [] cpos) pos) (tS X.K W (aG i fa)):=
 sH i ha (by rw [S.hN];exact hi) (S.vis i x hi hv) (S.nm x (mem_of_getElem? hi)).1 (S.nm x (mem_of_getElem? hi)).2 hs hbase hline hfew hsw
end
noncomputable def eU (g:KY->Option KY) (fa:F1):F1:=ba fa fun p Γ=>match g p.d with
 | some d=>.ok ⟨.leaf,d⟩ Γ
 | none=>.no
noncomputable def nN:KY->Option KY
 | .int i=>some (.int (-i))
 | _=>none
noncomputable def KD (fa fb:F1):F1:=ba fa fun p=>ba fb fun q=>fun Γ=>match p.s,p.d,q.d with
 | .lst .leaf,.list ds,.int k=>if dP k&&decide (ds.length*k.toNat<=sizeLine) then .ok ⟨.lst .leaf,.list (List.replicate k.toNat ds).flatten⟩ Γ else .no
 | _,_,_=>.no
noncomputable def cI:Option (Option PV)->Bool
 | some (some ⟨.lst .leaf,.list _⟩)=>true
 | _=>false
noncomputable def AA (i:Nat) (p q:PV) (Γ:Ev):dS:=match Γ[i]? with
 | some (some ⟨.lst .leaf,.list ds⟩)=>(match q.d with
  | .int k=>(match eT ds.length k with
   | some j=>if T.coer .leaf p then .nx (Γ.set i (some ⟨.lst .leaf,.list (ds.set j p.d)⟩)) else .no
   | none=>.no)
  | _=>.no)
 | _=>.no
noncomputable def gJ (i:Nat) (fv fk:F1):FS:=fun Γ=>if cI Γ[i]? then jS fv (fun p=>jS fk (AA i p)) Γ else .no
section
variable {K:Fg} {W:XW} {σ:St} {H:Hp} {Q:VK} {D:jP} {fa fb:F1} {fl:FL}
theorem D7 {r:V->Hp->VK->Prop} {g:KY->Option KY} (hg:∀x H Q a d,Rep K H x a->g a=some d->(∀v,Sc v d->Q v H)->r x H Q) (h:tE K W (eU g fa) σ H Q):JP r (tE K W fa) σ H Q:=by
 refine wa h fun He O Fs Γ1 p v H1 G Fs1 nd A h1=>?_
 cases e:g p.d with
 | none=>rw [e] at h1;exact h1.elim
 | some d=>
  rw [e] at h1;exact hg v H1 Q p.d d A.own.rep e fun u hu=>Wants.scal h1 hu A.same A.env.dropL (fun a ha=>ha) nd fun a ha=>A.new a (KH _ ha)
theorem HV:∀{Fs:List (List Addr)},(∀F∈Fs,F=[])->Fs.flatten=[]
 | [],_=>rfl
 | F::r,h=>by rw [flatten_cons,h F mem_cons_self,HV fun G hG=>h G (KO _ hG)];rfl
theorem Own.leaves {O:List Addr} {G:List Addr} {v:V} {ds:List KY} (h:Own K O H (.lst .leaf) G v (.list ds)):∃l vs,v=.ref l/\G=[l]/\H l=some (.lst vs)/\vs.length=ds.length/\∀(j:Nat) u d,vs[j]?=some u->ds[j]?=some d->Rep K (dD H O) u d:=by
 cases h with
 | @lst _ l vs _ Fs hsv hp hl hf nd q=>
  have hF:∀F∈Fs,F=[]:=fun F hF=>by
   obtain ⟨j,hj,e⟩:=getElem_of_mem hF;have o:=q j (vs[j]'(by omega)) (ds[j]'(by omega)) F (KM _) (KM _) (by rw [KM hj,e])
   cases o;rfl
  refine ⟨l,vs,rfl,by rw [HV hF],hp,hl,fun j u d h1 h2=>?_⟩
  have hj:=(KQ h2).1
  have o:=q j u d (Fs[j]'(by omega)) h1 h2 (KM _)
  generalize Fs[j]'(by omega)=F at o
  cases o with
  | leaf r=>exact r
theorem Own.mkLeaves {O:List Addr} {l:Addr} {vs:List V} {ds:List KY} (hp:H l=some (.lst vs)) (hl:vs.length=ds.length) (q:∀(j:Nat) u d,vs[j]?=some u->ds[j]?=some d->Rep K (dD H O) u d):Own K O H (.lst .leaf) [l] (.ref l) (.list ds):=by
 have hF:(List.replicate ds.length ([]:List Addr)).flatten=[]:=HV fun F hF=>(List.mem_replicate.mp hF).2
 have o:Own K O H (.lst .leaf) (l::(List.replicate ds.length ([]:List Addr)).flatten) (.ref l) (.list ds):=by
  refine .lst rfl hp hl (by simp) (by rw [hF];simp) fun j u d F h1 h2 h3=>?_
  have:F=[]:=(List.mem_replicate.mp (mem_of_getElem? h3)).2
  subst this;exact .leaf (q j u d h1 h2)
 rw [hF] at o;exact o
theorem Au {k:PV->PV->Ev->dS} {R:V->V->Hp->Prop} (h:tS K W (jS fa fun p=>jS fb (k p)) D σ H)
  (hk:∀He O Γ2 p q v u H1 H2 G1 G2 Fs2,O.Nodup->Same H H1->Same H1 H2->EnvOk K He (G2++(G1++O)) Fs2 H2 σ Γ2->(∀a∈G2++G1,He a=none) ->
   Own K (G2++(G1++O)++Fs2.flatten) H2 p.s G1 v p.d->Own K (G2++(G1++O)++Fs2.flatten) H2 q.s G2 u q.d->cS K W He O D (k p q Γ2)->R v u H2) :
  tE K W fa σ H fun v H1=>tE K W fb σ H1 fun u H2=>R v u H2:=by
 refine i8 h fun He O Fs Γ1 p v H1 G1 Fs1 _ fr A1 h1=>?_
 refine ⟨He,G1++O,Fs1,Γ1,A1.env,?_⟩
 unfold jS at h1;have nd:O.Nodup:=(KP A1.env.ndO).2.1
 cases e:fb Γ1 with
 | ok q Γ2=>
  rw [e] at h1;intro u H2 G2 Fs2 A2;refine hk He O Γ2 p q v u H1 H2 G1 G2 Fs2 nd A1.same A2.same A2.env (fun a ha=>?_) (A1.own.mono A2.same fun a ha=>?_) A2.own h1
  ·rcases KJ ha with z | z
   ·exact A2.freshG A1.env a z
   ·exact fr a z
  ·rcases KJ ha with z | z
   ·rcases KJ z with z | z
    ·rcases A2.new a (KI _ z) with y | y
     ·exact .inl (KH _ y)
     ·exact .inr y
    ·exact .inl (KI _ z)
   ·rcases A2.new a (KH _ z) with y | y
    ·exact .inl (KH _ y)
    ·exact .inr y
 | er c Γ2=>
  rw [e] at h1;intro H2 Fs2 hs E2;exact h1 σ H2 Fs2 E2.dropL
 | no=>
  rw [e] at h1;exact h1
theorem xa {Q':VK} (h:tE K W fa σ H Q) (hq:∀v H',Q v H'->Q' v H'):tE K W fa σ H Q':=by
 obtain ⟨He,O,Fs,Γ,E,h⟩:=h;refine ⟨He,O,Fs,Γ,E,?_⟩
 cases e:fa Γ with
 | ok p Γ'=>rw [e] at h;exact fun v H' G Fs' A=>hq v H' (h v H' G Fs' A)
 | er c Γ'=>rw [e] at h;exact h
 | no=>rw [e] at h;exact h
theorem EnvOk.chg {He:Hp} {O:List Addr} {Fs:List (List Addr)} {Γ:Ev} {i:Nat} {ds:List KY} (E:EnvOk K He O Fs H σ Γ) (h:Γ[i]?=some (some ⟨.lst .leaf,.list ds⟩)) :
  ∃l vs,σ[i]?=some (some (.ref l))/\H l=some (.lst vs)/\vs.length=ds.length/\(∀(j:Nat) u d,vs[j]?=some u->ds[j]?=some d->Rep K (dD H (O++Fs.flatten)) u d) /\
   ∀(vs':List V) (ds':List KY),vs'.length=ds'.length->(∀(j:Nat) u d,vs'[j]?=some u->ds'[j]?=some d->Rep K (dD H (O++Fs.flatten)) u d)->∃Fs',EnvOk K He O Fs' (cy H l (.lst vs')) σ (Γ.set i (some ⟨.lst .leaf,.list ds'⟩)):=by
 obtain ⟨hv,v,F,h1,E1,o1,sub⟩:=E.move h;have hi:i<Γ.length:=(KQ h).1
 obtain ⟨_,v0,F0,h10,h20,o0⟩:=E.slot i _ h;obtain ⟨l,vs,rfl,rfl,hp,hl,hr⟩:=o1.leaves;obtain ⟨l',vs',e0,e1,hp',hl',hr'⟩:=o0.leaves;rw [h1] at h10
 cases h10
 cases e0;rw [hp] at hp'
 cases hp'
 refine ⟨l,vs,h1,hp,hl,hr',fun ws ds' hw q=>?_⟩
 have hlF:l∈Fs.flatten:=sub l (KI _ (List.mem_singleton.mpr rfl))
 have hHe:He l=none:=E.fresh l hlF
 have E4:=E1.mutO (o:=.lst ws) (KI _ (List.mem_singleton.mpr rfl)) hp hHe
 have ownL:Own K ([l]++O++(Fs.set i []).flatten) (cy H l (.lst ws)) (.lst .leaf) [l] (.ref l) (.list ds'):=by
  refine Own.mkLeaves jQ hw fun j u d a1 a2=>?_
  rw [Ht (KI _ (KI _ (List.mem_singleton.mpr rfl)))];refine (q j u d a1 a2).mono (we (Same.refl _) fun a ha=>.inl ?_)
  rcases KJ ha with z | z
  ·rcases KJ z with z | z
   ·rw [List.mem_singleton.mp z];exact KH _ hlF
   ·exact KI _ z
  ·exact KH _ (sub a (KH _ z))
 have fin:=EnvOk.put (i:=i) (p:=⟨.lst .leaf,.list ds'⟩) (v:=.ref l) E4 ownL rfl (fun a ha=>by rw [List.mem_singleton.mp ha];exact hHe) (by rw [length_set];exact hi)
 rw [set_set,set_set,Da h1] at fin;exact ⟨_,fin⟩
theorem Im {o:Option (Option PV)} (h:cI o=true):∃ds,o=some (some ⟨.lst .leaf,.list ds⟩):=by
 unfold cI at h;split at h
 ·exact ⟨_,rfl⟩
 ·cases h
theorem xt {i:Nat} (h:tS K W (gJ i fa fb) D σ H):ue (tE K W fa) (L2.gSub (fx i) (tE K W fb) uH) D σ H:=by
 obtain ⟨He,O,Fs,Γ,E,h⟩:=h;unfold gJ at h
 cases ho:cI Γ[i]? with
 | false=>rw [ho] at h;exact h.elim
 | true=>
  rw [ho] at h;obtain ⟨ds,e0⟩:=Im ho;obtain ⟨l,vs,h1,h2,h3,_,_⟩:=E.chg e0;refine xa (Au (D:=D) (R:=fun v u H2=>uH (.ref l) u v H2 fun H3=>D.nx σ H3) ⟨He,O,Fs,Γ,E,h⟩ fun He O Γ2 p q v u H1 H2 G1 G2 Fs2 nd s1 s2 E2 fr o1 o2 w=>?_) fun v H' q=>⟨.ref l,h1,q⟩
  unfold AA at w;split at w
  ·rename_i ds1 e1
   split at w
   ·rename_i k ek
    split at w
    ·rename_i j ej
     cases hc:T.coer .leaf p with
     | false=>rw [hc] at w;exact w.elim
     | true=>
      rw [hc] at w;have E3:EnvOk K He O Fs2 H2 σ Γ2:=E2.drop (fun a ha=>KH _ (KH _ ha)) nd
      obtain ⟨l1,vs1,q1,q2,q3,q4,q5⟩:=E3.chg e1;rw [h1] at q1
      cases q1;have hu:=o2.rep
      rw [ek] at hu
      cases hu;have ov:Own K (O++Fs2.flatten) H2 .leaf [] v p.d:=by
       refine o1.coer (s:=.leaf) hc (fun a ha=>?_) fun a ha z=>?_
       ·rcases KJ ha with z | z
        ·exact KI _ (KH _ (KH _ z))
        ·exact KH _ z
       ·exfalso
        have ndE:=E2.nd
        rw [append_assoc] at ndE;have n2:=(KP ndE).2.1
        rw [append_assoc] at n2;exact (KP n2).2.2 a ha a z rfl
      cases ov with
      | leaf rv=>
       have ixl:eT vs1.length k=some j:=by rw [q3];exact ej
       obtain ⟨Fs',E4⟩:=q5 (vs1.set j v) (ds1.set j p.d) (by rw [length_set,length_set,q3]) fun m x d a1 a2=>by
        by_cases hm:m=j
        ·subst hm
         rw [List.getElem?_set] at a1 a2
         rw [if_pos rfl] at a1 a2
         split at a1
         ·split at a2
          ·cases a1;cases a2;exact rv
          ·cases a2
         ·cases a1
        ·rw [getElem?_set_ne (Ne.symm hm)] at a1 a2
         exact q4 m x d a1 a2
       exact ⟨l,vs1,k,j,rfl,rfl,q2,ixl,w σ _ Fs' E4⟩
    ·exact w.elim
   ·exact w.elim
  ·exact w.elim
end
section
variable {X:Cx}
theorem Ao:Ko X (unaryOp .USub) (fun x H Q=>∃i,x=.int i/\Q (.int (-i)) H):=by
 intro pins s σ H x v Q I rx h;obtain ⟨i,rfl,q⟩:=h;obtain ⟨t,rfl⟩:=rx;exact neg_int ⟨.int (-i),H,I.tok _,⟨_,rfl⟩,q⟩
end
section
variable {X:Cx}
variable {N gl:List Str} {vs cs ls lo gs:List Nat} {W:XW} {a b c e:Expr} {es:List Expr} {pos p:Pos} {fa fb fc:F1} {fl:FL} {g:FS}
theorem cs_setI (S:Cp X N gl vs cs ls lo gs) (i:Nat) {x:Str} {px pos':Pos} (hi:N[i]?=some x) (hv:vs.contains i=true) (ha:PE X a (tE X.K W fa)) (hb:PE X b (tE X.K W fb))
  (hs:swapsWithSole [.Subscript (.Name x px) b pos'] a pos.line X.env=pure false) (hw:swappedStores [.Subscript (.Name x px) b pos'] a X.env=pure none)
  (h1:(assignEach [.Subscript (.Name x px) b pos'] X.env).map (·.2)=[assign (.Subscript (.Name x px) b pos') X.env])
  (has:∀v,assign (.Subscript (.Name x px) b pos') X.env v=(do
   let ov <-holding [v] (eval (.Name x px) X.env)
   let iv <-holding [v,ov] (eval b X.env)
   standAt pos'
   holding [v,ov,iv] (setItem ov iv v)
   release [v,ov,iv] [])):PS X (.Assign [.Subscript (.Name x px) b pos'] a pos) (tS X.K W (gJ i fa fb)):=by
 have m:=S.nm x (mem_of_getElem? hi)
 exact fP (Bt ha (Bw (Aa (by rw [S.hN];exact hi) (S.vis i x hi hv) m.1 m.2) hb ug has) hs hw h1) fun _ _ _=>xt
end
noncomputable def fJ:Expr->Bool
 | .Starred ..=>true
 | _=>false
theorem gA {e:Expr} {es:List Expr} {env:Env} (h:fJ e=false):starEach (e::es) env=(false,eval e env)::starEach es env:=by
 cases e<;>first | rfl | cases h
theorem gB {a:Expr} {env:Env} (h:fJ a=false):starEach [a] env=[(false,eval a env)]:=gA h
theorem mP {a b:Expr} {env:Env} (h:fJ a=false) (h2:fJ b=false):starEach [a,b] env=[(false,eval a env),(false,eval b env)]:=by rw [gA h,gB h2]
noncomputable def DefOk (P:Program) (w:World) (K:Fg) (mg:Str->Option Value) (base:Heap) (j:Nat) (x:Str) (n:Nat) (den:List KY->bS):Prop:=
 ∃(f:Addr) (fd:FuncData) (ps:List Str),gy P w K mg base pY j f fd ps (rB K n den)/\mg x=some (.ref f)/\PySem.W.keepIn K (.ref f)=true/\Binds K fd ps []
noncomputable def fh (K:Fg) (mg:Str->Option Value) (x:Str) (d:KY):Prop:=∃u v,mg x=some u/\RelV v u/\∀H,Rep K H v d
theorem DefOk.cal {X:Cx} {j k n:Nat} {x:Str} {den:List KY->bS} (h:DefOk X.prog X.w X.K X.mg X.base j x n den) (hr:Room k X.A) (hj:decide (j<=k)=true):Fz X x n den:=by
 obtain ⟨f,fd,ps,F,a,b,c⟩:=h;exact ⟨j,f,fd,ps,F,hr.mono (of_decide_eq_true hj),a,b,c⟩
noncomputable def Gv:KY->V
 | .none=>.non
 | .bool b=>.bl b
 | .int i=>.int i
 | .str x=>.str x
 | _=>.non
noncomputable def sV:List Value->List KY->Bool
 | .int i _::r,.int j::ds=>decide (i=j)&&sV r ds
 | .str x _::r,.str y::ds=>decide (x=y)&&sV r ds
 | [],[]=>true
 | _,_=>false
theorem FR:∀{us:List Value} {ds:List KY},sV us ds=true->Vals (ds.map Gv) us/\∀d∈ds,Sc (Gv d) d
 | [],[],_=>⟨.nil,fun d hd=>(nomatch hd)⟩
 | .int i t::r,.int j::ds,h=>by
  simp only [sV,Bool.and_eq_true,decide_eq_true_eq] at h
  obtain ⟨rfl,h⟩:=h;obtain ⟨a,b⟩:=FR h;refine ⟨.cons ⟨t,rfl⟩ a,fun d hd=>?_⟩
  rcases KL hd with z | z
  ·rw [z];exact .int i
  ·exact b d z
 | .str i t::r,.str j::ds,h=>by
  simp only [sV,Bool.and_eq_true,decide_eq_true_eq] at h
  obtain ⟨rfl,h⟩:=h;obtain ⟨a,b⟩:=FR h;refine ⟨.cons ⟨t,rfl⟩ a,fun d hd=>?_⟩
  rcases KL hd with z | z
  ·rw [z];exact .str i
  ·exact b d z
noncomputable def sW (its:Array Value) (ds:List KY):Bool:=decide (its.size<=sizeLine)&&sV its.toList ds
theorem yM {K:Fg} {mg:Str->Option Value} {x:Str} {a:Addr} {dd:Option Addr} {its:Array Value} {n:Nat} {sl:Array (Option Value)} {ds:List KY} (hm:mg x=some (.ref a)) (l:K.lookup a=some ⟨.type "tuple",dd,.seq its n,sl⟩) (h:sW its ds=true):fh K mg x (.tuple ds):=by
 unfold sW at h;simp only [Bool.and_eq_true,decide_eq_true_eq] at h
 obtain ⟨v,s⟩:=FR h.2;refine ⟨.ref a,.ref a,hm,rfl,fun H=>.tup (vs:=ds.map Gv) (.inr ⟨_,its,n,l,rfl,rfl,h.1,v⟩) (by simp) fun i v d h1 h2=>?_⟩
 rw [getElem?_map,h2] at h1
 cases h1;exact (s d (mem_of_getElem? h2)).rep
theorem yO {K:Fg} {mg:Str->Option Value} {x:Str} {i:Int} {t:Tok} (hm:mg x=some (.int i t)):fh K mg x (.int i):=⟨.int i t,.int i,hm,⟨t,rfl⟩,fun H=>.int i⟩
theorem BW {K:Fg} {m:List KY->bS} {H:Hp} {a:Addr} {ns:List Int} {E:XK} (h:m [.list (ns.map .int)]=.ok ⟨.leaf,.bool true⟩) (hS:SqL K H a (ns.map V.int)):rB K 1 m [.ref a] H (fun v _=>v=.bl true) E:=by
 refine ⟨rfl,[],[.list (ns.map .int)],nodup_nil,(fun _ z=>nomatch z),⟨rfl,fun i v d h1 h2=>?_⟩,?_⟩
 ·rw [Hs]
  match i,h1,h2 with
  | 0,h1,h2=>
   cases h1
   cases h2;refine .lst hS (by simp) fun i v d h1 h2=>?_
   rw [getElem?_map] at h1 h2
   cases e:ns[i]? with
   | none=>rw [e] at h1;cases h1
   | some z=>
    rw [e] at h1 h2
    cases h1
    cases h2;exact .int z
  | i+1,h1,h2=>simp at h1
 ·rw [h]
  intro v H' G r
  have o:=r.own.rep
  cases o;rfl
end T
namespace TQ
open PySem PySem.Spec L2 T
open PyProof.Rows hiding St
structure Q (p:Prop):Prop where
 p:p
section
variable {X:Cx} {N gl:List Str} {vs cs ls lo gs:List Nat} {W:XW} {a b c e:Expr} {es:List Expr} {pos p:Pos} {fa fb fc:F1} {fl:FL} {ga gb:FB} {g1 g2 g:FS}
theorem ID (S:Cp X N gl vs cs ls lo gs) (i:Nat) {x:Str} (hN:N[i]?=some x) (hv:vs.contains i=true):Q (PE X (.Name x pos) (tE X.K W (ae i))):=⟨by
 have m:=S.nm x (mem_of_getElem? hN)
 exact CG (Aa (by rw [S.hN];exact hN) (S.vis i x hN hv) m.1 m.2)⟩
theorem mE (S:Cp X N gl vs cs ls lo gs) (i:Nat) {x:Str} (hN:N[i]?=some x) (hv:vs.contains i=true):Q (PE X (.Name x pos) (tE X.K W (dE i))):=⟨by
 have m:=S.nm x (mem_of_getElem? hN)
 exact yG (Aa (by rw [S.hN];exact hN) (S.vis i x hN hv) m.1 m.2)⟩
theorem cz (S:Cp X N gl vs cs ls lo gs) (j:Nat) {x:Str} {d:KY} (hj:gl[j]?=some x) (hg:gs.contains j=true) (h:KG X x d):Q (PE X (.Name x pos) (tE X.K W (eK d))):=⟨by
 obtain ⟨u,v,h1,h2,h3⟩:=h;have q:=S.g hj hg
 exact yH q.1 h1 h2 h3 q.2.1⟩
theorem aU {j:Int} {k pos}:Q (PE X (.Constant (.int j) k pos) (tE X.K W (eK (.int j)))):=⟨bp BD fun _ _ _=>uy fun _=>.int j⟩
theorem rf {j:Bool} {k pos}:Q (PE X (.Constant (.bool j) k pos) (tE X.K W (eK (.bool j)))):=⟨bp EA fun _ _ _=>uy fun _=>.bl j⟩
theorem oJ {k pos}:Q (PE X (.Constant .none k pos) (tE X.K W (eK .none))):=⟨bp BB fun _ _ _=>uy fun _=>.non⟩
theorem cL {j:Str} {k pos}:Q (PE X (.Constant (.str j) k pos) (tE X.K W (eK (.str j)))):=⟨bp FV fun _ _ _=>uy fun _=>.str j⟩
theorem mx (ha:Q (PE X a (tE X.K W fa))) (hb:Q (PE X b (tE X.K W fb))):Q (PE X (.BinOp a .Add b pos) (tE X.K W (az bo fa fb))):=⟨have ha:=ha.p;have hb:=hb.p;bp (iy BQ ha hb) fun _ _ _=>iu (C0 fun _ _=>.int _)⟩
theorem mC (ha:Q (PE X a (tE X.K W fa))) (hb:Q (PE X b (tE X.K W fb))):Q (PE X (.BinOp a .Sub b pos) (tE X.K W (az gSub fa fb))):=⟨have ha:=ha.p;have hb:=hb.p;bp (iy BI ha hb) fun _ _ _=>iu (C0 fun _ _=>.int _)⟩
theorem DC (ha:Q (PE X a (tE X.K W fa))) (hb:Q (PE X b (tE X.K W fb))):Q (PE X (.BinOp a .Mult b pos) (tE X.K W (az nO fa fb))):=⟨have ha:=ha.p;have hb:=hb.p;bp (iy BL ha hb) fun _ _ _=>iu (qK (fun i j h=>by
 simp only [tj,Bool.or_eq_true,Bool.and_eq_true,decide_eq_true_eq] at h
 exact h) fun _ _=>.int _)⟩
theorem mD (ha:Q (PE X a (tE X.K W fa))) (hb:Q (PE X b (tE X.K W fb))):Q (PE X (.BinOp a .FloorDiv b pos) (tE X.K W (az vv fa fb))):=⟨have ha:=ha.p;have hb:=hb.p;bp (iy xY ha hb) fun _ _ _=>iu (qK (fun i j h=>by
 simp only [yT,Bool.and_eq_true,decide_eq_true_eq] at h
 exact h) fun _ _=>.int _)⟩
theorem wj (ha:Q (PE X a (tE X.K W fa))) (hb:Q (PE X b (tE X.K W fb))):Q (PE X (.BinOp a .Mod b pos) (tE X.K W (az dH fa fb))):=⟨have ha:=ha.p;have hb:=hb.p;bp (iy BM ha hb) fun _ _ _=>iu (qK (fun i j h=>by
 simp only [yS,decide_eq_true_eq] at h
 exact h) fun _ _=>.int _)⟩
theorem tO (ha:Q (PE X a (tE X.K W fa))) (hb:Q (PE X b (tE X.K W fb))):Q (PE X (.BinOp a .Pow b pos) (tE X.K W (az yw fa fb))):=⟨have ha:=ha.p;have hb:=hb.p;bp (iy BJ ha hb) fun _ _ _=>iu (qK (fun i j h=>by
 simp only [yR,Bool.and_eq_true,decide_eq_true_eq] at h
 exact ⟨h.1.1,h.1.2,h.2⟩) fun _ _=>.int _)⟩
theorem mF (ha:Q (PE X a (tE X.K W fa))):Q (PE X (.UnaryOp .USub a pos) (tE X.K W (eU nN fa))):=⟨have ha:=ha.p;bp (Ex Ao ha) fun _ _ _=>D7 fun x H Q a d r e k=>by
 cases r<;>simp only [nN] at e<;>cases e
 exact ⟨_,rfl,k _ (.int _)⟩⟩
theorem Ij (ha:Q (PE X a (tE X.K W fa))):Q (PE X (.UnaryOp .Not a pos) (tE X.K W (lY fa))):=⟨have ha:=ha.p;bp (BA ha) fun _ _ _=>AO⟩
theorem IG {op:CmpOp} {r:R2} {g:KY->KY->Option KY} (k:Ck X op r g) (ha:Q (PE X a (tE X.K W fa))) (hb:Q (PE X b (tE X.K W fb))) (hm:behindInMarks op b=false):Q (PE X (.Compare a [op] [b] pos) (tE X.K W (az g fa fb))):=⟨have ha:=ha.p;have hb:=hb.p;CH k.o k.g ha hb hm⟩
theorem DK {op op':CmpOp} {r r':R2} {g g':KY->KY->Option KY} (k:Ck X op r g) (k':Ck X op' r' g') (ha:Q (PE X a (tE X.K W fa))) (hb:Q (PE X b (tE X.K W fb))) (hc:Q (PE X c (tE X.K W fc))) (hm:lastMarks [op,op'] [b,c]=false):Q (PE X (.Compare a [op,op'] [b,c] pos) (tE X.K W (gu g g' fa fb fc))):=⟨have ha:=ha.p;have hb:=hb.p;have hc:=hc.p;vI k.o k.g k'.o k'.g ha hb hc hm⟩
theorem tK {op} (h:Q (PE X a (tE X.K W fa))):Q (PE X (.BoolOp op [a] pos) (tE X.K W fa)):=⟨L2.pe_one h.p⟩
theorem tJ (ha:Q (PE X a (tE X.K W fa))) (hb:Q (PE X (.BoolOp .And (b::es) pos) (tE X.K W fb))):Q (PE X (.BoolOp .And (a::b::es) pos) (tE X.K W (fU fa fb))):=⟨have ha:=ha.p;have hb:=hb.p;bp (BF ha hb) fun _ _ _=>A7⟩
theorem HC (ha:Q (PE X a (tE X.K W fa))) (hb:Q (PE X (.BoolOp .Or (b::es) pos) (tE X.K W fb))):Q (PE X (.BoolOp .Or (a::b::es) pos) (tE X.K W (vA fa fb))):=⟨have ha:=ha.p;have hb:=hb.p;bp (Ey ha hb) fun _ _ _=>D8⟩
theorem wJ (hc:Q (PT X c (tT X.K W ga))) (ha:Q (PE X a (tE X.K W fa))) (hb:Q (PE X b (tE X.K W fb))):Q (PE X (.IfExp c a b pos) (tE X.K W (kn ga fa fb))):=⟨have hc:=hc.p;have ha:=ha.p;have hb:=hb.p;bp (uP hc ha hb) fun _ _ _=>D9⟩
theorem tP (ha:Q (PE X a (tE X.K W fa))) (hb:Q (PE X b (tE X.K W fb))) (hs:g6 b):Q (PE X (.Subscript a b pos) (tE X.K W (ao fa fb))):=⟨have ha:=ha.p;have hb:=hb.p;bp (zA vc ha hb hs) fun _ _ _=>AU⟩
theorem rg (s:Sh) (h:Q (PA X es (tA X.K W fl))):Q (PE X (.List es pos) (tE X.K W (cc s fl))):=⟨have h:=h.p;bp (BC h) fun _ _ _=>xw⟩
theorem fS {x1} (h:Q (PA X es (tA X.K W fl))):Q (PE X (.Tuple es x1 pos) (tE X.K W (bq fl))):=⟨have h:=h.p;bp (Bz h) fun _ _ _=>AJ⟩
theorem wg :Q (PA X [] (tA X.K W af)):=⟨T.da_nil ⟩
theorem kC (ha:Q (PE X e (tE X.K W fa))) (hr:Q (PA X es (tA X.K W fl))) (hs:starEach (e::es) X.env=(false,eval e X.env)::starEach es X.env):Q (PA X (e::es) (tA X.K W (ab fa fl))):=⟨T.da_cons ha.p hr.p hs⟩
theorem IF {scope:Scope} {x:Str} {px:Pos} {iter elt:Expr} {ifs:List Expr} {fi:FI} {fe:F1} {fc:FB} {vs' cs' lo' gs':List Nat} (S:Cp X N gl vs cs ls lo gs) (s:Sh) (i:Nat) (hx:N[i]?=some x) (h1:ll N i cs scope=true) (h2:tx N gl vs' cs' [i] lo' gs' scope=true) (hi':Q (PI X (.Name x px) iter (tI X.K W fi))) (hc:tF X N gl vs' cs' [i] lo' gs' fun Y=>Q (PF Y ifs (tT Y.K W0 fc))) (he:tF X N gl vs' cs' [i] lo' gs' fun Y=>Q (PE Y elt (tE Y.K W0 fe))) (hs:∀x,foldedSetIterable iter X.env x=pure x):Q (PE X (.ListComp elt [⟨.Name x px,iter,ifs,0⟩] scope pos) (tE X.K W (aA s i fi fc fe))):=⟨T.co S s i hx h1 h2 hi'.p (fun Y S F=>(hc Y S F).p) (fun Y S F=>(he Y S F).p) hs⟩
theorem wm {scope:Scope} {x y:Str} {px pos' spos:Pos} {iter elt:Expr} {ifs:List Expr} {fi:FI} {fe:F1} {fc:FB} {vs' cs' lo' gs':List Nat} (S:Cp X N gl vs cs ls lo gs) (own:Bool) (j:Nat) (s:Sh) (i:Nat) (hy:N[j]?=some y) (hyl:lo.contains j=true) (hx:N[i]?=some x) (hsl:(pos'.line==pos.line)=true) (hsn:(scope.names.any fun (n,k)=>n==y&&(k==NameKind.local||k==NameKind.cell))=false) (h1:ll N i cs scope=true) (h2:tx N gl vs' cs' [i] lo' gs' scope=true) (hi':Q (PI X (.Name x px) iter (tI X.K W fi))) (hc:tF X N gl vs' cs' [i] lo' gs' fun Y=>Q (PF Y ifs (tT Y.K W0 fc))) (he:tF X N gl vs' cs' [i] lo' gs' fun Y=>Q (PE Y elt (tE Y.K W0 fe))) (hs:∀x,foldedSetIterable iter X.env x=pure x):Q (PS X (.Assign [.Name y pos'] (.ListComp elt [⟨.Name x px,iter,ifs,0⟩] scope pos) spos) (tS X.K W (aB own j (aA s i fi fc fe)))):=⟨by
 have hi':=hi'.p
 have hc:=fun Y S F=>(hc Y S F).p
 have he:=fun Y S F=>(he Y S F).p
 have B:=fun cells C s₀ H₀ ex=>S.blk h2 cells C s₀ H₀ ex
 have L:=fun cells C s₀ H₀ ex=>(B cells C s₀ H₀ ex).loc i x hx (by simp)
 exact pK (X:=X) own j s i (oy S h1) (by rw [S.hN];exact S.nd) hi' (fun cells C s₀ H₀ ex=>hc _ (B cells C s₀ H₀ ex) ⟨rfl,rfl,rfl,rfl,rfl,rfl⟩) (fun cells C s₀ H₀ ex=>he _ (B cells C s₀ H₀ ex) ⟨rfl,rfl,rfl,rfl,rfl,rfl⟩)
  (oQ S.kind (S.loo j y hy hyl) hsl hsn) (by rw [S.hN];exact hy) (S.loo j y hy hyl) S.calm (by rw [S.hN];exact hx) (fun cells C s₀ H₀ ex=>(L cells C s₀ H₀ ex).1) (fun cells C s₀ H₀ ex=>(L cells C s₀ H₀ ex).2) hs⟩
theorem tW (S:Cp X N gl vs cs ls lo gs) (j:Nat) (hj:gl[j]?=some ("len":Str)) (hg:gs.contains j=true) (hm:X.mg "len"=none) (ha:Q (PA X (e::es) (tA X.K W fl))) (he:starEach (e::es) X.env=(false,eval e X.env)::starEach es X.env) (hpl:(backTo pos (starEach es X.env)).any (·.1)=false):Q (PE X (.Call (.Name "len" p) (e::es) [] pos) (tE X.K W (bJ bg fl))):=⟨have ha:=ha.p;qP (call_len_seq.or ml) Cn Fl hm ha (S.g hj hg).1 (S.g hj hg).2.2 (S.g hj hg).2.1 he hpl⟩
theorem tH (S:Cp X N gl vs cs ls lo gs) (j:Nat) (hj:gl[j]?=some ("all":Str)) (hg:gs.contains j=true) (hm:X.mg "all"=none) (ha:Q (PA X (e::es) (tA X.K W fl))) (he:starEach (e::es) X.env=(false,eval e X.env)::starEach es X.env) (hpl:(backTo pos (starEach es X.env)).any (·.1)=false):Q (PE X (.Call (.Name "all" p) (e::es) [] pos) (tE X.K W (bJ (cW false) fl))):=⟨have ha:=ha.p;qP (tf S.calm) vp Fo hm ha (S.g hj hg).1 (S.g hj hg).2.2 (S.g hj hg).2.1 he hpl⟩
theorem mG (S:Cp X N gl vs cs ls lo gs) (j:Nat) (hj:gl[j]?=some ("any":Str)) (hg:gs.contains j=true) (hm:X.mg "any"=none) (ha:Q (PA X (e::es) (tA X.K W fl))) (he:starEach (e::es) X.env=(false,eval e X.env)::starEach es X.env) (hpl:(backTo pos (starEach es X.env)).any (·.1)=false):Q (PE X (.Call (.Name "any" p) (e::es) [] pos) (tE X.K W (bJ (cW true) fl))):=⟨have ha:=ha.p;qP (sZ S.calm) vp Fn hm ha (S.g hj hg).1 (S.g hj hg).2.2 (S.g hj hg).2.1 he hpl⟩
theorem tX (S:Cp X N gl vs cs ls lo gs) (j:Nat) (hj:gl[j]?=some ("int":Str)) (hg:gs.contains j=true) (hm:X.mg "int"=none) (ha:Q (PA X (e::es) (tA X.K W fl))) (he:starEach (e::es) X.env=(false,eval e X.env)::starEach es X.env) (hpl:(backTo pos (starEach es X.env)).any (·.1)=false):Q (PE X (.Call (.Name "int" p) (e::es) [] pos) (tE X.K W (bJ vt fl))):=⟨have ha:=ha.p;Fe sY Co Fm hm ha (S.g hj hg).1 (S.g hj hg).2.2 (S.g hj hg).2.1 he hpl⟩
theorem IH {x:Str} {n:Nat} {den:List KY->bS} (S:Cp X N gl vs cs ls lo gs) (j:Nat) (hj:gl[j]?=some x) (hg:gs.contains j=true) (C:Fz X x n den) (ha:Q (PA X (e::es) (tA X.K W fl))) (he:starEach (e::es) X.env=(false,eval e X.env)::starEach es X.env) (hpl:(backTo pos (starEach es X.env)).any (·.1)=false):Q (PE X (.Call (.Name x p) (e::es) [] pos) (tE X.K W (ag n den fl))):=⟨by
 have ha:=ha.p
 obtain ⟨k,f,fd,ps,F,hr,hm,hk,hb⟩:=C;exact yJ F hr hm hk hb ha (S.g hj hg).1 (S.g hj hg).2.1 he hpl⟩
theorem gD {tg:Expr} (S:Cp X N gl vs cs ls lo gs) (j:Nat) (hj:gl[j]?=some ("range":Str)) (hg:gs.contains j=true) (hm:X.mg "range"=none) (ha:Q (PA X [a] (tA X.K W fl))) (hs:starEach [a] X.env=[(false,eval a X.env)]):Q (PI X tg (.Call (.Name "range" p) [a] [] pos) (tI X.K W (i4 fl))):=⟨have ha:=ha.p;Fd hm ha (S.g hj hg).1 hs⟩
theorem zo {tg:Expr} (S:Cp X N gl vs cs ls lo gs) (j:Nat) (hj:gl[j]?=some ("range":Str)) (hg:gs.contains j=true) (hm:X.mg "range"=none) (ha:Q (PA X [a,b] (tA X.K W fl))) (hs:starEach [a,b] X.env=[(false,eval a X.env),(false,eval b X.env)]) (hs2:starEach [b] X.env=[(false,eval b X.env)]):Q (PI X tg (.Call (.Name "range" p) [a,b] [] pos) (tI X.K W (yp fl))):=⟨have ha:=ha.p;Fc hm ha (S.g hj hg).1 hs hs2⟩
theorem jR {tg:Expr} (ha:Q (PE X a (tE X.K W fa))):Q (PI X tg a (tI X.K W (bf fa))):=⟨have ha:=ha.p;qV (xP ha) fun _ _ _=>xB⟩
theorem IE {op:CmpOp} {r:R2} {g:KY->KY->Option KY} (k:Ck X op r g) (ha:Q (PE X a (tE X.K W fa))) (hb:Q (PE X b (tE X.K W fb))) (hm:behindInMarks op b=false):Q (PT X (.Compare a [op] [b] pos) (tT X.K W (aL ai (az g fa fb)))):=⟨T.ct k ha.p hb.p hm⟩
theorem wL (ha:Q (PT X a (tT X.K W ga))):Q (PT X (.UnaryOp .Not a pos) (tT X.K W (ff ga))):=⟨have ha:=ha.p;qU (Bn ha) fun _ _ _=>xH⟩
theorem Gb (ha:Q (PT X a (tT X.K W ga))):Q (PW X (.BoolOp .And [a] pos) (tT X.K W ga)):=⟨have ha:=ha.p;xJ ha⟩
theorem qZ (ha:Q (PT X a (tT X.K W ga))):Q (PW X (.BoolOp .Or [a] pos) (tT X.K W ga)):=⟨have ha:=ha.p;Bk ha⟩
theorem Ge (ha:Q (PT X a (tT X.K W ga))) (hb:Q (PW X (.BoolOp .And (b::es) pos) (tT X.K W gb))):Q (PW X (.BoolOp .And (a::b::es) pos) (tT X.K W (gx ga gb))):=⟨have ha:=ha.p;have hb:=hb.p;zS (Bl ha hb) fun _ _ _=>xI⟩
theorem mr (ha:Q (PT X a (tT X.K W ga))) (hb:Q (PW X (.BoolOp .Or (b::es) pos) (tT X.K W gb))):Q (PW X (.BoolOp .Or (a::b::es) pos) (tT X.K W (fD ga gb))):=⟨have ha:=ha.p;have hb:=hb.p;zS (Er ha hb) fun _ _ _=>A5⟩
theorem mz (h:Q (PW X a (tT X.K W ga))):Q (PT X a (tT X.K W ga)):=⟨L2.PW.pt h.p⟩
theorem mB (ha:Q (PE X a (tE X.K W fa))) (he:∀whole,isTrue a X.env whole=(do let v <-whole;standAt a.pos;holding [v] (truthy v))):Q (PT X a (tT X.K W (aL bX fa))):=⟨have ha:=ha.p;qU (uL ha he) fun _ _ _=>AK⟩
theorem dC :Q (PSs X [] (tS X.K W aJ)):=⟨vW xN fun _ _ _=>xu⟩
theorem gC {st:Stmt} (h1:Q (PS X st (tS X.K W g1))):Q (PSs X [st] (tS X.K W g1)):=⟨have h1:=h1.p;xM h1⟩
theorem aY {st:Stmt} {rest:List Stmt} (h1:Q (PS X st (tS X.K W g1))) (h2:Q (PSs X rest (tS X.K W g2))):Q (PSs X (st::rest) (tS X.K W (aq g1 g2))):=⟨have h1:=h1.p;have h2:=h2.p;vW (uM h1 h2) fun _ _ _=>AM⟩
theorem tN (ha:Q (PE X a (tE X.K W fa))):Q (PS X (.Return (some a) pos) (tS X.K W (aF fa))):=⟨have ha:=ha.p;fP (Bq ha) fun _ _ _=>AN⟩
theorem dg {A B:List Stmt} (hc:Q (PT X c (tT X.K W ga))) (ha:Q (PSs X A (tS X.K W g1))) (hb:Q (PSs X B (tS X.K W g2))):Q (PS X (.If c A B pos) (tS X.K W (bW ga g1 g2))):=⟨have hc:=hc.p;have ha:=ha.p;have hb:=hb.p;fP (Et hc ha hb) fun _ _ _=>AS⟩
theorem wK (S:Cp X N gl vs cs ls lo gs) (i:Nat) {x:Str} {px:Pos} {iter:Expr} {body:List Stmt} {fi:FI} {g:FS} (hx:N[i]?=some x) (hl:ls.contains i=true) (hp:PassesOwn (model X.prog X.w) X.A X.env X.xe) (hi':Q (PI X (.Name x px) iter (tI X.K W fi))) (hb:Q (PSs X body (tS X.K W g))) (hs:∀x,foldedSetIterable iter X.env x=pure x):Q (PS X (.For (.Name x px) iter body [] pos) (tS X.K W (fz i fi g))):=⟨have hi':=hi'.p;have hb:=hb.p;CD i hp (by rw [S.hN];exact S.nd) hi' hb S.calm (by rw [S.hN];exact hx) (S.loc i x hx hl).1 (S.loc i x hx hl).2 hs⟩
theorem tQ (S:Cp X N gl vs cs ls lo gs) (own:Bool) (i:Nat) {x:Str} {pos':Pos} (hi:N[i]?=some x) (hl:ls.contains i=true) (hs:swapsWith a (some (.Name x pos')) pos.line X.env=pure false) (ha:Q (PE X a (tE X.K W fa))):Q (PS X (.Assign [.Name x pos'] a pos) (tS X.K W (aB own i fa))):=⟨have ha:=ha.p;CC own i (by rw [S.hN];exact S.nd) ha (by rw [S.hN];exact hi) (S.loc i x hi hl).1 hs (S.loc i x hi hl).2⟩
theorem rh (S:Cp X N gl vs cs ls lo gs) (i:Nat) {x:Str} {px pos':Pos} (hi:N[i]?=some x) (hv:vs.contains i=true) (ha:Q (PE X a (tE X.K W fa))) (hb:Q (PE X b (tE X.K W fb))) (hs:swapsWithSole [.Subscript (.Name x px) b pos'] a pos.line X.env=pure false) (hw:swappedStores [.Subscript (.Name x px) b pos'] a X.env=pure none) (h1:(assignEach [.Subscript (.Name x px) b pos'] X.env).map (·.2)=[assign (.Subscript (.Name x px) b pos') X.env]) (has:∀v,assign (.Subscript (.Name x px) b pos') X.env v=(do
   let ov <-holding [v] (eval (.Name x px) X.env)
   let iv <-holding [v,ov] (eval b X.env)
   standAt pos'
   holding [v,ov,iv] (setItem ov iv v)
   release [v,ov,iv] [])):Q (PS X (.Assign [.Subscript (.Name x px) b pos'] a pos) (tS X.K W (gJ i fa fb))):=⟨T.cs_setI S i hi hv ha.p hb.p hs hw h1 has⟩
theorem wO (S:Cp X N gl vs cs ls lo gs) (i:Nat) {x:Str} {apos cpos:Pos} (hi:N[i]?=some x) (hv:vs.contains i=true) (ha:Q (PE X a (tE X.K W fa))) (hs:starEach [a] X.env=[(false,eval a X.env)]) (hbase:attributeBase (.Name x p) "append" X.env (eval (.Name x p) X.env)=eval (.Name x p) X.env) (hline:(apos.endLine==cpos.line)=true) (hfew:((backTo cpos (starEach [a] X.env)).all (fun x=>!x.1)&&(backToKw cpos (keywordEach [] X.env)).all (fun x=>x.1.isSome)
   && decide ([a].length+([]:List Keyword).length+(if ([]:List Keyword).isEmpty then 0 else 1)<30))=true) (hsw:swapsWith (.Call (.Attribute (.Name x p) "append" apos) [a] [] cpos) none pos.line X.env=pure false):Q (PS X (.Expr (.Call (.Attribute (.Name x p) "append" apos) [a] [] cpos) pos) (tS X.K W (aG i fa))):=⟨T.cs_append S i hi hv ha.p hs hbase hline hfew hsw⟩
theorem iZ :Q (PF X [] (tT X.K W0 aK)):=⟨Fv By fun σ H Q h=>by
 obtain ⟨He,O,Fs,Γ,E,h⟩:=h;exact h H Fs (Same.refl _) E fun _ z=>.inl z⟩
theorem zi (h:Q (PT X c (tT X.K W0 ga))):Q (PF X [c] (tT X.K W0 ga)):=⟨have h:=h.p;Bx h⟩
end
end TQ
namespace T
open PySem PySem.Spec L2
open PyProof.Rows hiding St
noncomputable def AE:FS:=fun _=>.no
noncomputable def tp:KY->String
 | .none => "NoneType"
 | .bool _ => "bool"
 | .int _ => "int"
 | .str _ => "str"
 | .list _ => "list"
 | .tuple _ => "tuple"
 | .dict _ => "dict"
noncomputable def kj (t c:String):Bool:=t==c||(t == "bool"&&c == "int")
noncomputable def kinds:List String:=["bool", "int", "str", "list", "tuple"]
theorem yk {K:Fg} {c:String} (hc:c∈kinds):∀t∈["NoneType", "bool", "int", "str", "list", "tuple"],PySem.W.kitOne K (.type t) (.type c)=some (kj t c):=by
 intro t ht;unfold kinds at hc;simp only [mem_cons,not_mem_nil,or_false] at hc ht
 rcases hc with rfl | rfl | rfl | rfl | rfl<;>rcases ht with rfl | rfl | rfl | rfl | rfl | rfl<;>kernel_rfl
section
variable {X:Cx} {pins:List (Addr×Obj)} {σ:St} {H:Hp} {s:Shared} {A:Around} {E:Value->Shared->Prop} {Q:Value->Shared->Prop} {c:Value} {b:Bool}
theorem pE {x:V} {u:Value} {d:KY} (I:Inv X pins σ H s) (rx:RelV x u) (r:Rep X.K H x d) (e:PySem.W.kitOne X.K (.type (tp d)) c=some b) (h:∀tk,Q (.bool b) { s with toks:=tk }) :
  wpAny (model X.prog X.w) A (call (.builtin "isinstance") [u,c]) Q E s:=by
 cases r with
 | non=>exact Ai I rx .non e h
 | bl y=>exact Ai I rx (.bl y) e h
 | int i=>exact Ai I rx (.int i) e h
 | str y=>exact Ai I rx (.str y) e h
 | @lst p vs ds hs hl q=>
  rcases hs with (z | ⟨o,z⟩) | ⟨o,its,n,hk,hc,hd,hz,_⟩
  ·exact Ai I rx (.lst z) e h
  ·exact Ai I rx (.frz z) e h
  ·cases (show u=Value.ref p from rx)
   exact PySem.W.kia_one PySem.W.kitx_list I.kIn ⟨o,I.kIn _ o hk,hc⟩ e nofun h
 | @tup p vs ds hs hl q=>
  rcases hs with (z | ⟨o,z⟩) | ⟨o,its,n,hk,hc,hd,hz,_⟩
  ·exact Ai I rx (.tup z) e h
  ·cases (show u=Value.ref p from rx)
   obtain ⟨_,_,_,n,p1,h1,h2,_⟩:=(show ObjOk X.prog X.w H s.heap p (.frz o (.tup vs)) from I.hok p _ z);exact PySem.W.kia_one PySem.W.kitx_tuple I.kIn ⟨p1,h1,h2⟩ e nofun h
  ·cases (show u=Value.ref p from rx)
   exact PySem.W.kia_one PySem.W.kitx_tuple I.kIn ⟨o,I.kIn _ o hk,hc⟩ e nofun h
end
noncomputable def Bf (K:Fg) (c:String):List V->Hp->VK->Prop:=fun xs H Q=>∃x d,xs=[x,.ty c]/\Rep K H x d/\Q (.bl (kj (tp d) c)) H
theorem vN {X:Cx} {c:String} (hc:c∈kinds):CallR X (.builtin "isinstance") (Bf X.K c):=by
 intro pins s σ H xs us Q I rv h;obtain ⟨x,d,rfl,r,q⟩:=h;match us,rv with
 | [u,t],.cons r1 (.cons r2 .nil)=>
  cases (show t=Value.type c from r2)
  have ht:tp d∈["NoneType", "bool", "int", "str", "list", "tuple"]:=by cases r<;>simp [tp]
  exact pE I r1 r (yk hc _ ht) fun tk=>⟨.bl _,H,I.tok tk,rfl,q⟩
noncomputable def lZ (c:String) (fa:F1):F1:=ba fa fun p Γ=>.ok ⟨.leaf,.bool (kj (tp p.d) c)⟩ Γ
theorem AR {K:Fg} {W:XW} {σ:St} {H:Hp} {Q:VK} {fa:F1} {c:String} (h:tE K W (lZ c fa) σ H Q):DY (Bf K c) (kG (tE K W fa) (kG (tC (.ty c)) w9)) σ H Q:=by
 show tE K W fa σ H fun x H1=>Bf K c [x,.ty c] H1 Q
 refine wa h fun He O Fs Γ1 p v H1 G Fs1 nd A w=>?_
 exact ⟨v,p.d,rfl,A.own.rep,Wants.scal w (.bl _) A.same A.env.dropL (fun a ha=>ha) nd fun a ha=>A.new a (KH _ ha)⟩
noncomputable def cm (c:FB) (g:FS):Nat->Ev->dS
 | 0,_=>.no
 | n+1,Γ=>match c Γ with
  | .ok true Γ1=>(match g Γ1 with
   | .nx Γ2=>cm c g n Γ2
   | .ct Γ2=>cm c g n Γ2
   | .bk Γ2=>.nx Γ2
   | .rt p=>.rt p
   | .er e Γ2=>.er e Γ2
   | .no=>.no)
  | .ok false Γ1=>.nx Γ1
  | .er e Γ1=>.er e Γ1
  | .no=>.no
noncomputable def fF (n:Nat) (c:FB) (g:FS):FS:=cm c g n
section
variable {K:Fg} {W:XW} {σ:St} {H:Hp} {Q:VK} {D:jP} {fa fb:F1} {fl:FL}
theorem ur {n:Nat} {c:FB} {g:FS} (h:tS K W (fF n c g) D σ H):ub (tT K W c) (tS K W g) D σ H:=by
 obtain ⟨He,O,Fs,Γ,E,h⟩:=h;refine ⟨fun m σ' H'=>∃Γk Fk,EnvOk K He O Fk H' σ' Γk/\cS K W He O D (cm c g m Γk),⟨n,Γ,Fs,E,h⟩,?_⟩
 rintro m σ' H' ⟨Γk,Fk,Ek,hw⟩
 cases m with
 | zero=>exact hw.elim
 | succ m=>
  refine ⟨He,O,Fk,Γk,Ek,?_⟩
  rw [cm] at hw
  cases e:c Γk with
  | er x Γ1=>rw [e] at hw;exact fun H2 Fs2 s E2=>hw σ' H2 Fs2 E2
  | no=>rw [e] at hw;exact hw
  | ok b Γ1=>
   rw [e] at hw;intro H2 Fs2 s2 E2 n2
   cases b with
   | false=>rw [if_neg Bool.false_ne_true];exact hw σ' H2 Fs2 E2
   | true=>
    rw [if_pos rfl];refine ⟨fun σ3 H3=>∃Γ3 F3,EnvOk K He O F3 H3 σ3 Γ3/\cS K W He O D (cm c g m Γ3),fun σ3 H3 q=>⟨m,Nat.lt_succ_self _,q⟩,He,O,Fs2,Γ1,E2,?_⟩
    have hw:cS K W He O D (match g Γ1 with | .nx Γ2=>cm c g m Γ2 | .ct Γ2=>cm c g m Γ2 | .bk Γ2=>.nx Γ2 | .rt p=>.rt p | .er e Γ2=>.er e Γ2 | .no=>.no):=hw
    cases eb:g Γ1 with
    | nx Γ'=>rw [eb] at hw;exact fun σ2 H2 F2 E2=>⟨Γ',F2,E2,hw⟩
    | ct Γ'=>rw [eb] at hw;exact fun σ2 H2 F2 E2=>⟨Γ',F2,E2,hw⟩
    | bk Γ'=>rw [eb] at hw;exact fun σ2 H2 F2 E2=>hw σ2 H2 F2 E2
    | rt p=>rw [eb] at hw;exact fun u H2 G r=>hw u H2 G r
    | er x Γ'=>rw [eb] at hw;exact fun σ2 H2 F2 E2=>hw σ2 H2 F2 E2
    | no=>rw [eb] at hw;exact hw
theorem EnvOk.chgF {He:Hp} {O:List Addr} {Fs:List (List Addr)} {Γ:Ev} {i:Nat} {ds:List KY} (E:EnvOk K He O Fs H σ Γ) (h:Γ[i]?=some (some ⟨.lst .leaf,.list ds⟩)) :
  ∃l vs,σ[i]?=some (some (.ref l))/\H l=some (.lst vs)/\vs.length=ds.length/\(∀(j:Nat) u d,vs[j]?=some u->ds[j]?=some d->Rep K (dD H (O++Fs.flatten)) u d) /\
   ∀(vs':List V) (ds':List KY),vs'.length=ds'.length->(∀(j:Nat) u d,vs'[j]?=some u->ds'[j]?=some d->Rep K (dD H (O++Fs.flatten)) u d)->EnvOk K He O Fs (cy H l (.lst vs')) σ (Γ.set i (some ⟨.lst .leaf,.list ds'⟩)):=by
 obtain ⟨hv,v,F,h1,E1,o1,sub⟩:=E.move h;have hi:i<Γ.length:=(KQ h).1
 obtain ⟨_,v0,F0,h10,h20,o0⟩:=E.slot i _ h;obtain ⟨l,vs,rfl,rfl,hp,hl,hr⟩:=o1.leaves;obtain ⟨l',vs',e0,e1,hp',hl',hr'⟩:=o0.leaves;rw [h1] at h10
 cases h10
 cases e0;rw [hp] at hp'
 cases hp'
 refine ⟨l,vs,h1,hp,hl,hr',fun ws ds' hw q=>?_⟩
 have hlF:l∈Fs.flatten:=sub l (KI _ (List.mem_singleton.mpr rfl))
 have hHe:He l=none:=E.fresh l hlF
 have E4:=E1.mutO (o:=.lst ws) (KI _ (List.mem_singleton.mpr rfl)) hp hHe
 have ownL:Own K ([l]++O++(Fs.set i []).flatten) (cy H l (.lst ws)) (.lst .leaf) [l] (.ref l) (.list ds'):=by
  refine Own.mkLeaves jQ hw fun j u d a1 a2=>?_
  rw [Ht (KI _ (KI _ (List.mem_singleton.mpr rfl)))];refine (q j u d a1 a2).mono (we (Same.refl _) fun a ha=>.inl ?_)
  rcases KJ ha with z | z
  ·rcases KJ z with z | z
   ·rw [List.mem_singleton.mp z];exact KH _ hlF
   ·exact KI _ z
  ·exact KH _ (sub a (KH _ z))
 have fin:=EnvOk.put (i:=i) (p:=⟨.lst .leaf,.list ds'⟩) (v:=.ref l) E4 ownL rfl (fun a ha=>by rw [List.mem_singleton.mp ha];exact hHe) (by rw [length_set];exact hi)
 rw [set_set,set_set,Da h1] at fin;rw [e1] at h20;rw [Da h20] at fin;exact fin
end
theorem qJ:∀{ns:List Int} {us:List Value},Vals (ns.map V.int) us->IntsAre us ns
 | [],_,.nil=>.nil
 | n::ns,_,.cons r t=>by
  obtain ⟨tk,rfl⟩:=(show ∃t,_=Value.int n t from r)
  exact .cons _ _ (qJ t)
theorem p8:∀{xs:List V} {us:List Value},xs.length=us.length->(∀(i:Nat) x u,xs[i]?=some x->us[i]?=some u->RelV x u)->Vals xs us
 | [],[],_,_=>.nil
 | x::xs,u::us,hl,h=>.cons (h 0 x u rfl rfl) (p8 (by simpa using hl) fun i x u a b=>h (i+1) x u (by simpa using a) (by simpa using b))
 | [],_::_,hl,_=>by simp at hl
 | _::_,[],hl,_=>by simp at hl
noncomputable def JT (ta:TA):TE:=fun σ H Q=>ta σ H fun vs H1=>∃j:Int,vs=[.int j]/\-(2 ^ 62)<=j/\j<=sizeLine/\∀l,H1 l=none->Q (.ref l) (cy H1 l (.lst (fT 0 j.toNat)))
theorem lM {X:Cx} {a:Expr} {ta:TA} {p p2 pos pos2:Pos} (hg:Gl X "list") (hm:X.mg "list"=none) (hg2:Gl X "range") (hm2:X.mg "range"=none) (hc:X.calm=true) (ha:PA X [a] ta) (hs:starEach [a] X.env=[(false,eval a X.env)])
  (hs1:starEach [.Call (.Name "range" p2) [a] [] pos2] X.env=[(false,eval (.Call (.Name "range" p2) [a] [] pos2) X.env)]):PE X (.Call (.Name "list" p) [.Call (.Name "range" p2) [a] [] pos2] [] pos) (JT ta):=by
 intro pins s σ H Q I h;refine Call_ (vY I hg hm CL (PyProof.Rows.callWith_type1 ?_ hs1 rfl))
 rw [hs1];show wpAny _ _ (spliced ((false,eval (.Call (.Name "range" p2) [a] [] pos2) X.env)::[])) _ _ s
 refine Calls.spliced_cons (Call_ (vY I hg2 hm2 boot_range (PyProof.Rows.callWith_type1 (b6 (ha pos2 pins s σ H _ I h) fun us s1 ⟨vs,H1,I1,r1,q1⟩=>?_) hs rfl)))
 obtain ⟨j,e,q1,q2,q⟩:=q1;subst e;obtain ⟨u,rfl,ru⟩:=r1.one;obtain ⟨t,rfl⟩:=(show ∃t,u=Value.int j t from ru)
 refine call_range_1 (Calls.spliced_nil ?_)
 have hz:(sizeLine:Int)<2 ^ 62:=by decide
 refine call_list_range (n:=j.toNat) (I.ok.hd hc) (IsRange.new ..) (small_one (by omega) (by omega) q1 (by omega)) (by rw [rangeSize_one];split<;>omega) (by have:(sizeLine:Nat)=2 ^ 24:=rfl;omega) fun h' tk acc' c' hk ho hacc=>?_
 have I2:Inv X pins σ H1 { s1 with heap:=s1.heap.push { cls:=.type "range",data:=.fields #[.int 0 s1.toks,.int j t,.int 1 (s1.toks+1)] },toks:=s1.toks+1+1 }:=I1.kept fun b o e=>KU _ e
 have hv:Vals (fT 0 j.toNat) acc'.toList:=by
  refine p8 (by have:=hacc.1;simp only [Array.length_toList,fT,length_map,List.length_range];omega) fun i x u e1 e2=>?_
  obtain ⟨t2,rfl⟩:=hacc.2 i u (by rw [<-Array.getElem?_toList];exact e2)
  unfold fT at e1;rw [getElem?_map] at e1
  cases e3:(List.range j.toNat)[i]? with
  | none=>rw [e3] at e1;cases e1
  | some k=>
   rw [e3] at e1;obtain ⟨k1,k2⟩:=KQ e3
   simp at k2
   subst k2
   cases e1;exact ⟨t2,by simp⟩
 refine ⟨.ref _,cy H1 _ (.lst (fT 0 j.toNat)),I2.laid (t':=tk) (fun b o e=>hk b o e) (KW _) ⟨?_,acc'.toList,c',hv,by simpa using ho⟩,rfl,q _ (I2.hok.fresh (KW _))⟩
 simp only [fT,length_map,List.length_range]
 omega
section
variable {K:Fg} {W:XW} {σ:St} {H:Hp} {Q:VK} {fa:F1} {fl:FL}
theorem AftL.newSc {He:Hp} {O:List Addr} {Fs Gs Fs1:List (List Addr)} {Γ1:Ev} {ps:List PV} {us:List V} {H1:Hp} {l:Addr} {vs:List V} {ds:List KY} (A:AftL K He O Fs H σ Γ1 ps us H1 Gs Fs1) (nd:O.Nodup) (hl:H1 l=none) (hv:vs.length=ds.length) (hs:∀(i:Nat) v d,vs[i]?=some v->ds[i]?=some d->Sc v d) :
  Aft K He O Fs H σ Γ1 ⟨.lst .leaf,.list ds⟩ (.ref l) (cy H1 l (.lst vs)) [l] Fs1:=by
 refine ⟨A.same.trans (lD hl),A.env.dropL.hide (lD hl) (by simp) (by simpa using hl) (fun a ha=>by rw [List.mem_singleton.mp ha,jQ];exact Option.some_ne_none _),fun a ha=>?_,?_⟩
 ·rcases KJ ha with z | z
  ·rw [List.mem_singleton.mp z];exact .inr (A.same.free hl)
  ·exact A.new a (KH _ z)
 ·exact Own.mkLeaves jQ hv fun j u d e1 e2=>(hs j u d e1 e2).rep
noncomputable def CA (fl:FL):F1:=fun Γ=>(fl Γ).bind fun ps Γ'=>match kd (ps.map (·.d)) with
 | some j=>if j<=sizeLine then .ok ⟨.lst .leaf,.list (cw 0 j.toNat)⟩ Γ' else .no
 | none=>.no
theorem Eb (h:tE K W (CA fl) σ H Q):JT (tA K W fl) σ H Q:=by
 obtain ⟨He,O,Fs,Γ,E,h⟩:=h;refine ⟨He,O,Fs,Γ,E,?_⟩
 unfold CA at h
 cases e:fl Γ with
 | er c Γ'=>rw [e] at h;exact h
 | no=>rw [e] at h;exact h
 | ok ps Γ1=>
  rw [e] at h;intro vs H1 Gs Fs1 A;have h:Wants K W He O Fs H σ Q (match kd (ps.map (·.d)) with | some j=>if j<=sizeLine then .ok ⟨.lst .leaf,.list (cw 0 j.toNat)⟩ Γ1 else .no | none=>.no):=h
  cases er:kd (ps.map (·.d)) with
  | none=>rw [er] at h;exact h.elim
  | some j=>
   rw [er] at h;obtain ⟨e1,e2,e3⟩:=qm er;have r:=A.reps
   rw [e1] at r;have h:Wants K W He O Fs H σ Q (if j<=sizeLine then .ok ⟨.lst .leaf,.list (cw 0 j.toNat)⟩ Γ1 else .no):=h
   by_cases hj:j<=sizeLine
   ·rw [if_pos hj] at h
    have hv:vs=[.int j]:=by
     have hl:=r.1
     match vs,hl with
     | [v],_=>
      have q:=r.2 0 v (.int j) rfl rfl
      cases q;rfl
    refine ⟨j,hv,e2,hj,fun l hl=>h _ _ _ _ (A.newSc E.ndO hl (by simp [fT,cw]) fun i v d a1 a2=>?_)⟩
    have q:=Ia (K:=K) (H:=H1) (lo:=0) (n:=j.toNat)
    refine (q.2 i v d a1 a2).sc ?_
    unfold cw at a2;rw [getElem?_map] at a2
    cases e3:(List.range j.toNat)[i]? with
    | none=>rw [e3] at a2;cases a2
    | some k=>rw [e3] at a2;cases a2;rfl
   ·rw [if_neg hj] at h;exact h.elim
noncomputable def fK:List KY->Option (List Int)
 | []=>some []
 | .int i::r=>(fK r).map (i :: ·)
 | _=>none
theorem kS:∀{ds:List KY} {ns:List Int},fK ds=some ns->ds=ns.map .int
 | [],ns,h=>by cases h;rfl
 | .int i::r,ns,h=>by
  unfold fK at h
  cases e:fK r with
  | none=>rw [e] at h;cases h
  | some ms=>rw [e] at h;cases h;rw [kS e];rfl
 | .none::_,_,h=>by cases h
 | .bool _::_,_,h=>by cases h
 | .str _::_,_,h=>by cases h
 | .list _::_,_,h=>by cases h
 | .tuple _::_,_,h=>by cases h
 | .dict _::_,_,h=>by cases h
end
theorem Inv.turnedL {X:Cx} {pins:List (Addr×Obj)} {σ:St} {H:Hp} {s:Shared} {h':Heap} {t':Nat} {fp:List Addr} (I:L2.Inv X pins σ H s) (k:∀b o,b∉fp->s.heap.get? b=some o->h'.get? b=some o) (hf:∀b∈fp,kz X pins H b):L2.Inv X pins σ H { s with heap:=h',toks:=t' }:=by
 have nit:∀b u,H b=some u->b∉fp:=fun b u e z=>by have:=(hf b z).1;rw [e] at this;cases this
 have hL:X.env.locals∉fp:=fun z=>(hf _ z).2.1 rfl
 refine I.step (g':=s.gens) (d':=s.drawn) (ch:=fp) (fun b hb=>?_) (fun b o _ _ hc e _=>k b o hc e) (fun b o _ _ hc e _=>⟨o.slots,k b o hc e⟩) (fun _ _ _ _ n=>n)
  (fun b o hc e=>⟨o,k b o hc e⟩) (fun _ _ e=>e) (fun _ _ _ e=>e) (fun b ps e=>⟨#[],by rw [e];simp⟩) (fun m hm=>?_) (fun b u e=>?_) I.bare
 ·obtain ⟨f0,f1,f2,f3,f4,f5⟩:=hf b hb
  exact ⟨f3,f1,f4,f5⟩
 ·obtain ⟨o,es,ep,ho,r⟩:=hm
  exact ⟨o,es,ep,k _ o hL ho,r⟩
 ·refine (I.hok b u e).stay (fun c v hc q=>k c v ?_ q) (fun _ q=>q) fun _ _ q=>q
  rcases hc with z | z
  ·rw [z];exact nit b u e
  ·exact nit c _ z
theorem Inv.turnedT {X:Cx} {pins:List (Addr×Obj)} {σ:St} {H:Hp} {s:Shared} {h':Heap} {t':Nat} {fp:List Addr} {T:Addr} {xs:List V} (I:L2.Inv X pins σ H s) (k:∀b o,b∉fp->s.heap.get? b=some o->h'.get? b=some o) (hf:∀b∈fp,kz X pins H b) (hT:s.heap.objs.size<=T)
  (new:ObjOk X.prog X.w (cy H T (.tup xs)) h' T (.tup xs)):L2.Inv X pins σ (cy H T (.tup xs)) { s with heap:=h',toks:=t' }:=by
 have hTn:H T=none:=I.hok.fresh hT
 have nit:∀b u,H b=some u->b∉fp:=fun b u e z=>by have:=(hf b z).1;rw [e] at this;cases this
 have up:∀b u,H b=some u->cy H T (.tup xs) b=some u:=fun b u e=>by rw [gz (wq e hTn)];exact e
 have hL:X.env.locals∉fp:=fun z=>(hf _ z).2.1 rfl
 refine I.step (g':=s.gens) (d':=s.drawn) (ch:=fp) (fun b hb=>?_) (fun b o _ _ hc e _=>k b o hc e) (fun b o _ _ hc e _=>⟨o.slots,k b o hc e⟩) (fun b o _ e n=>by rw [gz (Nat.ne_of_lt (Nat.lt_of_lt_of_le (Heap.lt_size e) hT))];exact n)
  (fun b o hc e=>⟨o,k b o hc e⟩) (fun b _ e=>up b _ e) (fun b _ _ e=>up b _ e) (fun b ps e=>⟨#[],by rw [up b _ e];simp⟩) (fun m hm=>?_) (fun b u e=>?_) I.bare
 ·obtain ⟨f0,f1,f2,f3,f4,f5⟩:=hf b hb
  exact ⟨f3,f1,f4,f5⟩
 ·obtain ⟨o,es,ep,ho,r⟩:=hm
  exact ⟨o,es,ep,k _ o hL ho,r⟩
 ·by_cases hb:b=T
  ·subst hb
   rw [jQ] at e
   cases e;exact new
  ·rw [gz hb] at e
   refine (I.hok b u e).stay (fun c v hc q=>k c v ?_ q) (fun c q=>up c _ q) fun c _ q=>up c _ q
   rcases hc with z | z
   ·rw [z];exact nit b u e
   ·exact nit c _ z
noncomputable def d5:Option (Option PV)->Bool
 | some none=>true
 | _=>false
theorem jt {o:Option (Option PV)} (h:d5 o=true):o=some none:=by
 unfold d5 at h;split at h
 ·rfl
 ·cases h
section
variable {K:Fg} {He H H1 H2:Hp} {O G:List Addr} {Fs Fs1 Fs2:List (List Addr)} {σ:St} {Γ Γ1 Γ2:Ev}
theorem uh {Γ:Ev} {i j m:Nat} {p:PV} (h:((Γ.set i none).set j none)[m]?=some (some p)):m≠i/\m≠j/\Γ[m]?=some (some p):=by
 obtain ⟨h1,h2⟩:=Gh h;obtain ⟨h3,h4⟩:=Gh h2;exact ⟨h3,h1,h4⟩
theorem EnvOk.forget2 {i j:Nat} {x y:Option V} (E:EnvOk K He O Fs H (((bL [i,j] σ).set i x).set j y) Γ):EnvOk K He O Fs H (bL [i,j] σ) ((Γ.set i none).set j none):=by
 refine ⟨by have:=E.len1;simpa using this,by have:=E.len2;simpa using this,E.same,E.nd,E.inH,E.fresh,fun m q hq=>?_⟩
 obtain ⟨h1,h2,h3⟩:=uh hq;obtain ⟨w1,v',F',e1,e2,e3⟩:=E.slot m q h3;rw [getElem?_set_ne (Ne.symm h2),getElem?_set_ne (Ne.symm h1)] at e1;exact ⟨w1,v',F',e1,e2,e3⟩
theorem EnvOk.blank2 {i j:Nat} (E:EnvOk K He O Fs H σ Γ) (hi:Γ[i]?=some none) (hj:Γ[j]?=some none):EnvOk K He O Fs H (bL [i,j] σ) Γ:=by
 refine ⟨by rw [zk];exact E.len1,E.len2,E.same,E.nd,E.inH,E.fresh,fun m q hq=>?_⟩
 obtain ⟨w1,v',F',e1,e2,e3⟩:=E.slot m q hq;refine ⟨w1,v',F',?_,e2,e3⟩
 rw [HF (fun z=>?_)]
 ·exact e1
 ·simp only [mem_cons,not_mem_nil,or_false] at z
  rcases z with z | z
  ·rw [z,hi] at hq;cases hq
  ·rw [z,hj] at hq;cases hq
theorem EnvOk.unblank2 {i j:Nat} (E:EnvOk K He O Fs H (bL [i,j] σ) Γ):EnvOk K He O Fs H σ Γ:=by
 refine ⟨by have:=E.len1;rw [zk] at this;exact this,E.len2,E.same,E.nd,E.inH,E.fresh,fun m q hq=>?_⟩
 obtain ⟨w1,v',F',e1,e2,e3⟩:=E.slot m q hq;exact ⟨w1,v',F',(F9 e1).2,e2,e3⟩
theorem nQ {i:Nat} {a:Addr} (hi:i<Fs.length) (h:a∈(Fs.set i []).flatten):a∈Fs.flatten:=by
 have hF:Fs[i]?=some (Fs[i]'hi):=KM _
 have:=(p7 (G:=[]) hF).mem_iff.mp (KH _ h)
 simpa using this
structure Fy (K:Fg) (He:Hp) (O:List Addr) (Fs1:List (List Addr)) (H1:Hp) (σ:St) (i j:Nat) (s:Sh) (A0:Addr) (n:Nat) (ys:List V) (H:Hp) (Γk:Ev) (Fk Gs:List (List Addr)) (acc:List KY):Prop where
 env:EnvOk K He (A0::Gs.flatten++O) Fk H (bL [i,j] σ) Γk
 same:Same H1 H
 at_:H A0=some (.lst ys)
 new:∀a∈Gs.flatten++Fk.flatten,a∈Fs1.flatten\/H1 a=none
 l1:ys.length=acc.length
 l2:Gs.length=acc.length
 own:∀(m:Nat) v d G,ys[m]?=some v->acc[m]?=some d->Gs[m]?=some G->Own K (A0::Gs.flatten++O++Fk.flatten) H s G v d
 len:Γk.length=n
end
noncomputable def mj (N:List Str) (is:List Nat) (cs:List Nat) (sc:Scope):Bool:=
 decide (sc.kind=.function)&&(sc.names.all fun p=>!decide (p.2=.free)||cs.any fun j=>decide (N[j]?=some p.1)) &&
 ((List.range N.length).all fun j=>is.contains j||(sc.names.all fun p=>!decide (some p.1=N[j]?)||(!decide (p.2=.local)&&!decide (p.2=.cell)))) &&
 (sc.names.all fun p=>!decide (p.2=.local)||decide (sc.names.lookup p.1=some .local)) &&
 (sc.names.all fun p=>!decide (p.2=.free)||sc.names.all fun q=>!decide (q.1=p.1)||!decide (q.2=.cell))
theorem sU {X:Cx} {N gl:List Str} {vs cs ls lo gs is:List Nat} {scope:Scope} (S:Cp X N gl vs cs ls lo gs) (h:mj N is cs scope=true):eB X.N is X.env.scope scope:=by
 unfold mj at h;simp only [Bool.and_eq_true,decide_eq_true_eq,all_eq_true,Bool.or_eq_true,Bool.not_eq_true',decide_eq_false_iff_not,any_eq_true,mem_range] at h
 obtain ⟨⟨⟨⟨h0,h1⟩,h2⟩,h3⟩,h4⟩:=h;refine ⟨h0,fun n hn=>?_,fun j x e hj=>?_,fun x hx e=>?_,fun n hn hc=>?_⟩
 ·rcases h1 _ hn with z | ⟨j,hj,e⟩
  ·exact absurd rfl z
  ·exact S.cel j n e (by simpa using hj)
 ·rw [S.hN] at e
  rcases h2 j (KQ e).1 with z | z
  ·simpa using z
  ·exfalso
   rcases hj with y | y
   ·rcases z _ y with w | w
    ·exact w e.symm
    ·exact w.1 rfl
   ·rcases z _ y with w | w
    ·exact w e.symm
    ·exact w.2 rfl
 ·rcases h3 x hx with z | z
  ·exact absurd e z
  ·exact z
 ·rcases h4 _ hn with z | z
  ·exact z rfl
  ·rcases z _ hc with w | w
   ·exact w rfl
   ·exact w rfl
end T
namespace TQ
open PySem PySem.Spec L2 T
open PyProof.Rows hiding St
section
variable {X:Cx} {N gl:List Str} {vs cs ls lo gs:List Nat} {W:XW} {a b c e:Expr} {es:List Expr} {pos p:Pos} {fa fb fc:F1} {fl:FL} {ga gb:FB} {g1 g2 g:FS}
theorem C7 {st:Stmt}:Q (PS X st (tS X.K W AE)):=⟨fun pins s σ H D I h=>by
 obtain ⟨He,O,Fs,Γ,E,h⟩:=h;exact h.elim⟩
theorem tL (ha:Q (PE X e (tE X.K W fa))) (hs:swapsWith e none pos.line X.env=pure false):Q (PS X (.Expr e pos) (tS X.K W (dh fa))):=⟨have ha:=ha.p;fP (HA ha hs) fun _ _ _=>xD⟩
theorem Ig {X:Cx} {N gl:List Str} {vs cs ls lo gs:List Nat} {W:XW} {a:Expr} {pos p p2:Pos} {fa:F1} {c:String} {x:Str} (S:Cp X N gl vs cs ls lo gs) (j k:Nat) (hj:gl[j]?=some ("isinstance":Str)) (hg:gs.contains j=true) (hk:gl[k]?=some x) (hg2:gs.contains k=true) (hc:kinds.contains c=true) (hv:bootBuiltins x=some (.type c)) (hm:X.mg "isinstance"=none) (hm2:X.mg x=none) (ha:Q (PE X a (tE X.K W fa))) (hs:starEach [a,.Name x p2] X.env=(false,eval a X.env)::starEach [.Name x p2] X.env) (hs2:starEach [.Name x p2] X.env=(false,eval (.Name x p2) X.env)::starEach [] X.env) (hpl:(backTo pos (starEach [.Name x p2] X.env)).any (·.1)=false):Q (PE X (.Call (.Name "isinstance" p) [a,.Name x p2] [] pos) (tE X.K W (lZ c fa))):=⟨have ha:=ha.p;bp (ni (vN (by simpa using hc)) (S.g hj hg).1 hm mn (Du ha (Du (xT (v:=.ty c) (S.g hk hg2).1 hm2 hv rfl (S.g hk hg2).2.2 (S.g hk hg2).2.1) Hk hs2) hs) (S.g hj hg).2.2 (S.g hj hg).2.1 hs hpl) fun _ _ _=>AR⟩
theorem i7 {p2 pos2:Pos} (S:Cp X N gl vs cs ls lo gs) (j k:Nat) (hj:gl[j]?=some ("list":Str)) (hg:gs.contains j=true) (hm:X.mg "list"=none) (hk:gl[k]?=some ("range":Str)) (hg2:gs.contains k=true) (hm2:X.mg "range"=none) (ha:Q (PA X [a] (tA X.K W fl))) (hs:starEach [a] X.env=[(false,eval a X.env)]) (hs1:starEach [.Call (.Name "range" p2) [a] [] pos2] X.env=[(false,eval (.Call (.Name "range" p2) [a] [] pos2) X.env)]):Q (PE X (.Call (.Name "list" p) [.Call (.Name "range" p2) [a] [] pos2] [] pos) (tE X.K W (CA fl))):=⟨have ha:=ha.p;bp (lM (S.g hj hg).1 hm (S.g hk hg2).1 hm2 S.calm ha hs hs1) fun _ _ _=>Eb⟩
theorem Ir (n:Nat) {body:List Stmt} (hp:PassesOwn (model X.prog X.w) X.A X.env X.xe) (hc:Q (PT X c (tT X.K W ga))) (hb:Q (PSs X body (tS X.K W g))):Q (PS X (.While c body [] pos) (tS X.K W (fF n ga g))):=⟨have hc:=hc.p;have hb:=hb.p;fP (uN hp hc hb) fun _ _ _=>ur⟩
end
end TQ
namespace T
open PySem PySem.Spec L2
open PyProof.Rows hiding St
noncomputable def cp:KY->Bool
 | .none=>true
 | _=>false
noncomputable def dm (neg:Bool):KY->KY->Option KY
 | a,.none=>some (.bool (if neg then !cp a else cp a))
 | _,_=>none
theorem nC {K:Fg} {H:Hp} {x:V} {a:KY} (r:Rep K H x a):decide (x=V.non)=cp a:=by
 cases r<;>simp [cp]
theorem yr {K:Fg}:GOp K (fun x y H Q=>y=.non/\Q (.bl (decide (x=.non))) H) (dm false):=by
 intro x y H Q a b d ra rb e k
 cases rb<;>simp only [dm] at e<;>try cases e
 exact ⟨rfl,by rw [nC ra];exact k _ (.bl _)⟩
theorem vk {K:Fg}:GOp K (fun x y H Q=>y=.non/\Q (.bl (!decide (x=.non))) H) (dm true):=by
 intro x y H Q a b d ra rb e k
 cases rb<;>simp only [dm] at e<;>try cases e
 exact ⟨rfl,by rw [nC ra];exact k _ (.bl _)⟩
theorem rW {X:Cx} (R:Rm X):Ck X .Is (fun x y H Q=>y=.non/\Q (.bl (decide (x=.non))) H) (dm false):=⟨BN,yr⟩
theorem C4 {X:Cx} (R:Rm X):Ck X .IsNot (fun x y H Q=>y=.non/\Q (.bl (!decide (x=.non))) H) (dm true):=⟨xW,vk⟩
noncomputable def Kk:KY->KY->Option KY
 | .str i,.str j=>if i.length+j.length<=sizeLine then some (.str (i++j)) else none
 | _,_=>none
noncomputable def vB (fa fb:F1):F1:=ba fa fun p=>ba fb fun q=>fun Γ=>match p.d,q.d with
 | .list xs,.list ys=>if aE p xs&&aE q ys&&decide (xs.length+ys.length<=sizeLine) then .ok ⟨.lst .leaf,.list (xs++ys)⟩ Γ else .no
 | _,_=>.no
noncomputable def jy (fa fb:F1):F1:=ba fa fun p=>ba fb fun q=>fun Γ=>match p.d,q.d with
 | .tuple xs,.tuple ys=>if !p.s.isView&&aE q ys&&!xs.isEmpty&&decide (xs.length+ys.length<=sizeLine) then .ok ⟨.leaf,.tuple (xs++ys)⟩ Γ else .no
 | _,_=>.no
noncomputable def ik (fa fb:F1):F1:=ba fa fun p=>ba fb fun q=>fun Γ=>match p.d,q.d with
 | .tuple xs,.int k=>if !p.s.isView&&decide (1<=k)&&decide (k<=xs.length) then .ok ⟨.leaf,.tuple (xs.drop k.toNat)⟩ Γ else .no
 | _,_=>.no
noncomputable def uK (K:Fg):R2:=fun x y H Q=>∃l b xs zs,x=.ref l/\y=.ref b/\SqL K H l xs/\SqL K H b zs/\xs.length+zs.length<=sizeLine/\∀p,H p=none->Q (.ref p) (cy H p (.lst (xs++zs)))
theorem yP {prog:Program} {w:World} {A:Around} {E:Value->Shared->Prop} {s:Shared} {l b:Addr} {vs ws:List Value} {Q:Value->Shared->Prop} (hl:s.heap.IsList l vs.toArray) (hb:s.heap.IsList b ws.toArray) (hz:vs.length+ws.length<=sizeLine)
  (h:Q (.ref s.heap.objs.size) { s with heap:=s.heap.push { cls:=.type "list",data:=.seq (vs++ws).toArray } }):wpAny (model prog w) A (binaryOp .Add (.ref l) (.ref b)) Q E s:=by
 obtain ⟨⟨cls,dd,data,sl⟩,ho,hc,n,hd⟩:=id hl;obtain ⟨⟨cls2,dd2,data2,sl2⟩,ho2,hc2,n2,hd2⟩:=id hb;simp only at hc hd hc2 hd2
 subst hc hd hc2 hd2;have e:vs.toArray++ws.toArray=(vs++ws).toArray:=by simp
 rw [<-e] at h;exact concat_meets ⟨_,ho,rfl⟩ ⟨_,ho2,rfl⟩ noFill_list_add seq_list_add PySem.F.slot_list_add PySem.F.entry_list_add (PySem.F.args_list_add_2 _ _) (list_addW l b vs.toArray ws.toArray n n2 dd dd2 sl sl2 (by simpa using hz)) ⟨ho,ho2,h⟩
theorem ya {X:Cx}:OpR X (binaryOp .Add) (uK X.K):=by
 intro pins s σ H x y v u Q I rx ry h;obtain ⟨l,b,xs,zs,rfl,rfl,hH,hB,hz,q⟩:=h
 cases rx
 cases ry;obtain ⟨its,r,pl,z⟩:=I.list hH;obtain ⟨its2,r2,pl2,z2⟩:=I.list hB;refine yP pl.isList pl2.isList (by rw [<-r.length,<-r2.length];exact hz) ?_
 exact ⟨.ref _,_,I.lnew (t':=s.toks) (r.append r2) (by rw [length_append];exact hz),rfl,q _ I.fresh⟩
section
variable {K:Fg} {W:XW} {σ:St} {H:Hp} {Q:VK} {D:jP} {fa fb:F1} {fl:FL}
theorem Reps.app {vs ws:List V} {ds es:List KY} (h:Reps K H vs ds) (h':Reps K H ws es):Reps K H (vs++ws) (ds++es):=by
 refine ⟨by rw [length_append,length_append,h.1,h'.1],fun i v d e1 e2=>?_⟩
 by_cases hi:i<vs.length
 ·rw [getElem?_append_left hi] at e1
  rw [getElem?_append_left (by rw [<-h.1];exact hi)] at e2
  exact h.2 i v d e1 e2
 ·rw [getElem?_append_right (by omega)] at e1
  rw [getElem?_append_right (by rw [<-h.1];omega),<-h.1] at e2
  exact h'.2 _ v d e1 e2
theorem Reps.drop {vs:List V} {ds:List KY} (k:Nat) (h:Reps K H vs ds):Reps K H (vs.drop k) (ds.drop k):=by
 refine ⟨by rw [length_drop,length_drop,h.1],fun i v d e1 e2=>?_⟩
 rw [List.getElem?_drop] at e1 e2
 exact h.2 _ v d e1 e2
theorem CF {G2 G1 O F:List Addr} (nd:(G2++(G1++O)++F).Nodup):(∀a∈G1,a∉O++F)/\(∀a∈G2,a∉O++F):=by
 rw [append_assoc,append_assoc] at nd;obtain ⟨_,n2,n3⟩:=KP nd;obtain ⟨_,_,n4⟩:=KP n2;exact ⟨fun a ha z=>n4 a ha a z rfl,fun a ha z=>n3 a ha a (KH _ z) rfl⟩
theorem uf {G2 G1 O F:List Addr}:∀a∈O++F,a∈G2++(G1++O)++F:=fun a ha=>by
 rcases KJ ha with z | z
 ·exact KI _ (KH _ (KH _ z))
 ·exact KH _ z
theorem Hw {He H1:Hp} {O:List Addr} {Fs Fs1:List (List Addr)} {Γ1:Ev} {vs:List V} {ds:List KY} {p:Addr} (E:EnvOk K He O Fs1 H1 σ Γ1) (s:Same H H1) (n:∀a∈Fs1.flatten,a∈Fs.flatten\/H a=none)
  (hr:Reps K (dD H1 (O++Fs1.flatten)) vs ds) (hp:H1 p=none):Aft K He O Fs H σ Γ1 ⟨.leaf,.tuple ds⟩ (.ref p) (cy H1 p (.tup vs)) [] Fs1:=by
 refine ⟨s.trans (lD hp),by rw [nil_append];exact E.grow (lD hp),by rw [nil_append];exact n,.leaf ?_⟩
 rw [nil_append];have hn:p∉O++Fs1.flatten:=fun z=>E.inH p z hp
 exact .tup (.of (Dr jQ hn)) hr.1 fun i v d h1 h2=>(hr.2 i v d h1 h2).mono (we (lD hp) fun a ha=>.inl ha)
theorem C2 {He H1:Hp} {O:List Addr} {Fs Fs1:List (List Addr)} {Γ1:Ev} {v:V} {d:KY} (E:EnvOk K He O Fs1 H1 σ Γ1) (s:Same H H1) (n:∀a∈Fs1.flatten,a∈Fs.flatten\/H a=none)
  (hr:Rep K (dD H1 (O++Fs1.flatten)) v d):Aft K He O Fs H σ Γ1 ⟨.leaf,d⟩ v H1 [] Fs1:=
 ⟨s,by rw [nil_append];exact E,by rw [nil_append];exact n,.leaf (by rw [nil_append];exact hr)⟩
theorem AZ (h:tE K W (vB fa fb) σ H Q):w6 (uK K) (tE K W fa) (tE K W fb) σ H Q:=by
 refine C1 (R:=fun v u H2=>uK K v u H2 Q) h fun He O Fs Γ2 p q v u H1 H2 G1 G2 Fs2 nd s1 s2 E new o1 o2 w=>?_
 obtain ⟨s,d⟩:=p;obtain ⟨s',d'⟩:=q;dsimp only at w o1 o2
 split at w
 ·rename_i xs ys
  cases hc:(aE ⟨s,.list xs⟩ xs&&aE ⟨s',.list ys⟩ ys&&decide (xs.length+ys.length<=sizeLine)) with
  | false=>rw [hc] at w;exact w.elim
  | true=>
   rw [hc] at w;simp only [Bool.and_eq_true,decide_eq_true_eq] at hc
   obtain ⟨⟨h1,h2⟩,h3⟩:=hc;obtain ⟨d1,d2⟩:=CF E.nd;obtain ⟨p1,vs,rfl,q1,_,r1⟩:=o1.items (O':=O++Fs2.flatten) h1 uf d1
   obtain ⟨p2,ws,rfl,q2,_,r2⟩:=o2.items (O':=O++Fs2.flatten) h2 uf d2
   refine ⟨p1,p2,vs,ws,rfl,rfl,q1,q2,by rw [r1.1,r2.1];exact h3,fun p' hp'=>w _ _ _ _ (u7 (E.drop (fun a ha=>KH _ (KH _ ha)) nd) (s1.trans s2) (fun a ha=>new a (KH _ (KH _ ha))) (r1.app r2) hp')⟩
 ·exact w.elim
theorem xF (h:tE K W (jy fa fb) σ H Q):w6 (uJ K) (tE K W fa) (tE K W fb) σ H Q:=by
 refine C1 (R:=fun v u H2=>uJ K v u H2 Q) h fun He O Fs Γ2 p q v u H1 H2 G1 G2 Fs2 nd s1 s2 E new o1 o2 w=>?_
 obtain ⟨s,d⟩:=p;obtain ⟨s',d'⟩:=q;dsimp only at w o1 o2
 split at w
 ·rename_i xs ys
  cases hc:(!s.isView&&aE ⟨s',.tuple ys⟩ ys&&!xs.isEmpty&&decide (xs.length+ys.length<=sizeLine)) with
  | false=>rw [hc] at w;exact w.elim
  | true=>
   rw [hc] at w;simp only [Bool.and_eq_true,decide_eq_true_eq,Bool.not_eq_true'] at hc
   obtain ⟨⟨⟨h1,h2⟩,h0⟩,h3⟩:=hc;obtain ⟨d1,d2⟩:=CF E.nd;have E1:=E.drop (fun a ha=>KH _ (KH _ ha)) nd
   have nw:∀a∈Fs2.flatten,a∈Fs.flatten\/H a=none:=fun a ha=>new a (KH _ (KH _ ha))
   have r1:=o1.freeze (O':=O++Fs2.flatten) h1 uf d1
   obtain ⟨p2,ws,rfl,q2,_,r2⟩:=o2.itemsT (O':=O++Fs2.flatten) h2 uf d2
   cases r1 with
   | @tup a vs _ hq hl hr=>
    refine ⟨a,p2,vs,ws,rfl,rfl,gm hid_le hq,q2,fun z=>?_,by rw [hl,r2.1];exact h3,fun z=>?_,fun z p' hp'=>w _ _ _ _ (Hw E1 (s1.trans s2) nw (Reps.app ⟨hl,hr⟩ r2) hp')⟩
    ·subst z
     cases xs with
     | nil=>simp at h0
     | cons _ _=>simp at hl
    ·subst z
     have e:ys=[]:=List.length_eq_zero_iff.mp (by rw [<-r2.1];rfl)
     subst e;have A:=C2 (Fs:=Fs) (H:=H) (d:=.tuple (xs++[])) (v:=.ref a) E1 (s1.trans s2) nw (by rw [append_nil];exact .tup hq hl hr)
     exact w _ _ _ _ A
 ·exact w.elim
theorem AL (h:tE K W (ik fa fb) σ H Q):JQ (Be K) (tE K W fa) (zu (tE K W fb)) qc σ H Q:=by
 refine C1 (R:=fun v u H2=>∃i,u=.int i/\Be K v (some i) none H2 Q) h fun He O Fs Γ2 p q v u H1 H2 G1 G2 Fs2 nd s1 s2 E new o1 o2 w=>?_
 obtain ⟨s,d⟩:=p;obtain ⟨s',d'⟩:=q;dsimp only at w o1 o2
 split at w
 ·rename_i xs k
  cases hc:(!s.isView&&decide (1<=k)&&decide (k<=xs.length)) with
  | false=>rw [hc] at w;exact w.elim
  | true=>
   rw [hc] at w;simp only [Bool.and_eq_true,decide_eq_true_eq,Bool.not_eq_true'] at hc
   obtain ⟨⟨h1,h2⟩,h3⟩:=hc;obtain ⟨d1,d2⟩:=CF E.nd;have E1:=E.drop (fun a ha=>KH _ (KH _ ha)) nd
   have nw:∀a∈Fs2.flatten,a∈Fs.flatten\/H a=none:=fun a ha=>new a (KH _ (KH _ ha))
   have r1:=o1.freeze (O':=O++Fs2.flatten) h1 uf d1
   have ru:=o2.rep
   cases ru;refine ⟨k,rfl,?_⟩
   cases r1 with
   | @tup a vs _ hq hl hr=>
    have ek:k=((k.toNat:Nat):Int):=by omega
    refine ⟨a,vs,rfl,gm hid_le hq,fun z=>?_,fun p' hp'=>?_⟩
    ·have z1:=z.1
     rw [ek,HT.sIx_nat] at z1;omega
    ·have ec:sS vs (some k) none=vs.drop k.toNat:=by
      unfold sS;rw [ek,HT.sIx_nat,HT.sIx_none,Int.toNat_natCast,take_of_length_le (by rw [length_drop];omega)]
      rw [Nat.min_eq_left (by omega)]
     rw [ec];exact w _ _ _ _ (Hw E1 (s1.trans s2) nw (Reps.drop k.toNat ⟨hl,hr⟩) hp')
 ·exact w.elim
noncomputable def jw (fa:F1):F1:=ba fa fun p Γ=>match p.d with
 | .list ds=>if aE p ds then .ok ⟨.leaf,.tuple ds⟩ Γ else .no
 | .tuple ds=>if !p.s.isView then .ok ⟨.leaf,.tuple ds⟩ Γ else .no
 | _=>.no
theorem uu (h:tE K W (jw fa) σ H Q):DY (fun xs H Q=>∃p ys,xs=[.ref p]/\((SqL K H p ys/\∀l,H l=none->Q (.ref l) (cy H l (.tup ys)))\/(SqT K H p ys/\Q (.ref p) H))) (tA K W (ab fa af)) σ H Q:=by
 refine Hn (QL:=fun xs H1=>∃p ys,xs=[.ref p]/\((SqL K H1 p ys/\∀l,H1 l=none->Q (.ref l) (cy H1 l (.tup ys)))\/(SqT K H1 p ys/\Q (.ref p) H1))) ?_
 refine wa h fun He O Fs Γ1 p v H1 G Fs1 nd A w=>?_
 obtain ⟨s,d⟩:=p
 cases d with
 | list ds=>
  have w:Wants K W He O Fs H σ Q (if aE ⟨s,.list ds⟩ ds then .ok ⟨.leaf,.tuple ds⟩ Γ1 else .no):=w
  cases hc:aE ⟨s,.list ds⟩ ds with
  | false=>rw [hc] at w;exact w.elim
  | true=>
   rw [hc] at w;obtain ⟨p,vs,rfl,hq,_,hr⟩:=A.own.items (O':=O++Fs1.flatten) hc mL A.disj
   exact ⟨p,vs,rfl,.inl ⟨hq,fun l hl=>w _ _ _ _ (Hw A.go A.same A.newF hr hl)⟩⟩
 | tuple ds=>
  have w:Wants K W He O Fs H σ Q (if !s.isView then .ok ⟨.leaf,.tuple ds⟩ Γ1 else .no):=w
  cases hc:s.isView with
  | true=>rw [hc] at w;exact w.elim
  | false=>
   rw [hc] at w;have r1:=A.own.freeze (O':=O++Fs1.flatten) hc mL A.disj
   cases r1 with
   | @tup a vs _ hq hl hr=>exact ⟨a,vs,rfl,.inr ⟨gm hid_le hq,w _ _ _ _ (C2 A.go A.same A.newF (.tup hq hl hr))⟩⟩
 | _=>exact w.elim
end
noncomputable def sF:List KY->Option KY
 | [.list ds]=>(fK ds).map fun ns=>.int ns.sum
 | _=>none
noncomputable def Ei (K:Fg):List V->Hp->VK->Prop:=fun xs H Q=>∃(p:Addr) (ns:List Int),xs=[.ref p]/\SqL K H p (ns.map V.int)/\Q (.int ns.sum) H
theorem rO {K:Fg} {H:Hp} {ws:List V} {ns:List Int} (h:Reps K H ws (ns.map .int)):ws=ns.map V.int:=by
 obtain ⟨hwl,hw⟩:=h;apply ext_getElem?
 intro i;by_cases hi:i<ws.length
 ·have hi2:i<ns.length:=by rw [length_map] at hwl;omega
  have q:=hw i (ws[i]'hi) (.int (ns[i]'hi2)) (KM _) (by rw [getElem?_map,KM hi2];rfl)
  rw [KM hi,getElem?_map,KM hi2];generalize ws[i]'hi=u at q
  cases q;rfl
 ·rw [getElem?_eq_none (by omega),getElem?_eq_none (by rw [length_map] at hwl ⊢;omega)]
theorem Cm {K:Fg}:GCall K (Ei K) sF:=by
 intro vs H Q ds d r e k;unfold sF at e;split at e
 ·rename_i es
  cases ei:fK es with
  | none=>rw [ei] at e;cases e
  | some ns=>
   rw [ei] at e
   cases e;rw [kS ei] at r;obtain ⟨v,rfl,q⟩:=r.one
   cases q with
   | @lst p ws _ hq hwl hw=>
    have ew:=rO ⟨hwl,hw⟩
    rw [ew] at hq;exact ⟨p,ns,rfl,hq,k _ (.int _)⟩
 ·cases e
theorem sX {X:Cx} (hc:X.calm=true):CallR X (.builtin "sum") (Ei X.K):=by
 intro pins s σ H vs us Q I rv h;obtain ⟨p,ns,rfl,hq,q⟩:=h;obtain ⟨u,rfl,ru⟩:=vals1 rv
 cases ru;obtain ⟨its,rv,pl,hz⟩:=I.list hq;have hi:=qJ rv
 obtain ⟨xs,ex⟩:=(hi.allInts:AllInts its.toArray).items
 have en:xs.toList.map (·.1)=ns:=by
  rw [<-nums_intItems,<-ex];exact hi.numsOf
 have hl:=pl.isList
 rw [ex] at hl;refine sum_intListG (I.ok.hd hc) hl fun h' tk t' hk=>?_
 rw [preSum_eq,en,take_of_length_le (by rw [<-en];simp)]
 exact ⟨.int ns.sum,H,I.kept (h':=h') (t':=tk) hk,⟨_,rfl⟩,q⟩
theorem Fh:bootBuiltins "sum"=some (.builtin "sum"):=by decide +kernel
noncomputable def cC (k:Str):List (Str×Int)->Option Int
 | []=>none
 | (x,i)::r=>if k=x then some i else cC k r
noncomputable def ua (a:Addr) (es:Array DictEntry) (tab:List (Str×Int)):Bool:=!(a==sysModules)&&KTD.rowsLook KTD.flatLooks es.toList (tab.map fun p=>(p.1,.int p.2))
noncomputable def qW (K:Fg) (mg:Str->Option Value) (x:Str) (tab:List (Str×Int)):Prop:=∃a es ep,mg x=some (.ref a)/\K.lookup a=some ⟨.type "dict",none,.dict es ep,#[]⟩/\ua a es tab=true
noncomputable def vX (X:Cx) (x:Str) (tab:List (Str×Int)):Prop:=qW X.K X.mg x tab
theorem yN {K:Fg} {mg:Str->Option Value} {x:Str} {a:Addr} {es:Array DictEntry} {ep:Nat} {tab:List (Str×Int)} (hm:mg x=some (.ref a)) (l:K.lookup a=some ⟨.type "dict",none,.dict es ep,#[]⟩) (h:ua a es tab=true):qW K mg x tab:=⟨a,es,ep,hm,l,h⟩
noncomputable def t9 (tab:List (Str×Int)):List (Str×KTD.Dat):=(tab.map fun p=>(p.1,PySem.PyData.int p.2)).map fun p=>(p.1,KTD.Dat.flat p.2)
theorem Ic {K:Fg} {h:Heap} {a:Addr} {es:Array DictEntry} {ep:Nat} {tab:List (Str×Int)} (hk:K.In h) (l:K.lookup a=some ⟨.type "dict",none,.dict es ep,#[]⟩) (hb:ua a es tab=true):KTD.Here h h a (t9 tab):=by
 unfold ua at hb;simp only [Bool.and_eq_true,Bool.not_eq_true'] at hb
 refine ⟨KTD.TabOf.text ⟨hb.1,_,es,ep,hk a _ l,⟨rfl,rfl,rfl⟩,rfl,KTD.rows_of_look (fun d v z=>KTD.flat_of_looks z) hb.2⟩,fun b o z=>z⟩
theorem Gd (k:Str):∀tab:List (Str×Int),KTD.datumAt k (t9 tab)=(cC k tab).map fun i=>KTD.Dat.flat (.int i)
 | []=>rfl
 | (x,i)::r=>by
  have ih:=Gd k r
  unfold t9 at ih ⊢
  simp only [map_cons,KTD.datumAt,cC]
  by_cases e:k=x
  ·simp [e]
  ·simp [e]
   simpa using ih
theorem nU {h:Heap} {k:Str} {P:Value->Prop} {i:Int} (hp:∀t,P (.int i t)):∀tab:List (Str×Int),cC k tab=some i->KTD.EachL h k P (t9 tab)
 | [],_=>trivial
 | [(x,j)],e=>fun hx=>by
  simp only [cC,hx,if_true,Option.some.injEq] at e
  subst e;exact hp
 | (x,j)::q::r,e=>by
  show (if decide (k=x)=true then KTD.Opened h P (.flat (.int j)) else KTD.EachL h k P (t9 (q::r)))
  by_cases hx:k=x
  ·rw [if_pos (decide_eq_true hx)]
   rw [cC,if_pos hx] at e
   cases e;exact hp
  ·rw [if_neg (by simp [hx])]
   rw [cC,if_neg hx] at e;exact nU hp (q::r) e
noncomputable def km (neg:Bool) (tab:List (Str×Int)) (fa:F1):F1:=ba fa fun p Γ=>match p.d with
 | .str k=>.ok ⟨.leaf,.bool (if neg then !(cC k tab).isSome else (cC k tab).isSome)⟩ Γ
 | _=>.no
noncomputable def jx (tab:List (Str×Int)) (fa:F1):F1:=ba fa fun p Γ=>match p.d with
 | .str k=>(match cC k tab with
  | some i=>.ok ⟨.leaf,.int i⟩ Γ
  | none=>.no)
 | _=>.no
section
variable {K:Fg} {W:XW} {σ:St} {H:Hp} {Q:VK} {fa:F1}
theorem uz {neg:Bool} {tab:List (Str×Int)} (h:tE K W (km neg tab fa) σ H Q):tE K W fa σ H fun x H1=>∃k,x=.str k/\Q (.bl (if neg then !(cC k tab).isSome else (cC k tab).isSome)) H1:=by
 refine wa h fun He O Fs Γ1 p v H1 G Fs1 nd A w=>?_
 obtain ⟨s,d⟩:=p;have r:=A.own.rep
 cases r with
 | str k=>exact ⟨k,rfl,Wants.scal w (.bl _) A.same A.env (fun a ha=>KH _ ha) nd A.newF⟩
 | _=>exact w.elim
theorem xC {tab:List (Str×Int)} (h:tE K W (jx tab fa) σ H Q):tE K W fa σ H fun x H1=>∃k i,x=.str k/\cC k tab=some i/\Q (.int i) H1:=by
 refine wa h fun He O Fs Γ1 p v H1 G Fs1 nd A w=>?_
 obtain ⟨s,d⟩:=p;have r:=A.own.rep
 cases r with
 | str k=>
  have w:Wants K W He O Fs H σ Q (match cC k tab with | some i=>.ok ⟨.leaf,.int i⟩ Γ1 | none=>.no):=w
  cases e:cC k tab with
  | none=>rw [e] at w;exact w.elim
  | some i=>
   rw [e] at w;exact ⟨k,i,rfl,e,Wants.scal w (.int _) A.same A.env (fun a ha=>KH _ ha) nd A.newF⟩
 | _=>exact w.elim
end
section
variable {X:Cx} {N gl:List Str} {vs cs ls lo gs:List Nat} {W:XW} {a b c e:Expr} {es:List Expr} {pos p:Pos} {fa fb fc:F1} {fl:FL} {g:FS}
theorem BG {x:Str} {tab:List (Str×Int)} (S:Cp X N gl vs cs ls lo gs) (j:Nat) (hj:gl[j]?=some x) (hg:gs.contains j=true) (Tb:vX X x tab) (ha:PE X a (tE X.K W fa)):PC X .In a (.Name x p) (tE X.K W (km false tab fa)):=by
 intro pins s σ H Q I h;obtain ⟨d,es,ep,hm,l,hb⟩:=Tb;refine b6 (ha pins s σ H _ I (uz h)) fun v s1 ⟨y,H1,I1,r1,k,ey,q⟩=>?_
 subst ey;obtain ⟨t,rfl⟩:=r1;refine Dt I1 (S.g hj hg).1 hm ?_ (S.g hj hg).2.1
 refine KTD.in_text (Ic I1.kIn l hb) ?_
 refine ⟨.bl _,H1,I1.tok _,?_,q⟩
 rw [<-KTD.isSome_datumAt,Gd,Option.isSome_map];rfl
theorem r9 {x:Str} {tab:List (Str×Int)} (S:Cp X N gl vs cs ls lo gs) (j:Nat) (hj:gl[j]?=some x) (hg:gs.contains j=true) (Tb:vX X x tab) (ha:PE X a (tE X.K W fa)):PC X .NotIn a (.Name x p) (tE X.K W (km true tab fa)):=by
 intro pins s σ H Q I h;obtain ⟨d,es,ep,hm,l,hb⟩:=Tb;refine b6 (ha pins s σ H _ I (uz h)) fun v s1 ⟨y,H1,I1,r1,k,ey,q⟩=>?_
 subst ey;obtain ⟨t,rfl⟩:=r1;refine Dt I1 (S.g hj hg).1 hm ?_ (S.g hj hg).2.1
 refine KTD.notin_text (Ic I1.kIn l hb) ?_
 refine ⟨.bl _,H1,I1.tok _,?_,q⟩
 rw [<-KTD.isSome_datumAt,Gd,Option.isSome_map];rfl
end
noncomputable def yo (i:Nat) (q:PV) (Γ:Ev):Out PV:=match Γ[i]?,q.d with
 | some (some ⟨.lst .leaf,.list ds⟩),.int k=>(match eT ds.length k with
  | some j=>(match ds[j]? with
   | some d=>.ok ⟨.leaf,d⟩ Γ
   | none=>.no)
  | none=>.no)
 | _,_=>.no
noncomputable def d6 (i:Nat) (fb:F1):F1:=fun Γ=>if cI Γ[i]? then (fb Γ).bind (yo i) else .no
section
variable {K:Fg} {W:XW} {σ:St} {H:Hp} {Q:VK} {D:jP} {fa fb:F1} {fl:FL}
theorem xy {i:Nat} (h:tE K W (d6 i fb) σ H Q):w6 (Jo K) (fx i) (tE K W fb) σ H Q:=by
 obtain ⟨He,O,Fs,Γ,E,h⟩:=h;unfold d6 at h
 cases ho:cI Γ[i]? with
 | false=>rw [ho] at h;exact h.elim
 | true=>
  rw [ho] at h;obtain ⟨ds,e0⟩:=Im ho;obtain ⟨l,vs,h1,h2,h3,_,_⟩:=E.chgF e0;refine ⟨.ref l,h1,?_⟩
  refine wa (k:=yo i) ⟨He,O,Fs,Γ,E,h⟩ fun He O Fs Γ1 q u H1 G Fs1 nd A w=>?_
  unfold yo at w;split at w
  ·rename_i ds1 k e1 e2
   obtain ⟨l1,vs1,q1,q2,q3,q4,_⟩:=A.go.chgF e1;rw [h1] at q1
   cases q1;have r:=A.own.rep
   rw [e2] at r
   cases r
   cases hj:eT ds1.length k with
   | none=>rw [hj] at w;exact w.elim
   | some j=>
    rw [hj] at w;have w:Wants K W He O Fs H σ Q (match ds1[j]? with | some d=>.ok ⟨.leaf,d⟩ Γ1 | none=>.no):=w
    cases hd:ds1[j]? with
    | none=>rw [hd] at w;exact w.elim
    | some d=>
     rw [hd] at w;have hjl:j<vs1.length:=by rw [q3];exact (KQ hd).1
     have hv:vs1[j]?=some (vs1[j]'hjl):=KM _
     refine .inl ⟨l,vs1,k,vs1[j]'hjl,rfl,rfl,.of q2,G7 q3 hj hv,?_⟩
     exact w _ _ _ _ (C2 A.go A.same A.newF (q4 j _ d hv hd))
  ·exact w.elim
noncomputable def nR (p:PV):Bool:=match p with
 | ⟨.lst .leaf,.list ds⟩=>ds.all bP
 | _=>false
noncomputable def dB (n:Nat) (den:List KY->bS) (fl:FL):F1:=fun Γ=>(fl Γ).bind fun ps Γ'=>if ps.length=n then (match den (ps.map (·.d)) with
 | .ok p=>if nR p then .ok p Γ' else .no
 | _=>.no) else .no
theorem uD {n:Nat} {den:List KY->bS} {E:XK} (h:tE K W (dB n den fl) σ H Q):ud (rB K n den) [] E (tA K W fl) σ H Q:=by
 obtain ⟨He,O,Fs,Γ,E0,h⟩:=h;refine ⟨He,O,Fs,Γ,E0,?_⟩
 unfold dB at h
 cases e:fl Γ with
 | er c Γ'=>rw [e] at h;exact h
 | no=>rw [e] at h;exact h
 | ok ps Γ1=>
  rw [e] at h;intro vs H1 Gs Fs1 A;have h:Wants K W He O Fs H σ Q (if ps.length=n then (match den (ps.map (·.d)) with | .ok p=>if nR p then .ok p Γ1 else .no | _=>.no) else .no):=h
  by_cases hn:ps.length=n
  case neg=>rw [if_neg hn] at h;exact h.elim
  rw [if_pos hn] at h;have hl:(vs++[]).length=n:=by rw [append_nil,A.len1];exact hn
  cases ed:den (ps.map (·.d)) with
  | er c=>rw [ed] at h;exact h.elim
  | no=>rw [ed] at h;exact h.elim
  | ok p=>
   rw [ed] at h;have h:Wants K W He O Fs H σ Q (if nR p then .ok p Γ1 else .no):=h
   have newF:∀a∈Fs1.flatten,a∈Fs.flatten\/H a=none:=fun a ha=>A.new a (KH _ ha)
   cases hc:nR p with
   | false=>rw [hc] at h;exact h.elim
   | true=>
    rw [hc] at h;have h:Wants K W He O Fs H σ Q (.ok p Γ1):=h
    refine ⟨hl,[],ps.map (·.d),nodup_nil,(fun _ z=>nomatch z),by rw [append_nil,Hs];exact A.reps,?_⟩
    rw [ed];intro v H2 G r;unfold nR at hc;split at hc
    ·rename_i ds
     obtain ⟨l,us,rfl,rfl,hp,hul,hr⟩:=r.own.leaves;refine h (.ref l) H2 [l] Fs1 ⟨A.same.trans r.same,A.env.dropL.hide r.same r.nd r.fresh r.inH,fun a ha=>?_,Own.mkLeaves hp hul fun j u d e1 e2=>((hr j u d e1 e2).sc (List.all_eq_true.mp hc d (mem_of_getElem? e2))).rep⟩
     rcases KJ ha with z | z
     ·exact .inr (A.same.free (r.fresh a z))
     ·exact newF a z
    ·cases hc
noncomputable def vQ (i:Nat) (a:Int) (p:PV) (Γ:Ev):dS:=match p.d with
 | .int b=>if i<Γ.length then .nx (Γ.set i (KZ (.int (a+b)))) else .no
 | _=>.no
noncomputable def fm (i:Nat) (f:F1):FS:=fun Γ=>match Γ[i]? with
 | some (some ⟨.leaf,.int a⟩)=>jS f (vQ i a) Γ
 | _=>.no
theorem A6 {i:Nat} (h:tS K W (fm i fa) D σ H):D0 i (tE K W fa) (Ki fun i j=>i+j) D σ H:=by
 obtain ⟨He,O,Fs,Γ,E,h⟩:=h;unfold fm at h;split at h
 ·rename_i a e0
  obtain ⟨_,v,F,h1,h2,h3⟩:=E.slot i _ e0;have r:=h3.rep
  cases r;refine ⟨.int a,h1,?_⟩
  refine i8 (D:=D) (k:=vQ i a) ⟨He,O,Fs,Γ,E,h⟩ fun He O Fs Γ1 p u H1 G Fs1 _ fr A w=>?_
  unfold vQ at w;split at w
  ·rename_i b eb
   have r:=A.own.rep
   rw [eb] at r
   cases r;by_cases hi:i<Γ1.length
   ·rw [if_pos hi] at w
    exact ⟨a,b,rfl,rfl,w _ _ _ (EnvOk.put (G:=[]) (p:=⟨.leaf,.int (a+b)⟩) (v:=.int (a+b)) A.go (.leaf (.int _)) rfl (fun a ha=>by simp at ha) hi)⟩
   ·rw [if_neg hi] at w;exact w.elim
  ·exact w.elim
 ·exact h.elim
noncomputable def yA (i:Nat) (p:PV) (Γ:Ev):dS:=match Γ[i]?,p.d with
 | some (some ⟨.lst .leaf,.list ds⟩),.tuple es=>if aE p es&&decide (ds.length+es.length<=sizeLine) then .nx (Γ.set i (some ⟨.lst .leaf,.list (ds++es)⟩)) else .no
 | some (some ⟨.lst .leaf,.list ds⟩),.list es=>if aE p es&&decide (ds.length+es.length<=sizeLine) then .nx (Γ.set i (some ⟨.lst .leaf,.list (ds++es)⟩)) else .no
 | _,_=>.no
noncomputable def gK (i:Nat) (f:F1):FS:=fun Γ=>if cI Γ[i]? then jS f (yA i) Γ else .no
noncomputable def Bh (K:Fg):V->List V->Hp->VK->Prop:=fun x vs H Q=>∃l b xs zs,x=.ref l/\vs=[.ref b]/\H l=some (.lst xs)/\(SqL K H b zs\/SqT K H b zs)/\xs.length+zs.length<=sizeLine/\Q .non (cy H l (.lst (xs++zs)))
theorem AY {i:Nat} (h:tS K W (gK i fa) D σ H):qf (DZ K "list" (Bh K) (fx i) (tA K W (ab fa af))) D σ H:=by
 obtain ⟨He,O,Fs,Γ,E,h⟩:=h;unfold gK at h
 cases ho:cI Γ[i]? with
 | false=>rw [ho] at h;exact h.elim
 | true=>
  rw [ho] at h;obtain ⟨ds,e0⟩:=Im ho;obtain ⟨l,vs,h1,h2,h3,_,_⟩:=E.chgF e0;refine ⟨.ref l,h1,.inl ⟨rfl,vs,.of h2⟩,Hn (i8 (D:=D) ⟨He,O,Fs,Γ,E,h⟩ fun He O Fs Γ1 p v H1 G Fs1 _ fr A w=>?_)⟩
  obtain ⟨s,d⟩:=p;have fin:∀(ds1 es:List KY) (b:Addr) (ws:List V),Γ1[i]?=some (some ⟨.lst .leaf,.list ds1⟩)->v=.ref b->(SqL K H1 b ws\/SqT K H1 b ws)->Reps K (dD H1 (O++Fs1.flatten)) ws es->ds1.length+es.length<=sizeLine ->
    cS K W He O D (.nx (Γ1.set i (some ⟨.lst .leaf,.list (ds1++es)⟩)))->Bh K (.ref l) [v] H1 (fun _ H2=>D.nx σ H2):=fun ds1 es b ws e1 hv hq hr hz w=>by
   obtain ⟨l1,vs1,q1,q2,q3,q4,q5⟩:=A.go.chgF e1;rw [h1] at q1
   cases q1;subst hv;refine ⟨l,b,vs1,ws,rfl,rfl,q2,hq,by rw [q3,hr.1];exact hz,w σ _ _ (q5 (vs1++ws) (ds1++es) (by rw [length_append,length_append,q3,hr.1]) ?_)⟩
   exact (Reps.app ⟨q3,q4⟩ hr).2
  unfold yA at w;split at w
  ·rename_i ds1 es e1 e2
   dsimp only at e2;subst e2
   cases hc:(aE ⟨s,.tuple es⟩ es&&decide (ds1.length+es.length<=sizeLine)) with
   | false=>rw [hc] at w;exact w.elim
   | true=>
    rw [hc] at w;simp only [Bool.and_eq_true,decide_eq_true_eq] at hc
    obtain ⟨b,ws,rfl,hq,_,hr⟩:=A.own.itemsT (O':=O++Fs1.flatten) hc.1 mL A.disj
    exact fin ds1 es b ws e1 rfl (.inr hq) hr hc.2 w
  ·rename_i ds1 es e1 e2
   dsimp only at e2;subst e2
   cases hc:(aE ⟨s,.list es⟩ es&&decide (ds1.length+es.length<=sizeLine)) with
   | false=>rw [hc] at w;exact w.elim
   | true=>
    rw [hc] at w;simp only [Bool.and_eq_true,decide_eq_true_eq] at hc
    obtain ⟨b,ws,rfl,hq,_,hr⟩:=A.own.items (O':=O++Fs1.flatten) hc.1 mL A.disj
    exact fin ds1 es b ws e1 rfl (.inl hq) hr hc.2 w
  ·exact w.elim
end
theorem Jz {l b:Addr} {xs ys:Array Value} {n m:Nat} {d2:Option Addr} {s2:Array (Option Value)} (h0:¬(!xs.isEmpty&&Builtin.List.listTooLong (xs.size+ys.size))=true) (h1:xs.size<=sizeLine) (h2:(xs++ys).size<=sizeLine+1) :
  Meets (Builtin.«list.extend» ⟨[.ref l,.ref b],[]⟩) (fun _ R s=>s.heap.get? l=some ⟨.type "list",none,.seq xs n,#[]⟩/\s.heap.get? b=some ⟨.type "tuple",d2,.seq ys m,s2⟩ /\
   R (.ok (.ret Value.none)) { s with heap:=s.heap.update l (Obj.mapSeq fun x=>x++ys),toks:=s.toks }):=
 .of_wp fun prog w A R s h=>by
  obtain ⟨hp,g,d,tk,os⟩:=s;obtain ⟨hl,hb,h⟩:=h;have f1:=AutoSeq1.idx_int
  have f2:=AutoSeq1.sub_tuple_tuple
  have f3:=AutoSeq1.sub_list_list
  have f4:=AutoSeq1.sub_tuple_list
  have f5:=AutoSeq1.sub_list_tuple
  wp_walk using (wpAny_updateSeq hl rfl (hz:=h1) (_hz':=h2)),AutoSeq1.wpAny_loadPart' hl,AutoSeq1.wpAny_loadPart' hb
  exact ⟨_,rfl,h⟩
theorem JA {l b:Addr} {xs ys:Array Value} {n m:Nat} {d2:Option Addr} {s2:Array (Option Value)} (h0:¬(!xs.isEmpty&&Builtin.List.listTooLong (xs.size+ys.size))=true) (h1:xs.size<=sizeLine) (h2:(xs++ys).size<=sizeLine+1) :
  Meets (Builtin.«list.extend» ⟨[.ref l,.ref b],[]⟩) (fun _ R s=>s.heap.get? l=some ⟨.type "list",none,.seq xs n,#[]⟩/\s.heap.get? b=some ⟨.type "list",d2,.seq ys m,s2⟩ /\
   R (.ok (.ret Value.none)) { s with heap:=s.heap.update l (Obj.mapSeq fun x=>x++ys),toks:=s.toks }):=
 .of_wp fun prog w A R s h=>by
  obtain ⟨hp,g,d,tk,os⟩:=s;obtain ⟨hl,hb,h⟩:=h;have f1:=AutoSeq1.idx_int
  have f2:=AutoSeq1.sub_tuple_tuple
  have f3:=AutoSeq1.sub_list_list
  have f4:=AutoSeq1.sub_tuple_list
  have f5:=AutoSeq1.sub_list_tuple
  wp_walk using (wpAny_updateSeq hl rfl (hz:=h1) (_hz':=h2)),AutoSeq1.wpAny_loadPart' hl,AutoSeq1.wpAny_loadPart' hb
  exact ⟨_,rfl,h⟩
theorem BS {X:Cx}:Kr X "list.extend" (Bh X.K):=by
 intro pins s σ H x vs v us Q I rx rv h;obtain ⟨l,b,xs,zs,rfl,rfl,hH,hB,hz,q⟩:=h
 cases rx;obtain ⟨u,rfl,ru⟩:=rv.one
 cases ru;obtain ⟨z,its,n,r,hl,e⟩:=I.lstM hH;have fin:∀its2:List Value,Vals zs its2->its.toArray.size+its2.toArray.size<=sizeLine/\(its.toArray++its2.toArray).size<=sizeLine+1/\its.toArray.size<=sizeLine/\¬(!its.toArray.isEmpty&&Builtin.List.listTooLong (its.toArray.size+its2.toArray.size))=true /\
   EP X pins σ Q Value.none { s with heap:=s.heap.update l (Obj.mapSeq fun x=>x++its2.toArray),toks:=s.toks }:=fun its2 r2=>by
  have h1:its.toArray.size+its2.toArray.size<=sizeLine:=by rw [size_toArray,size_toArray,<-r.length,<-r2.length];exact hz
  refine ⟨h1,by rw [Array.size_append];omega,by omega,?_,?_⟩
  ·rw [uW h1,Bool.and_false]
   exact Bool.false_ne_true
  ·exact ⟨.non,_,I.lset (its':=its++its2) hH e (by simp) (r.append r2) (by rw [length_append];exact hz),rfl,q⟩
 rcases hB with hB | hB
 ·obtain ⟨its2,r2,⟨⟨c2,d2,dat2,s2⟩,n2,e2,ec,ed,es⟩,_⟩:=I.list hB
  simp only at ec es
  subst ec es;obtain ⟨f1,f2,f3,f4,f5⟩:=fin its2 r2;exact call_meets F.slot_list_extend ⟨_,e,rfl⟩ F.entry_list_extend (F.args_list_extend_2 _ _) (JA f4 f3 f2) ⟨e,e2,f5⟩
 ·obtain ⟨its2,r2,⟨⟨c2,d2,dat2,s2⟩,e2,ec,n2,es⟩,_⟩:=I.tuple hB
  simp only at ec es
  subst ec es;obtain ⟨f1,f2,f3,f4,f5⟩:=fin its2 r2;exact call_meets F.slot_list_extend ⟨_,e,rfl⟩ F.entry_list_extend (F.args_list_extend_2 _ _) (Jz f4 f3 f2) ⟨e,e2,f5⟩
section
variable {X:Cx} {N gl:List Str} {vs cs ls lo gs:List Nat} {W:XW} {a b c e:Expr} {es:List Expr} {pos p:Pos} {fa fb fc:F1} {fl:FL} {g:FS}
theorem cs_extend (S:Cp X N gl vs cs ls lo gs) (i:Nat) {x:Str} {apos cpos:Pos} (hi:N[i]?=some x) (hv:vs.contains i=true) (ha:PE X a (tE X.K W fa)) (hs:starEach [a] X.env=[(false,eval a X.env)])
  (hbase:attributeBase (.Name x p) "extend" X.env (eval (.Name x p) X.env)=eval (.Name x p) X.env) (hline:(apos.endLine==cpos.line)=true)
  (hfew:((backTo cpos (starEach [a] X.env)).all (fun x=>!x.1)&&(backToKw cpos (keywordEach [] X.env)).all (fun x=>x.1.isSome)
   && decide ([a].length+([]:List Keyword).length+(if ([]:List Keyword).isEmpty then 0 else 1)<30))=true)
  (hsw:swapsWith (.Call (.Attribute (.Name x p) "extend" apos) [a] [] cpos) none pos.line X.env=pure false) :
  PS X (.Expr (.Call (.Attribute (.Name x p) "extend" apos) [a] [] cpos) pos) (tS X.K W (gK i fa)):=by
 have m:=S.nm x (mem_of_getElem? hi)
 exact fP (HA (qy PySem.F.plainAttrs_list PySem.F.slot_list_extend PySem.F.type_list_extend BS (Aa (by rw [S.hN];exact hi) (S.vis i x hi hv) m.1 m.2) (da_cons ha da_nil hs) hbase hfew hline hs rfl) hsw) fun _ _ _=>AY
theorem E8 {P:Program} {w:World} {K:Fg} {mg:Str->Option Value} {base:Heap} {k:Nat} {f:Addr} {fd:FuncData} {ps:List Str}:gy P w K mg base pY k f fd ps (rB K ps.length fun _=>.no):=
 ⟨fun vs H Q E h=>h.1,fun A outer s H args us vs Q E hr he hb hv h=>by
  obtain ⟨_,_,_,_,_,_,w⟩:=h;exact w.elim⟩
end
end T
namespace TQ
open PySem PySem.Spec L2 T
open PyProof.Rows hiding St
section
variable {X:Cx} {N gl:List Str} {vs cs ls lo gs:List Nat} {W:XW} {a b c e:Expr} {es:List Expr} {pos p:Pos} {fa fb fc:F1} {fl:FL} {ga gb:FB} {g1 g2 g:FS}
theorem tR (ha:Q (PE X a (tE X.K W fa))) (hb:Q (PE X b (tE X.K W fb))):Q (PE X (.BinOp a .Add b pos) (tE X.K W (vB fa fb))):=⟨have ha:=ha.p;have hb:=hb.p;bp (iy ya ha hb) fun _ _ _=>AZ⟩
theorem kE (ha:Q (PE X a (tE X.K W fa))) (hb:Q (PE X b (tE X.K W fb))):Q (PE X (.BinOp a .Add b pos) (tE X.K W (jy fa fb))):=⟨have ha:=ha.p;have hb:=hb.p;bp (iy xZ ha hb) fun _ _ _=>xF⟩
theorem Ih {p2:Pos} (ha:Q (PE X a (tE X.K W fa))) (hb:Q (PE X b (tE X.K W fb))):Q (PE X (.Subscript a (.Slice (some b) none none p2) pos) (tE X.K W (ik fa fb))):=⟨have ha:=ha.p;have hb:=hb.p;bp (nh Ax ha (Hz hb) xO) fun _ _ _=>AL⟩
theorem oK (S:Cp X N gl vs cs ls lo gs) (j:Nat) (hj:gl[j]?=some ("tuple":Str)) (hg:gs.contains j=true) (hm:X.mg "tuple"=none) (ha:Q (PE X e (tE X.K W fa))) (hs:starEach [e] X.env=[(false,eval e X.env)]):Q (PE X (.Call (.Name "tuple" p) [e] [] pos) (tE X.K W (jw fa))):=⟨have ha:=ha.p;bp (kL kx (S.g hj hg).1 hm HM (da_cons ha da_nil hs) (by decide) (by decide) hs rfl) fun _ _ _=>uu⟩
theorem tV (S:Cp X N gl vs cs ls lo gs) (j:Nat) (hj:gl[j]?=some ("sum":Str)) (hg:gs.contains j=true) (hm:X.mg "sum"=none) (ha:Q (PA X (e::es) (tA X.K W fl))) (he:starEach (e::es) X.env=(false,eval e X.env)::starEach es X.env) (hpl:(backTo pos (starEach es X.env)).any (·.1)=false):Q (PE X (.Call (.Name "sum" p) (e::es) [] pos) (tE X.K W (bJ sF fl))):=⟨have ha:=ha.p;qP (sX S.calm) Cm Fh hm ha (S.g hj hg).1 (S.g hj hg).2.2 (S.g hj hg).2.1 he hpl⟩
theorem i6 {x:Str} {tab:List (Str×Int)} (S:Cp X N gl vs cs ls lo gs) (j:Nat) (hj:gl[j]?=some x) (hg:gs.contains j=true) (Tb:vX X x tab) (ha:Q (PE X a (tE X.K W fa))):Q (PE X (.Compare a [.In] [.Name x p] pos) (tE X.K W (km false tab fa))):=⟨have ha:=ha.p;BE (BG S j hj hg Tb ha) rfl⟩
theorem jV {x:Str} {tab:List (Str×Int)} (S:Cp X N gl vs cs ls lo gs) (j:Nat) (hj:gl[j]?=some x) (hg:gs.contains j=true) (Tb:vX X x tab) (ha:Q (PE X a (tE X.K W fa))):Q (PT X (.Compare a [.NotIn] [.Name x p] pos) (tT X.K W (aL ai (km true tab fa)))):=⟨have ha:=ha.p;qU (Bo (r9 S j hj hg Tb ha) rfl) fun _ _ _=>qp fun Q h=>h⟩
theorem kD {x:Str} {tab:List (Str×Int)} (S:Cp X N gl vs cs ls lo gs) (j:Nat) (hj:gl[j]?=some x) (hg:gs.contains j=true) (Tb:vX X x tab) (ha:Q (PE X a (tE X.K W fa))) (hs:g6 a):Q (PE X (.Subscript (.Name x p) a pos) (tE X.K W (jx tab fa))):=⟨by
 have ha:=ha.p
 intro pins s σ H Q I h;obtain ⟨d,es,ep,hm,l,hb⟩:=Tb;refine Subscript_ (Dt I (S.g hj hg).1 hm ?_ (S.g hj hg).2.1)
 refine b6 (ha pins s σ H _ I (xC h)) fun v s1 ⟨y,H1,I1,r1,k,i,ey,e,q⟩=>?_
 subst ey;obtain ⟨t,rfl⟩:=r1;refine KTD.item_text (Ic I1.kIn l hb) ?_ (nU (fun t'=>⟨.int i,H1,I1.tok _,⟨_,rfl⟩,q⟩) tab e) (hs _ _)
 rw [<-KTD.isSome_datumAt,Gd,e];rfl⟩
theorem H0 (S:Cp X N gl vs cs ls lo gs) (i:Nat) {x:Str} (hi:N[i]?=some x) (hv:vs.contains i=true) (hb:Q (PE X b (tE X.K W fb))) (hs:g6 b):Q (PE X (.Subscript (.Name x p) b pos) (tE X.K W (d6 i fb))):=⟨by
 have hb:=hb.p
 have m:=S.nm x (mem_of_getElem? hi)
 exact bp (zA vc (Aa (by rw [S.hN];exact hi) (S.vis i x hi hv) m.1 m.2) hb hs) fun _ _ _=>xy⟩
theorem tU {x:Str} {n:Nat} {den:List KY->bS} (S:Cp X N gl vs cs ls lo gs) (j:Nat) (hj:gl[j]?=some x) (hg:gs.contains j=true) (C:Fz X x n den) (ha:Q (PA X (e::es) (tA X.K W fl))) (he:starEach (e::es) X.env=(false,eval e X.env)::starEach es X.env) (hpl:(backTo pos (starEach es X.env)).any (·.1)=false):Q (PE X (.Call (.Name x p) (e::es) [] pos) (tE X.K W (dB n den fl))):=⟨by
 have ha:=ha.p
 obtain ⟨k,f,fd,ps,F,hr,hm,hk,hb⟩:=C;exact bp (qx F hr (S.g hj hg).1 hm hk hb .nil zC ha (S.g hj hg).2.1 he hpl) fun _ _ _=>uD⟩
theorem Ii (S:Cp X N gl vs cs ls lo gs) (i:Nat) {x:Str} {pos':Pos} (hi:N[i]?=some x) (hl:ls.contains i=true) (ha:Q (PE X a (tE X.K W fa))):Q (PS X (.AugAssign (.Name x pos') .Add a pos) (tS X.K W (fm i fa))):=⟨have ha:=ha.p;fP (Bs (by rw [S.hN];exact S.nd) (by rw [S.hN];exact hi) (S.loc i x hi hl).1 ha B5 (S.loc i x hi hl).2) fun _ _ _=>A6⟩
theorem ip (S:Cp X N gl vs cs ls lo gs) (i:Nat) {x:Str} {apos cpos:Pos} (hi:N[i]?=some x) (hv:vs.contains i=true) (ha:Q (PE X a (tE X.K W fa))) (hs:starEach [a] X.env=[(false,eval a X.env)]) (hbase:attributeBase (.Name x p) "extend" X.env (eval (.Name x p) X.env)=eval (.Name x p) X.env) (hline:(apos.endLine==cpos.line)=true) (hfew:((backTo cpos (starEach [a] X.env)).all (fun x=>!x.1)&&(backToKw cpos (keywordEach [] X.env)).all (fun x=>x.1.isSome)
   && decide ([a].length+([]:List Keyword).length+(if ([]:List Keyword).isEmpty then 0 else 1)<30))=true) (hsw:swapsWith (.Call (.Attribute (.Name x p) "extend" apos) [a] [] cpos) none pos.line X.env=pure false):Q (PS X (.Expr (.Call (.Attribute (.Name x p) "extend" apos) [a] [] cpos) pos) (tS X.K W (gK i fa))):=⟨T.cs_extend S i hi hv ha.p hs hbase hline hfew hsw⟩
theorem Ag {tg:Expr} (ha:Q (PE X a (tE X.K W fa))):Q (PI X tg a (tI X.K W (bV fa))):=⟨have ha:=ha.p;qV (Bu ha) fun _ _ _=>xA⟩
end
end TQ
namespace T
open PySem PySem.Spec L2
open PyProof.Rows hiding St
noncomputable def vq (neg:Bool):KY->KY->Option KY
 | .bool a,.bool b=>some (.bool (if neg then a != b else a==b))
 | _,_=>none
theorem xX {X:Cx}:OpR X (compareOp .IsNot) (fun x y H Q=>∃a b,x=.bl a/\y=.bl b/\Q (.bl (a != b)) H):=by
 intro pins s σ H x y v u Q I rx ry h;obtain ⟨a,b,rfl,rfl,q⟩:=h
 cases rx
 cases ry;exact isnot_bool (Do I q rfl)
theorem vm {K:Fg}:GOp K (fun x y H Q=>∃a b,x=.bl a/\y=.bl b/\Q (.bl (a != b)) H) (vq true):=by
 intro x y H Q a b d ra rb e k
 cases ra<;>cases rb<;>simp only [vq] at e<;>try cases e
 exact ⟨_,_,rfl,rfl,k _ (.bl _)⟩
theorem Bj {X:Cx} (R:Rm X):Ck X .IsNot (fun x y H Q=>∃a b,x=.bl a/\y=.bl b/\Q (.bl (a != b)) H) (vq true):=⟨xX,vm⟩
theorem vL {K:Fg} {mg:Str->Option Value} {x y:Str} {a b:Addr} {dd d2:Option Addr} {its i2:Array Value} {n n2:Nat} {sl sl2:Array (Option Value)} {t:Tok} {ds:List KY} (hm:mg x=some (.ref a)) (l:K.lookup a=some ⟨.type "tuple",dd,.seq its n,sl⟩)
  (hi:its.toList=[.str y t,.ref b]) (l2:K.lookup b=some ⟨.type "tuple",d2,.seq i2 n2,sl2⟩) (h:sW i2 ds=true):fh K mg x (.tuple [.str y,.tuple ds]):=by
 have hz:its.size<=sizeLine:=by
  rw [<-Array.length_toList,hi];show 2<=sizeLine
  decide
 unfold sW at h;simp only [Bool.and_eq_true,decide_eq_true_eq] at h
 obtain ⟨v,s⟩:=FR h.2;have inner:∀H,Rep K H (.ref b) (.tuple ds):=fun H=>.tup (vs:=ds.map Gv) (.inr ⟨_,i2,n2,l2,rfl,rfl,h.1,v⟩) (by simp) fun i v d h1 h2=>by
  rw [getElem?_map,h2] at h1
  cases h1;exact (s d (mem_of_getElem? h2)).rep
 refine ⟨.ref a,.ref a,hm,rfl,fun H=>.tup (vs:=[.str y,.ref b]) (.inr ⟨_,its,n,l,rfl,rfl,hz,by rw [hi];exact .cons ⟨t,rfl⟩ (.cons rfl .nil)⟩) rfl fun i v d h1 h2=>?_⟩
 match i,h1,h2 with
 | 0,h1,h2=>cases h1;cases h2;exact .str y
 | 1,h1,h2=>cases h1;cases h2;exact inner H
 | i+2,h1,h2=>simp at h1
noncomputable def Ej:V->Option Int->Option Int->Hp->VK->Prop:=fun x lo hi H Q=>∃z,x=.str z/\z.length<=sizeLine/\Q (.str (Txt.slice z lo hi)) H
theorem nj {v:Value} {o:Option Int} (h:IsPart v o):∃p:Option (Int×Tok),v=partValue p/\p.map (·.1)=o:=by
 cases h with
 | none=>exact ⟨none,rfl,rfl⟩
 | int i t=>exact ⟨some (i,t),rfl,rfl⟩
theorem Ay {X:Cx}:JG X Ej:=by
 intro pins s σ H x v vl vu lo hi sl Q I rx hs pl pu h;obtain ⟨z,rfl,hz,q⟩:=h;obtain ⟨t,rfl⟩:=rx;obtain ⟨l,rfl,rfl⟩:=nj pl;obtain ⟨u,rfl,rfl⟩:=nj pu;refine ⟨"str",_,F.slot_str_getitem.lookup,typeIs_str _ _ _,wpAny_getItem_str_slice (l:=l) (u:=u) (st:=none) hs rfl ?_⟩
 exact post_val_or_str ⟨Nat.le_trans (Txt.slice_le z _ _) hz,fun t' k=>⟨.str (Txt.slice z (l.map (·.1)) (u.map (·.1))),H,I.tok _,⟨_,rfl⟩,q⟩⟩
theorem DA:(1000:Nat)<=sizeLine:=by decide
theorem Iu {i:Nat} {fc:FB} {fe:F1} {s:Sh} {c:D->Bool} {f:D->PV} {Γ:Ev} (hΓ:Γ.set i none=Γ):∀(r acc:List D),(∀d∈r,fc (Γ.set i (KZ d))=.ok (c d) (Γ.set i (KZ d))) ->
  (∀d∈r,c d=true->fe (Γ.set i (KZ d))=.ok (f d) (Γ.set i (KZ d))/\coer s (f d)=true)->acc.length+r.length<=sizeLine->cY i fc fe s r Γ acc=.ok (acc++((r.filter c).map fun d=>(f d).d)) Γ
 | [],acc,_,_,_=>by simp [cY]
 | d::r,acc,hc,he,hl=>by
  have h1:=hc d mem_cons_self
  have hl1:acc.length<sizeLine:=by simp at hl;omega
  have back:(Γ.set i (KZ d)).set i none=Γ:=by rw [set_set];exact hΓ
  rw [cY,h1]
  cases hcd:c d with
  | false=>
   dsimp only;rw [if_pos hl1,back,Iu hΓ r acc (fun d hd=>hc d (KO _ hd)) (fun d hd=>he d (KO _ hd)) (by simp at hl;omega)]
   rw [List.filter_cons_of_neg (by rw [hcd];exact Bool.false_ne_true)]
  | true=>
   obtain ⟨h2,h3⟩:=he d mem_cons_self hcd;dsimp only;rw [h2];dsimp only;rw [h3,decide_eq_true hl1,Bool.and_self,if_pos rfl,back,Iu hΓ r (acc++[(f d).d]) (fun d hd=>hc d (KO _ hd)) (fun d hd=>he d (KO _ hd)) (by simp at hl ⊢;omega)]
   rw [List.filter_cons_of_pos hcd,map_cons,append_assoc];rfl
theorem Il {s:Sh} {i:Nat} {fi:FI} {fc:FB} {fe:F1} {c:D->Bool} {f:D->PV} {ds:List D} {st:Bool} {Γ:Ev} (hi:fi Γ=.ok ⟨ds,st⟩ Γ) (hl:i<Γ.length) (hs:s.isView=false) (hn:ds.length<=1000)
  (hc:∀d∈ds,fc (Γ.set i (KZ d))=.ok (c d) (Γ.set i (KZ d))) (he:∀d∈ds,c d=true->fe (Γ.set i (KZ d))=.ok (f d) (Γ.set i (KZ d))/\coer s (f d)=true) :
  aA s i fi fc fe Γ=.ok ⟨.lst s,.list ((ds.filter c).map fun d=>(f d).d)⟩ Γ:=by
 have hb:=DA
 unfold aA;rw [hi];unfold Out.bind;dsimp only;rw [Iu (c:=c) (f:=f) (by rw [set_set]) ds [] (fun d hd=>by rw [set_set];exact hc d hd) (fun d hd=>by rw [set_set];exact he d hd) (by simp;omega)]
 dsimp only;rw [hs,decide_eq_true hl];simp only [Bool.not_false,Bool.and_self,if_true,nil_append,set_set]
 have:Γ.set i (Γ.getD i none)=Γ:=by
  apply Da
  rw [KN,KM hl];rfl
 rw [this]
theorem C9 {s:Sh} {i:Nat} {fi:FI} {fe:F1} {f:D->PV} {ds:List D} {st:Bool} {Γ:Ev} (hi:fi Γ=.ok ⟨ds,st⟩ Γ) (hl:i<Γ.length) (hs:s.isView=false) (hn:ds.length<=1000)
  (he:∀d∈ds,fe (Γ.set i (KZ d))=.ok (f d) (Γ.set i (KZ d))/\coer s (f d)=true) :
  aA s i fi aK fe Γ=.ok ⟨.lst s,.list (ds.map fun d=>(f d).d)⟩ Γ:=by
 rw [Il (fc:=aK) (c:=fun _=>true) (f:=f) hi hl hs hn (fun d hd=>rfl) fun d hd _=>he d hd,List.filter_eq_self.mpr fun _ _=>rfl]
theorem HG {P:Nat->Ev->Prop} {i:Nat} {body:FS}:∀(ds:List D) (n:Nat) (Γ:Ev),P n Γ->(∀k d Γ,d∈ds->n<=k->k<n+ds.length->P k Γ->i<Γ.length/\∃Γ',body (Γ.set i (KZ d))=.nx Γ'/\P (k+1) Γ')->∃Γ',cQ i body ds Γ=.nx Γ'/\P (n+ds.length) Γ'
 | [],n,Γ,h,_=>⟨Γ,rfl,h⟩
 | d::r,n,Γ,h,st=>by
  obtain ⟨hi,Γ1,e1,h1⟩:=st n d Γ mem_cons_self (KW _) (by simp) h
  obtain ⟨Γ2,e2,h2⟩:=HG r (n+1) Γ1 h1 fun k d Γ hd a b c=>st k d Γ (KO _ hd) (by omega) (by simp;omega) c
  refine ⟨Γ2,?_,?_⟩
  ·rw [cQ,if_pos hi,e1]
   exact e2
  ·rw [length_cons,show n+(r.length+1)=n+1+r.length by omega]
   exact h2
theorem HI {any:Bool} {α:Type} {xs:List α} {f:α->Bool}:cR (xs.map fun x=>.bool (f x))=some (xs.map f):=by
 induction xs with
 | nil=>rfl
 | cons x r ih=>rw [map_cons,cR,ih];rfl
theorem zd {α:Type} {xs:List α} {f:α->Bool}:cW false [.list (xs.map fun x=>.bool (f x))]=some (.bool (xs.all f)):=by
 show Option.map _ (cR _)=_
 rw [HI (any:=false)];simp [List.all_map]
section
variable {Γ Γ1 Γ2:Ev} {fa fb fc:F1} {fl:FL} {p q:PV} {ps:List PV} {d e:D} {s s' s2:Sh} {i j n:Nat}
theorem ay (h:Γ[i]?=some (KZ d)):ae i Γ=.ok ⟨.leaf,d⟩ Γ:=by unfold ae;rw [h]
theorem zq (h:Γ[i]?=some (some ⟨.lst s,d⟩)):ae i Γ=.ok ⟨.view,d⟩ Γ:=by unfold ae;rw [h]
theorem F5 (h:Γ[i]?=some (some p)):dE i Γ=.ok p (Γ.set i none):=by unfold dE;rw [h]
theorem aS:eK d Γ=.ok ⟨.leaf,d⟩ Γ:=rfl
theorem aI {g:D->D->Option D} (ha:fa Γ=.ok p Γ1) (hb:fb Γ1=.ok q Γ2) (hg:g p.d q.d=some d):az g fa fb Γ=.ok ⟨.leaf,d⟩ Γ2:=by
 unfold az ba;rw [ha];simp only [Out.bind];rw [hb];simp only [hg]
theorem JM {g:D->Option D} (ha:fa Γ=.ok p Γ1) (hg:g p.d=some d):eU g fa Γ=.ok ⟨.leaf,d⟩ Γ1:=by
 unfold eU ba;rw [ha];simp only [Out.bind,hg]
theorem ax (ha:fa Γ=.ok p Γ1) (hl:fl Γ1=.ok ps Γ2):ab fa fl Γ=.ok (p::ps) Γ2:=by
 unfold ab;rw [ha];simp only [Out.bind];rw [hl]
theorem aj:af Γ=.ok [] Γ:=rfl
theorem cO {g:List D->Option D} (hl:fl Γ=.ok ps Γ1) (hg:g (ps.map (·.d))=some d):bJ g fl Γ=.ok ⟨.leaf,d⟩ Γ1:=by
 unfold bJ;rw [hl];simp only [Out.bind];rw [hg]
theorem bY {den:List D->bS} (hl:fl Γ=.ok ps Γ1) (hd:den (ps.map (·.d))=.ok p) (hn:ps.length=n) (hc:ps.all (coer .leaf)=true):ag n den fl Γ=.ok p Γ1:=by
 unfold ag;rw [hl];simp only [Out.bind,hn,hd,hc,if_true]
theorem wc {ds:List D} {k:Int} (ha:fa Γ=.ok ⟨s,.list ds⟩ Γ1) (hb:fb Γ1=.ok ⟨s',.int k⟩ Γ2) (hi:eT ds.length k=some j) (hd:ds[j]?=some d) (hs:cx s j d=some s2):ao fa fb Γ=.ok ⟨s2,d⟩ Γ2:=by
 unfold ao ba;rw [ha];simp only [Out.bind];rw [hb];simp only [hi,hd,hs]
theorem jU {ds:List D} {k:Int} (ha:fa Γ=.ok ⟨s,.tuple ds⟩ Γ1) (hb:fb Γ1=.ok ⟨s',.int k⟩ Γ2) (hi:eT ds.length k=some j) (hd:ds[j]?=some d) (hs:cx s j d=some s2):ao fa fb Γ=.ok ⟨s2,d⟩ Γ2:=by
 unfold ao ba;rw [ha];simp only [Out.bind];rw [hb];simp only [hi,hd,hs]
theorem FZ {x:Str} {k:Int} {c:Nat} (ha:fa Γ=.ok ⟨s,.str x⟩ Γ1) (hb:fb Γ1=.ok ⟨s',.int k⟩ Γ2) (hn:x.length<=sizeLine) (hi:fE x.cps.toList k=some c):ao fa fb Γ=.ok ⟨.leaf,.str ⟨#[c]⟩⟩ Γ2:=by
 unfold ao ba;rw [ha];simp only [Out.bind];rw [hb];simp only [hi,hn,if_true]
theorem zb (hl:fl Γ=.ok ps Γ1) (hs:s.isView=false) (hc:ps.all (coer s)=true) (hn:decide (ps.length<=1000)=true):cc s fl Γ=.ok ⟨.lst s,.list (ps.map (·.d))⟩ Γ1:=by
 have h2:ps.length<=sizeLine:=Nat.le_trans (of_decide_eq_true hn) DA
 unfold cc;rw [hl];simp only [Out.bind,hs,hc,decide_eq_true h2,Bool.not_false,Bool.and_self,if_true]
theorem bD (hl:fl Γ=.ok ps Γ1) (hc:ps.all tok=true) (hn:decide (ps.length<=1000)=true):bq fl Γ=.ok ⟨.tup (ps.map wu),.tuple (ps.map (·.d))⟩ Γ1:=by
 have h2:ps.length<=sizeLine:=Nat.le_trans (of_decide_eq_true hn) DA
 unfold bq;rw [hl];simp only [Out.bind,hc,decide_eq_true h2,Bool.and_self,if_true]
theorem v_and {a b:Bool} (ha:fa Γ=.ok ⟨s,.bool a⟩ Γ) (hb:fb Γ=.ok ⟨.leaf,.bool b⟩ Γ):fU fa fb Γ=.ok ⟨.leaf,.bool (a&&b)⟩ Γ:=by
 unfold fU ba;rw [ha];simp only [Out.bind]
 cases a with
 | false=>rfl
 | true=>exact hb
theorem wY {g g':D->D->Option D} {b b':Bool} (ha:fa Γ=.ok p Γ) (hb:fb Γ=.ok q Γ) (hg:g p.d q.d=some (.bool b)) (hs:bP q.d=true) {z:PV} (hc:fc Γ=.ok z Γ) (hg':g' q.d z.d=some (.bool b')):gu g g' fa fb fc Γ=.ok ⟨.leaf,.bool (b&&b')⟩ Γ:=by
 unfold gu ba;rw [ha];simp only [Out.bind];rw [hb];simp only [hg]
 cases b with
 | false=>rfl
 | true=>simp only [hs,if_true,hc,hg',Bool.true_and]
theorem dA (ha:fa Γ=.ok ⟨s,.bool b⟩ Γ1):aL ai fa Γ=.ok b Γ1:=by unfold aL;rw [ha];rfl
theorem iI (ha:fa Γ=.ok ⟨s,.bool b⟩ Γ1):aL bX fa Γ=.ok b Γ1:=by unfold aL;rw [ha];rfl
theorem lB {ga:FB} {b:Bool} (h:ga Γ=.ok b Γ1):ff ga Γ=.ok (!b) Γ1:=by unfold ff;rw [h];rfl
theorem zR {ga gb:FB} {a b:Bool} (ha:ga Γ=.ok a Γ) (hb:gb Γ=.ok b Γ):gx ga gb Γ=.ok (a&&b) Γ:=by
 unfold gx;rw [ha];simp only [Out.bind]
 cases a with
 | false=>rfl
 | true=>exact hb
theorem eZ {ga gb:FB} {a b:Bool} (ha:ga Γ=.ok a Γ) (hb:gb Γ=.ok b Γ):fD ga gb Γ=.ok (a||b) Γ:=by
 unfold fD;rw [ha];simp only [Out.bind]
 cases a with
 | false=>exact hb
 | true=>rfl
theorem eC {ds:List D} (ha:fa Γ=.ok ⟨s,.list ds⟩ Γ1) (ho:aE ⟨s,.list ds⟩ ds=true):bf fa Γ=.ok ⟨ds,!s.isView⟩ Γ1:=by
 unfold bf;rw [ha];simp only [Out.bind,ho,if_true]
theorem lE {k:Int} (hl:fl Γ=.ok ps Γ1) (hp:ps.map (·.d)=[.int k]) (h0:-1000<=k) (h1:k<=100000):i4 fl Γ=.ok ⟨cw 0 k.toNat,true⟩ Γ1:=by
 have h3:dP k=true:=by unfold dP;simp only [Bool.and_eq_true,decide_eq_true_eq];omega
 unfold i4;rw [hl];simp only [Out.bind,hp,kd,h3,if_true]
theorem DI {k m:Int} (hl:fl Γ=.ok ps Γ1) (hp:ps.map (·.d)=[.int k,.int m]) (h0:-1000<=k) (h1:k<=100000) (h2:-1000<=m) (h4:m<=100000):yp fl Γ=.ok ⟨cw k (m-k).toNat,true⟩ Γ1:=by
 have h3:dP k=true:=by unfold dP;simp only [Bool.and_eq_true,decide_eq_true_eq];omega
 have h5:dP m=true:=by unfold dP;simp only [Bool.and_eq_true,decide_eq_true_eq];omega
 unfold yp;rw [hl];simp only [Out.bind,hp,rL,h3,h5,Bool.and_self,if_true]
theorem av {g1 g2:FS} {o:dS} (h1:g1 Γ=.nx Γ1) (h2:g2 Γ1=o):aq g1 g2 Γ=o:=by unfold aq;rw [h1];exact h2
theorem oF {g1 g2:FS} (h1:g1 Γ=.rt p):aq g1 g2 Γ=.rt p:=by unfold aq;rw [h1]
theorem bu {c:FB} {a b:FS} {t:Bool} {o:dS} (hc:c Γ=.ok t Γ1) (ht:t=true->a Γ1=o) (hf:t=false->b Γ1=o):bW c a b Γ=o:=by
 unfold bW;rw [hc]
 cases t with
 | true=>exact ht rfl
 | false=>exact hf rfl
theorem aH (h:fa Γ=.ok p Γ1) (hs:p.s.isView=false):aF fa Γ=.rt p:=by
 unfold aF jS;rw [h];simp only [hs];rfl
theorem dU (h:fa Γ=.ok p Γ1) (hc:coer .leaf p=true) (hi:i<Γ1.length):aB false i fa Γ=.nx (Γ1.set i (KZ p.d)):=by
 unfold aB jS;rw [h];simp only [hi,if_true,hc,Bool.false_and];rfl
theorem Dq (h:fa Γ=.ok p Γ1) (hs:p.s.isView=false) (hi:i<Γ1.length):aB true i fa Γ=.nx (Γ1.set i (some p)):=by
 unfold aB jS;rw [h];simp only [hi,if_true,hs,Bool.true_and,Bool.not_false]
theorem Ik {ds:List D} (ho:Γ[i]?=some (some ⟨.lst s,.list ds⟩)) (h:fa Γ=.ok p Γ) (hc:coer s p=true) (hn:ds.length<=900):aG i fa Γ=.nx (Γ.set i (some ⟨.lst s,.list (ds++[p.d])⟩)):=by
 have h2:ds.length<sizeLine:=Nat.lt_of_lt_of_le (by omega:ds.length<1000) DA
 unfold aG ig;rw [ho];simp only [if_true];unfold jS;rw [h];simp only;unfold yY;rw [ho];simp only [hc,decide_eq_true h2,Bool.and_self,if_true]
theorem Am {ds:List D} {k:Int} (ho:Γ[i]?=some (some ⟨.lst .leaf,.list ds⟩)) (h:fa Γ=.ok p Γ) (hk:fb Γ=.ok ⟨s,.int k⟩ Γ) (hi:eT ds.length k=some j) (hc:coer .leaf p=true):gJ i fa fb Γ=.nx (Γ.set i (some ⟨.lst .leaf,.list (ds.set j p.d)⟩)):=by
 unfold gJ cI;rw [ho];simp only [if_true];unfold jS;rw [h];simp only;rw [hk];simp only;unfold AA;rw [ho];simp only [hi,hc,if_true]
theorem fV {fi:FI} {body:FS} {ds:List D} {o:dS} (h:fi Γ=.ok ⟨ds,true⟩ Γ1) (hg:cQ i body ds Γ1=o):fz i fi body Γ=o:=by unfold fz;rw [h];exact hg
end
end T
namespace KC
open PySem PySem.Spec L2 T
open PyProof.Rows hiding St
noncomputable def bI:KY:=.tuple [.str "a",.str "b",.str "c",.str "d",.str "e",.str "f"]
noncomputable def cV:KY:=.tuple [.int 0,.int 1]
noncomputable def eR:KY:=.int 24
noncomputable def cn:KY:=.int 200
noncomputable def bG:KY:=.int 24
noncomputable def cD:KY:=.tuple [.str "some until",.str "all until"]
noncomputable def dk:KY:=.tuple [.str "some always",.str "all always"]
noncomputable def bB:KY:=.tuple [.str "some next",.str "some until",.str "all always"]
noncomputable def cE:List (Str×Int):=[("yes",0),("not",1),("some next",1),("all next",1),("some always",1),("all always",1),("and",2),("or",2),("some until",2),("all until",2)]
noncomputable def oa:FS:=(aF (bJ (cW false) (ab (aA .leaf 1 (yp (ab (eK (.int 1)) (ab (bJ bg (ab (ae 0) af)) af))) aK (az kT (ao (ae 0) (az gSub (ae 1) (eK (.int 1)))) (ao (ae 0) (ae 1)))) af)))
noncomputable def dW:List KY->bS:=aC 2 oa
noncomputable def om:FS:=(aF (fU (bJ (cW false) (ab (aA .leaf 1 (bf (ae 0)) aK (az (bQ false) (ae 1) (eK bI))) af)) (ag 1 dW (ab (ae 0) af))))
noncomputable def dY:List KY->bS:=aC 2 om
noncomputable def oj:FS:=(aF (fU (bJ (cW false) (ab (aA .leaf 2 (bf (ae 0)) aK (gu GU kT (eK (.int 0)) (ae 2) (ae 1))) af)) (ag 1 dW (ab (ae 0) af))))
noncomputable def fH:List KY->bS:=aC 3 oj
noncomputable def oh:FS:=(aF (fU (az pI (bJ bg (ab (ae 0) af)) (eK (.int 0))) (ag 2 fH (ab (ae 0) (ab (ae 1) af)))))
noncomputable def dX:List KY->bS:=aC 2 oh
noncomputable def pO:FS:=(aq (aB false 3 (bJ bg (ab (ae 0) af)))
  (aq (bW (fD (aL ai (az kT (ae 3) (eK (.int 1)))) (fD (aL ai (az pI (ae 3) (eK eR))) (fD (aL ai (az jT (bJ bg (ab (ae 1) af)) (ae 3))) (aL ai (az jT (bJ bg (ab (ae 2) af)) (ae 3)))))) (aF (eK (.bool false))) aJ)
  (aq (bW (ff (aL bX (bJ (cW false) (ab (aA .leaf 4 (bf (ae 0)) aK (az (bQ false) (ae 4) (eK cV))) af)))) (aF (eK (.bool false))) aJ)
  (aF (fU (bJ (cW false) (ab (aA .leaf 5 (bf (ae 1)) aK (ag 1 dY (ab (ae 5) af))) af)) (bJ (cW false) (ab (aA .leaf 5 (bf (ae 2)) aK (ag 2 dX (ab (ae 5) (ab (ae 3) af)))) af)))))))
noncomputable def eN:List KY->bS:=aC 6 pO
noncomputable def kv:FS:=(bW (ff (aL bX (ag 3 eN (ab (ao (ae 0) (eK (.int 0))) (ab (ao (ae 0) (eK (.int 1))) (ab (ao (ae 0) (eK (.int 2))) af)))))) AE aJ)
noncomputable def cj:List KY->bS:=aC 1 kv
noncomputable def dR:FS:=(aF (kn (aL ai (az bj (ao (ae 0) (eK (.int 0))) (eK (.str "mark")))) (bq af) (ik (ae 0) (eK (.int 1)))))
noncomputable def aN:List KY->bS:=aC 1 dR
noncomputable def du:FS:=(aq (bW (fD (ff (aL bX (lZ "tuple" (ae 0)))) (fD (aL ai (az bj (bJ bg (ab (ae 0) af)) (eK (.int 0)))) (ff (aL bX (lZ "str" (ao (ae 0) (eK (.int 0)))))))) (aF (eK (.bool false))) aJ)
  (aq (bW (aL ai (az bj (ao (ae 0) (eK (.int 0))) (eK (.str "mark")))) (aF (fU (az bj (bJ bg (ab (ae 0) af)) (eK (.int 2))) (az (bQ false) (ao (ae 0) (eK (.int 1))) (eK bI)))) aJ)
  (aF (fU (km false cE (ao (ae 0) (eK (.int 0)))) (az bj (bJ bg (ab (ae 0) af)) (az bo (eK (.int 1)) (jx cE (ao (ae 0) (eK (.int 0))))))))))
noncomputable def bA:List KY->bS:=aC 1 du
noncomputable def fN:FS:=(aq (aB true 1 (cc .leaf af))
  (aq (fz 2 (bf (ae 0))
  (gK 1 (ag 1 aN (ab (ae 2) af))))
  (aF (dE 1))))
noncomputable def ck:List KY->bS:=aC 3 fN
noncomputable def fO:FS:=(aq (aB true 1 (cc .leaf af))
  (aq (aB false 2 (cc .leaf (ab (ae 0) af)))
  (aq (aB false 3 (eK (.int 0)))
  (aq (fF 1000 (aL bX (ae 2))
  (aq (fm 3 (bJ bg (ab (ae 2) af)))
  (aq (bW (fD (aL ai (az pI (ae 3) (eK cn))) (fD (aL ai (az bj (bJ bg (ab (ae 1) af)) (eK bG))) (ff (aL bX (bJ (cW false) (ab (aA .leaf 4 (bf (ae 2)) aK (ag 1 bA (ab (ae 4) af))) af)))))) (aF (eK .none)) aJ)
  (aq (aG 1 (ae 2))
  (aB false 2 (ag 1 ck (ab (ae 2) af)))))))
  (aF (dE 1))))))
noncomputable def dj:List KY->bS:=aC 5 fO
noncomputable def cX:FS:=(aq (aB false 1 (ag 1 dj (ab (ae 0) af)))
  (aq (bW (aL ai (az (dm false) (ae 1) (eK .none))) AE aJ)
  (aF (ae 1))))
noncomputable def bH:List KY->bS:=aC 2 cX
noncomputable def eJ:FS:=(dh (ag 1 bH (ab (ae 0) af)))
noncomputable def aZ:List KY->bS:=aC 1 eJ
noncomputable def gj:FS:=(aF (aA .leaf 2 (i4 (ab (bJ bg (ab (ao (ae 0) (eK (.int 0))) af)) af)) (aL ai (az (bQ true) (ae 2) (ae 1))) (ae 2)))
noncomputable def de:List KY->bS:=aC 3 gj
noncomputable def og:FS:=(aF (kn (aL bX (ae 0)) (bJ (cW true) (ab (ae 1) af)) (bJ (cW false) (ab (ae 1) af))))
noncomputable def b9:List KY->bS:=aC 2 og
noncomputable def dQ:FS:=(aq (bW (aL ai (az (bQ false) (ao (ae 1) (eK (.int 0))) (eK cD))) (aF (bq (ab (ao (ae 2) (eK (.int 0))) (ab (ao (ae 2) (eK (.int 1))) af)))) aJ)
  (aF (bq (ab (CA (ab (bJ bg (ab (ao (ae 0) (eK (.int 0))) af)) af)) (ab (ag 2 de (ab (ae 0) (ab (ao (ae 2) (eK (.int 0))) af))) af)))))
noncomputable def aX:List KY->bS:=aC 3 dQ
noncomputable def gh:FS:=(aq (aB true 4 (cc .leaf af))
  (aq (fz 5 (bf (ae 2))
  (bW (gx (aL ai (az (dm false) (ao (ae 3) (ae 5)) (eK .none))) (aL bX (ag 2 b9 (ab (ao (ae 1) (ae 5)) (ab (aA .leaf 6 (bf (ao (ao (ae 0) (eK (.int 2))) (ae 5))) aK (az (dm true) (ao (ae 3) (ae 6)) (eK .none))) af))))) (aG 4 (ae 5)) aJ))
  (aF (dE 4))))
noncomputable def cA:List KY->bS:=aC 7 gh
noncomputable def jG:FS:=(aq (aB true 4 (aA .leaf 8 (bf (ao (ae 0) (eK (.int 0)))) aK (eK .none)))
  (aq (aB false 5 (eK (.int 0)))
  (aq (aB false 6 (ae 3))
  (aq (fF 1000 (aL bX (ae 6))
  (aq (fz 7 (bf (ae 6))
  (gJ 4 (ae 5) (ae 7)))
  (aq (fm 5 (eK (.int 1)))
  (aB false 6 (dB 4 cA (ab (ae 0) (ab (ae 1) (ab (ae 2) (ab (ae 4) af)))))))))
  (aF (dE 4))))))
noncomputable def gq:List KY->bS:=aC 9 jG
noncomputable def eX:FS:=(aq (aB false 3 (ao (ae 1) (eK (.int 0))))
  (aq (bW (gx (aL ai (az (bQ true) (ae 3) (eK cD))) (aL ai (az (bQ true) (ae 3) (eK dk)))) (aF (eK .none)) aJ)
  (aq (aB false 4 (ag 3 aX (ab (ae 0) (ab (ae 1) (ab (ae 2) af)))))
  (aF (ag 4 gq (ab (ae 0) (ab (aA .leaf 5 (bf (ao (ae 0) (eK (.int 0)))) aK (az (bQ false) (ae 3) (eK bB))) (ab (ao (ae 4) (eK (.int 0))) (ab (ao (ae 4) (eK (.int 1))) af)))))))))
noncomputable def bK:List KY->bS:=aC 6 eX
noncomputable def bC:FS:=(aq (aB false 5 (ao (ae 1) (eK (.int 0))))
  (aq (bW (aL ai (az bj (ae 5) (eK (.str "yes")))) (aF (eK (.bool true))) aJ)
  (aq (bW (aL ai (az bj (ae 5) (eK (.str "mark")))) (aF (az (bQ false) (ao (ae 1) (eK (.int 1))) (ao (ao (ae 0) (eK (.int 1))) (ae 4)))) aJ)
  (aq (bW (aL ai (az (bQ false) (ae 5) (eK cD))) (aF (az (dm true) (ao (ae 3) (ae 4)) (eK .none))) aJ)
  (aq (bW (aL ai (az (bQ false) (ae 5) (eK dk))) (aF (az (dm false) (ao (ae 3) (ae 4)) (eK .none))) aJ)
  (aq (aB false 6 (aA .leaf 7 (bf (ae 2)) aK (az (bQ false) (ae 4) (ae 7))))
  (aq (bW (aL ai (az bj (ae 5) (eK (.str "not")))) (aF (lY (ao (ae 6) (eK (.int 0))))) aJ)
  (aq (bW (fD (aL ai (az bj (ae 5) (eK (.str "and")))) (aL ai (az bj (ae 5) (eK (.str "or"))))) (aF (kn (aL ai (az bj (ae 5) (eK (.str "and")))) (bJ (cW false) (ab (ae 6) af)) (bJ (cW true) (ab (ae 6) af)))) aJ)
  (aF (ag 2 b9 (ab (az (bQ false) (ae 5) (eK bB)) (ab (aA .leaf 8 (bf (ao (ao (ae 0) (eK (.int 2))) (ae 4))) aK (az (bQ false) (ae 8) (ao (ae 2) (eK (.int 0))))) af))))))))))))
noncomputable def eP:List KY->bS:=aC 9 bC
noncomputable def jF:FS:=(aF (aA .leaf 4 (i4 (ab (bJ bg (ab (ao (ae 0) (eK (.int 0))) af)) af)) (aL bX (ag 5 eP (ab (ae 0) (ab (ae 1) (ab (ae 2) (ab (ae 3) (ab (ae 4) af))))))) (ae 4)))
noncomputable def b7:List KY->bS:=aC 5 jF
noncomputable def jI (r_judged:List KY->bS):FS:=(aq (aB false 2 (aA .leaf 3 (bV (ag 1 aN (ab (ae 1) af))) aK (ag 2 r_judged (ab (ae 0) (ab (ae 3) af)))))
  (aF (ag 4 b7 (ab (ae 0) (ab (ae 1) (ab (ae 2) (ab (ag 3 bK (ab (ae 0) (ab (ae 1) (ab (ae 2) af)))) af)))))))
noncomputable def dN:Nat->List KY->bS
 | 0=>fun _=>.no
 | n+1=>aC 4 (jI (dN n))
noncomputable def jq:List KY->bS:=dN 30
noncomputable def qQ:FS:=(aq (dh (ag 1 cj (ab (ae 0) af)))
  (aq (dh (ag 1 aZ (ab (ae 1) af)))
  (aF (ag 2 jq (ab (ae 0) (ab (ae 1) af))))))
noncomputable def eQ:List KY->bS:=aC 2 qQ
noncomputable def jK:FS:=(aq (bW (aL ai (az kT (ae 1) (bJ bg (ab (ae 0) af)))) (aF (ao (ae 0) (ae 1))) aJ)
  (aF (eK (.int 0))))
noncomputable def aP:List KY->bS:=aC 2 jK
noncomputable def oo:FS:=(aq (bW (aL ai (az pJ (ae 0) (az yw (eK (.int 10)) (eK (.int 18))))) (aq (aB false 4 (ae 0))
  (aq (fz 5 (i4 (ab (ae 1) af))
  (aB false 4 (az vv (ae 4) (ae 2))))
  (aF (az dH (ae 4) (ae 2))))) aJ)
  (aq (aB false 3 (az dH (az nO (az bo (az bo (az dH (ae 0) (eK (.int 1000000007))) (az nO (eK (.int 1009)) (ae 1))) (eK (.int 17))) (eK (.int 69621))) (eK (.int 2147483647))))
  (aq (aB false 3 (az dH (az bo (az bo (az nO (ae 3) (ae 3)) (az nO (eK (.int 40503)) (ae 1))) (eK (.int 5))) (eK (.int 2147483629))))
  (aF (az dH (az vv (az dH (az nO (ae 3) (eK (.int 48271))) (eK (.int 2147483647))) (eK (.int 32))) (ae 2))))))
noncomputable def aw:List KY->bS:=aC 6 oo
noncomputable def mh:FS:=(aq (aB false 3 (az bo (eK (.int 1)) (az dH (ag 2 aP (ab (ae 0) (ab (ae 1) af))) (ae 2))))
  (aq (aB true 4 (cc .leaf af))
  (aq (aB true 5 (cc .leaf af))
  (aq (aB true 6 (cc .leaf af))
  (aq (fz 7 (i4 (ab (ae 3) af))
  (aq (aB false 8 (ag 2 aP (ab (ae 0) (ab (az bo (az bo (ae 1) (eK (.int 1))) (ae 7)) af))))
  (aq (aG 4 (ag 3 aw (ab (ae 8) (ab (eK (.int 0)) (ab (eK (.int 2)) af)))))
  (aq (aG 5 (aA .leaf 11 (i4 (ab (eK (.int 3)) af)) (aL ai (az bj (ag 3 aw (ab (ae 8) (ab (az bo (eK (.int 1)) (ae 11)) (ab (eK (.int 2)) af)))) (eK (.int 1)))) (ao (eK (.str "abc")) (ae 11))))
  (aq (aB false 9 (aA .leaf 10 (i4 (ab (ae 3) af)) (aL ai (az bj (ag 3 aw (ab (ae 8) (ab (az bo (eK (.int 4)) (ae 10)) (ab (az bo (eK (.int 2)) (bJ vt (ab (az pI (ae 3) (eK (.int 3))) af))) af)))) (eK (.int 1)))) (ae 10)))
  (aq (bW (aL ai (az bj (ae 9) (cc .leaf af))) (aB false 9 (cc .leaf (ab (ag 3 aw (ab (ae 8) (ab (az bo (eK (.int 4)) (ae 3)) (ab (ae 3) af)))) af))) aJ)
  (aG 6 (ae 9))))))))
  (aF (bq (ab (dE 4) (ab (dE 5) (ab (dE 6) af))))))))))
noncomputable def dF:List KY->bS:=aC 12 mh
noncomputable def iW:FS:=(aq (aB false 3 (cc .leaf (ab (eK (.str "mark")) (ab (eK (.str "mark")) (ab (eK (.str "not")) (ab (eK (.str "and")) (ab (eK (.str "some until")) (ab (eK (.str "all until")) (ab (eK (.str "some next")) (ab (eK (.str "all next")) (ab (eK (.str "some always")) af)))))))))))
  (aq (aB false 3 (vB (ae 3) (cc .leaf (ab (eK (.str "all always")) (ab (eK (.str "or")) (ab (eK (.str "yes")) af))))))
  (aq (aB true 4 (cc .leaf (ab (bq (ab (eK (.str "mark")) (ab (ao (eK (.str "abc")) (ag 3 aw (ab (ag 2 aP (ab (ae 0) (ab (ae 1) af))) (ab (eK (.int 3)) (ab (eK (.int 3)) af))))) af))) af)))
  (aq (fz 5 (yp (ab (eK (.int 1)) (ab (ae 2) af)))
  (aq (aB false 6 (ag 2 aP (ab (ae 0) (ab (az bo (ae 1) (ae 5)) af))))
  (aq (aB false 7 (ao (ae 3) (ag 3 aw (ab (ae 6) (ab (eK (.int 0)) (ab (eK (.int 12)) af))))))
  (aq (aB false 8 (d6 4 (az gSub (eU nN (eK (.int 1))) (az dH (ag 3 aw (ab (ae 6) (ab (eK (.int 1)) (ab (eK (.int 2)) af)))) (bJ bg (ab (ae 4) af))))))
  (aq (aB false 9 (d6 4 (az dH (ag 3 aw (ab (ae 6) (ab (eK (.int 2)) (ab (eK (.int 60)) af)))) (bJ bg (ab (ae 4) af)))))
  (bW (aL ai (az bj (ae 7) (eK (.str "yes")))) (aG 4 (bq (ab (eK (.str "yes")) af))) (bW (aL ai (az bj (ae 7) (eK (.str "mark")))) (aG 4 (bq (ab (eK (.str "mark")) (ab (ao (eK (.str "abc")) (ag 3 aw (ab (ae 6) (ab (eK (.int 3)) (ab (eK (.int 3)) af))))) af)))) (bW (aL ai (az (bQ false) (ae 7) (bq (ab (eK (.str "and")) (ab (eK (.str "or")) (ab (eK (.str "some until")) (ab (eK (.str "all until")) af))))))) (aG 4 (bq (ab (ae 7) (ab (ae 9) (ab (ae 8) af))))) (aG 4 (bq (ab (ae 7) (ab (ae 8) af))))))))))))
  (aF (d6 4 (eU nN (eK (.int 1)))))))))
noncomputable def cG:List KY->bS:=aC 10 iW
noncomputable def dJ (r__law_count:List KY->bS):FS:=(aF (az bo (eK (.int 1)) (bJ sF (ab (aA .leaf 1 (bV (ik (ae 0) (eK (.int 1)))) (aL bX (lZ "tuple" (ae 1))) (ag 1 r__law_count (ab (ae 1) af))) af))))
noncomputable def bz:Nat->List KY->bS
 | 0=>fun _=>.no
 | n+1=>aC 2 (dJ (bz n))
noncomputable def dG:List KY->bS:=bz 20
open PySem.SeqAt
noncomputable def GO (a b:D):Bool:=match kT a b with
 | some (.bool t)=>t
 | _=>false
noncomputable def g0 (ds:List D):Prop:=∀a∈ds,∃n,a=.int n
noncomputable def ky (ds:List D):Prop:=∀a∈ds,∃x,a=.str x/\PyData.strOk x=true
noncomputable def Row (ds:List D):Prop:=g0 ds\/ky ds
theorem Ab (i:Int):shaped (.int i)=true:=by simp [shaped,PyData.canLay0,PyData.depth]
theorem FX {x:Str} (h:PyData.strOk x=true):shaped (.str x)=true:=by simp [shaped,PyData.canLay0,PyData.depth,h]
theorem Row.lt {ds:List D} {a b:D} (h:Row ds) (ha:a∈ds) (hb:b∈ds):kT a b=some (.bool (GO a b))/\pJ a b=some (.bool (!GO a b)):=by
 rcases h with h | h
 ·obtain ⟨n,rfl⟩:=h a ha
  obtain ⟨m,rfl⟩:=h b hb;refine ⟨rfl,?_⟩
  show some (PyData.bool (decide (m<=n)))=some (.bool (!decide (n<m)))
  congr 2
  by_cases q:n<m
  ·simp [q,Int.not_le.mpr q]
  ·simp [q,Int.not_lt.mp q]
 ·obtain ⟨n,rfl,_⟩:=h a ha
  obtain ⟨m,rfl,_⟩:=h b hb;exact ⟨rfl,rfl⟩
noncomputable def zG (ds:List D) (d:D):Bool:=match d with
 | .int j=>GO (ds.getD (j-1).toNat .none) (ds.getD j.toNat .none)
 | _=>false
noncomputable def ir (ds:List D):Bool:=(cw 1 ((ds.length:Int)-1).toNat).all (zG ds)
theorem ze {lo:Int} {n:Nat} {d:D} (h:d∈cw lo n):∃k:Nat,k<n/\d=.int (lo+k):=by
 unfold cw at h;simp only [mem_map,mem_range] at h
 obtain ⟨k,hk,e⟩:=h;exact ⟨k,hk,e.symm⟩
theorem C5 {lo:Int} {n:Nat}:(cw lo n).length=n:=by unfold cw;simp
theorem Hh {n:Nat} {k:Nat} (h:k<n):eT n (k:Int)=some k:=by
 unfold eT;rw [if_pos (by omega),if_pos (by omega)]
 simp
theorem EO {n:Nat} {i:Int} (h0:0<=i) (h1:i<n):eT n i=some i.toNat:=by
 unfold eT;rw [if_pos h0,if_pos h1]
theorem B9 {i:Int} (h0:-1000<=i) (h1:i<=100000):dP i=true:=by
 unfold dP;simp only [Bool.and_eq_true,decide_eq_true_eq]
 omega
theorem FN {ds:List D} {k:Nat} (h:k<ds.length):ds[k]?=some (ds.getD k .none):=by
 rw [KN,KM h];rfl
theorem getD_mem {ds:List D} {k:Nat} (h:k<ds.length):ds.getD k .none∈ds:=mem_of_getElem? (FN h)
theorem EK {ds:List D} {k:Nat} (h:Row ds) (hk:k<((ds.length:Int)-1).toNat):eT ds.length (1+(k:Int)-1)=some k/\eT ds.length (1+(k:Int))=some (k+1)/\ds[k]?=some (ds.getD k .none)/\ds[k+1]?=some (ds.getD (k+1) .none) /\
  kT (ds.getD k .none) (ds.getD (k+1) .none)=some (.bool (zG ds (.int (1+(k:Int)))))/\pJ (ds.getD k .none) (ds.getD (k+1) .none)=some (.bool (!zG ds (.int (1+(k:Int))))):=by
 have h1:k<ds.length:=by omega
 have h2:k+1<ds.length:=by omega
 have l:=h.lt (getD_mem h1) (getD_mem h2)
 have e3:zG ds (.int (1+(k:Int)))=GO (ds.getD k .none) (ds.getD (k+1) .none):=by
  unfold zG;dsimp only;rw [show (1+(k:Int)-1).toNat=k by omega,show (1+(k:Int)).toNat=k+1 by omega]
 rw [e3];exact ⟨by rw [show (1+(k:Int)-1)=k by omega];exact Hh h1,by rw [show (1+(k:Int))=((k+1:Nat):Int) by omega];exact Hh h2,FN h1,FN h2,l.1,l.2⟩
theorem aD {n:Nat} {g:FS} {ds:List D} {p:PV} (h:g (ah n ds)=.rt p):aC n g ds=.ok p:=by unfold aC;rw [h]
theorem eq_int {a b:Int}:bj (.int a) (.int b)=some (.bool (a==b)):=by
 unfold bj;rw [Ab,Ab,Bool.and_self,if_pos rfl,PyData.eqv]
theorem gf {ds:List D} (h:Row ds) (hl:ds.length<=100):dW [.list ds]=.ok ⟨.leaf,.bool (ir ds)⟩:=by
 have hc:aA .leaf 1 (yp (ab (eK (.int 1)) (ab (bJ bg (ab (ae 0) af)) af))) aK (az kT (ao (ae 0) (az gSub (ae 1) (eK (.int 1)))) (ao (ae 0) (ae 1))) [KZ (.list ds),none] =
   .ok ⟨.lst .leaf,.list ((cw 1 ((ds.length:Int)-1).toNat).map fun d=>.bool (zG ds d))⟩ [KZ (.list ds),none]:=by
  refine C9 (f:=fun d=>⟨.leaf,.bool (zG ds d)⟩) (st:=true) (DI (k:=1) (m:=(ds.length:Int)) (ax aS (ax (cO (ax (ay rfl) aj) rfl) aj)) rfl (by omega) (by omega) (by omega) (by omega)) (by simp) rfl (by rw [C5];omega) fun d hd=>⟨?_,rfl⟩
  obtain ⟨k,hk,rfl⟩:=ze hd;obtain ⟨e1,e2,e3,e4,e5,e6⟩:=EK h hk;exact aI (wc (ay rfl) (aI (ay rfl) aS rfl) e1 e3 rfl) (wc (ay rfl) (ay rfl) e2 e4 rfl) e5
 exact aD (aH (cO (ax hc aj) zd) rfl)
noncomputable def Dl (a:D):Bool:=[PyData.str "a",.str "b",.str "c",.str "d",.str "e",.str "f"].any fun y=>PyData.eqv y a
noncomputable def EV (a:D):Bool:=[PyData.int 0,.int 1].any fun y=>PyData.eqv y a
noncomputable def inR (n:Int) (a:D):Bool:=match a with
 | .int i=>decide (0<=i)&&decide (i<n)
 | _=>false
noncomputable def Dj (d:D):Bool:=match d with
 | .list xs=>xs.all Dl&&ir xs
 | _=>false
noncomputable def Gx (n:Int) (d:D):Bool:=match d with
 | .list xs=>decide (0<xs.length)&&(xs.all (inR n)&&ir xs)
 | _=>false
theorem Az:shaped bI=true:=by decide +kernel
theorem D3:shaped cV=true:=by decide +kernel
theorem vh {x:Str} (hx:PyData.strOk x=true):bQ false (.str x) bI=some (.bool (Dl (.str x))):=by
 unfold bQ bI;have:=Az
 unfold bI at this;simp only [FX hx,this,Bool.and_self,if_true]
 rfl
theorem ER {i:Int}:bQ false (.int i) cV=some (.bool (EV (.int i))):=by
 unfold bQ cV;have:=D3
 unfold cV at this;simp only [Ab,this,Bool.and_self,if_true]
 rfl
theorem kr {ds:List D} (h:ky ds) (hl:ds.length<=100):dY [.list ds]=.ok ⟨.leaf,.bool (ds.all Dl&&ir ds)⟩:=by
 have hc:aA .leaf 1 (bf (ae 0)) aK (az (bQ false) (ae 1) (eK bI)) [KZ (.list ds),none]=.ok ⟨.lst .leaf,.list (ds.map fun d=>.bool (Dl d))⟩ [KZ (.list ds),none]:=by
  refine C9 (f:=fun d=>⟨.leaf,.bool (Dl d)⟩) (eC (ay rfl) rfl) (by simp) rfl (by omega) fun d hd=>⟨?_,rfl⟩
  obtain ⟨x,rfl,hx⟩:=h d hd;exact aI (ay rfl) aS (vh hx)
 exact aD (aH (v_and (cO (ax hc aj) zd) (bY (ax (ay rfl) aj) (gf (.inr h) hl) rfl rfl)) rfl)
theorem chain_ev {i n:Int}:GU (.int 0) (.int i)=some (.bool (decide (0<=i)))/\kT (.int i) (.int n)=some (.bool (decide (i<n))):=⟨rfl,rfl⟩
theorem kq {ds:List D} {n:Int} (h:g0 ds) (hl:ds.length<=100):fH [.list ds,.int n]=.ok ⟨.leaf,.bool (ds.all (inR n)&&ir ds)⟩:=by
 have hc:aA .leaf 2 (bf (ae 0)) aK (gu GU kT (eK (.int 0)) (ae 2) (ae 1)) [KZ (.list ds),KZ (.int n),none]=.ok ⟨.lst .leaf,.list (ds.map fun d=>.bool (inR n d))⟩ [KZ (.list ds),KZ (.int n),none]:=by
  refine C9 (f:=fun d=>⟨.leaf,.bool (inR n d)⟩) (eC (ay rfl) rfl) (by simp) rfl (by omega) fun d hd=>⟨?_,rfl⟩
  obtain ⟨i,rfl⟩:=h d hd;exact wY aS (ay rfl) (chain_ev (n:=n)).1 rfl (ay rfl) chain_ev.2
 exact aD (aH (v_and (cO (ax hc aj) zd) (bY (ax (ay rfl) aj) (gf (.inl h) hl) rfl rfl)) rfl)
theorem ko {ds:List D} {n:Int} (h:g0 ds) (hl:ds.length<=100):dX [.list ds,.int n]=.ok ⟨.leaf,.bool (decide (0<ds.length)&&(ds.all (inR n)&&ir ds))⟩:=by
 have e:pI (.int (ds.length:Nat)) (.int 0)=some (.bool (decide (0<ds.length))):=by
  show some (PyData.bool (decide ((0:Int)<(ds.length:Int))))=_
  congr 2
  exact decide_eq_decide.mpr (by omega)
 exact aD (aH (v_and (aI (cO (ax (ay rfl) aj) rfl) aS e) (bY (ax (ay rfl) (ax (ay rfl) aj)) (kq h hl) rfl rfl)) rfl)
structure Wk (b:Nat) (os ms ss:List D):Prop where
 o:g0 os
 m:∀r∈ms,∃xs,r=.list xs/\ky xs/\xs.length<=30
 s:∀r∈ss,∃xs,r=.list xs/\g0 xs/\xs.length<=30
 lo:os.length<=b
 lm:ms.length<=b
 ls:ss.length<=b
noncomputable def GX (os ms ss:List D):Bool:=decide ((os.length:Int)<1)||(decide ((24:Int)<os.length)||((!((ms.length:Int)==(os.length:Int)))||(!((ss.length:Int)==(os.length:Int)))))
noncomputable def isW (os ms ss:List D):Bool:=!GX os ms ss&&(os.all EV&&(ms.all Dj&&ss.all (Gx os.length)))
theorem ne_int {a b:Int}:jT (.int a) (.int b)=some (.bool (!(a==b))):=by
 unfold jT;rw [Ab,Ab,Bool.and_self,if_pos rfl,PyData.eqv]
theorem me {b:Nat} {os ms ss:List D} (h:Wk b os ms ss) (hb:b<=100):eN [.list os,.list ms,.list ss]=.ok ⟨.leaf,.bool (isW os ms ss)⟩:=by
 have lo:=h.lo
 have lm:=h.lm
 have ls:=h.ls
 refine aD ?_
 refine av (dU (cO (ax (ay rfl) aj) rfl) rfl (by simp [ah])) ?_
 have hif:(fD (aL ai (az kT (ae 3) (eK (.int 1)))) (fD (aL ai (az pI (ae 3) (eK eR))) (fD (aL ai (az jT (bJ bg (ab (ae 1) af)) (ae 3))) (aL ai (az jT (bJ bg (ab (ae 2) af)) (ae 3)))))) [KZ (.list os),KZ (.list ms),KZ (.list ss),KZ (.int (os.length:Nat)),none,none]
   = .ok (GX os ms ss) [KZ (.list os),KZ (.list ms),KZ (.list ss),KZ (.int (os.length:Nat)),none,none]:=
  eZ (dA (aI (ay rfl) aS rfl)) (eZ (dA (aI (ay rfl) aS rfl)) (eZ (dA (aI (cO (ax (ay rfl) aj) rfl) (ay rfl) ne_int)) (dA (aI (cO (ax (ay rfl) aj) rfl) (ay rfl) ne_int))))
 cases hbad:GX os ms ss with
 | true=>
  rw [hbad] at hif;unfold isW;rw [hbad];exact oF (bu hif (fun _=>aH aS rfl) nofun)
 | false=>
  rw [hbad] at hif;refine av (bu hif nofun (fun _=>rfl)) ?_
  have c1:aA .leaf 4 (bf (ae 0)) aK (az (bQ false) (ae 4) (eK cV)) [KZ (.list os),KZ (.list ms),KZ (.list ss),KZ (.int (os.length:Nat)),none,none]
    = .ok ⟨.lst .leaf,.list (os.map fun d=>.bool (EV d))⟩ [KZ (.list os),KZ (.list ms),KZ (.list ss),KZ (.int (os.length:Nat)),none,none]:=by
   refine C9 (f:=fun d=>⟨.leaf,.bool (EV d)⟩) (eC (ay rfl) rfl) (by simp) rfl (by omega) fun d hd=>⟨?_,rfl⟩
   obtain ⟨i,rfl⟩:=h.o d hd;exact aI (ay rfl) aS ER
  have c2:aA .leaf 5 (bf (ae 1)) aK (ag 1 dY (ab (ae 5) af)) [KZ (.list os),KZ (.list ms),KZ (.list ss),KZ (.int (os.length:Nat)),none,none]
    = .ok ⟨.lst .leaf,.list (ms.map fun d=>.bool (Dj d))⟩ [KZ (.list os),KZ (.list ms),KZ (.list ss),KZ (.int (os.length:Nat)),none,none]:=by
   refine C9 (f:=fun d=>⟨.leaf,.bool (Dj d)⟩) (eC (ay rfl) rfl) (by simp) rfl (by omega) fun d hd=>⟨?_,rfl⟩
   obtain ⟨xs,rfl,hx,hl⟩:=h.m d hd;exact bY (ax (ay rfl) aj) (kr hx (by omega)) rfl rfl
  have c3:aA .leaf 5 (bf (ae 2)) aK (ag 2 dX (ab (ae 5) (ab (ae 3) af))) [KZ (.list os),KZ (.list ms),KZ (.list ss),KZ (.int (os.length:Nat)),none,none]
    = .ok ⟨.lst .leaf,.list (ss.map fun d=>.bool (Gx os.length d))⟩ [KZ (.list os),KZ (.list ms),KZ (.list ss),KZ (.int (os.length:Nat)),none,none]:=by
   refine C9 (f:=fun d=>⟨.leaf,.bool (Gx os.length d)⟩) (eC (ay rfl) rfl) (by simp) rfl (by omega) fun d hd=>⟨?_,rfl⟩
   obtain ⟨xs,rfl,hx,hl⟩:=h.s d hd;exact bY (ax (ay rfl) (ax (ay rfl) aj)) (ko hx (by omega)) rfl rfl
  have t1:=lB (iI (cO (ax c1 aj) zd))
  cases ho:os.all EV with
  | false=>
   rw [ho] at t1;unfold isW;rw [ho,Bool.false_and,Bool.and_false];exact oF (bu t1 (fun _=>aH aS rfl) nofun)
  | true=>
   rw [ho] at t1;refine av (bu t1 nofun (fun _=>rfl)) ?_
   unfold isW;rw [hbad,ho,Bool.not_false,Bool.true_and,Bool.true_and];exact aH (v_and (cO (ax c2 aj) zd) (cO (ax c3 aj) zd)) rfl
theorem Cw {xs:List D} (h:shaped (.list xs)=true):bj (.list xs) (.list [])=some (.bool (decide (xs.length=0))):=by
 unfold bj;have h2:shaped (.list [])=true:=by decide +kernel
 rw [h,h2,Bool.and_self,if_pos rfl]
 cases xs with
 | nil=>rfl
 | cons a r=>rfl
theorem Dx {xs:List D} (h:g0 xs):shaped (.list xs)=true:=by
 have c:PyData.canLayAll0 xs=true/\PyData.depthAll xs=0:=by
  induction xs with
  | nil=>exact ⟨rfl,rfl⟩
  | cons a r ih=>
   obtain ⟨n,rfl⟩:=h a mem_cons_self;have q:=ih fun x hx=>h x (KO _ hx)
   simp [PyData.canLayAll0,PyData.canLay0,PyData.depthAll,PyData.depth,q.1,q.2]
 simp [shaped,PyData.canLay0,PyData.depth,c.1,c.2]
theorem qj {xs:List D} (h:ky xs):shaped (.list xs)=true:=by
 have c:PyData.canLayAll0 xs=true/\PyData.depthAll xs=0:=by
  induction xs with
  | nil=>exact ⟨rfl,rfl⟩
  | cons a r ih=>
   obtain ⟨n,rfl,hn⟩:=h a mem_cons_self;have q:=ih fun x hx=>h x (KO _ hx)
   simp [PyData.canLayAll0,PyData.canLay0,PyData.depthAll,PyData.depth,q.1,q.2,hn]
 simp [shaped,PyData.canLay0,PyData.depth,c.1,c.2]
theorem lt_int {a b:Int}:kT (.int a) (.int b)=some (.bool (decide (a<b))):=rfl
theorem yu {a b:Int}:pJ (.int a) (.int b)=some (.bool (decide (b<=a))):=rfl
theorem oG {a b:Int}:bo (.int a) (.int b)=some (.int (a+b)):=rfl
theorem fX {a b:Int} (h:0<b):dH (.int a) (.int b)=some (.int (a % b)):=by
 show (if yS a b then _ else _)=_
 rw [if_pos (by unfold yS;simpa using h)]
theorem zO {a b:Int} (h:0<b) (h2:b<1073741824):vv (.int a) (.int b)=some (.int (a / b)):=by
 show (if yT a b then _ else _)=_
 rw [if_pos (by unfold yT;simp [h,h2])]
theorem zE {a b:Int} (h:-1000000000000<b) (h2:b<1000000000000):nO (.int a) (.int b)=some (.int (a*b)):=by
 show (if tj a b then _ else _)=_
 rw [if_pos (by unfold tj;simp only [Bool.or_eq_true,Bool.and_eq_true,decide_eq_true_eq];right;omega)]
theorem uZ {a b:Int} (h:-1000000000000<a) (h2:a<1000000000000):nO (.int a) (.int b)=some (.int (a*b)):=by
 show (if tj a b then _ else _)=_
 rw [if_pos (by unfold tj;simp only [Bool.or_eq_true,Bool.and_eq_true,decide_eq_true_eq];left;omega)]
theorem Eu {b:Int} (h:0<=b) (h2:b<=100):yw (.int 10) (.int b)=some (.int (10 ^ b.toNat)):=by
 show (if yR 10 b then _ else _)=_
 rw [if_pos (by unfold yR;simp only [Bool.and_eq_true,decide_eq_true_eq];exact ⟨⟨h,by omega⟩,by decide⟩)]
theorem Dy {xs:List D} (h:g0 xs) {k:Int} (hk:0<=k):∃c,aP [.list xs,.int k]=.ok ⟨.leaf,.int c⟩:=by
 have t:aL ai (az kT (ae 1) (bJ bg (ab (ae 0) af))) [KZ (.list xs),KZ (.int k)]=.ok (decide (k<(xs.length:Int))) [KZ (.list xs),KZ (.int k)]:=
  dA (aI (ay rfl) (cO (ax (ay rfl) aj) rfl) lt_int)
 cases hlt:decide (k<(xs.length:Int)) with
 | true=>
  rw [hlt] at t;have hl:=of_decide_eq_true hlt
  have hk2:k.toNat<xs.length:=by omega
  obtain ⟨c,hc⟩:=h _ (getD_mem hk2);have g:=FN hk2
  rw [hc] at g;exact ⟨c,aD (oF (bu t (fun _=>aH (wc (ay rfl) (ay rfl) (EO hk hl) g rfl) rfl) nofun))⟩
 | false=>
  rw [hlt] at t;exact ⟨0,aD (av (bu t nofun (fun _=>rfl)) (aH aS rfl))⟩
theorem nZ {c k b:Int} (hk:0<=k) (hk2:k<=1000) (hb:1<=b) (hb2:b<=1000):∃r,aw [.int c,.int k,.int b]=.ok ⟨.leaf,.int r⟩/\0<=r/\r<b:=by
 have t:aL ai (az pJ (ae 0) (az yw (eK (.int 10)) (eK (.int 18)))) [KZ (.int c),KZ (.int k),KZ (.int b),none,none,none]=.ok (decide (10 ^ (18:Int).toNat<=c)) [KZ (.int c),KZ (.int k),KZ (.int b),none,none,none]:=
  dA (aI (ay rfl) (aI aS aS (Eu (by omega) (by omega))) yu)
 cases hge:decide (10 ^ (18:Int).toNat<=c) with
 | true=>
  rw [hge] at t;obtain ⟨Γ',e,l,x,hΓ⟩:=HG (P:=fun _ Γ=>∃l x,Γ=[KZ (.int c),KZ (.int k),KZ (.int b),none,KZ (.int l),x]) (i:=5) (body:=aB false 4 (az vv (ae 4) (ae 2))) (cw 0 k.toNat) 0
   [KZ (.int c),KZ (.int k),KZ (.int b),none,KZ (.int c),none] ⟨c,none,rfl⟩ (fun m d Γ hd _ _ ⟨l,x,hΓ⟩=>by
    subst hΓ;refine ⟨by simp,_,dU (aI (ay rfl) (ay rfl) (zO (by omega) (by omega))) rfl (by simp),_,_,rfl⟩)
  subst hΓ;exact ⟨_,aD (oF (bu t (fun _=>av (dU (ay rfl) rfl (by simp)) (av (fV (lE (k:=k) (ax (ay rfl) aj) rfl (by omega) (by omega)) e) (aH (aI (ay rfl) (ay rfl) (fX (by omega))) rfl))) nofun)),Int.emod_nonneg _ (by omega),Int.emod_lt_of_pos _ (by omega)⟩
 | false=>
  rw [hge] at t;have m1:∀x:Int,0<=x % 2147483647/\x % 2147483647<2147483647:=fun x=>⟨Int.emod_nonneg _ (by omega),Int.emod_lt_of_pos _ (by omega)⟩
  refine ⟨_,aD (av (bu t nofun (fun _=>rfl)) (av (dU (aI (aI (aI (aI (aI (ay rfl) aS (fX (by omega))) (aI aS (ay rfl) (uZ (by omega) (by omega))) oG) aS oG) aS (zE (by omega) (by omega))) aS (fX (by omega))) rfl (by simp [ah]))
   (av (dU (aI (aI (aI (aI (ay rfl) (ay rfl) (uZ ?_ ?_)) (aI aS (ay rfl) (uZ (by omega) (by omega))) oG) aS oG) aS (fX (by omega))) rfl (by simp [ah]))
   (aH (aI (aI (aI (aI (ay rfl) aS (zE (by omega) (by omega))) aS (fX (by omega))) aS (zO (by omega) (by omega))) (ay rfl) (fX (by omega))) rfl)))),Int.emod_nonneg _ (by omega),Int.emod_lt_of_pos _ (by omega)⟩
  ·exact Int.lt_of_lt_of_le (by omega) (m1 _).1
  ·exact Int.lt_trans (m1 _).2 (by omega)
noncomputable def hJ (c k b:Int):Int:=match aw [.int c,.int k,.int b] with
 | .ok ⟨_,.int r⟩=>r
 | _=>0
theorem wG {c k b:Int} (hk:0<=k) (hk2:k<=1000) (hb:1<=b) (hb2:b<=1000):aw [.int c,.int k,.int b]=.ok ⟨.leaf,.int (hJ c k b)⟩:=by
 obtain ⟨r,e,_⟩:=nZ (c:=c) hk hk2 hb hb2
 unfold hJ;rw [e]
theorem zX {c k b:Int} (hk:0<=k) (hk2:k<=1000) (hb:1<=b) (hb2:b<=1000):0<=hJ c k b/\hJ c k b<b:=by
 obtain ⟨r,e,h⟩:=nZ (c:=c) hk hk2 hb hb2
 unfold hJ;rw [e];exact h
noncomputable def abc (d:D):D:=match d with
 | .int k=>(match fE [97,98,99] k with
  | some c=>.str ⟨#[c]⟩
  | none=>.none)
 | _=>.none
theorem uR {c:Nat} (h:c<1000):PyData.strOk ⟨#[c]⟩=true:=by
 unfold PyData.strOk;simp
 omega
theorem qT:(Str.ofString "abc").cps.toList=[97,98,99]:=by decide +kernel
theorem HK:(Str.ofString "abc").length<=sizeLine:=by decide +kernel
theorem vS {k:Nat} (hk:k<3):∃c,c<1000/\fE (Str.ofString "abc").cps.toList (k:Int)=some c/\abc (.int k)=.str ⟨#[c]⟩:=by
 rw [qT];match k,hk with
 | 0,_=>exact ⟨97,by omega,rfl,rfl⟩
 | 1,_=>exact ⟨98,by omega,rfl,rfl⟩
 | 2,_=>exact ⟨99,by omega,rfl,rfl⟩
noncomputable abbrev eW:FS:=(aq (aB false 8 (ag 2 aP (ab (ae 0) (ab (az bo (az bo (ae 1) (eK (.int 1))) (ae 7)) af))))
  (aq (aG 4 (ag 3 aw (ab (ae 8) (ab (eK (.int 0)) (ab (eK (.int 2)) af)))))
  (aq (aG 5 (aA .leaf 11 (i4 (ab (eK (.int 3)) af)) (aL ai (az bj (ag 3 aw (ab (ae 8) (ab (az bo (eK (.int 1)) (ae 11)) (ab (eK (.int 2)) af)))) (eK (.int 1)))) (ao (eK (.str "abc")) (ae 11))))
  (aq (aB false 9 (aA .leaf 10 (i4 (ab (ae 3) af)) (aL ai (az bj (ag 3 aw (ab (ae 8) (ab (az bo (eK (.int 4)) (ae 10)) (ab (az bo (eK (.int 2)) (bJ vt (ab (az pI (ae 3) (eK (.int 3))) af))) af)))) (eK (.int 1)))) (ae 10)))
  (aq (bW (aL ai (az bj (ae 9) (cc .leaf af))) (aB false 9 (cc .leaf (ab (ag 3 aw (ab (ae 8) (ab (az bo (eK (.int 4)) (ae 3)) (ab (ae 3) af)))) af))) aJ)
  (aG 6 (ae 9)))))))
theorem uq {ts:List Int} (h:ts.Pairwise (· < ·)):ir (ts.map .int)=true:=by
 unfold ir;rw [all_eq_true];intro d hd;obtain ⟨k,hk,rfl⟩:=ze hd;rw [length_map] at hk;have h1:k<ts.length:=by omega
 have h2:k+1<ts.length:=by omega
 unfold zG;dsimp only;rw [show (1+(k:Int)-1).toNat=k by omega,show (1+(k:Int)).toNat=k+1 by omega]
 rw [KN,KN,getElem?_map,getElem?_map,KM h1,KM h2];have:=List.pairwise_iff_getElem.mp h k (k+1) h1 h2 (by omega)
 show decide (ts[k]<ts[k+1])=true
 exact decide_eq_true this
structure Gw (N:Int) (n:Nat) (os ms ss:List D):Prop where
 lo:os.length=n
 lm:ms.length=n
 ls:ss.length=n
 o:∀a∈os,a=.int 0\/a=.int 1
 m:∀r∈ms,∃xs,r=.list xs/\ky xs/\xs.length<=30/\Dj r=true
 s:∀r∈ss,∃ts:List Int,r=.list (ts.map .int)/\ts.length<=30/\ts≠[]/\(∀t∈ts,0<=t/\t<N)/\ts.Pairwise (· < ·)
theorem DB {ts:List Int}:g0 (ts.map .int):=fun a ha=>by
 obtain ⟨n,_,e⟩:=List.mem_map.mp ha;exact ⟨n,e.symm⟩
theorem Gw.wk {N:Int} {n b:Nat} {os ms ss:List D} (h:Gw N n os ms ss) (hb:n<=b):Wk b os ms ss:=
 ⟨fun a ha=>(h.o a ha).elim (fun e=>⟨0,e⟩) fun e=>⟨1,e⟩,fun r hr=>let ⟨xs,e,a,b,_⟩:=h.m r hr;⟨xs,e,a,b⟩,fun r hr=>let ⟨ts,e,a,_⟩:=h.s r hr;⟨_,e,DB,by rw [length_map];exact a⟩,by rw [h.lo];exact hb,by rw [h.lm];exact hb,by rw [h.ls];exact hb⟩
theorem Gw.isW {n:Nat} {os ms ss:List D} (h:Gw (n:Int) n os ms ss) (h1:1<=n) (h24:n<=24):isW os ms ss=true:=by
 unfold KC.isW GX;rw [h.lo,h.lm,h.ls];have e1:decide ((n:Int)<1)=false:=decide_eq_false (by omega)
 have e2:decide ((24:Int)<n)=false:=decide_eq_false (by omega)
 rw [e1,e2];simp only [beq_self_eq_true,Bool.not_true,Bool.or_self,Bool.not_false,Bool.true_and,Bool.and_eq_true,all_eq_true]
 refine ⟨fun a ha=>?_,fun r hr=>?_,fun r hr=>?_⟩
 ·rcases h.o a ha with rfl | rfl<;>rfl
 ·obtain ⟨xs,_,_,_,e⟩:=h.m r hr
  exact e
 ·obtain ⟨ts,rfl,h2,h3,h4,h5⟩:=h.s r hr
  unfold Gx;simp only [Bool.and_eq_true,decide_eq_true_eq,length_map,all_eq_true]
  refine ⟨by cases ts with | nil=>exact absurd rfl h3 | cons a r=>simp,fun a ha=>?_,uq h5⟩
  obtain ⟨t,ht,rfl⟩:=List.mem_map.mp ha;have:=h4 t ht
  unfold inR;simp only [Bool.and_eq_true,decide_eq_true_eq]
  exact this
theorem Js (c0 c1 c2:Bool):Dj (.list (((if c0 then [PyData.str ⟨#[97]⟩] else [])++((if c1 then [PyData.str ⟨#[98]⟩] else [])++(if c2 then [PyData.str ⟨#[99]⟩] else [])))))=true:=by
 cases c0<;>cases c1<;>cases c2<;>decide +kernel
theorem JE (c:D->Bool):((cw 0 3).filter c).map abc=((if c (.int 0) then [PyData.str ⟨#[97]⟩] else [])++((if c (.int 1) then [PyData.str ⟨#[98]⟩] else [])++(if c (.int 2) then [PyData.str ⟨#[99]⟩] else []))):=by
 have e:cw 0 3=[.int 0,.int 1,.int 2]:=rfl
 rw [e];simp only [filter_cons,List.filter_nil]
 cases c (.int 0)<;>cases c (.int 1)<;>cases c (.int 2)<;>rfl
theorem AH (n:Nat) (c:D->Bool):∃ts:List Int,((cw 0 n).filter c).map (fun d=>d)=ts.map .int/\(∀t∈ts,0<=t/\t<(n:Int))/\ts.Pairwise (· < ·)/\ts.length<=n:=by
 refine ⟨((List.range n).map fun i=>(0:Int)+(i:Nat)).filter fun i=>c (.int i),?_,fun t ht=>?_,?_,?_⟩
 ·rw [List.map_id']
  unfold cw;rw [show (fun i:Nat=>PyData.int (0+(i:Int)))=(PyData.int∘fun i:Nat=>(0:Int)+(i:Nat)) from rfl,<-map_map,List.filter_map]
  rfl
 ·obtain ⟨h1,_⟩:=List.mem_filter.mp ht
  obtain ⟨i,hi,rfl⟩:=List.mem_map.mp h1;rw [mem_range] at hi;omega
 ·refine List.Pairwise.filter _ ?_
  rw [List.pairwise_map];exact List.pairwise_lt_range.imp fun h=>by omega
 ·refine Nat.le_trans (length_filter_le _ _) ?_
  simp
theorem pS {xs os ms ss:List D} {at' lim many:Int} {n:Nat} {x8 x9:Option PV} (hx:g0 xs) (ha:0<=at') (hm:1<=many) (hm2:many<=24) (h:Gw many n os ms ss) (hn:n<=30) {r:Nat} :
  ∃os' ms' ss' x8' x9',eW [KZ (.list xs),KZ (.int at'),KZ (.int lim),KZ (.int many),some ⟨.lst .leaf,.list os⟩,some ⟨.lst .leaf,.list ms⟩,some ⟨.lst .leaf,.list ss⟩,KZ (.int (r:Nat)),x8,x9,none,none]
   = .nx [KZ (.list xs),KZ (.int at'),KZ (.int lim),KZ (.int many),some ⟨.lst .leaf,.list os'⟩,some ⟨.lst .leaf,.list ms'⟩,some ⟨.lst .leaf,.list ss'⟩,KZ (.int (r:Nat)),x8',x9',none,none]/\Gw many (n+1) os' ms' ss':=by
 obtain ⟨c,hc⟩:=Dy hx (k:=at'+1+(r:Int)) (by omega)
 have lo:=h.lo
 have lm:=h.lm
 have ls:=h.ls
 have c5:∀(Γ:Ev),Γ.length=12->Γ[8]?=some (KZ (.int c))->aA .leaf 11 (i4 (ab (eK (.int 3)) af)) (aL ai (az bj (ag 3 aw (ab (ae 8) (ab (az bo (eK (.int 1)) (ae 11)) (ab (eK (.int 2)) af)))) (eK (.int 1)))) (ao (eK (.str "abc")) (ae 11)) Γ
   = .ok ⟨.lst .leaf,.list (((cw 0 3).filter fun d=>match d with | .int k=>hJ c (1+k) 2==1 | _=>false).map fun d=>abc d)⟩ Γ:=fun Γ hl h8=>by
  refine Il (c:=fun d=>match d with | .int k=>hJ c (1+k) 2==1 | _=>false) (f:=fun d=>⟨.leaf,abc d⟩) (st:=true) (lE (k:=3) (ax aS aj) rfl (by omega) (by omega)) (by omega) rfl (by rw [C5];omega) (fun d hd=>?_) fun d hd _=>?_
  ·obtain ⟨k,hk,rfl⟩:=ze hd
   have g11:(Γ.set 11 (KZ (.int (0+(k:Int)))))[11]?=some (KZ (.int (0+(k:Int)))):=by rw [getElem?_set_self (by omega)]
   have g8:(Γ.set 11 (KZ (.int (0+(k:Int)))))[8]?=some (KZ (.int c)):=by rw [getElem?_set_ne (by omega)];exact h8
   exact dA (aI (bY (ax (ay g8) (ax (aI aS (ay g11) oG) (ax aS aj))) (wG (by omega) (by omega) (by omega) (by omega)) rfl rfl) aS eq_int)
  ·obtain ⟨k,hk,rfl⟩:=ze hd
   have g11:(Γ.set 11 (KZ (.int (0+(k:Int)))))[11]?=some (KZ (.int (0+(k:Int)))):=by rw [getElem?_set_self (by omega)]
   obtain ⟨z,hz,e1,e2⟩:=vS hk;rw [Int.zero_add] at g11 ⊢;rw [e2];exact ⟨FZ aS (ay g11) HK e1,rfl⟩
 generalize hM:(((cw 0 3).filter fun d=>match d with | .int k=>hJ c (1+k) 2==1 | _=>false).map fun d=>abc d)=M at c5
 have rM:ky M/\M.length<=30/\Dj (.list M)=true:=by
  refine ⟨?_,?_,?_⟩
  ·rw [<-hM]
   intro a ha;obtain ⟨d,hd,rfl⟩:=List.mem_map.mp ha;obtain ⟨k,hk,rfl⟩:=ze (List.mem_filter.mp hd).1;obtain ⟨z,hz,e1,e2⟩:=vS hk;rw [Int.zero_add,e2];exact ⟨_,rfl,uR hz⟩
  ·rw [<-hM,length_map]
   refine Nat.le_trans (length_filter_le _ _) ?_
   rw [C5];omega
  ·rw [<-hM]
   have:=JE (fun d=>match d with | .int k=>hJ c (1+k) 2==1 | _=>false)
   rw [show (fun d=>abc d)=abc from rfl,this]
   exact Js _ _ _
 have c6:∀(Γ:Ev),Γ.length=12->Γ[8]?=some (KZ (.int c))->Γ[3]?=some (KZ (.int many))->aA .leaf 10 (i4 (ab (ae 3) af)) (aL ai (az bj (ag 3 aw (ab (ae 8) (ab (az bo (eK (.int 4)) (ae 10)) (ab (az bo (eK (.int 2)) (bJ vt (ab (az pI (ae 3) (eK (.int 3))) af))) af)))) (eK (.int 1)))) (ae 10) Γ
   = .ok ⟨.lst .leaf,.list (((cw 0 many.toNat).filter fun d=>match d with | .int k=>hJ c (4+k) (2+(if decide (3<many) then 1 else 0))==1 | _=>false).map fun d=>d)⟩ Γ:=fun Γ hl h8 h3=>by
  refine Il (c:=fun d=>match d with | .int k=>hJ c (4+k) (2+(if decide (3<many) then 1 else 0))==1 | _=>false) (f:=fun d=>⟨.leaf,d⟩) (st:=true) (lE (k:=many) (ax (ay h3) aj) rfl (by omega) (by omega)) (by omega) rfl (by rw [C5];omega) (fun d hd=>?_) fun d hd _=>?_
  ·obtain ⟨k,hk,rfl⟩:=ze hd
   have g10:(Γ.set 10 (KZ (.int (0+(k:Int)))))[10]?=some (KZ (.int (0+(k:Int)))):=by rw [getElem?_set_self (by omega)]
   have g8:(Γ.set 10 (KZ (.int (0+(k:Int)))))[8]?=some (KZ (.int c)):=by rw [getElem?_set_ne (by omega)];exact h8
   have g3:(Γ.set 10 (KZ (.int (0+(k:Int)))))[3]?=some (KZ (.int many)):=by rw [getElem?_set_ne (by omega)];exact h3
   have b1:(1:Int)<=2+(if decide (3<many) then 1 else 0)/\(2:Int)+(if decide (3<many) then 1 else 0)<=1000:=by split<;>omega
   exact dA (aI (bY (ax (ay g8) (ax (aI aS (ay g10) oG) (ax (aI aS (cO (ax (aI (ay g3) aS rfl) aj) rfl) oG) aj))) (wG (by omega) (by omega) b1.1 b1.2) rfl rfl) aS eq_int)
  ·obtain ⟨k,hk,rfl⟩:=ze hd
   exact ⟨ay (by rw [getElem?_set_self (by omega)]),rfl⟩
 obtain ⟨ts,hT,hts1,hts2,hts3⟩:=AH many.toNat (fun d=>match d with | .int k=>hJ c (4+k) (2+(if decide (3<many) then 1 else 0))==1 | _=>false)
 rw [hT] at c6;have fin:∀(Γ:Ev) (T:List Int),(T.length<=30/\T≠[]/\(∀t∈T,0<=t/\t<many)/\T.Pairwise (· < ·))->Γ=[KZ (.list xs),KZ (.int at'),KZ (.int lim),KZ (.int many),some ⟨.lst .leaf,.list (os++[.int (hJ c 0 2)])⟩,some ⟨.lst .leaf,.list (ms++[.list M])⟩,some ⟨.lst .leaf,.list ss⟩,KZ (.int (r:Nat)),KZ (.int c),KZ (.list (T.map .int)),none,none] ->
   ∃os' ms' ss' x8' x9',aG 6 (ae 9) Γ=.nx [KZ (.list xs),KZ (.int at'),KZ (.int lim),KZ (.int many),some ⟨.lst .leaf,.list os'⟩,some ⟨.lst .leaf,.list ms'⟩,some ⟨.lst .leaf,.list ss'⟩,KZ (.int (r:Nat)),x8',x9',none,none]/\Gw many (n+1) os' ms' ss':=fun Γ T hT2 hΓ=>by
  subst hΓ;refine ⟨os++[.int (hJ c 0 2)],ms++[.list M],ss++[.list (T.map .int)],_,_,Ik rfl (ay rfl) rfl (by omega),by simp;omega,by simp;omega,by simp;omega,fun a ha=>?_,fun a ha=>?_,fun a ha=>?_⟩
  ·rcases KJ ha with z | z
   ·exact h.o a z
   ·have:=zX (c:=c) (k:=0) (b:=2) (by omega) (by omega) (by omega) (by omega)
    rw [List.mem_singleton.mp z];rcases (by omega:hJ c 0 2=0\/hJ c 0 2=1) with e | e
    ·exact .inl (by rw [e])
    ·exact .inr (by rw [e])
  ·rcases KJ ha with z | z
   ·exact h.m a z
   ·exact ⟨M,List.mem_singleton.mp z,rM.1,rM.2.1,by rw [List.mem_singleton.mp z];exact rM.2.2⟩
  ·rcases KJ ha with z | z
   ·exact h.s a z
   ·exact ⟨T,List.mem_singleton.mp z,hT2⟩
 have e1:=dU (i:=8) (bY (fl:=ab (ae 0) (ab (az bo (az bo (ae 1) (eK (.int 1))) (ae 7)) af)) (Γ:=[KZ (.list xs),KZ (.int at'),KZ (.int lim),KZ (.int many),some ⟨.lst .leaf,.list os⟩,some ⟨.lst .leaf,.list ms⟩,some ⟨.lst .leaf,.list ss⟩,KZ (.int (r:Nat)),x8,x9,none,none]) (ax (ay rfl) (ax (aI (aI (ay rfl) aS oG) (ay rfl) oG) aj)) hc rfl rfl) rfl (by simp)
 have e2:aG 4 (ag 3 aw (ab (ae 8) (ab (eK (.int 0)) (ab (eK (.int 2)) af)))) [KZ (.list xs),KZ (.int at'),KZ (.int lim),KZ (.int many),some ⟨.lst .leaf,.list os⟩,some ⟨.lst .leaf,.list ms⟩,some ⟨.lst .leaf,.list ss⟩,KZ (.int (r:Nat)),KZ (.int c),x9,none,none]=_:=
  Ik rfl (bY (ax (ay rfl) (ax aS (ax aS aj))) (wG (by omega) (by omega) (by omega) (by omega)) rfl rfl) rfl (by omega)
 have e3:=Ik (i:=5) (Γ:=[KZ (.list xs),KZ (.int at'),KZ (.int lim),KZ (.int many),some ⟨.lst .leaf,.list (os++[.int (hJ c 0 2)])⟩,some ⟨.lst .leaf,.list ms⟩,some ⟨.lst .leaf,.list ss⟩,KZ (.int (r:Nat)),KZ (.int c),x9,none,none]) rfl (c5 _ rfl rfl) rfl (by omega)
 have e4:=dU (i:=9) (Γ:=[KZ (.list xs),KZ (.int at'),KZ (.int lim),KZ (.int many),some ⟨.lst .leaf,.list (os++[.int (hJ c 0 2)])⟩,some ⟨.lst .leaf,.list (ms++[.list M])⟩,some ⟨.lst .leaf,.list ss⟩,KZ (.int (r:Nat)),KZ (.int c),x9,none,none]) (c6 _ rfl rfl rfl) rfl (by simp)
 have t:aL ai (az bj (ae 9) (cc .leaf af)) [KZ (.list xs),KZ (.int at'),KZ (.int lim),KZ (.int many),some ⟨.lst .leaf,.list (os++[.int (hJ c 0 2)])⟩,some ⟨.lst .leaf,.list (ms++[.list M])⟩,some ⟨.lst .leaf,.list ss⟩,KZ (.int (r:Nat)),KZ (.int c),KZ (.list (ts.map .int)),none,none]
   = .ok (decide ((ts.map PyData.int).length=0)) _:=dA (aI (ay rfl) (zb (s:=.leaf) aj rfl rfl rfl) (Cw (Dx DB)))
 cases hz:decide ((ts.map PyData.int).length=0) with
 | true=>
  rw [hz] at t;obtain ⟨o',m',s',y8,y9,f1,f2⟩:=fin _ [hJ c (4+many) many] ⟨by simp,by simp,fun t ht=>by rw [List.mem_singleton.mp ht];exact zX (by omega) (by omega) (by omega) (by omega),List.pairwise_singleton _ _⟩ rfl
  exact ⟨o',m',s',y8,y9,av e1 (av e2 (av e3 (av e4 (av (bu t (fun _=>dU (zb (s:=.leaf) (ax (bY (ax (ay rfl) (ax (aI aS (ay rfl) oG) (ax (ay rfl) aj))) (wG (by omega) (by omega) (by omega) (by omega)) rfl rfl) aj) rfl rfl rfl) rfl (by simp)) nofun) f1)))),f2⟩
 | false=>
  rw [hz] at t;obtain ⟨o',m',s',y8,y9,f1,f2⟩:=fin _ ts ⟨by omega,(fun z=>by rw [z] at hz;cases hz),(fun t ht=>by have:=hts1 t ht;omega),hts2⟩ rfl
  exact ⟨o',m',s',y8,y9,av e1 (av e2 (av e3 (av e4 (av (bu t nofun (fun _=>rfl)) f1)))),f2⟩
noncomputable abbrev W3:Sh:=.tup [.lst .leaf,.lst .leaf,.lst .leaf]
noncomputable abbrev rz (os ms ss:List D):D:=.tuple [.list os,.list ms,.list ss]
theorem sL {xs:List D} {at' lim:Int} (hx:g0 xs) (ha:0<=at') (hl:1<=lim) (hl2:lim<=24):∃(n:Nat) (os ms ss:List D),dF [.list xs,.int at',.int lim]=.ok ⟨W3,rz os ms ss⟩/\Gw (n:Int) n os ms ss/\1<=n/\(n:Int)<=lim:=by
 obtain ⟨c,hc⟩:=Dy hx (k:=at') ha
 have b0:0<=c % lim:=Int.emod_nonneg _ (by omega)
 have b1:c % lim<lim:=Int.emod_lt_of_pos _ (by omega)
 generalize hmm:1+c % lim=many at *
 have e0:aB false 3 (az bo (eK (.int 1)) (az dH (ag 2 aP (ab (ae 0) (ab (ae 1) af))) (ae 2))) [KZ (.list xs),KZ (.int at'),KZ (.int lim),none,none,none,none,none,none,none,none,none]
   = .nx [KZ (.list xs),KZ (.int at'),KZ (.int lim),KZ (.int many),none,none,none,none,none,none,none,none]:=by
  rw [<-hmm];exact dU (aI aS (aI (bY (ax (ay rfl) (ax (ay rfl) aj)) hc rfl rfl) (ay rfl) (fX (by omega))) oG) rfl (by simp)
 obtain ⟨Γ',e,os,ms,ss,x7,x8,x9,hΓ,hw⟩:=HG (P:=fun n Γ=>∃os ms ss x7 x8 x9,Γ=[KZ (.list xs),KZ (.int at'),KZ (.int lim),KZ (.int many),some ⟨.lst .leaf,.list os⟩,some ⟨.lst .leaf,.list ms⟩,some ⟨.lst .leaf,.list ss⟩,x7,x8,x9,none,none]/\Gw many n os ms ss) (i:=7) (body:=eW) (cw 0 many.toNat) 0
  [KZ (.list xs),KZ (.int at'),KZ (.int lim),KZ (.int many),some ⟨.lst .leaf,.list []⟩,some ⟨.lst .leaf,.list []⟩,some ⟨.lst .leaf,.list []⟩,none,none,none,none,none] ⟨[],[],[],none,none,none,rfl,rfl,rfl,rfl,fun a ha=>(nomatch ha),fun a ha=>(nomatch ha),fun a ha=>(nomatch ha)⟩ (fun m d Γ hd h1 h2 ⟨os,ms,ss,x7,x8,x9,hΓ,hw⟩=>by
   subst hΓ;obtain ⟨k,hk,rfl⟩:=ze hd;rw [C5] at h2;rw [Int.zero_add];obtain ⟨os',ms',ss',y8,y9,f1,f2⟩:=pS (at':=at') (lim:=lim) (many:=many) (x8:=x8) (x9:=x9) hx ha (by omega) (by omega) hw (by omega) (r:=k)
   exact ⟨by simp,_,f1,os',ms',ss',_,y8,y9,rfl,f2⟩)
 subst hΓ;rw [C5,Nat.zero_add] at hw;have en:((many.toNat:Nat):Int)=many:=by omega
 refine ⟨many.toNat,os,ms,ss,aD (av e0 (av (Dq (zb (s:=.leaf) aj rfl rfl rfl) rfl (by simp)) (av (Dq (zb (s:=.leaf) aj rfl rfl rfl) rfl (by simp)) (av (Dq (zb (s:=.leaf) aj rfl rfl rfl) rfl (by simp)) (av (fV (lE (k:=many) (ax (ay rfl) aj) rfl (by omega) (by omega)) e) (aH (bD (ax (F5 (p:=⟨.lst .leaf,.list os⟩) rfl) (ax (F5 (p:=⟨.lst .leaf,.list ms⟩) rfl) (ax (F5 (p:=⟨.lst .leaf,.list ss⟩) rfl) aj))) rfl rfl) rfl)))))),by rw [en];exact hw,by omega,by omega⟩
theorem zD {n:Nat} {g:FS} {ds:List D} {Γ:Ev} (h:g (ah n ds)=.nx Γ):aC n g ds=.ok ⟨.leaf,.none⟩:=by unfold aC;rw [h]
theorem v_not {Γ Γ1:Ev} {fa:F1} {s:Sh} {b:Bool} (ha:fa Γ=.ok ⟨s,.bool b⟩ Γ1):lY fa Γ=.ok ⟨.leaf,.bool (!b)⟩ Γ1:=by
 unfold lY ba;rw [ha];rfl
theorem zg {Γ Γ1:Ev} {fa:F1} {p:PV} (h:fa Γ=.ok p Γ1):dh fa Γ=.nx Γ1:=by unfold dh jS;rw [h]
theorem sP {b:Nat} {os ms ss:List D} (h:Wk b os ms ss) (hb:b<=100) (hw:isW os ms ss=true):cj [rz os ms ss]=.ok ⟨.leaf,.none⟩:=by
 have t:ff (aL bX (ag 3 eN (ab (ao (ae 0) (eK (.int 0))) (ab (ao (ae 0) (eK (.int 1))) (ab (ao (ae 0) (eK (.int 2))) af))))) [KZ (rz os ms ss)]=.ok (!(isW os ms ss)) [KZ (rz os ms ss)]:=
  lB (iI (bY (ax (jU (j:=0) (ay rfl) aS rfl rfl rfl) (ax (jU (j:=1) (ay rfl) aS rfl rfl rfl) (ax (jU (j:=2) (ay rfl) aS rfl rfl rfl) aj))) (me h hb) rfl rfl))
 rw [hw] at t;exact zD (bu t nofun (fun _=>rfl))
theorem vy {d:D} (h:shaped d=true):bj d d=some (.bool true):=by
 unfold bj;rw [h,Bool.and_self,if_pos rfl,PySem.SeqAt.eqv_refl _ (canLay_of_shaped h)]
theorem F7 {d:D} (h:shaped d=true):jT d d=some (.bool false):=by
 unfold jT;rw [h,Bool.and_self,if_pos rfl,PySem.SeqAt.eqv_refl _ (canLay_of_shaped h)];rfl
theorem vg {ts:List Int} {i:Int}:bQ false (.int i) (.list (ts.map .int))=some (.bool (ts.contains i)):=by
 unfold bQ;simp only [Ab,Dx DB,Bool.and_self,if_true]
 congr 2
 rw [Bool.eq_iff_iff];simp only [Bool.false_eq_true,if_false,any_eq_true,mem_map,contains_iff_mem]
 constructor
 ·rintro ⟨d,⟨t,ht,rfl⟩,e⟩
  rw [PyData.eqv] at e;have:t=i:=by simpa using e
  rw [<-this];exact ht
 ·intro h
  exact ⟨.int i,⟨i,h,rfl⟩,by rw [PyData.eqv];simp⟩
noncomputable def has (x:Str) (d:D):Bool:=match d with
 | .list xs=>xs.any fun y=>PyData.eqv y (.str x)
 | _=>false
theorem Cb {x:Str} {xs:List D} (hx:PyData.strOk x=true) (h:ky xs):bQ false (.str x) (.list xs)=some (.bool (has x (.list xs))):=by
 unfold bQ;simp only [FX hx,qj h,Bool.and_self,if_true]
 rfl
theorem sv {ts:List Int} {i:Int}:bQ true (.int i) (.list (ts.map .int))=some (.bool (!ts.contains i)):=by
 have h:=vg (ts:=ts) (i:=i)
 unfold bQ at h ⊢
 simp only [Ab,Dx DB,Bool.and_self,if_true,Bool.false_eq_true,if_false] at h ⊢
 have h:=Option.some.inj h
 injection h with h
 rw [h]
end KC
namespace T
open PySem PySem.Spec L2
open PyProof.Rows hiding St
section
variable {Γ Γ1:Ev} {fa fb fc:F1} {fl:FL} {p:PV} {i n:Nat} {ga gb:FB} {g1 g2:FS}
@[simp] theorem IV:sizeLine=16777216:=rfl
@[simp] theorem oE {α β:Type} {a:α} {e:Ev} {k:α->Ev->Out β}:(Out.ok a e).bind k=k a e:=rfl
@[simp] theorem r_k {d:D}:eK d Γ=.ok ⟨.leaf,d⟩ Γ:=rfl
@[simp] theorem J3:af Γ=.ok [] Γ:=rfl
@[simp] theorem IM:aK Γ=.ok true Γ:=rfl
@[simp] theorem IS:aJ Γ=.nx Γ:=rfl
@[simp] theorem Ji:ab fa fl Γ=(fa Γ).bind fun p Γ1=>(fl Γ1).bind fun ps Γ2=>.ok (p::ps) Γ2:=rfl
@[simp] theorem A8 {g:D->D->Option D}:az g fa fb Γ=(fa Γ).bind fun p Γ1=>(fb Γ1).bind fun q Γ2=>match g p.d q.d with | some d=>.ok ⟨.leaf,d⟩ Γ2 | none=>.no:=rfl
@[simp] theorem Ku {g:List D->Option D}:bJ g fl Γ=(fl Γ).bind fun ps Γ'=>match g (ps.map (·.d)) with | some d=>.ok ⟨.leaf,d⟩ Γ' | none=>.no:=rfl
@[simp] theorem Eh {g:D->Option Bool}:aL g fa Γ=(fa Γ).bind fun p Γ'=>match g p.d with | some b=>.ok b Γ' | none=>.no:=rfl
@[simp] theorem Jk:ff ga Γ=(ga Γ).bind fun c Γ'=>.ok (!c) Γ':=rfl
@[simp] theorem Jl:gx ga gb Γ=(ga Γ).bind fun c Γ'=>if c then gb Γ' else .ok false Γ':=rfl
@[simp] theorem Kb:fD ga gb Γ=(ga Γ).bind fun c Γ'=>if c then .ok true Γ' else gb Γ':=rfl
@[simp] theorem Ka:kn ga fa fb Γ=(ga Γ).bind fun b Γ'=>if b then fa Γ' else fb Γ':=rfl
@[simp] theorem Bb:fU fa fb Γ=(fa Γ).bind fun p Γ=>match p.d with | .bool true=>fb Γ | .bool false=>.ok ⟨.leaf,.bool false⟩ Γ | _=>.no:=rfl
@[simp] theorem Jg:lY fa Γ=(fa Γ).bind fun p Γ=>match p.d with | .bool b=>.ok ⟨.leaf,.bool (!b)⟩ Γ | _=>.no:=rfl
@[simp] theorem eE:aq g1 g2 Γ=match g1 Γ with | .nx Γ'=>g2 Γ' | .rt p=>.rt p | .bk Γ'=>.bk Γ' | .ct Γ'=>.ct Γ' | .er c Γ'=>.er c Γ' | .no=>.no:=by
 unfold aq
 cases g1 Γ<;>rfl
@[simp] theorem rT {k:PV->Ev->dS}:jS fa k Γ=match fa Γ with | .ok p Γ1=>k p Γ1 | .er c Γ1=>.er c Γ1 | .no=>.no:=by
 unfold jS
 cases fa Γ<;>rfl
@[simp] theorem I0:bW ga g1 g2 Γ=match ga Γ with | .ok b Γ1=>if b then g1 Γ1 else g2 Γ1 | .er c Γ1=>.er c Γ1 | .no=>.no:=by
 unfold bW
 cases ga Γ<;>rfl
@[simp] theorem GA {b:Bool}:ai (.bool b)=some b:=rfl
@[simp] theorem Jc {b:Bool}:bX (.bool b)=some b:=rfl
@[simp] theorem Gy {xs:List D}:bX (.list xs)=some (!xs.isEmpty):=rfl
noncomputable def Bm (p:PV):PV:=match p.s with
 | .leaf=>p
 | _=>⟨.view,p.d⟩
@[simp] theorem uG {d:D}:Bm ⟨.leaf,d⟩=⟨.leaf,d⟩:=rfl
@[simp] theorem JZ {s:Sh} {d:D}:Bm ⟨.lst s,d⟩=⟨.view,d⟩:=rfl
@[simp] theorem JY {s:List Sh} {d:D}:Bm ⟨.tup s,d⟩=⟨.view,d⟩:=rfl
@[simp] theorem m7:ae i Γ=match Γ[i]? with | some (some p)=>.ok (Bm p) Γ | _=>.no:=by
 unfold ae
 cases h:Γ[i]? with
 | none=>rfl
 | some o=>
  cases o with
  | none=>rfl
  | some p=>
   obtain ⟨s,d⟩:=p
   cases s<;>rfl
@[simp] theorem IT:dE i Γ=match Γ[i]? with | some (some p)=>.ok p (Γ.set i none) | _=>.no:=rfl
@[simp] theorem Bc {d:D}:coer .leaf ⟨.leaf,d⟩=true:=rfl
@[simp] theorem GC {s:Sh} {d:D}:coer .leaf ⟨.lst s,d⟩=true:=rfl
@[simp] theorem GB {s:List Sh} {d:D}:coer .leaf ⟨.tup s,d⟩=true:=rfl
@[simp] theorem GD {i:Int} {s:Sh}:coer .leaf ⟨s,.int i⟩=true:=by cases s<;>rfl
@[simp] theorem GE {b:Bool} {s:Sh}:coer .leaf ⟨s,.bool b⟩=true:=by cases s<;>rfl
@[simp] theorem IZ:Sh.isView .leaf=false:=rfl
@[simp] theorem IY {s:Sh}:Sh.isView (.lst s)=false:=rfl
@[simp] theorem IX {s:List Sh}:Sh.isView (.tup s)=false:=rfl
@[simp] theorem iw {own:Bool}:aB own i fa Γ=match fa Γ with | .ok p Γ1=>(if i<Γ1.length then (if own&&!p.s.isView then .nx (Γ1.set i (some p)) else if T.coer .leaf p then .nx (Γ1.set i (some ⟨.leaf,p.d⟩)) else .no) else .no) | .er c Γ1=>.er c Γ1 | .no=>.no:=by
 unfold aB;rw [rT]
@[simp] theorem uF:aF fa Γ=match fa Γ with | .ok p Γ1=>(if p.s.isView then (if bP p.d then .rt ⟨.leaf,p.d⟩ else .no) else .rt p) | .er c Γ1=>.er c Γ1 | .no=>.no:=by
 unfold aF;rw [rT]
@[simp] theorem Jh:dh fa Γ=match fa Γ with | .ok p Γ1=>.nx Γ1 | .er c Γ1=>.er c Γ1 | .no=>.no:=by
 unfold dh;rw [rT]
@[simp] theorem Jj {den:List D->bS}:ag n den fl Γ=(fl Γ).bind fun ps Γ'=>if ps.length=n then (match den (ps.map (·.d)) with | .ok p=>if ps.all (T.coer .leaf) then .ok p Γ' else if bP p.d then .ok ⟨.leaf,p.d⟩ Γ' else .ok ⟨.view,p.d⟩ Γ' | _=>.no) else .no:=rfl
@[simp] theorem Jf {a b:Int}:bo (.int a) (.int b)=some (.int (a+b)):=rfl
@[simp] theorem Jd {a b:Int}:gSub (.int a) (.int b)=some (.int (a-b)):=rfl
@[simp] theorem J8 {a b:Int}:kT (.int a) (.int b)=some (.bool (decide (a<b))):=rfl
@[simp] theorem J9 {a b:Int}:pI (.int a) (.int b)=some (.bool (decide (b<a))):=rfl
@[simp] theorem Je {ds:List D}:bg [.list ds]=some (.int ds.length):=rfl
@[simp] theorem Gz {ds:List D}:bg [.tuple ds]=some (.int ds.length):=rfl
noncomputable def nM (p q:PV):Ev->Out PV:=ao (fun Γ=>.ok p Γ) (fun Γ=>.ok q Γ)
@[simp] theorem Ee:ao fa fb Γ=(fa Γ).bind fun p Γ1=>(fb Γ1).bind fun q Γ2=>nM p q Γ2:=by
 unfold nM ao ba
 cases fa Γ with
 | ok p Γ1=>simp only [oE]
 | er c Γ1=>rfl
 | no=>rfl
@[simp] theorem J6 {ds:List D} {k:Int} {s:Sh}:nM ⟨.leaf,.tuple ds⟩ ⟨s,.int k⟩ Γ=match fE ds k with | some d=>.ok ⟨.leaf,d⟩ Γ | none=>.no:=by
 unfold nM ao ba fE;simp only [oE]
 cases h:eT ds.length k with
 | none=>rfl
 | some j=>
  simp only [Option.bind_some]
  cases h2:ds[j]? with
  | none=>rfl
  | some d=>rfl
@[simp] theorem J7 {ds:List D} {k:Int} {s:Sh}:nM ⟨.leaf,.list ds⟩ ⟨s,.int k⟩ Γ=match fE ds k with | some d=>.ok ⟨.leaf,d⟩ Γ | none=>.no:=by
 unfold nM ao ba fE;simp only [oE]
 cases h:eT ds.length k with
 | none=>rfl
 | some j=>
  simp only [Option.bind_some]
  cases h2:ds[j]? with
  | none=>rfl
  | some d=>rfl
@[simp] theorem J5 {ds:List D} {k:Int} {s:Sh}:nM ⟨.view,.list ds⟩ ⟨s,.int k⟩ Γ=match fE ds k with | some d=>.ok ⟨if bP d then .leaf else .view,d⟩ Γ | none=>.no:=by
 unfold nM ao ba fE;simp only [oE]
 cases h:eT ds.length k with
 | none=>rfl
 | some j=>
  simp only [Option.bind_some]
  cases h2:ds[j]? with
  | none=>rfl
  | some d=>rfl
@[simp] theorem Kf {α:Type} {a:α} {r:List α}:fE (a::r) 0=some a:=by
 simp [fE,eT]
@[simp] theorem Ke {α:Type} {a b:α} {r:List α}:fE (a::b::r) 1=some b:=by
 have:(1:Int)<(r.length:Int)+1+1:=by omega
 simp [fE,eT,this]
@[simp] theorem Kd {α:Type} {a b c:α} {r:List α}:fE (a::b::c::r) 2=some c:=by
 have:(2:Int)<(r.length:Int)+1+1+1:=by omega
 simp [fE,eT,this]
theorem CZ {α:Type} {xs:List α} {k:Nat} {x:α} (h:xs[k]?=some x):fE xs (k:Int)=some x:=by
 have hk:=(KQ h).1
 have:(k:Int)<(xs.length:Int):=by omega
 simp [fE,eT,this,h]
end
section
variable {Γ:Ev} {fa fb:F1} {i:Nat}
@[simp] theorem J4 {c:String}:lZ c fa Γ=(fa Γ).bind fun p Γ=>.ok ⟨.leaf,.bool (kj (tp p.d) c)⟩ Γ:=rfl
@[simp] theorem IU {s:Sh} {fl:FL}:cc s fl Γ=(fl Γ).bind fun ps Γ'=>if !s.isView&&ps.all (T.coer s)&&decide (ps.length<=sizeLine) then .ok ⟨.lst s,.list (ps.map (·.d))⟩ Γ' else .no:=rfl
@[simp] theorem JW {fl:FL}:bq fl Γ=(fl Γ).bind fun ps Γ'=>if ps.all tok&&decide (ps.length<=sizeLine) then .ok ⟨.tup (ps.map wu),.tuple (ps.map (·.d))⟩ Γ' else .no:=rfl
@[simp] theorem IR {d:D}:tok ⟨.leaf,d⟩=true:=rfl
@[simp] theorem IQ {s:Sh} {d:D}:tok ⟨.lst s,d⟩=true:=rfl
@[simp] theorem IP {s:List Sh} {d:D}:tok ⟨.tup s,d⟩=true:=rfl
@[simp] theorem Ec {a:D}:dm false a .none=some (.bool (cp a)):=rfl
@[simp] theorem IW {a:D}:dm true a .none=some (.bool (!cp a)):=rfl
@[simp] theorem JX:ik fa fb Γ=(fa Γ).bind fun p Γ1=>(fb Γ1).bind fun q Γ2=>match p.d,q.d with | .tuple xs,.int k=>if !p.s.isView&&decide (1<=k)&&decide (k<=xs.length) then .ok ⟨.leaf,.tuple (xs.drop k.toNat)⟩ Γ2 else .no | _,_=>.no:=rfl
@[simp] theorem Ed {neg:Bool} {tab:List (Str×Int)}:km neg tab fa Γ=(fa Γ).bind fun p Γ=>match p.d with | .str k=>.ok ⟨.leaf,.bool (if neg then !(cC k tab).isSome else (cC k tab).isSome)⟩ Γ | _=>.no:=rfl
@[simp] theorem Jb {tab:List (Str×Int)}:jx tab fa Γ=(fa Γ).bind fun p Γ=>match p.d with | .str k=>(match cC k tab with | some i=>.ok ⟨.leaf,.int i⟩ Γ | none=>.no) | _=>.no:=rfl
@[simp] theorem A9:bV fa Γ=(fa Γ).bind fun p Γ'=>match p.d with | .tuple ds=>if aE p ds then .ok ⟨ds,!p.s.isView⟩ Γ' else .no | _=>.no:=rfl
@[simp] theorem Ja:bf fa Γ=(fa Γ).bind fun p Γ'=>match p.d with | .list ds=>if aE p ds then .ok ⟨ds,!p.s.isView⟩ Γ' else .no | _=>.no:=rfl
@[simp] theorem J2 {d:D} {ds:List D}:aE ⟨.leaf,d⟩ ds=true:=rfl
@[simp] theorem J1 {s:Sh} {d:D} {ds:List D}:aE ⟨.lst s,d⟩ ds=true:=rfl
@[simp] theorem J0 {s:List Sh} {d:D} {ds:List D}:aE ⟨.tup s,d⟩ ds=true:=rfl
@[simp] theorem Kc {f:F1}:fm i f Γ=match Γ[i]? with | some (some ⟨.leaf,.int a⟩)=>jS f (vQ i a) Γ | _=>.no:=rfl
@[simp] theorem Jm {a b:Int} {s:Sh}:vQ i a ⟨s,.int b⟩ Γ=if i<Γ.length then .nx (Γ.set i (KZ (.int (a+b)))) else .no:=rfl
theorem Ef {f:F1} {p:PV} {ds es:List D} (h:Γ[i]?=some (some ⟨.lst .leaf,.list ds⟩)) (hf:f Γ=.ok p Γ) (hp:p.d=.tuple es) (ho:p.s.isView=false) (hn:ds.length+es.length<=10000):gK i f Γ=.nx (Γ.set i (some ⟨.lst .leaf,.list (ds++es)⟩)):=by
 have hb:(10000:Nat)<=sizeLine:=by decide
 obtain ⟨s,d⟩:=p;simp only at hp ho
 subst hp;unfold gK cI;rw [h];simp only [if_true,rT,hf]
 unfold yA aE;rw [h];have:ds.length+es.length<=sizeLine:=by omega
 simp only [ho,Bool.not_false,Bool.true_or,decide_eq_true this,Bool.and_self,if_true]
theorem Gf {β:Type} {c:FB} {g:FS} {G:β->Ev} {test:β->Bool} {step:β->β} {Inv:β->Prop} {meas:β->Nat} (hc:∀b,Inv b->c (G b)=.ok (test b) (G b)) (hg:∀b,Inv b->test b=true->g (G b)=.nx (G (step b))/\Inv (step b)/\meas (step b)<meas b) :
  ∀(N:Nat) (b:β),Inv b->meas b<N->∃b',cm c g N (G b)=.nx (G b')/\Inv b'/\test b'=false
 | 0,b,_,h=>by omega
 | N+1,b,hi,hm=>by
  rw [cm,hc b hi]
  cases ht:test b with
  | false=>exact ⟨b,rfl,hi,ht⟩
  | true=>
   obtain ⟨h1,h2,h3⟩:=hg b hi ht;obtain ⟨b',e,q⟩:=Gf hc hg N (step b) h2 (by omega)
   refine ⟨b',?_,q⟩
   simp only [h1]
   exact e
theorem kB {β:Type} {c:FB} {g:FS} {G:β->Ev} {test:β->Bool} {Inv:β->Prop} {meas:β->Nat} (hc:∀b,Inv b->c (G b)=.ok (test b) (G b)) (hg:∀b,Inv b->test b=true->∃b',g (G b)=.nx (G b')/\Inv b'/\meas b'<meas b) :
  ∀(N:Nat) (b:β),Inv b->meas b<N->∃b',cm c g N (G b)=.nx (G b')/\Inv b'/\test b'=false
 | 0,b,_,h=>by omega
 | N+1,b,hi,hm=>by
  rw [cm,hc b hi]
  cases ht:test b with
  | false=>exact ⟨b,rfl,hi,ht⟩
  | true=>
   obtain ⟨b1,h1,h2,h3⟩:=hg b hi ht;obtain ⟨b',e,q⟩:=kB hc hg N b1 h2 (by omega)
   refine ⟨b',?_,q⟩
   simp only [h1]
   exact e
theorem FG {fa:F1} {p:PV} {ds:List D} (ho:Γ[i]?=some (some ⟨.lst .leaf,.list ds⟩)) (h:fa Γ=.ok p Γ) (hc:coer .leaf p=true) (hn:ds.length<=9000):aG i fa Γ=.nx (Γ.set i (some ⟨.lst .leaf,.list (ds++[p.d])⟩)):=by
 have hb:(10000:Nat)<=sizeLine:=by decide
 unfold aG ig;rw [ho];simp only [if_true,rT,h]
 unfold yY;rw [ho];have:ds.length<sizeLine:=by omega
 simp only [hc,decide_eq_true this,Bool.and_self,if_true]
end
theorem HR {α:Type} {en:α->D} {i:Nat} {fc:FB} {fe:F1} {s:Sh} {c:α->Bool} {f:α->PV} {Γ:Ev} (hΓ:Γ.set i none=Γ):∀(r:List α) (acc:List D),(∀x∈r,fc (Γ.set i (KZ (en x)))=.ok (c x) (Γ.set i (KZ (en x)))) ->
  (∀x∈r,c x=true->fe (Γ.set i (KZ (en x)))=.ok (f x) (Γ.set i (KZ (en x)))/\coer s (f x)=true)->acc.length+r.length<=sizeLine->cY i fc fe s (r.map en) Γ acc=.ok (acc++((r.filter c).map fun x=>(f x).d)) Γ
 | [],acc,_,_,_=>by simp [cY]
 | x::r,acc,hc,he,hl=>by
  have h1:=hc x mem_cons_self
  have hl1:acc.length<sizeLine:=by simp only [length_cons] at hl;omega
  have back:(Γ.set i (KZ (en x))).set i none=Γ:=by rw [set_set];exact hΓ
  rw [map_cons,cY,h1]
  cases hcd:c x with
  | false=>
   dsimp only;rw [if_pos hl1,back,HR hΓ r acc (fun d hd=>hc d (KO _ hd)) (fun d hd=>he d (KO _ hd)) (by simp only [length_cons] at hl;omega)]
   rw [List.filter_cons_of_neg (by rw [hcd];exact Bool.false_ne_true)]
  | true=>
   obtain ⟨h2,h3⟩:=he x mem_cons_self hcd;dsimp only;rw [h2];dsimp only;rw [h3,decide_eq_true hl1,Bool.and_self,if_pos rfl,back,HR hΓ r (acc++[(f x).d]) (fun d hd=>hc d (KO _ hd)) (fun d hd=>he d (KO _ hd)) (by simp only [length_cons,length_append,length_nil] at hl ⊢;omega)]
   rw [List.filter_cons_of_pos hcd,map_cons,append_assoc];rfl
theorem zh {α:Type} (en:α->D) (xs:List α) (c:α->Bool) (f:α->PV) {s:Sh} {i:Nat} {fi:FI} {fc:FB} {fe:F1} {st:Bool} {Γ:Ev} (hi:fi Γ=.ok ⟨xs.map en,st⟩ Γ) (hl:i<Γ.length) (hs:s.isView=false) (hn:xs.length<=10000)
  (hc:∀x∈xs,fc (Γ.set i (KZ (en x)))=.ok (c x) (Γ.set i (KZ (en x)))) (he:∀x∈xs,c x=true->fe (Γ.set i (KZ (en x)))=.ok (f x) (Γ.set i (KZ (en x)))/\coer s (f x)=true) :
  aA s i fi fc fe Γ=.ok ⟨.lst s,.list ((xs.filter c).map fun x=>(f x).d)⟩ Γ:=by
 have hb:(10000:Nat)<=sizeLine:=by decide
 unfold aA;rw [hi];unfold Out.bind;dsimp only;rw [HR (c:=c) (f:=f) (by rw [set_set]) xs [] (fun d hd=>by rw [set_set];exact hc d hd) (fun d hd=>by rw [set_set];exact he d hd) (by simp;omega)]
 dsimp only;rw [hs,decide_eq_true hl];simp only [Bool.not_false,Bool.and_self,if_true,nil_append,set_set]
 have:Γ.set i (Γ.getD i none)=Γ:=by
  apply Da
  rw [KN,KM hl];rfl
 rw [this]
theorem mw {α:Type} (en:α->D) (xs:List α) (f:α->PV) {s:Sh} {i:Nat} {fi:FI} {fe:F1} {st:Bool} {Γ:Ev} (hi:fi Γ=.ok ⟨xs.map en,st⟩ Γ) (hl:i<Γ.length) (hs:s.isView=false) (hn:xs.length<=10000)
  (he:∀x∈xs,fe (Γ.set i (KZ (en x)))=.ok (f x) (Γ.set i (KZ (en x)))/\coer s (f x)=true):aA s i fi aK fe Γ=.ok ⟨.lst s,.list (xs.map fun x=>(f x).d)⟩ Γ:=by
 rw [zh (fc:=aK) en xs (fun _=>true) f hi hl hs hn (fun _ _=>rfl) fun x hx _=>he x hx,List.filter_eq_self.mpr fun _ _=>rfl]
theorem Dz {α β:Type} (en:α->D) (step:β->α->β) {Inv:β->List α->Prop} {i:Nat} {body:FS} {G:β->Option PV->Ev} (hi:∀b x,i<(G b x).length) (hset:∀b x y,(G b x).set i y=G b y)
  (hb:∀b a r,Inv b (a::r)->body (G b (KZ (en a)))=.nx (G (step b a) (KZ (en a)))/\Inv (step b a) r):∀(xs:List α) (b:β) (x:Option PV),Inv b xs->∃y,cQ i body (xs.map en) (G b x)=.nx (G (xs.foldl step b) y)/\Inv (xs.foldl step b) []
 | [],b,x,h=>⟨x,rfl,h⟩
 | a::r,b,x,h=>by
  obtain ⟨h1,h2⟩:=hb b a r h;obtain ⟨y,e,h3⟩:=Dz en step hi hset hb r (step b a) (KZ (en a)) h2
  refine ⟨y,?_,h3⟩
  rw [map_cons,cQ,if_pos (hi b x),hset,h1];exact e
end T
namespace KC
open PySem PySem.Spec L2 T PySem.SeqAt
open PyProof.Rows hiding St
noncomputable abbrev rm (t:Nat):D:=.int (t:Int)
noncomputable abbrev aT (r:List Nat):D:=.list (r.map rm)
theorem Dw {n:Nat}:cw 0 n=(List.range n).map rm:=by
 unfold cw;simp
theorem FO {t:Nat} {r:List Nat}:bQ false (rm t) (aT r)=some (.bool (r.contains t)):=by
 have h:=vg (ts:=r.map fun t:Nat=>(t:Int)) (i:=t)
 rw [map_map] at h;refine h.trans ?_
 congr 2
 rw [Bool.eq_iff_iff,contains_iff_mem,contains_iff_mem,mem_map];exact ⟨fun ⟨a,h1,h2⟩=>by rw [<-Int.ofNat_inj.mp h2];exact h1,fun h=>⟨t,h,rfl⟩⟩
theorem HX {t:Nat} {r:List Nat}:bQ true (rm t) (aT r)=some (.bool (!r.contains t)):=by
 have h:=sv (ts:=r.map fun t:Nat=>(t:Int)) (i:=t)
 rw [map_map] at h;refine h.trans ?_
 congr 3
 rw [Bool.eq_iff_iff,contains_iff_mem,contains_iff_mem,mem_map];exact ⟨fun ⟨a,h1,h2⟩=>by rw [<-Int.ofNat_inj.mp h2];exact h1,fun h=>⟨t,h,rfl⟩⟩
structure Wd where
 n:Nat
 os:List D
 m:List (List Str)
 s:List (List Nat)
noncomputable def wt (r:List Str):D:=.list (r.map .str)
noncomputable def Wd.enc (w:Wd):D:=rz w.os (w.m.map wt) (w.s.map aT)
structure Wd.Ok (w:Wd):Prop where
 g:Gw (w.n:Int) w.n w.os (w.m.map wt) (w.s.map aT)
 h1:1<=w.n
 h24:w.n<=24
 lm:w.m.length=w.n
 ls:w.s.length=w.n
 st:∀r∈w.s,r≠[]/\r.length<=30/\∀t∈r,t<w.n
 mc:∀r∈w.m,∀c∈r,PyData.strOk c=true
noncomputable def Wd.stp (w:Wd) (r:Nat):List Nat:=w.s.getD r []
noncomputable def Wd.mks (w:Wd) (r:Nat):List Str:=w.m.getD r []
theorem Wd.Ok.at2 {w:Wd} (h:w.Ok) {r:Nat} (hr:r<w.n):fE (w.s.map aT) (r:Int)=some (aT (w.stp r)):=by
 refine CZ ?_
 unfold Wd.stp;rw [getElem?_map,KN,KM (by rw [h.ls];exact hr)]
 rfl
theorem Wd.Ok.at1 {w:Wd} (h:w.Ok) {r:Nat} (hr:r<w.n):fE (w.m.map wt) (r:Int)=some (wt (w.mks r)):=by
 refine CZ ?_
 unfold Wd.mks;rw [getElem?_map,KN,KM (by rw [h.lm];exact hr)]
 rfl
theorem Wd.Ok.stp_lt {w:Wd} (h:w.Ok) {r t:Nat} (ht:t∈w.stp r):t<w.n:=by
 unfold Wd.stp at ht;rw [KN] at ht
 cases e:w.s[r]? with
 | none=>rw [e] at ht;simp at ht
 | some x=>rw [e] at ht;exact (h.st x (mem_of_getElem? e)).2.2 t ht
theorem Wd.Ok.stp_ne {w:Wd} (h:w.Ok) {r:Nat} (hr:r<w.n):w.stp r≠[]:=by
 unfold Wd.stp;rw [KN,KM (by rw [h.ls];exact hr)]
 exact (h.st _ (getElem_mem _)).1
theorem iT {w:Wd} (h:w.Ok) {r:List Nat}:de [w.enc,aT r]=.ok ⟨.lst .leaf,aT ((List.range w.n).filter fun t=>!r.contains t)⟩:=by
 have lo:=h.g.lo
 have h24:=h.h24
 refine aD ?_
 have e:aA .leaf 2 (i4 (ab (bJ bg (ab (ao (ae 0) (eK (.int 0))) af)) af)) (aL ai (az (bQ true) (ae 2) (ae 1))) (ae 2) (ah 3 [w.enc,aT r])=.ok ⟨.lst .leaf,.list (((List.range w.n).filter fun t=>!r.contains t).map fun t=>rm t)⟩ (ah 3 [w.enc,aT r]):=by
  refine zh rm (List.range w.n) (fun t=>!r.contains t) (fun t=>⟨.leaf,rm t⟩) (st:=true) ?_ (by simp [ah]) rfl (by simp;omega) ?_ ?_
  ·refine (lE (k:=(w.n:Int)) (ps:=[⟨.leaf,.int w.n⟩]) ?_ rfl (by omega) (by omega)).trans (by rw [<-Dw];rfl)
   simp [ah,Wd.enc,lo]
  ·intro t ht
   simp [ah,HX]
  ·intro t ht _
   simp [ah]
 unfold gj;rw [uF,e];rfl
inductive Wr where
 | yes | mark | not | sn | an | sa | aa | and | or | su | au
 deriving DecidableEq
noncomputable def Wr.t:Wr->Str
 | .yes => "yes" | .mark => "mark" | .not => "not" | .sn => "some next" | .an => "all next" | .sa => "some always" | .aa => "all always" | .and => "and" | .or => "or" | .su => "some until" | .au => "all until"
theorem kA (a:Wr):PyData.strOk a.t=true:=by cases a<;>decide +kernel
theorem fu (a b:Wr):bj (.str a.t) (.str b.t)=some (.bool (decide (a=b))):=by cases a<;>cases b<;>kernel_rfl
@[simp] theorem qX (a:Wr):bj (.str a.t) (.str "yes")=some (.bool (decide (a=.yes))):=fu a .yes
@[simp] theorem pZ (a:Wr):bj (.str a.t) (.str "mark")=some (.bool (decide (a=.mark))):=fu a .mark
@[simp] theorem zY (a:Wr):bj (.str a.t) (.str "not")=some (.bool (decide (a=.not))):=fu a .not
@[simp] theorem FH (a:Wr):bj (.str a.t) (.str "and")=some (.bool (decide (a=.and))):=fu a .and
@[simp] theorem gU (a:Wr):bj (.str a.t) (.str "or")=some (.bool (decide (a=.or))):=fu a .or
@[simp] theorem B6 (a:Wr):bQ false (.str a.t) cD=some (.bool (decide (a=.su\/a=.au))):=by cases a<;>kernel_rfl
@[simp] theorem GL (a:Wr):bQ true (.str a.t) cD=some (.bool (!decide (a=.su\/a=.au))):=by cases a<;>kernel_rfl
@[simp] theorem Jv (a:Wr):bQ false (.str a.t) dk=some (.bool (decide (a=.sa\/a=.aa))):=by cases a<;>kernel_rfl
@[simp] theorem GN (a:Wr):bQ true (.str a.t) dk=some (.bool (!decide (a=.sa\/a=.aa))):=by cases a<;>kernel_rfl
noncomputable def Wr.some (a:Wr):Bool:=decide (a=.sn\/a=.su\/a=.aa)
@[simp] theorem Ju (a:Wr):bQ false (.str a.t) bB=.some (.bool a.some):=by cases a<;>kernel_rfl
noncomputable def Wr.ar:Wr->Option Int
 | .yes=>Option.some 0 | .mark=>none | .and=>Option.some 2 | .or=>Option.some 2 | .su=>Option.some 2 | .au=>Option.some 2 | _=>Option.some 1
@[simp] theorem qE (a:Wr):cC a.t cE=a.ar:=by cases a<;>kernel_rfl
inductive U5 where
 | not | sn | an | sa | aa
 deriving DecidableEq
inductive B4 where
 | and | or | su | au
 deriving DecidableEq
noncomputable def U5.w:U5->Wr
 | .not=>.not | .sn=>.sn | .an=>.an | .sa=>.sa | .aa=>.aa
noncomputable def B4.w:B4->Wr
 | .and=>.and | .or=>.or | .su=>.su | .au=>.au
inductive Sn where
 | yes | mk (c:Str) | un (k:U5) (a:Sn) | bi (k:B4) (a b:Sn)
 deriving DecidableEq
noncomputable def Sn.w:Sn->Wr
 | .yes=>.yes | .mk _=>.mark | .un k _=>k.w | .bi k _ _=>k.w
noncomputable def Sn.args:Sn->List Sn
 | .yes=>[] | .mk _=>[] | .un _ a=>[a] | .bi _ a b=>[a,b]
noncomputable def Sn.enc:Sn->D
 | .yes=>.tuple [.str Wr.yes.t] | .mk c=>.tuple [.str Wr.mark.t,.str c] | .un k a=>.tuple [.str k.w.t,a.enc] | .bi k a b=>.tuple [.str k.w.t,a.enc,b.enc]
noncomputable def Sn.size:Sn->Nat
 | .yes=>1 | .mk _=>1 | .un _ a=>a.size+1 | .bi _ a b=>a.size+b.size+1
noncomputable def Sn.dep:Sn->Nat
 | .yes=>1 | .mk _=>1 | .un _ a=>a.dep+1 | .bi _ a b=>max a.dep b.dep+1
noncomputable def letters:List Str:=["a", "b", "c", "d", "e", "f"]
noncomputable def Sn.ok:Sn->Prop
 | .yes=>True | .mk c=>c∈letters | .un _ a=>a.ok | .bi _ a b=>a.ok/\b.ok
theorem FP {c:Str} (h:c∈letters):PyData.strOk c=true/\Dl (.str c)=true:=by
 unfold letters at h;simp only [mem_cons,not_mem_nil,or_false] at h
 rcases h with rfl | rfl | rfl | rfl | rfl | rfl<;>decide +kernel
noncomputable def Sn.psh:Sn->Sh
 | .mk _=>.tup [] | _=>.leaf
@[simp] theorem Es (s:Sn):s.psh.isView=false:=by cases s<;>rfl
theorem C8 (s:Sn):aN [s.enc]=.ok ⟨s.psh,.tuple (s.args.map Sn.enc)⟩:=by
 cases s with
 | yes=>simp [aN,aC,dR,ah,Sn.enc,Sn.args,Sn.psh]
 | mk c=>simp [aN,aC,dR,ah,Sn.enc,Sn.args,Sn.psh]
 | un k a=>cases k<;>simp [aN,aC,dR,ah,Sn.enc,Sn.args,Sn.psh,U5.w]
 | bi k a b=>cases k<;>simp [aN,aC,dR,ah,Sn.enc,Sn.args,Sn.psh,B4.w]
theorem jD {s:Sn} (h:s.ok):bA [s.enc]=.ok ⟨.leaf,.bool true⟩:=by
 cases s with
 | yes=>simp [bA,aC,du,ah,Sn.enc,kj,tp,Wr.ar,eq_int]
 | mk c=>
  obtain ⟨h1,h2⟩:=FP h;simp [bA,aC,du,ah,Sn.enc,kj,tp,Wr.ar,eq_int,vh h1,h2]
 | un k a=>cases k<;>simp [bA,aC,du,ah,Sn.enc,kj,tp,Wr.ar,U5.w,eq_int]
 | bi k a b=>cases k<;>simp [bA,aC,du,ah,Sn.enc,kj,tp,Wr.ar,B4.w,eq_int]
noncomputable def dy (l:List Sn):D:=.list (l.map Sn.enc)
noncomputable def hE (l:List Sn):Nat:=(l.map Sn.size).sum
theorem Sn.size_pos (s:Sn):1<=s.size:=by cases s<;>simp [Sn.size]
theorem Sn.args_le (s:Sn):s.args.length<=2:=by cases s<;>simp [Sn.args]
theorem Sn.args_sz (s:Sn):hE s.args+1=s.size:=by cases s<;>simp [Sn.args,hE,Sn.size]
theorem qG (l:List Sn):l.length<=hE l:=by
 induction l with
 | nil=>simp [hE]
 | cons a r ih=>
  have:=a.size_pos
  simp only [hE,map_cons,sum_cons,length_cons] at ih ⊢
  omega
theorem xb (a b:List Sn):hE (a++b)=hE a+hE b:=by simp [hE]
theorem mK (l:List Sn):hE (l.flatMap Sn.args)+l.length=hE l:=by
 induction l with
 | nil=>simp [hE]
 | cons a r ih=>
  have:=a.args_sz
  rw [flatMap_cons,xb];simp only [hE,map_cons,sum_cons,length_cons] at ih this ⊢
  omega
noncomputable def eV (l:List Sn):Nat:=l.foldr (fun s m=>max s.dep m) 0
theorem Ga (a:Sn) (r:List Sn):eV (a::r)=max a.dep (eV r):=rfl
theorem vC (a b:List Sn):eV (a++b)=max (eV a) (eV b):=by
 induction a with
 | nil=>simp [eV]
 | cons x r ih=>rw [List.cons_append,Ga,Ga,ih,Nat.max_assoc]
theorem Sn.dep_args (s:Sn):eV s.args+1=s.dep:=by cases s<;>simp [Sn.args,eV,Sn.dep]
theorem HU (l:List Sn) (h:l≠[]):eV (l.flatMap Sn.args)+1=eV l:=by
 induction l with
 | nil=>exact absurd rfl h
 | cons a r ih=>
  have:=a.dep_args
  rw [flatMap_cons,vC,Ga]
  cases r with
  | nil=>simp [eV] at this ⊢;omega
  | cons b t=>
   have:=ih (by simp)
   omega
theorem gc {l:List Sn} (hn:l.length<=1000):ck [dy l]=.ok ⟨.lst .leaf,dy (l.flatMap Sn.args)⟩:=by
 obtain ⟨y,e,_⟩:=Dz Sn.enc (fun (b:List Sn) a=>b++a.args) (Inv:=fun b r=>b.length+2*r.length<=2000) (i:=2) (body:=gK 1 (ag 1 aN (ab (ae 2) af))) (G:=fun b x=>[KZ (dy l),some ⟨.lst .leaf,dy b⟩,x])
  (fun _ _=>by simp) (fun _ _ _=>by simp) (fun b a r hI=>by
   have h2:=a.args_le
   simp only [length_cons] at hI
   refine ⟨?_,by simp only [length_append];omega⟩
   rw [Ef (ds:=b.map Sn.enc) (es:=a.args.map Sn.enc) (p:=⟨a.psh,.tuple (a.args.map Sn.enc)⟩) rfl ?_ rfl (by simp) (by simp only [length_map];omega)]
   ·simp [dy]
   ·simp [C8,Es,coer]) l [] none (by simp;omega)
 have ef:l.foldl (fun (b:List Sn) a=>b++a.args) []=l.flatMap Sn.args:=by
  have:∀(l:List Sn) (b:List Sn),l.foldl (fun (b:List Sn) a=>b++a.args) b=b++l.flatMap Sn.args:=by
   intro l;induction l with
   | nil=>intro b;simp
   | cons a r ih=>intro b;rw [List.foldl_cons,ih,flatMap_cons,append_assoc]
  rw [this,nil_append]
 rw [ef] at e;refine aD ?_
 have e2:fz 2 (bf (ae 0)) (gK 1 (ag 1 aN (ab (ae 2) af))) [KZ (dy l),some ⟨.lst .leaf,dy []⟩,none]=.nx [KZ (dy l),some ⟨.lst .leaf,dy (l.flatMap Sn.args)⟩,y]:=fV (eC (ds:=l.map Sn.enc) (ay rfl) rfl) e
 have e1:aB true 1 (cc .leaf af) (ah 3 [dy l])=.nx [KZ (dy l),some ⟨.lst .leaf,dy []⟩,none]:=by simp [ah,dy]
 unfold fN;rw [eE,e1];simp only
 rw [eE,e2];simp
structure LS where
 ls:List (List Sn)
 l:List Sn
 many:Nat
noncomputable abbrev zU (s:Sn) (b:LS):Ev:=[KZ s.enc,some ⟨.lst .leaf,.list (b.ls.map dy)⟩,KZ (dy b.l),KZ (.int (b.many:Int)),none]
structure LI (s:Sn) (b:LS):Prop where
 tot:(b.ls.map List.length).sum+hE b.l=s.size
 mny:b.many=(b.ls.map List.length).sum
 dep:b.ls.length+eV b.l=s.dep
 ok:∀a∈b.l,a.ok
theorem Sn.args_ok {s:Sn} (h:s.ok):∀a∈s.args,a.ok:=by
 cases s with
 | yes=>simp [Sn.args]
 | mk c=>simp [Sn.args]
 | un k a=>simpa [Sn.args,Sn.ok] using h
 | bi k a b=>simpa [Sn.args,Sn.ok] using h
theorem nV {l:List Sn} (h:l≠[]):1<=eV l:=by
 have:=HU l h
 omega
theorem jA {s:Sn} (h:s.ok) (hs:s.size<=200) (hd:s.dep<=24):∃L:List (List Sn),dj [s.enc]=.ok ⟨.lst .leaf,.list (L.map dy)⟩/\L.length=s.dep/\(L.map List.length).sum=s.size:=by
 obtain ⟨b',e,I,ht⟩:=Gf (c:=aL bX (ae 2)) (G:=zU s) (test:=fun b=>!b.l.isEmpty) (step:=fun b=>⟨b.ls++[b.l],b.l.flatMap Sn.args,b.many+b.l.length⟩) (Inv:=LI s) (meas:=fun b=>hE b.l)
  (g:=(aq (fm 3 (bJ bg (ab (ae 2) af)))
  (aq (bW (fD (aL ai (az pI (ae 3) (eK cn))) (fD (aL ai (az bj (bJ bg (ab (ae 1) af)) (eK bG))) (ff (aL bX (bJ (cW false) (ab (aA .leaf 4 (bf (ae 2)) aK (ag 1 bA (ab (ae 4) af))) af)))))) (aF (eK .none)) aJ)
  (aq (aG 1 (ae 2))
  (aB false 2 (ag 1 ck (ab (ae 2) af))))))) (fun b I=>by simp [zU,dy]) (fun b I ht=>by
   have hne:b.l≠[]:=by intro z;rw [z] at ht;simp at ht
   have t1:=I.tot
   have t2:=I.mny
   have t3:=I.dep
   have t4:=qG b.l
   have t5:=nV hne
   have t6:=mK b.l
   have t7:=HU b.l hne
   have t8:0<b.l.length:=List.length_pos_iff.mpr hne
   refine ⟨?_,⟨?_,?_,?_,?_⟩,?_⟩
   ·have c1:aA .leaf 4 (bf (ae 2)) aK (ag 1 bA (ab (ae 4) af)) [KZ s.enc,some ⟨.lst .leaf,.list (b.ls.map dy)⟩,KZ (dy b.l),KZ (.int ((b.many:Int)+b.l.length)),none]=.ok ⟨.lst .leaf,.list (b.l.map fun _=>.bool true)⟩ [KZ s.enc,some ⟨.lst .leaf,.list (b.ls.map dy)⟩,KZ (dy b.l),KZ (.int ((b.many:Int)+b.l.length)),none]:=by
     refine mw Sn.enc b.l (fun _=>⟨.leaf,.bool true⟩) (st:=true) (by simp [dy]) (by simp) rfl (by omega) fun a ha=>?_
     simp [jD (I.ok a ha)]
    have c2:cW false [.list (b.l.map fun _=>.bool true)]=some (.bool true):=by
     rw [zd (f:=fun _=>true)]
     simp
    have n1:¬((200:Int)<(b.many:Int)+b.l.length):=by omega
    have n2:¬((b.ls.length:Int)=24):=by omega
    have lb:b.ls.length<=24:=by omega
    have pa:=gc (l:=b.l) (by omega)
    have ap:aG 1 (ae 2) [KZ s.enc,some ⟨.lst .leaf,.list (b.ls.map dy)⟩,KZ (dy b.l),KZ (.int ((b.many:Int)+b.l.length)),none]=.nx [KZ s.enc,some ⟨.lst .leaf,.list (b.ls.map dy++[dy b.l])⟩,KZ (dy b.l),KZ (.int ((b.many:Int)+b.l.length)),none]:=
     FG rfl (ay rfl) rfl (by simp;omega)
    simp [zU,dy,cn,bG] at c1 ap pa ⊢
    simp [c1,c2,n1,n2,eq_int,ap,pa]
   ·simp only [map_append,map_cons,map_nil,sum_append,sum_cons,sum_nil]
    omega
   ·simp only [map_append,map_cons,map_nil,sum_append,sum_cons,sum_nil]
    omega
   ·simp only [length_append,length_cons,length_nil]
    omega
   ·intro a ha
    obtain ⟨c,hc,ha⟩:=List.mem_flatMap.mp ha;exact Sn.args_ok (I.ok c hc) a ha
   ·show hE (b.l.flatMap Sn.args)<hE b.l
    omega) 1000 ⟨[],[s],0⟩ ⟨by simp [hE],by simp,by simp [eV],by simpa using h⟩ (by simp [hE];omega)
 have hl:b'.l=[]:=by simpa using ht
 refine ⟨b'.ls,?_,?_,?_⟩
 ·refine aD ?_
  have e0:zU s ⟨[],[s],0⟩=[KZ s.enc,some ⟨.lst .leaf,.list []⟩,KZ (.list [s.enc]),KZ (.int 0),none]:=rfl
  rw [e0] at e;unfold fO;simp [ah]
  unfold fF;rw [e];simp
 ·have:=I.dep;rw [hl] at this;simpa [eV] using this
 ·have:=I.tot;rw [hl] at this;simpa [hE] using this
theorem Ak {s:Sn} (h:s.ok) (hs:s.size<=200) (hd:s.dep<=24):aZ [s.enc]=.ok ⟨.leaf,.none⟩:=by
 obtain ⟨L,e,_⟩:=jA h hs hd;have e2:bH [s.enc]=.ok ⟨.leaf,.list (L.map dy)⟩:=by
  refine aD ?_
  simp [cX,ah,e,cp]
 refine zD (Γ:=[KZ s.enc]) ?_
 simp [eJ,ah,e2]
end KC
namespace KC
noncomputable def bc (rk:List (Option Nat)) (t:Nat):Option Nat:=rk.getD t none
noncomputable def led (any:Bool) (l:List Nat) (P:Nat->Prop):Prop:=if any then ∃t∈l,P t else ∀t∈l,P t
theorem led_t {l:List Nat} {P:Nat->Prop}:led true l P↔∃t∈l,P t:=by unfold led;simp
theorem led_f {l:List Nat} {P:Nat->Prop}:led false l P↔∀t∈l,P t:=by unfold led;simp
theorem Af {any:Bool} {l:List Nat} {P Q:Nat->Prop} (h:led any l P) (i:∀t∈l,P t->Q t):led any l Q:=by
 cases any with
 | true=>obtain ⟨t,ht,hp⟩:=led_t.mp h;exact led_t.mpr ⟨t,ht,i t ht hp⟩
 | false=>exact led_f.mpr fun t ht=>i t ht (led_f.mp h t ht)
structure vV (n:Nat) (st:Nat->List Nat) (ch:Nat->Bool) (thr goal:List Nat) (rk:List (Option Nat)):Prop where
 len:rk.length=n
 g:∀r,r<n->r∈goal->bc rk r=some 0
 p:∀r k,r<n->r∉goal->bc rk r=some k->0<k/\r∈thr/\led (ch r) (st r) fun t=>∃j,bc rk t=some j/\j<k
 z:∀r,r<n->bc rk r=none->r∉goal/\(r∉thr\/¬led (ch r) (st r) fun t=>bc rk t≠none)
open PySem PySem.Spec L2 T PySem.SeqAt
open PyProof.Rows hiding St
noncomputable def oD:Option Nat->D
 | none=>.none
 | some k=>.int (k:Int)
@[simp] theorem ye (o:Option Nat):cp (oD o)=o.isNone:=by cases o<;>rfl
@[simp] theorem GG (o:Option Nat):bP (oD o)=true:=by cases o<;>rfl
noncomputable abbrev fq (rk:List (Option Nat)):D:=.list (rk.map oD)
theorem iJ {rk:List (Option Nat)} {t:Nat} (h:t<rk.length):fE (rk.map oD) (t:Int)=some (oD (bc rk t)):=by
 refine CZ ?_
 unfold bc;rw [getElem?_map,KN,KM h];rfl
noncomputable def fC (any:Bool) (bs:List Bool):Bool:=if any then bs.any id else bs.all id
theorem yx {bs:List Bool}:cW true [.list (bs.map .bool)]=some (.bool (bs.any id)):=by
 have h:=HI (any:=true) (xs:=bs) (f:=id)
 show Option.map _ (cR _)=_
 rw [show (bs.map PyData.bool)=bs.map fun x=>PyData.bool (id x) from rfl,h]
 simp
theorem HH {bs:List Bool}:cW false [.list (bs.map .bool)]=some (.bool (bs.all id)):=by
 have h:=HI (any:=true) (xs:=bs) (f:=id)
 show Option.map _ (cR _)=_
 rw [show (bs.map PyData.bool)=bs.map fun x=>PyData.bool (id x) from rfl,h]
 simp
theorem FT {c:Bool} {bs:List Bool}:b9 [.bool c,.list (bs.map .bool)]=.ok ⟨.leaf,.bool (fC c bs)⟩:=by
 unfold fC
 cases c<;>simp [b9,aC,og,ah,yx,HH]
structure Wd.Ok0 (w:Wd):Prop where
 lo:w.os.length=w.n
 h24:w.n<=24
 ls:w.s.length=w.n
 st:∀r∈w.s,r.length<=30/\∀t∈r,t<w.n
theorem Wd.Ok.z {w:Wd} (h:w.Ok):w.Ok0:=⟨h.g.lo,h.h24,h.ls,fun r hr=>(h.st r hr).2⟩
theorem Wd.Ok0.at2 {w:Wd} (h:w.Ok0) {r:Nat} (hr:r<w.n):fE (w.s.map aT) (r:Int)=some (aT (w.stp r)):=by
 refine CZ ?_
 unfold Wd.stp;rw [getElem?_map,KN,KM (by rw [h.ls];exact hr)]
 rfl
theorem Wd.Ok0.stp_lt {w:Wd} (h:w.Ok0) {r t:Nat} (ht:t∈w.stp r):t<w.n:=by
 unfold Wd.stp at ht;rw [KN] at ht
 cases e:w.s[r]? with
 | none=>rw [e] at ht;simp at ht
 | some x=>rw [e] at ht;exact (h.st x (mem_of_getElem? e)).2 t ht
theorem Wd.Ok0.len {w:Wd} (h:w.Ok0) {r:Nat}:(w.stp r).length<=10000:=by
 unfold Wd.stp;rw [KN]
 cases e:w.s[r]? with
 | none=>simp
 | some x=>
  have:=(h.st x (mem_of_getElem? e)).1
  simp only [Option.getD_some]
  omega
noncomputable abbrev pQ (cl:List Bool):D:=.list (cl.map .bool)
noncomputable def jL (cl:List Bool) (r:Nat):Bool:=cl.getD r false
theorem Fp {cl:List Bool} {t:Nat} (h:t<cl.length):fE (cl.map PyData.bool) (t:Int)=some (.bool (jL cl t)):=by
 refine CZ ?_
 unfold jL;rw [getElem?_map,KN,KM h];rfl
noncomputable def uU (w:Wd) (ch:Nat->Bool) (thr:List Nat) (rk:List (Option Nat)):List Nat:=thr.filter fun r=>(bc rk r).isNone&&fC (ch r) ((w.stp r).map fun t=>(bc rk t).isSome)
theorem vF {w:Wd} (h:w.Ok0) {cl:List Bool} {thr:List Nat} {rk:List (Option Nat)} (hcl:cl.length=w.n) (ht:∀r∈thr,r<w.n) (hl:rk.length=w.n) (hn:thr.length<=1000):cA [w.enc,pQ cl,aT thr,fq rk]=.ok ⟨.lst .leaf,aT (uU w (jL cl) thr rk)⟩:=by
 obtain ⟨y,e,_⟩:=Dz rm (fun (b:List Nat) r=>if (bc rk r).isNone&&fC (jL cl r) ((w.stp r).map fun t=>(bc rk t).isSome) then b++[r] else b) (Inv:=fun b r=>b.length+r.length<=1000/\∀t∈r,t<w.n) (i:=5)
  (body:=(bW (gx (aL ai (az (dm false) (ao (ae 3) (ae 5)) (eK .none))) (aL bX (ag 2 b9 (ab (ao (ae 1) (ae 5)) (ab (aA .leaf 6 (bf (ao (ao (ae 0) (eK (.int 2))) (ae 5))) aK (az (dm true) (ao (ae 3) (ae 6)) (eK .none))) af))))) (aG 4 (ae 5)) aJ))
  (G:=fun b x=>[KZ w.enc,KZ (pQ cl),KZ (aT thr),KZ (fq rk),some ⟨.lst .leaf,aT b⟩,x,none])
  (fun _ _=>by simp) (fun _ _ _=>by simp) (fun b r rest hI=>by
   obtain ⟨h1,h2⟩:=hI;have hr:r<w.n:=h2 r mem_cons_self
   have a1:=iJ (rk:=rk) (t:=r) (by omega)
   have a2:=h.at2 hr
   have a4:=Fp (cl:=cl) (t:=r) (by omega)
   simp only [length_cons] at h1
   have c1:aA .leaf 6 (bf (ao (ao (ae 0) (eK (.int 2))) (ae 5))) aK (az (dm true) (ao (ae 3) (ae 6)) (eK .none)) [KZ w.enc,KZ (pQ cl),KZ (aT thr),KZ (fq rk),some ⟨.lst .leaf,aT b⟩,KZ (rm r),none]
     = .ok ⟨.lst .leaf,.list ((w.stp r).map fun t=>.bool (bc rk t).isSome)⟩ [KZ w.enc,KZ (pQ cl),KZ (aT thr),KZ (fq rk),some ⟨.lst .leaf,aT b⟩,KZ (rm r),none]:=by
    refine mw rm (w.stp r) (fun t=>⟨.leaf,.bool (bc rk t).isSome⟩) (st:=true) (by simp [Wd.enc,a2]) (by simp) rfl h.len fun t ht=>?_
    have a3:=iJ (rk:=rk) (t:=t) (by rw [hl];exact h.stp_lt ht)
    simp [a3]
   have dl:=FT (c:=jL cl r) (bs:=(w.stp r).map fun t=>(bc rk t).isSome)
   rw [map_map] at dl;have dl:b9 [.bool (jL cl r),.list ((w.stp r).map fun t=>.bool (bc rk t).isSome)]=.ok ⟨.leaf,.bool (fC (jL cl r) ((w.stp r).map fun t=>(bc rk t).isSome))⟩:=dl
   have ap:aG 4 (ae 5) [KZ w.enc,KZ (pQ cl),KZ (aT thr),KZ (fq rk),some ⟨.lst .leaf,aT b⟩,KZ (rm r),none]=.nx [KZ w.enc,KZ (pQ cl),KZ (aT thr),KZ (fq rk),some ⟨.lst .leaf,.list (b.map rm++[rm r])⟩,KZ (rm r),none]:=
    FG rfl (ay rfl) rfl (by simp;omega)
   refine ⟨?_,?_⟩
   ·cases q1:(bc rk r).isNone with
    | false=>simp [a1,q1]
    | true=>
     cases q2:fC (jL cl r) ((w.stp r).map fun t=>(bc rk t).isSome) with
     | false=>simp [a1,a4,q1,c1,dl,q2]
     | true=>simp [a1,a4,q1,c1,dl,q2,ap]
   ·refine ⟨?_,fun t ht=>h2 t (KO _ ht)⟩
    split
    ·rw [length_append,length_singleton];omega
    ·omega) thr [] none (by simp;exact ⟨hn,ht⟩)
 have ef:∀(l b:List Nat),l.foldl (fun (b:List Nat) r=>if (bc rk r).isNone&&fC (jL cl r) ((w.stp r).map fun t=>(bc rk t).isSome) then b++[r] else b) b=b++uU w (jL cl) l rk:=by
  intro l;induction l with
  | nil=>intro b;simp [uU]
  | cons r t ih=>
   intro b;rw [List.foldl_cons,ih];unfold uU;rw [filter_cons];split<;>simp
 rw [ef,nil_append] at e;refine aD ?_
 have e2:=fV (fi:=bf (ae 2)) (Γ:=[KZ w.enc,KZ (pQ cl),KZ (aT thr),KZ (fq rk),some ⟨.lst .leaf,aT []⟩,none,none]) (eC (ds:=thr.map rm) (ay rfl) rfl) e
 have e1:aB true 4 (cc .leaf af) (ah 7 [w.enc,pQ cl,aT thr,fq rk])=.nx [KZ w.enc,KZ (pQ cl),KZ (aT thr),KZ (fq rk),some ⟨.lst .leaf,aT []⟩,none,none]:=by simp [ah]
 unfold gh;rw [eE,e1];simp only
 rw [eE,e2];simp
theorem led_iff {any:Bool} {l:List Nat} {b:Nat->Bool}:fC any (l.map b)=true↔led any l fun t=>b t=true:=by
 unfold fC led
 cases any<;>simp
structure Right (w:Wd) (any:Bool) (thr goal:List Nat) (rk:List (Option Nat)):Prop where
 len:rk.length=w.n
 g:∀r,r<w.n->r∈goal->bc rk r=some 0
 p:∀r k,r<w.n->r∉goal->bc rk r=some k->0<k/\r∈thr/\led any (w.stp r) fun t=>∃j,bc rk t=some j/\j<k
 z:∀r,r<w.n->bc rk r=none->r∉goal/\(r∉thr\/¬led any (w.stp r) fun t=>bc rk t≠none)
inductive Unt (w:Wd) (any:Bool) (P Q:Nat->Prop):Nat->Prop where
 | now {r:Nat}:Q r->Unt w any P Q r
 | some {r t:Nat}:any=true->P r->t∈w.stp r->Unt w any P Q t->Unt w any P Q r
 | all {r:Nat}:any=false->P r->(∀t∈w.stp r,Unt w any P Q t)->Unt w any P Q r
theorem Unt.of_led {w:Wd} {any:Bool} {P Q:Nat->Prop} {r:Nat} (hp:P r) (h:led any (w.stp r) (Unt w any P Q)):Unt w any P Q r:=by
 unfold led at h
 cases any with
 | true=>obtain ⟨t,ht,hu⟩:=(by simpa using h:∃t,t∈w.stp r/\Unt w true P Q t);exact .some rfl hp ht hu
 | false=>exact .all rfl hp (by simpa using h)
theorem Unt.iff {w:Wd} {any:Bool} {P Q:Nat->Prop} {r:Nat}:Unt w any P Q r↔Q r\/(P r/\led any (w.stp r) (Unt w any P Q)):=by
 constructor
 ·intro h
  cases h with
  | now q=>exact .inl q
  | some e hp ht hu=>subst e;exact .inr ⟨hp,by unfold led;simpa using ⟨_,ht,hu⟩⟩
  | all e hp hu=>subst e;exact .inr ⟨hp,by unfold led;simpa using hu⟩
 ·rintro (q | ⟨hp,h⟩)
  ·exact .now q
  ·exact .of_led hp h
theorem Right.iff {w:Wd} (ok:w.Ok) {any:Bool} {thr goal:List Nat} {rk:List (Option Nat)} (h:Right w any thr goal rk) {r:Nat} (hr:r<w.n):bc rk r≠none↔Unt w any (·∈thr) (·∈goal) r:=by
 constructor
 ·intro hn
  obtain ⟨k,hk⟩:=Option.ne_none_iff_exists'.mp hn
  have key:∀k r,r<w.n->bc rk r=some k->Unt w any (·∈thr) (·∈goal) r:=by
   intro k;induction k using Nat.strongRecOn with
   | ind k ih=>
    intro r hr hk;by_cases hg:r∈goal
    ·exact .now hg
    ·obtain ⟨_,h2,h3⟩:=h.p r k hr hg hk
     exact .of_led h2 (Af h3 fun t ht ⟨j,hj,hlt⟩=>ih j hlt t (ok.stp_lt ht) hj)
  exact key k r hr hk
 ·intro hu
  induction hu with
  | now q=>rw [h.g _ hr q];simp
  | @some r t e hp ht _ ih=>
   intro hz;obtain ⟨_,z⟩:=h.z r hr hz;rcases z with z | z
   ·exact z hp
   ·subst e
    exact z (by unfold led;simpa using ⟨t,ht,by have:=ih (ok.stp_lt ht);simpa using this⟩)
  | @all r e hp _ ih=>
   intro hz;obtain ⟨_,z⟩:=h.z r hr hz;rcases z with z | z
   ·exact z hp
   ·subst e
    exact z (by unfold led;simpa using fun t ht=>by have:=ih t ht (ok.stp_lt ht);simpa using this)
noncomputable def cT (rk:List (Option Nat)) (k:Nat) (fr:List Nat):List (Option Nat):=fr.foldl (fun l r=>l.set r (some k)) rk
theorem HJ {k:Nat}:∀(fr:List Nat) (rk:List (Option Nat)),(cT rk k fr).length=rk.length
 | [],_=>rfl
 | a::r,rk=>by
  show (cT (rk.set a (some k)) k r).length=_
  rw [HJ,length_set]
theorem xp {rk:List (Option Nat)} {a t:Nat} {o:Option Nat} (h:a<rk.length):bc (rk.set a o) t=if t=a then o else bc rk t:=by
 unfold bc;rw [KN,KN];split
 ·rename_i e;subst e;rw [getElem?_set_self h];rfl
 ·rename_i e;rw [getElem?_set_ne (fun z=>e z.symm)]
theorem qo {k t:Nat}:∀(fr:List Nat) (rk:List (Option Nat)),(∀a∈fr,a<rk.length)->bc (cT rk k fr) t=if t∈fr then some k else bc rk t
 | [],rk,_=>by simp [cT]
 | a::r,rk,h=>by
  show bc (cT (rk.set a (some k)) k r) t=_
  rw [qo r _ (fun b hb=>by rw [length_set];exact h b (KO _ hb)),xp (h a mem_cons_self)]
  by_cases e1:t∈r
  ·simp [e1]
  ·by_cases e2:t=a
   ·simp [e2]
   ·simp [e1,e2]
noncomputable def cu (rk:List (Option Nat)):Nat:=(rk.filter Option.isNone).length
theorem sx {rk:List (Option Nat)} {a k:Nat} (h:rk[a]?=some none):cu (rk.set a (some k))+1=cu rk:=by
 induction rk generalizing a with
 | nil=>simp at h
 | cons x r ih=>
  cases a with
  | zero=>
   simp at h
   subst h;simp [cu]
  | succ a=>
   have:=ih (a:=a) (by simpa using h)
   simp only [cu,List.set_cons_succ,filter_cons] at this ⊢
   cases x with
   | none=>simp only [Option.isNone_none,if_true,length_cons];omega
   | some v=>simpa using this
theorem uX {rk:List (Option Nat)} {a k:Nat}:cu (rk.set a (some k))<=cu rk:=by
 induction rk generalizing a with
 | nil=>simp [cu]
 | cons x r ih=>
  cases a with
  | zero=>cases x<;>simp [cu]
  | succ a=>
   have:=ih (a:=a)
   simp only [cu,List.set_cons_succ,filter_cons] at this ⊢
   cases x with
   | none=>simp only [Option.isNone_none,if_true,length_cons];omega
   | some v=>simpa using this
theorem gN {k:Nat}:∀(fr:List Nat) (rk:List (Option Nat)),cu (cT rk k fr)<=cu rk
 | [],_=>KW _
 | a::r,rk=>Nat.le_trans (gN r (rk.set a (some k))) uX
theorem sy {k:Nat} {fr:List Nat} {rk:List (Option Nat)} (hne:fr≠[]) (h:∀a∈fr,rk[a]?=some none):cu (cT rk k fr)<cu rk:=by
 cases fr with
 | nil=>exact absurd rfl hne
 | cons a r=>
  have h1:=sx (k:=k) (h a mem_cons_self)
  have h2:=gN (k:=k) r (rk.set a (some k))
  show cu (cT (rk.set a (some k)) k r)<_
  omega
structure RS where
 rk:List (Option Nat)
 k:Nat
 fr:List Nat
 x8:Option PV
structure RI (w:Wd) (ch:Nat->Bool) (thr goal:List Nat) (b:RS):Prop where
 len:b.rk.length=w.n
 frn:∀r∈b.fr,r<w.n/\bc b.rk r=none
 frl:b.fr.length<=1000
 lt:∀r j,bc b.rk r=some j->j<b.k
 zero:b.k=0->b.fr=goal
 g:0<b.k->∀r,r∈goal->bc b.rk r=some 0
 p:∀r j,r<w.n->r∉goal->bc b.rk r=some j->0<j/\r∈thr/\led (ch r) (w.stp r) fun t=>∃i,bc b.rk t=some i/\i<j
 nx:0<b.k->b.fr=uU w ch thr b.rk
 m1:∀r,r∈thr->bc b.rk r=none->¬led (ch r) (w.stp r) fun t=>∃i,bc b.rk t=some i/\i+1<b.k
 m2:∀r j,r∉goal->bc b.rk r=some j->¬led (ch r) (w.stp r) fun t=>∃i,bc b.rk t=some i/\i+1<j
noncomputable def KE (st:Nat->List Nat) (ch:Nat->Bool) (goal:List Nat) (rk:List (Option Nat)):Prop:=∀r j,r∉goal->bc rk r=some j->¬led (ch r) (st r) fun t=>∃i,bc rk t=some i/\i+1<j
theorem RI.right {w:Wd} {ch:Nat->Bool} {thr goal:List Nat} {b:RS} (hne:∀r∈thr,w.stp r≠[]) (I:RI w ch thr goal b) (he:b.fr=[]):vV w.n w.stp ch thr goal b.rk:=by
 refine ⟨I.len,fun r hr hg=>?_,I.p,fun r hr hz=>?_⟩
 ·rcases Nat.eq_zero_or_pos b.k with h | h
  ·rw [<-I.zero h,he] at hg;simp at hg
  ·exact I.g h r hg
 ·rcases Nat.eq_zero_or_pos b.k with h | h
  ·have hg:goal=[]:=by rw [<-I.zero h];exact he
   refine ⟨by rw [hg];simp,?_⟩
   by_cases ht:r∈thr
   case neg=>exact .inl ht
   refine .inr fun hl=>?_
   have no:∀t,bc b.rk t=none:=fun t=>by
    cases e:bc b.rk t with
    | none=>rfl
    | some j=>have:=I.lt t j e;omega
   cases hc:ch r with
   | true=>
    rw [hc] at hl;obtain ⟨t,_,z⟩:=led_t.mp hl;exact z (no t)
   | false=>
    rw [hc] at hl;obtain ⟨t,ht'⟩:=exists_mem_of_ne_nil _ (hne r ht);exact led_f.mp hl t ht' (no t)
  ·refine ⟨fun hg=>(by rw [I.g h r hg] at hz;cases hz),?_⟩
   by_cases ht:r∈thr
   ·refine .inr fun hl=>?_
    have hx:=I.nx h
    rw [he] at hx;have:r∈uU w ch thr b.rk:=by
     unfold uU;refine List.mem_filter.mpr ⟨ht,?_⟩
     rw [hz];simp only [Option.isNone_none,Bool.true_and]
     exact led_iff.mpr (Af hl fun t _ z=>by cases e:bc b.rk t with | none=>exact absurd e z | some j=>rfl)
    rw [<-hx] at this;simp at this
   ·exact .inl ht
theorem RI.step {w:Wd} {ch:Nat->Bool} {thr goal:List Nat} (hne0:∀r∈thr,w.stp r≠[]) {b:RS} {y:Option PV} (hthr:∀r∈thr,r<w.n) (hl:thr.length<=1000) (I:RI w ch thr goal b) (hne:b.fr≠[]) :
  RI w ch thr goal ⟨cT b.rk b.k b.fr,b.k+1,uU w ch thr (cT b.rk b.k b.fr),y⟩/\cu (cT b.rk b.k b.fr)<cu b.rk:=by
 have hfl:∀a∈b.fr,a<b.rk.length:=fun a ha=>by rw [I.len];exact (I.frn a ha).1
 have pt:∀t,bc (cT b.rk b.k b.fr) t=if t∈b.fr then some b.k else bc b.rk t:=fun t=>qo _ _ hfl
 refine ⟨⟨by rw [HJ];exact I.len,fun r hr=>?_,?_,fun r j e=>?_,fun z=>absurd z (Nat.succ_ne_zero _),fun _ r hg=>?_,fun r j hr hg e=>?_,fun _=>rfl,fun r ht hz hl=>?_,fun r j hg e hl=>?_⟩,sy hne fun a ha=>?_⟩
 ·obtain ⟨h1,h2⟩:=List.mem_filter.mp hr
  simp only [Bool.and_eq_true,Option.isNone_iff_eq_none] at h2
  exact ⟨hthr r h1,h2.1⟩
 ·exact Nat.le_trans (length_filter_le _ _) hl
 ·rw [pt] at e
  show j<b.k+1
  split at e
  ·cases e;omega
  ·have:=I.lt r j e;omega
 ·show bc (cT b.rk b.k b.fr) r=some 0
  rw [pt];rcases Nat.eq_zero_or_pos b.k with h | h
  ·rw [I.zero h,if_pos hg,h]
  ·have:=I.g h r hg
   split
   ·rename_i z;rw [(I.frn r z).2] at this;cases this
   ·exact this
 ·have e:bc (cT b.rk b.k b.fr) r=some j:=e
  rw [pt] at e;split at e
  ·rename_i hm
   cases e;have hk:0<b.k:=by
    rcases Nat.eq_zero_or_pos b.k with h | h
    ·rw [I.zero h] at hm;exact absurd hm hg
    ·exact h
   have hx:=I.nx hk
   rw [hx] at hm;obtain ⟨h1,h2⟩:=List.mem_filter.mp hm;simp only [Bool.and_eq_true] at h2
   refine ⟨hk,h1,Af (led_iff.mp h2.2) fun t _ z=>?_⟩
   cases e:bc b.rk t with
   | none=>rw [e] at z;cases z
   | some i=>
    refine ⟨i,?_,I.lt t i e⟩
    show bc (cT b.rk b.k b.fr) t=_
    rw [pt,if_neg (fun q=>by rw [(I.frn t q).2] at e;cases e),e]
  ·obtain ⟨h1,h2,h3⟩:=I.p r j hr hg e
   refine ⟨h1,h2,Af h3 fun t _ ⟨i,hi,hlt⟩=>⟨i,?_,hlt⟩⟩
   show bc (cT b.rk b.k b.fr) t=_
   rw [pt,if_neg (fun q=>by rw [(I.frn t q).2] at hi;cases hi),hi]
 ·have hz:bc (cT b.rk b.k b.fr) r=none:=hz
  rw [pt] at hz;split at hz
  ·cases hz
  rename_i hf;have hl:led (ch r) (w.stp r) fun t=>∃i,bc (cT b.rk b.k b.fr) t=some i/\i+1<b.k+1:=hl
  have hl:led (ch r) (w.stp r) fun t=>∃i,bc b.rk t=some i/\i<b.k:=Af hl fun t _ ⟨i,hi,hlt⟩=>by
   rw [pt] at hi;split at hi
   ·cases hi;omega
   ·exact ⟨i,hi,by omega⟩
  rcases Nat.eq_zero_or_pos b.k with h | h
  ·cases hc:ch r with
   | true=>
    rw [hc] at hl;obtain ⟨t,_,i,_,z⟩:=led_t.mp hl;omega
   | false=>
    rw [hc] at hl;obtain ⟨t,ht'⟩:=exists_mem_of_ne_nil _ (hne0 r ht);obtain ⟨i,_,z⟩:=led_f.mp hl t ht'
    omega
  ·refine hf ?_
   rw [I.nx h];refine List.mem_filter.mpr ⟨ht,?_⟩
   rw [hz];simp only [Option.isNone_none,Bool.true_and]
   exact led_iff.mpr (Af hl fun t _ ⟨i,hi,_⟩=>by rw [hi];rfl)
 ·have e:bc (cT b.rk b.k b.fr) r=some j:=e
  have hl:led (ch r) (w.stp r) fun t=>∃i,bc (cT b.rk b.k b.fr) t=some i/\i+1<j:=hl
  have hj:j<=b.k:=by
   rw [pt] at e;split at e
   ·cases e;omega
   ·have:=I.lt r j e;omega
  have hl:led (ch r) (w.stp r) fun t=>∃i,bc b.rk t=some i/\i+1<j:=Af hl fun t _ ⟨i,hi,hlt⟩=>by
   rw [pt] at hi;split at hi
   ·cases hi;omega
   ·exact ⟨i,hi,hlt⟩
  rw [pt] at e;split at e
  ·rename_i hm
   cases e;have hk:0<b.k:=by
    rcases Nat.eq_zero_or_pos b.k with h | h
    ·rw [I.zero h] at hm;exact absurd hm hg
    ·exact h
   have hm':=hm
   rw [I.nx hk] at hm';exact I.m1 r (List.mem_filter.mp hm').1 (I.frn r hm).2 hl
  ·exact I.m2 r j hg e hl
 ·obtain ⟨h1,h2⟩:=I.frn a ha
  unfold bc at h2;rw [KN,KM (by rw [I.len];exact h1)] at h2
  rw [KM (by rw [I.len];exact h1)]
  simpa using h2
noncomputable abbrev GR (w:Wd) (cl:List Bool) (thr goal:List Nat) (b:RS):Ev:=[KZ w.enc,KZ (pQ cl),KZ (aT thr),KZ (aT goal),some ⟨.lst .leaf,fq b.rk⟩,KZ (.int (b.k:Int)),KZ (aT b.fr),b.x8,none]
noncomputable abbrev lK:FS:=(aq (fz 7 (bf (ae 6))
  (gJ 4 (ae 5) (ae 7)))
  (aq (fm 5 (eK (.int 1)))
  (aB false 6 (dB 4 cA (ab (ae 0) (ab (ae 1) (ab (ae 2) (ab (ae 4) af))))))))
theorem xo {w:Wd} (ok:w.Ok0) {cl:List Bool} {thr goal:List Nat} {b:RS} (hcl:cl.length=w.n) (hne0:∀r∈thr,w.stp r≠[]) (hthr:∀r∈thr,r<w.n) (hl:thr.length<=1000) (I:RI w (jL cl) thr goal b) (hne:b.fr≠[]) :
  ∃b',lK (GR w cl thr goal b)=.nx (GR w cl thr goal b')/\RI w (jL cl) thr goal b'/\cu b'.rk<cu b.rk:=by
 obtain ⟨y,e,_⟩:=Dz rm (fun (l:List (Option Nat)) r=>l.set r (some b.k)) (Inv:=fun l r=>l.length=w.n/\∀t∈r,t<w.n) (i:=7) (body:=gJ 4 (ae 5) (ae 7))
  (G:=fun l x=>[KZ w.enc,KZ (pQ cl),KZ (aT thr),KZ (aT goal),some ⟨.lst .leaf,fq l⟩,KZ (.int (b.k:Int)),KZ (aT b.fr),x,none])
  (fun _ _=>by simp) (fun _ _ _=>by simp) (fun l r rest ⟨h1,h2⟩=>by
   have hr:=h2 r mem_cons_self
   refine ⟨?_,by rw [length_set];exact h1,fun t ht=>h2 t (KO _ ht)⟩
   rw [Am (ds:=l.map oD) (j:=r) (k:=(r:Int)) rfl (ay rfl) (ay rfl) (Hh (by rw [length_map,h1];exact hr)) rfl]
   simp [List.map_set,oD]) b.fr b.rk b.x8 ⟨I.len,fun t ht=>(I.frn t ht).1⟩
 obtain ⟨I',hm⟩:=RI.step (y:=y) hne0 hthr hl I hne
 refine ⟨⟨cT b.rk b.k b.fr,b.k+1,uU w (jL cl) thr (cT b.rk b.k b.fr),y⟩,?_,I',hm⟩
 have e2:=fV (fi:=bf (ae 6)) (Γ:=GR w cl thr goal b) (eC (ds:=b.fr.map rm) (ay rfl) rfl) e
 have dn:=vF ok (cl:=cl) (thr:=thr) (rk:=cT b.rk b.k b.fr) hcl hthr (by rw [HJ];exact I.len) hl
 unfold lK;rw [eE,e2];have fr:nR ⟨.lst .leaf,aT (uU w (jL cl) thr (cT b.rk b.k b.fr))⟩=true:=by
  unfold nR;simp [bP]
 have ec:∀Γ:Ev,Γ=[KZ w.enc,KZ (pQ cl),KZ (aT thr),KZ (aT goal),some ⟨.lst .leaf,fq (cT b.rk b.k b.fr)⟩,KZ (.int ((b.k:Int)+1)),KZ (aT b.fr),y,none] ->
   dB 4 cA (ab (ae 0) (ab (ae 1) (ab (ae 2) (ab (ae 4) af)))) Γ=.ok ⟨.lst .leaf,aT (uU w (jL cl) thr (cT b.rk b.k b.fr))⟩ Γ:=fun Γ hΓ=>by
  subst hΓ;unfold dB;simp [dn,fr]
 have pu:b.fr.foldl (fun l r=>l.set r (some b.k)) b.rk=cT b.rk b.k b.fr:=rfl
 rw [pu];simp [ec _ rfl]
theorem md {w:Wd} (ok:w.Ok0) {cl:List Bool} {thr goal:List Nat} (hcl:cl.length=w.n) (hne0:∀r∈thr,w.stp r≠[]) (hthr:∀r∈thr,r<w.n) (hl:thr.length<=1000) (hgoal:∀r∈goal,r<w.n) (hgl:goal.length<=1000) :
  ∃rk,gq [w.enc,pQ cl,aT thr,aT goal]=.ok ⟨.lst .leaf,fq rk⟩/\vV w.n w.stp (jL cl) thr goal rk/\KE w.stp (jL cl) goal rk:=by
 have lo:=ok.lo
 have h24:=ok.h24
 have i0:RI w (jL cl) thr goal ⟨w.os.map fun _=>none,0,goal,none⟩:=by
  have z:∀r,bc (w.os.map fun _=>none) r=none:=fun r=>by
   unfold bc;rw [KN,getElem?_map]
   cases w.os[r]?<;>rfl
  refine ⟨by simp [lo],fun r hr=>⟨hgoal r hr,z r⟩,hgl,fun r j e=>(by rw [z] at e;cases e),fun _=>rfl,fun h=>absurd h (by simp),fun r j _ _ e=>(by rw [z] at e;cases e),fun h=>absurd h (by simp),fun r ht _ hl=>?_,fun r j _ e=>(by rw [z] at e;cases e)⟩
  have hl:led (jL cl r) (w.stp r) fun t=>∃i,bc (w.os.map fun _=>none) t=some i/\i+1<0:=hl
  cases hc:jL cl r with
  | true=>
   rw [hc] at hl;obtain ⟨t,_,i,_,z⟩:=led_t.mp hl;omega
  | false=>
   rw [hc] at hl;obtain ⟨t,ht'⟩:=exists_mem_of_ne_nil _ (hne0 r ht);obtain ⟨i,_,z⟩:=led_f.mp hl t ht'
   omega
 obtain ⟨b',e,I,hf⟩:=kB (c:=aL bX (ae 6)) (g:=lK) (G:=GR w cl thr goal) (test:=fun b=>!b.fr.isEmpty) (Inv:=RI w (jL cl) thr goal) (meas:=fun b=>cu b.rk) (fun b I=>by simp) (fun b I hb=>xo ok hcl hne0 hthr hl I (by intro z;rw [z] at hb;simp at hb)) 1000 _ i0 (by
  have:cu (w.os.map fun _=>none)<=w.os.length:=by unfold cu;exact Nat.le_trans (length_filter_le _ _) (by simp)
  show cu (w.os.map fun _=>none)<1000
  omega)
 refine ⟨b'.rk,?_,I.right hne0 (by simpa using hf),I.m2⟩
 refine aD ?_
 have co:∀Γ:Ev,Γ.length=9->Γ[0]?=some (KZ w.enc)->aA .leaf 8 (bf (ao (ae 0) (eK (.int 0)))) aK (eK .none) Γ=.ok ⟨.lst .leaf,.list (w.os.map fun _=>.none)⟩ Γ:=fun Γ h1 h2=>by
  have:=mw (fun d:D=>d) w.os (fun _=>⟨.leaf,.none⟩) (s:=.leaf) (i:=8) (fi:=bf (ao (ae 0) (eK (.int 0)))) (fe:=eK .none) (st:=true) (Γ:=Γ) (by simp [h2,Wd.enc]) (by omega) rfl (by omega) (fun x hx=>by simp)
  simpa using this
 have e:cm (aL bX (ae 6)) lK 1000 [KZ w.enc,KZ (pQ cl),KZ (aT thr),KZ (aT goal),some ⟨.lst .leaf,.list (w.os.map fun _=>.none)⟩,KZ (.int 0),KZ (aT goal),none,none]=.nx (GR w cl thr goal b'):=by
  have q:fq (w.os.map fun _=>none)=.list (w.os.map fun _=>.none):=by
   unfold fq;rw [map_map];rfl
  rw [<-q];exact e
 unfold jG;rw [eE,iw,co _ rfl rfl];simp [ah]
 unfold fF;rw [e];simp
theorem zm {w:Wd} (ok:w.Ok) {s:Sn} {P:D} {thr goal:List Nat} (hw:(s.w=.su\/s.w=.au)\/(s.w=.sa\/s.w=.aa)) (ht:∃sh,coer .leaf ⟨sh,.tuple [aT thr,aT goal]⟩=true/\aX [w.enc,s.enc,P]=.ok ⟨sh,.tuple [aT thr,aT goal]⟩) (hthr:∀r∈thr,r<w.n) (hl:thr.length<=1000) (hgoal:∀r∈goal,r<w.n) (hgl:goal.length<=1000) :
  ∃rk,bK [w.enc,s.enc,P]=.ok ⟨.lst .leaf,fq rk⟩/\Right w s.w.some thr goal rk:=by
 obtain ⟨sh,hsh,ht⟩:=ht;have lo:=ok.g.lo
 have h24:=ok.h24
 obtain ⟨rk,e,R,_⟩:=md ok.z (cl:=w.os.map fun _=>s.w.some) (by rw [length_map];exact lo) (fun r hr=>ok.stp_ne (hthr r hr)) hthr hl hgoal hgl
 have hch:∀r,r<w.n->jL (w.os.map fun _=>s.w.some) r=s.w.some:=fun r hr=>by
  unfold jL;rw [KN,getElem?_map,KM (by omega)]
  rfl
 refine ⟨rk,?_,⟨R.len,R.g,fun r k hr hg e=>?_,fun r hr e=>?_⟩⟩
 ·have hst:ao (ae 1) (eK (.int 0)) (ah 6 [w.enc,s.enc,P])=.ok ⟨.leaf,.str s.w.t⟩ (ah 6 [w.enc,s.enc,P]):=by
   cases s<;>simp [ah,Sn.enc,Sn.w]
  have s1:aB false 3 (ao (ae 1) (eK (.int 0))) (ah 6 [w.enc,s.enc,P])=.nx [KZ w.enc,KZ s.enc,KZ P,KZ (.str s.w.t),none,none]:=by
   rw [iw,hst];simp [ah]
  have s2:bW (gx (aL ai (az (bQ true) (ae 3) (eK cD))) (aL ai (az (bQ true) (ae 3) (eK dk)))) (aF (eK .none)) aJ [KZ w.enc,KZ s.enc,KZ P,KZ (.str s.w.t),none,none]=.nx [KZ w.enc,KZ s.enc,KZ P,KZ (.str s.w.t),none,none]:=by
   rcases hw with z | z
   ·simp [z]
   ·by_cases z2:(s.w=.su\/s.w=.au)<;>simp [z,z2]
  have s3:aB false 4 (ag 3 aX (ab (ae 0) (ab (ae 1) (ab (ae 2) af)))) [KZ w.enc,KZ s.enc,KZ P,KZ (.str s.w.t),none,none]=.nx [KZ w.enc,KZ s.enc,KZ P,KZ (.str s.w.t),KZ (.tuple [aT thr,aT goal]),none]:=by
   simp [ht,hsh]
  have c1:aA .leaf 5 (bf (ao (ae 0) (eK (.int 0)))) aK (az (bQ false) (ae 3) (eK bB)) [KZ w.enc,KZ s.enc,KZ P,KZ (.str s.w.t),KZ (.tuple [aT thr,aT goal]),none]=.ok ⟨.lst .leaf,pQ (w.os.map fun _=>s.w.some)⟩ [KZ w.enc,KZ s.enc,KZ P,KZ (.str s.w.t),KZ (.tuple [aT thr,aT goal]),none]:=by
   have:=mw (fun d:D=>d) w.os (fun _=>⟨.leaf,.bool s.w.some⟩) (s:=.leaf) (i:=5) (fi:=bf (ao (ae 0) (eK (.int 0)))) (fe:=az (bQ false) (ae 3) (eK bB)) (st:=true) (Γ:=[KZ w.enc,KZ s.enc,KZ P,KZ (.str s.w.t),KZ (.tuple [aT thr,aT goal]),none]) (by simp [Wd.enc]) (by simp) rfl (by omega) (fun x hx=>by simp)
   rw [this];simp
  refine aD ?_
  unfold eX;rw [eE,s1];simp only
  rw [eE,s2];simp only
  rw [eE,s3];simp only
  exact aH (bY (ax (ay rfl) (ax c1 (ax (jU (j:=0) (ds:=[aT thr,aT goal]) (ay rfl) aS rfl rfl rfl) (ax (jU (j:=1) (ds:=[aT thr,aT goal]) (ay rfl) aS rfl rfl rfl) aj)))) e rfl rfl) rfl
 ·have:=R.p r k hr hg e
  rw [hch r hr] at this;exact this
 ·have:=R.z r hr e
  rw [hch r hr] at this;exact this
noncomputable def bN (w:Wd):Sn->Nat->Prop
 | .yes,_=>True
 | .mk c,r=>c∈w.mks r
 | .un .not a,r=>¬bN w a r
 | .un .sn a,r=>∃t∈w.stp r,bN w a t
 | .un .an a,r=>∀t∈w.stp r,bN w a t
 | .un .sa a,r=>¬Unt w false (fun _=>True) (fun t=>¬bN w a t) r
 | .un .aa a,r=>¬Unt w true (fun _=>True) (fun t=>¬bN w a t) r
 | .bi .and a b,r=>bN w a r/\bN w b r
 | .bi .or a b,r=>bN w a r\/bN w b r
 | .bi .su a b,r=>Unt w true (bN w a) (bN w b) r
 | .bi .au a b,r=>Unt w false (bN w a) (bN w b) r
noncomputable def eD (w:Wd) (s:Sn) (r:Nat):Bool:=@decide (bN w s r) (Classical.propDecidable _)
theorem satB_iff {w:Wd} {s:Sn} {r:Nat}:eD w s r=true↔bN w s r:=by
 unfold eD;exact @decide_eq_true_iff _ (Classical.propDecidable _)
theorem qY {w:Wd} {s:Sn} {r:Nat} {b:Bool} (h:b=true↔bN w s r):b=eD w s r:=by
 rw [Bool.eq_iff_iff,h,satB_iff]
noncomputable def aV (w:Wd) (s:Sn):List Nat:=(List.range w.n).filter (eD w s)
theorem mem_rof {w:Wd} {s:Sn} {r:Nat}:r∈aV w s↔r<w.n/\bN w s r:=by
 unfold aV;rw [List.mem_filter,mem_range,satB_iff]
theorem wH {w:Wd} {s:Sn} {r:Nat} (hr:r<w.n):(aV w s).contains r=eD w s r:=by
 rw [Bool.eq_iff_iff,contains_iff_mem,mem_rof,satB_iff];exact ⟨fun h=>h.2,fun h=>⟨hr,h⟩⟩
theorem Unt.congr {w:Wd} (ok:w.Ok) {any:Bool} {P P' Q Q':Nat->Prop} (hp:∀t,t<w.n->P t->P' t) (hq:∀t,t<w.n->Q t->Q' t) {r:Nat} (hr:r<w.n) (h:Unt w any P Q r):Unt w any P' Q' r:=by
 induction h with
 | now q=>exact .now (hq _ hr q)
 | some e p ht _ ih=>exact .some e (hp _ hr p) ht (ih (ok.stp_lt ht))
 | all e p _ ih=>exact .all e (hp _ hr p) fun t ht=>ih t ht (ok.stp_lt ht)
theorem vf {c:Str} {r:List Str} (hc:PyData.strOk c=true) (h:∀x∈r,PyData.strOk x=true):bQ false (.str c) (wt r)=some (.bool (r.contains c)):=by
 have hs:ky (r.map PyData.str):=fun a ha=>by
  obtain ⟨x,hx,rfl⟩:=List.mem_map.mp ha;exact ⟨x,rfl,h x hx⟩
 rw [wt,Cb hc hs];congr 2
 unfold has;simp only [List.any_map]
 rw [Bool.eq_iff_iff,any_eq_true,contains_iff_mem];constructor
 ·rintro ⟨x,hx,e⟩
  have:PyData.eqv (.str x) (.str c)=true:=e
  have:x=c:=by simpa [PyData.eqv] using this
  rw [<-this];exact hx
 ·intro hx
  exact ⟨c,hx,by show PyData.eqv (.str c) (.str c)=true;simp [PyData.eqv]⟩
noncomputable abbrev cZ (ps:List (List Nat)):D:=.list (ps.map aT)
theorem zL {ps:List (List Nat)} {r:Nat} {Γ:Ev} (hl:Γ.length=9) (h2:Γ[2]?=some (KZ (cZ ps))) (h4:Γ[4]?=some (KZ (rm r))) (hn:ps.length<=10000) :
  aA .leaf 7 (bf (ae 2)) aK (az (bQ false) (ae 4) (ae 7)) Γ=.ok ⟨.lst .leaf,.list (ps.map fun R=>.bool (R.contains r))⟩ Γ:=by
 refine mw aT ps (fun R=>⟨.leaf,.bool (R.contains r)⟩) (st:=true) (by simp [h2]) (by omega) rfl hn fun R hR=>?_
 have g4:(Γ.set 7 (KZ (aT R)))[4]?=some (KZ (rm r)):=by rw [getElem?_set_ne (by omega)];exact h4
 have g7:(Γ.set 7 (KZ (aT R)))[7]?=some (KZ (aT R)):=getElem?_set_self (by omega)
 refine ⟨?_,rfl⟩
 rw [A8,m7,g4];simp only [uG,oE]
 rw [m7,g7];simp only [uG,oE,FO]
theorem F8 {w:Wd} (ok:w.Ok) {r:Nat}:(w.stp r).length<=10000:=by
 unfold Wd.stp;rw [KN]
 cases e:w.s[r]? with
 | none=>simp
 | some x=>
  have:=(ok.st x (mem_of_getElem? e)).2.1
  simp only [Option.getD_some]
  omega
theorem D2 {w:Wd} (ok:w.Ok) {R:List Nat} {ps:List (List Nat)} {r:Nat} (hr:r<w.n) {Γ:Ev} (hl:Γ.length=9) (h0:Γ[0]?=some (KZ w.enc)) (h2:Γ[2]?=some (KZ (cZ (R::ps)))) (h4:Γ[4]?=some (KZ (rm r))) :
  aA .leaf 8 (bf (ao (ao (ae 0) (eK (.int 2))) (ae 4))) aK (az (bQ false) (ae 8) (ao (ae 2) (eK (.int 0)))) Γ=.ok ⟨.lst .leaf,.list ((w.stp r).map fun t=>.bool (R.contains t))⟩ Γ:=by
 have a2:=ok.at2 hr
 refine mw rm (w.stp r) (fun t=>⟨.leaf,.bool (R.contains t)⟩) (st:=true) (by simp [h0,h4,Wd.enc,a2]) (by omega) rfl (F8 ok) fun t ht=>?_
 have g2:(Γ.set 8 (KZ (rm t)))[2]?=some (KZ (cZ (R::ps))):=by rw [getElem?_set_ne (by omega)];exact h2
 have g8:(Γ.set 8 (KZ (rm t)))[8]?=some (KZ (rm t)):=getElem?_set_self (by omega)
 refine ⟨?_,rfl⟩
 rw [A8,m7,g8];simp only [uG,oE]
 rw [Ee,m7,g2];simp [FO]
noncomputable def jO (w:Wd) (s:Sn) (R:D):Prop:=match s with
 | .bi .su a b=>∃rk,R=fq rk/\Right w true (aV w a) (aV w b) rk
 | .bi .au a b=>∃rk,R=fq rk/\Right w false (aV w a) (aV w b) rk
 | .un .sa a=>∃rk,R=fq rk/\Right w false (List.range w.n) ((List.range w.n).filter fun t=>!(aV w a).contains t) rk
 | .un .aa a=>∃rk,R=fq rk/\Right w true (List.range w.n) ((List.range w.n).filter fun t=>!(aV w a).contains t) rk
 | _=>R=.none
theorem p9 {w:Wd} (ok:w.Ok) {any:Bool} {a b:Sn} {r:Nat} (hr:r<w.n):Unt w any (·∈aV w a) (·∈aV w b) r↔Unt w any (bN w a) (bN w b) r:=
 ⟨Unt.congr ok (fun t _ h=>(mem_rof.mp h).2) (fun t _ h=>(mem_rof.mp h).2) hr,Unt.congr ok (fun t ht h=>mem_rof.mpr ⟨ht,h⟩) (fun t ht h=>mem_rof.mpr ⟨ht,h⟩) hr⟩
theorem qa {w:Wd} (ok:w.Ok) {any:Bool} {a:Sn} {r:Nat} (hr:r<w.n):Unt w any (·∈List.range w.n) (·∈(List.range w.n).filter fun t=>!(aV w a).contains t) r↔Unt w any (fun _=>True) (fun t=>¬bN w a t) r:=by
 have q:∀t,t<w.n->(t∈(List.range w.n).filter fun t=>!(aV w a).contains t)\/bN w a t:=fun t ht=>by
  by_cases h:bN w a t
  ·exact .inr h
  ·refine .inl (List.mem_filter.mpr ⟨List.mem_range.mpr ht,?_⟩)
   rw [wH ht]
   cases e:eD w a t with
   | false=>rfl
   | true=>exact absurd (satB_iff.mp e) h
 constructor
 ·refine Unt.congr ok (fun _ _ _=>trivial) (fun t ht h hs=>?_) hr
  have:=(List.mem_filter.mp h).2
  rw [wH ht,satB_iff.mpr hs] at this
  cases this
 ·exact Unt.congr ok (fun t ht _=>List.mem_range.mpr ht) (fun t ht h=>(q t ht).elim id fun z=>absurd z h) hr
theorem jk {o:Option Nat}:(!o.isNone)=true↔o≠none:=by cases o<;>simp
theorem qI {o:Option Nat}:o.isNone=true↔¬o≠none:=by cases o<;>simp
theorem JC {a b:Bool}:cW true [.list [.bool a,.bool b]]=some (.bool (a||b)):=by cases a<;>cases b<;>rfl
theorem all2 {a b:Bool}:cW false [.list [.bool a,.bool b]]=some (.bool (a&&b)):=by cases a<;>cases b<;>rfl
theorem mf {w:Wd} (ok:w.Ok) {s:Sn} (hs:s.ok) {R:D} (hR:jO w s R) {r:Nat} (hr:r<w.n):eP [w.enc,s.enc,cZ (s.args.map (aV w)),R,rm r]=.ok ⟨.leaf,.bool (eD w s r)⟩:=by
 refine aD ?_
 have a1:=ok.at1 hr
 have a2:=ok.at2 hr
 cases s with
 | yes=>
  have e:true=eD w .yes r:=qY (by simp [bN])
  rw [<-e];simp [bC,ah,Sn.enc]
 | mk c=>
  have e:(w.mks r).contains c=eD w (.mk c) r:=qY (by rw [contains_iff_mem];rfl)
  have hm:∀x∈w.mks r,PyData.strOk x=true:=fun x hx=>by
   unfold Wd.mks at hx;rw [KN,KM (by rw [ok.lm];exact hr)] at hx
   exact ok.mc _ (getElem_mem _) x hx
  rw [<-e];simp [bC,ah,Sn.enc,Wd.enc,a1,vf (FP hs).1 hm]
 | un k a=>
  have hc:=zL (ps:=[aV w a]) (r:=r) (Γ:=[KZ w.enc,KZ ((Sn.un k a).enc),KZ (cZ [aV w a]),KZ R,KZ (rm r),KZ (.str k.w.t),none,none,none]) rfl rfl rfl (by simp)
  have sc:=D2 ok (R:=aV w a) (ps:=[]) hr (Γ:=[KZ w.enc,KZ ((Sn.un k a).enc),KZ (cZ [aV w a]),KZ R,KZ (rm r),KZ (.str k.w.t),KZ (.list [.bool ((aV w a).contains r)]),none,none]) rfl rfl rfl rfl
  have dl:=FT (c:=k.w.some) (bs:=(w.stp r).map fun t=>(aV w a).contains t)
  rw [map_map] at dl;have dl:b9 [.bool k.w.some,.list ((w.stp r).map fun t=>.bool ((aV w a).contains t))]=_:=dl
  have stB:∀t∈w.stp r,(aV w a).contains t=true↔bN w a t:=fun t ht=>by rw [wH (ok.stp_lt ht),satB_iff]
  simp only [Sn.enc] at hc sc
  cases k with
  | not=>
   have e:(!(aV w a).contains r)=eD w (.un .not a) r:=qY (by rw [wH hr];simp [bN,<-satB_iff])
   rw [<-e];simp [U5.w] at hc
   simp [bC,ah,Sn.enc,Sn.args,U5.w,hc]
  | sn=>
   have e:fC true ((w.stp r).map fun t=>(aV w a).contains t)=eD w (.un .sn a) r:=qY (by
    rw [led_iff];simp only [led,bN,if_true]
    exact ⟨fun ⟨t,ht,h⟩=>⟨t,ht,(stB t ht).mp h⟩,fun ⟨t,ht,h⟩=>⟨t,ht,(stB t ht).mpr h⟩⟩)
   have wk:U5.sn.w.some=true:=rfl
   have wk2:Wr.sn.some=true:=rfl
   rw [wk,e] at dl;simp [U5.w] at hc sc dl
   simp [bC,ah,Sn.enc,Sn.args,U5.w,hc,sc,dl,wk2]
  | an=>
   have e:fC false ((w.stp r).map fun t=>(aV w a).contains t)=eD w (.un .an a) r:=qY (by
    rw [led_iff];simp only [led,bN,Bool.false_eq_true,if_false]
    exact ⟨fun h t ht=>(stB t ht).mp (h t ht),fun h t ht=>(stB t ht).mpr (h t ht)⟩)
   have wk:U5.an.w.some=false:=rfl
   have wk2:Wr.an.some=false:=rfl
   rw [wk,e] at dl;simp [U5.w] at hc sc dl
   simp [bC,ah,Sn.enc,Sn.args,U5.w,hc,sc,dl,wk2]
  | sa=>
   obtain ⟨rk,rfl,hR⟩:=hR;have a3:=iJ (rk:=rk) (t:=r) (by rw [hR.len];exact hr)
   have e:(bc rk r).isNone=eD w (.un .sa a) r:=qY (by rw [qI,hR.iff ok hr,qa ok hr];rfl)
   rw [<-e];simp [bC,ah,Sn.enc,Sn.args,U5.w,a3]
  | aa=>
   obtain ⟨rk,rfl,hR⟩:=hR;have a3:=iJ (rk:=rk) (t:=r) (by rw [hR.len];exact hr)
   have e:(bc rk r).isNone=eD w (.un .aa a) r:=qY (by rw [qI,hR.iff ok hr,qa ok hr];rfl)
   rw [<-e];simp [bC,ah,Sn.enc,Sn.args,U5.w,a3]
 | bi k a b=>
  have hc:=zL (ps:=[aV w a,aV w b]) (r:=r) (Γ:=[KZ w.enc,KZ ((Sn.bi k a b).enc),KZ (cZ [aV w a,aV w b]),KZ R,KZ (rm r),KZ (.str k.w.t),none,none,none]) rfl rfl rfl (by simp)
  simp only [Sn.enc] at hc
  cases k with
  | and=>
   have e:((aV w a).contains r&&(aV w b).contains r)=eD w (.bi .and a b) r:=qY (by rw [wH hr,wH hr,Bool.and_eq_true,satB_iff,satB_iff];rfl)
   rw [<-e];simp [B4.w] at hc
   simp [bC,ah,Sn.enc,Sn.args,B4.w,hc,all2]
  | or=>
   have e:((aV w a).contains r||(aV w b).contains r)=eD w (.bi .or a b) r:=qY (by rw [wH hr,wH hr,Bool.or_eq_true,satB_iff,satB_iff];rfl)
   rw [<-e];simp [B4.w] at hc
   simp [bC,ah,Sn.enc,Sn.args,B4.w,hc,JC]
  | su=>
   obtain ⟨rk,rfl,hR⟩:=hR;have a3:=iJ (rk:=rk) (t:=r) (by rw [hR.len];exact hr)
   have e:(!(bc rk r).isNone)=eD w (.bi .su a b) r:=qY (by rw [jk,hR.iff ok hr,p9 ok hr];rfl)
   rw [<-e];simp [bC,ah,Sn.enc,Sn.args,B4.w,a3]
  | au=>
   obtain ⟨rk,rfl,hR⟩:=hR;have a3:=iJ (rk:=rk) (t:=r) (by rw [hR.len];exact hr)
   have e:(!(bc rk r).isNone)=eD w (.bi .au a b) r:=qY (by rw [jk,hR.iff ok hr,p9 ok hr];rfl)
   rw [<-e];simp [bC,ah,Sn.enc,Sn.args,B4.w,a3]
theorem za {w:Wd} {s:Sn}:∀r∈aV w s,r<w.n:=fun r hr=>(mem_rof.mp hr).1
theorem zf {w:Wd} (ok:w.Ok) {s:Sn}:(aV w s).length<=1000:=by
 have:=ok.h24
 exact Nat.le_trans (length_filter_le _ _) (by simp;omega)
theorem II {Γ Γ1:Ev} {fl:FL} {ps:List PV} {k:Int} (hl:fl Γ=.ok ps Γ1) (hp:ps.map (·.d)=[.int k]) (h0:0<=k) (h1:k<=1000):CA fl Γ=.ok ⟨.lst .leaf,.list (cw 0 k.toNat)⟩ Γ1:=by
 have h3:dP k=true:=B9 (by omega) (by omega)
 have hb:=DA
 have h4:k<=(sizeLine:Int):=by omega
 unfold CA;rw [hl];simp only [Out.bind,hp,kd,h3,if_true,h4]
theorem Fw {w:Wd} (ok:w.Ok) {Γ:Ev} (h0:Γ[0]?=some (KZ w.enc)):CA (ab (bJ bg (ab (ao (ae 0) (eK (.int 0))) af)) af) Γ=.ok ⟨.lst .leaf,aT (List.range w.n)⟩ Γ:=by
 have lo:=ok.g.lo
 have h24:=ok.h24
 rw [II (Γ1:=Γ) (ps:=[⟨.leaf,.int w.n⟩]) (k:=(w.n:Int)) (by simp [h0,Wd.enc,lo]) rfl (by omega) (by omega),Int.toNat_natCast,Dw]
theorem Dg {w:Wd} {s:Sn} {A B:List Nat} (hw:s.w=.su\/s.w=.au):aX [w.enc,s.enc,cZ [A,B]]=.ok ⟨.tup [.leaf,.leaf],.tuple [aT A,aT B]⟩:=by
 have hst:ao (ae 1) (eK (.int 0)) (ah 3 [w.enc,s.enc,cZ [A,B]])=.ok ⟨.leaf,.str s.w.t⟩ (ah 3 [w.enc,s.enc,cZ [A,B]]):=by
  cases s<;>simp [ah,Sn.enc,Sn.w]
 refine aD ?_
 unfold dQ;rw [eE,I0,Eh,A8,hst];simp [hw,ah,wu]
theorem xU {w:Wd} (ok:w.Ok) {x:PV} {A:List Nat}:ag 2 de (ab (ae 0) (ab (ao (ae 2) (eK (.int 0))) af)) [KZ w.enc,some x,KZ (cZ [A])]=.ok ⟨.lst .leaf,aT ((List.range w.n).filter fun t=>!A.contains t)⟩ [KZ w.enc,some x,KZ (cZ [A])]:=
 bY (ps:=[⟨.leaf,w.enc⟩,⟨.leaf,aT A⟩]) (ax (ay rfl) (ax (wc (j:=0) (ds:=[aT A]) (ay rfl) aS rfl rfl rfl) aj)) (iT ok (r:=A)) rfl rfl
theorem Df {w:Wd} (ok:w.Ok) {s:Sn} {A:List Nat} (hw:¬(s.w=.su\/s.w=.au)):aX [w.enc,s.enc,cZ [A]]=.ok ⟨.tup [.lst .leaf,.lst .leaf],.tuple [aT (List.range w.n),aT ((List.range w.n).filter fun t=>!A.contains t)]⟩:=by
 have hst:ao (ae 1) (eK (.int 0)) [KZ w.enc,KZ s.enc,KZ (cZ [A])]=.ok ⟨.leaf,.str s.w.t⟩ [KZ w.enc,KZ s.enc,KZ (cZ [A])]:=by
  cases s<;>simp [Sn.enc,Sn.w]
 have lr:=Fw ok (Γ:=[KZ w.enc,KZ s.enc,KZ (cZ [A])]) rfl
 refine aD (av (Γ1:=[KZ w.enc,KZ s.enc,KZ (cZ [A])]) (bu (t:=false) (Γ1:=[KZ w.enc,KZ s.enc,KZ (cZ [A])]) (dA (s:=.leaf) (aI hst aS (by show bQ false (.str s.w.t) cD=_;rw [B6,decide_eq_false hw]))) nofun (fun _=>rfl)) (aH (bD (ax lr (ax (xU ok) aj)) rfl rfl) rfl))
theorem rQ {w:Wd} (ok:w.Ok) {s:Sn}:∃p:PV,bK [w.enc,s.enc,cZ (s.args.map (aV w))]=.ok p/\coer .leaf p=true/\jO w s p.d:=by
 have h24:=ok.h24
 have plain:∀s:Sn,¬(s.w=.su\/s.w=.au)->¬(s.w=.sa\/s.w=.aa)->∀P:D,bK [w.enc,s.enc,P]=.ok ⟨.leaf,.none⟩:=fun s h1 h2 P=>by
  have hst:ao (ae 1) (eK (.int 0)) (ah 6 [w.enc,s.enc,P])=.ok ⟨.leaf,.str s.w.t⟩ (ah 6 [w.enc,s.enc,P]):=by
   cases s<;>simp [ah,Sn.enc,Sn.w]
  refine aD ?_
  unfold eX;rw [eE,iw,hst];simp [ah,h1,h2]
 have gl:∀a:Sn,(∀r∈(List.range w.n).filter (fun t=>!(aV w a).contains t),r<w.n)/\((List.range w.n).filter fun t=>!(aV w a).contains t).length<=1000:=fun a=>
  ⟨fun r hr=>List.mem_range.mp (List.mem_filter.mp hr).1,Nat.le_trans (length_filter_le _ _) (by simp;omega)⟩
 cases s with
 | yes=>exact ⟨_,plain .yes (by simp [Sn.w]) (by simp [Sn.w]) _,rfl,rfl⟩
 | mk c=>exact ⟨_,plain (.mk c) (by simp [Sn.w]) (by simp [Sn.w]) _,rfl,rfl⟩
 | un k a=>
  cases k with
  | not=>exact ⟨_,plain (.un .not a) (by simp [Sn.w,U5.w]) (by simp [Sn.w,U5.w]) _,rfl,rfl⟩
  | sn=>exact ⟨_,plain (.un .sn a) (by simp [Sn.w,U5.w]) (by simp [Sn.w,U5.w]) _,rfl,rfl⟩
  | an=>exact ⟨_,plain (.un .an a) (by simp [Sn.w,U5.w]) (by simp [Sn.w,U5.w]) _,rfl,rfl⟩
  | sa=>
   obtain ⟨rk,e,R⟩:=zm ok (s:=.un .sa a) (P:=cZ [aV w a]) (.inr (.inl rfl)) ⟨_,rfl,Df ok (by simp [Sn.w,U5.w])⟩ (fun r hr=>List.mem_range.mp hr) (by simp;omega) (gl a).1 (gl a).2
   exact ⟨_,e,rfl,rk,rfl,R⟩
  | aa=>
   obtain ⟨rk,e,R⟩:=zm ok (s:=.un .aa a) (P:=cZ [aV w a]) (.inr (.inr rfl)) ⟨_,rfl,Df ok (by simp [Sn.w,U5.w])⟩ (fun r hr=>List.mem_range.mp hr) (by simp;omega) (gl a).1 (gl a).2
   exact ⟨_,e,rfl,rk,rfl,R⟩
 | bi k a b=>
  cases k with
  | and=>exact ⟨_,plain (.bi .and a b) (by simp [Sn.w,B4.w]) (by simp [Sn.w,B4.w]) _,rfl,rfl⟩
  | or=>exact ⟨_,plain (.bi .or a b) (by simp [Sn.w,B4.w]) (by simp [Sn.w,B4.w]) _,rfl,rfl⟩
  | su=>
   obtain ⟨rk,e,R⟩:=zm ok (s:=.bi .su a b) (P:=cZ [aV w a,aV w b]) (.inl (.inl rfl)) ⟨_,rfl,Dg (.inl rfl)⟩ za (zf ok) za (zf ok)
   exact ⟨_,e,rfl,rk,rfl,R⟩
  | au=>
   obtain ⟨rk,e,R⟩:=zm ok (s:=.bi .au a b) (P:=cZ [aV w a,aV w b]) (.inl (.inr rfl)) ⟨_,rfl,Dg (.inr rfl)⟩ za (zf ok) za (zf ok)
   exact ⟨_,e,rfl,rk,rfl,R⟩
theorem IC {w:Wd} (ok:w.Ok) {s:Sn} (hs:s.ok) {R:D} (hR:jO w s R):b7 [w.enc,s.enc,cZ (s.args.map (aV w)),R]=.ok ⟨.lst .leaf,aT (aV w s)⟩:=by
 have lo:=ok.g.lo
 have h24:=ok.h24
 have e:aA .leaf 4 (i4 (ab (bJ bg (ab (ao (ae 0) (eK (.int 0))) af)) af)) (aL bX (ag 5 eP (ab (ae 0) (ab (ae 1) (ab (ae 2) (ab (ae 3) (ab (ae 4) af))))))) (ae 4) (ah 5 [w.enc,s.enc,cZ (s.args.map (aV w)),R])=.ok ⟨.lst .leaf,.list (((List.range w.n).filter (eD w s)).map fun t=>rm t)⟩ (ah 5 [w.enc,s.enc,cZ (s.args.map (aV w)),R]):=by
  refine zh rm (List.range w.n) (eD w s) (fun t=>⟨.leaf,rm t⟩) (st:=true) ?_ (by simp [ah]) rfl (by simp;omega) (fun t ht=>?_) (fun t ht _=>?_)
  ·refine (lE (k:=(w.n:Int)) (ps:=[⟨.leaf,.int w.n⟩]) ?_ rfl (by omega) (by omega)).trans (by rw [<-Dw];rfl)
   simp [ah,Wd.enc,lo]
  ·have:=mf ok hs hR (List.mem_range.mp ht)
   simp [ah,this]
  ·simp [ah]
 refine aD ?_
 unfold jF;rw [uF,e];rfl
theorem jB {w:Wd} (ok:w.Ok):∀(n:Nat) (s:Sn),s.ok->s.dep<=n->dN n [w.enc,s.enc]=.ok ⟨.lst .leaf,aT (aV w s)⟩
 | 0,s,_,h=>by
  have:=s.dep_args
  omega
 | n+1,s,hs,h=>by
  have da:∀a∈s.args,a.dep<=n:=fun a ha=>by
   have h1:=s.dep_args
   have:a.dep<=eV s.args:=by
    have:∀l:List Sn,a∈l->a.dep<=eV l:=fun l=>by
     induction l with
     | nil=>intro h;simp at h
     | cons b r ih=>
      intro h;rw [Ga];rcases KL h with rfl | h
      ·exact Nat.le_max_left _ _
      ·exact Nat.le_trans (ih h) (Nat.le_max_right _ _)
    exact this _ ha
   omega
  have pa:=C8 s
  have c:aA .leaf 3 (bV (ag 1 aN (ab (ae 1) af))) aK (ag 2 (dN n) (ab (ae 0) (ab (ae 3) af))) (ah 4 [w.enc,s.enc])=.ok ⟨.lst .leaf,.list (s.args.map fun a=>aT (aV w a))⟩ (ah 4 [w.enc,s.enc]):=by
   refine mw Sn.enc s.args (fun a=>⟨.lst .leaf,aT (aV w a)⟩) (st:=true) ?_ (by simp [ah]) rfl (by have:=s.args_le;omega) fun a ha=>?_
   ·simp [ah,pa,aE]
   ·have:=jB ok n a (Sn.args_ok hs a ha) (da a ha)
    simp [ah,this]
  obtain ⟨p,e1,e2,e3⟩:=rQ ok (s:=s)
  have rb:=IC ok hs e3
  have em:(s.args.map fun a=>aT (aV w a))=(s.args.map (aV w)).map aT:=by rw [map_map];rfl
  rw [em] at c;show aC 4 (jI (dN n)) [w.enc,s.enc]=_
  refine aD ?_
  have s1:aB false 2 (aA .leaf 3 (bV (ag 1 aN (ab (ae 1) af))) aK (ag 2 (dN n) (ab (ae 0) (ab (ae 3) af)))) (ah 4 [w.enc,s.enc])=.nx [KZ w.enc,KZ s.enc,KZ (cZ (s.args.map (aV w))),none]:=by
   rw [iw,c];simp [ah]
  have s2:ag 3 bK (ab (ae 0) (ab (ae 1) (ab (ae 2) af))) [KZ w.enc,KZ s.enc,KZ (cZ (s.args.map (aV w))),none]=.ok p [KZ w.enc,KZ s.enc,KZ (cZ (s.args.map (aV w))),none]:=
   bY (ax (ay rfl) (ax (ay rfl) (ax (ay rfl) aj))) e1 rfl rfl
  have s3:ag 4 b7 (ab (ae 0) (ab (ae 1) (ab (ae 2) (ab (ag 3 bK (ab (ae 0) (ab (ae 1) (ab (ae 2) af)))) af)))) [KZ w.enc,KZ s.enc,KZ (cZ (s.args.map (aV w))),none]=.ok ⟨.lst .leaf,aT (aV w s)⟩ [KZ w.enc,KZ s.enc,KZ (cZ (s.args.map (aV w))),none]:=
   bY (ax (ay rfl) (ax (ay rfl) (ax (ay rfl) (ax s2 aj)))) rb rfl (by simp only [List.all_cons,Bc,e2,List.all_nil,Bool.and_self])
  unfold jI;rw [eE,s1];simp only
  rw [uF,s3];rfl
theorem Wd.Ok.check {w:Wd} (ok:w.Ok):cj [w.enc]=.ok ⟨.leaf,.none⟩:=sP (ok.g.wk (b:=24) ok.h24) (by omega) (ok.g.isW ok.h1 ok.h24)
theorem HS {w:Wd} (ok:w.Ok) {s:Sn} (hs:s.ok) (h1:s.size<=200) (h2:s.dep<=24):eQ [w.enc,s.enc]=.ok ⟨.lst .leaf,aT (aV w s)⟩:=by
 have c1:=ok.check
 have c2:=Ak hs h1 h2
 have c3:jq [w.enc,s.enc]=_:=jB ok 30 s hs (by omega)
 refine aD ?_
 simp [qQ,ah,c1,c2,c3]
end KC
namespace T
open PySem PySem.Spec L2
open PyProof.Rows hiding St
theorem kU {α:Type} (en:α->D) {i:Nat} {body:FS} {Inv:List α->Ev->Prop} (hb:∀a r Γ,Inv (a::r) Γ->i<Γ.length/\∃Γ',body (Γ.set i (KZ (en a)))=.nx Γ'/\Inv r Γ'):∀(xs:List α) (Γ:Ev),Inv xs Γ->∃Γ',cQ i body (xs.map en) Γ=.nx Γ'/\Inv [] Γ'
 | [],Γ,h=>⟨Γ,rfl,h⟩
 | a::r,Γ,h=>by
  obtain ⟨hi,Γ1,h1,h2⟩:=hb a r Γ h;obtain ⟨Γ2,e,h3⟩:=kU en hb r Γ1 h2;refine ⟨Γ2,?_,h3⟩
  rw [map_cons,cQ,if_pos hi,h1];exact e
theorem Hq {Γ:Ev} {i j:Nat} {fb:F1} {s:Sh} {k:Int} {ds:List D} {d:D} (ho:Γ[i]?=some (some ⟨.lst .leaf,.list ds⟩)) (hb:fb Γ=.ok ⟨s,.int k⟩ Γ) (hi:eT ds.length k=some j) (hd:ds[j]?=some d):d6 i fb Γ=.ok ⟨.leaf,d⟩ Γ:=by
 unfold d6 cI;rw [ho];simp only [if_true,hb,oE]
 unfold yo;rw [ho];simp only [hi,hd]
theorem DM {Γ Γ1 Γ2:Ev} {fa fb:F1} {s s':Sh} {xs ys:List D} (ha:fa Γ=.ok ⟨s,.list xs⟩ Γ1) (hb:fb Γ1=.ok ⟨s',.list ys⟩ Γ2) (h1:aE ⟨s,.list xs⟩ xs=true) (h2:aE ⟨s',.list ys⟩ ys=true) (hn:xs.length+ys.length<=10000):vB fa fb Γ=.ok ⟨.lst .leaf,.list (xs++ys)⟩ Γ2:=by
 have hb':(10000:Nat)<=sizeLine:=by decide
 have:xs.length+ys.length<=sizeLine:=Nat.le_trans hn hb'
 unfold vB ba;rw [ha];simp only [oE]
 rw [hb];simp only [oE,h1,h2,decide_eq_true this,Bool.and_self,if_true]
end T
namespace KC
open PySem PySem.Spec L2 T PySem.SeqAt
open PyProof.Rows hiding St
theorem DO {n:Nat} {os ms ss:List D} (g:Gw (n:Int) n os ms ss) (h1:1<=n) (h24:n<=24):∃w:Wd,w.Ok/\w.enc=rz os ms ss/\w.n=n:=by
 have hm:∀l:List D,(∀r∈l,∃xs,r=.list xs/\ky xs)->∃M:List (List Str),l=M.map wt/\∀r∈M,∀c∈r,PyData.strOk c=true:=by
  have one:∀xs:List D,ky xs->∃r:List Str,xs=r.map .str/\∀c∈r,PyData.strOk c=true:=by
   intro xs;induction xs with
   | nil=>intro _;exact ⟨[],rfl,by simp⟩
   | cons a r ih=>
    intro h;obtain ⟨x,rfl,hx⟩:=h a mem_cons_self;obtain ⟨t,rfl,ht⟩:=ih fun b hb=>h b (KO _ hb)
    exact ⟨x::t,rfl,fun c hc=>(KL hc).elim (fun e=>by rw [e];exact hx) (ht c)⟩
  intro l;induction l with
  | nil=>intro _;exact ⟨[],rfl,by simp⟩
  | cons a r ih=>
   intro h;obtain ⟨xs,rfl,hx⟩:=h a mem_cons_self;obtain ⟨x,rfl,hx2⟩:=one xs hx;obtain ⟨M,rfl,hM⟩:=ih fun b hb=>h b (KO _ hb)
   exact ⟨x::M,rfl,fun c hc=>(KL hc).elim (fun e=>by rw [e];exact hx2) (hM c)⟩
 have hs:∀l:List D,(∀r∈l,∃ts:List Int,r=.list (ts.map .int)/\ts.length<=30/\ts≠[]/\(∀t∈ts,0<=t/\t<(n:Int))/\ts.Pairwise (· < ·))->∃S:List (List Nat),l=S.map aT/\∀r∈S,r≠[]/\r.length<=30/\∀t∈r,t<n:=by
  have one:∀ts:List Int,(∀t∈ts,0<=t/\t<(n:Int))->∃r:List Nat,ts.map PyData.int=r.map rm/\r.length=ts.length/\∀t∈r,t<n:=by
   intro ts;induction ts with
   | nil=>intro _;exact ⟨[],rfl,rfl,by simp⟩
   | cons a r ih=>
    intro h;have ha:=h a mem_cons_self
    obtain ⟨t,e,el,ht⟩:=ih fun b hb=>h b (KO _ hb)
    refine ⟨a.toNat::t,?_,by simp [el],fun c hc=>(KL hc).elim (fun e=>by omega) (ht c)⟩
    rw [map_cons,map_cons,e];congr 2
    omega
  intro l;induction l with
  | nil=>intro _;exact ⟨[],rfl,by simp⟩
  | cons a r ih=>
   intro h;obtain ⟨ts,rfl,t1,t2,t3,_⟩:=h a mem_cons_self;obtain ⟨x,e,el,hx⟩:=one ts t3;obtain ⟨S,rfl,hS⟩:=ih fun b hb=>h b (KO _ hb)
   refine ⟨x::S,by rw [map_cons,e],fun c hc=>(KL hc).elim (fun e=>by
    subst e;exact ⟨fun z=>t2 (List.length_eq_zero_iff.mp (by rw [<-el,z];rfl)),by omega,hx⟩) (hS c)⟩
 obtain ⟨M,eM,hM⟩:=hm ms fun r hr=>let ⟨xs,a,b,_⟩:=g.m r hr;⟨xs,a,b⟩
 obtain ⟨S,eS,hS⟩:=hs ss g.s;subst eM eS;refine ⟨⟨n,os,M,S⟩,⟨g,h1,h24,?_,?_,hS,hM⟩,rfl,rfl⟩
 ·have:=g.lm;simpa using this
 ·have:=g.ls;simpa using this
noncomputable def knd:List Wr:=[.mark,.mark,.not,.and,.su,.au,.sn,.an,.sa,.aa,.or,.yes]
noncomputable abbrev EL:D:=.list (knd.map fun a=>.str a.t)
theorem BX {i:Int} (h0:0<=i) (h1:i<12):∃a:Wr,fE (knd.map fun a=>PyData.str a.t) i=some (.str a.t):=by
 have hl:i.toNat<knd.length:=by show i.toNat<12;omega
 obtain ⟨j,hj⟩:∃j:Nat,i=(j:Int):=⟨i.toNat,by omega⟩
 subst hj;rw [Int.toNat_natCast] at hl;refine ⟨knd[j],CZ ?_⟩
 rw [getElem?_map,KM hl];rfl
@[simp] theorem Cc (a:Wr):bQ false (.str a.t) (.tuple [.str "and",.str "or",.str "some until",.str "all until"])=some (.bool (decide (a=.and\/a=.or\/a=.su\/a=.au))):=by cases a<;>kernel_rfl
theorem oC {k:Int} (h0:0<=k) (h1:k<3):∃c:Nat,fE (Str.ofString "abc").cps.toList k=some c/\(⟨#[c]⟩:Str)∈letters:=by
 rw [qT];have:k=0\/k=1\/k=2:=by omega
 rcases this with rfl | rfl | rfl
 ·exact ⟨97,rfl,by decide +kernel⟩
 ·exact ⟨98,rfl,by decide +kernel⟩
 ·exact ⟨99,rfl,by decide +kernel⟩
theorem Hu {n:Nat} {k:Int} (h0:-(n:Int)<=k) (h1:k<n):∃j,j<n/\eT n k=some j:=by
 unfold eT;by_cases h:0<=k
 ·exact ⟨k.toNat,by omega,by rw [if_pos h,if_pos h1]⟩
 ·exact ⟨(k+n).toNat,by omega,by rw [if_neg h,if_pos h0]⟩
noncomputable abbrev GS (xs:List D) (at' many:Int) (made:List Sn) (x5 x6 x7 x8 x9:Option PV):Ev:=[KZ (.list xs),KZ (.int at'),KZ (.int many),KZ EL,some ⟨.lst .leaf,dy made⟩,x5,x6,x7,x8,x9]
structure Mad (made:List Sn):Prop where
 ne:0<made.length
 ok:∀s∈made,s.ok
 dp:∀s∈made,s.dep<=made.length
theorem Mad.snoc {made:List Sn} (h:Mad made) {s:Sn} (hs:s.ok) (hd:s.dep<=made.length+1):Mad (made++[s]):=by
 refine ⟨by simp,fun t ht=>?_,fun t ht=>?_⟩
 ·rcases KJ ht with z | z
  ·exact h.ok t z
  ·rw [List.mem_singleton.mp z];exact hs
 ·rw [length_append,length_singleton]
  rcases KJ ht with z | z
  ·have:=h.dp t z;omega
  ·rw [List.mem_singleton.mp z];exact hd
theorem Mad.at {made:List Sn} {j:Nat} (hj:j<made.length):∃s∈made,(made.map Sn.enc)[j]?=some s.enc:=⟨made[j],getElem_mem _,by rw [getElem?_map,KM hj];rfl⟩
theorem rD {xs:List D} (hx:g0 xs) {at' many:Int} (ha:0<=at') {made:List Sn} (hM:Mad made) (hl:made.length<=100) {k:Nat} {x6 x7 x8 x9:Option PV} :
  ∃s y6 y7 y8 y9,(aq (aB false 6 (ag 2 aP (ab (ae 0) (ab (az bo (ae 1) (ae 5)) af))))
  (aq (aB false 7 (ao (ae 3) (ag 3 aw (ab (ae 6) (ab (eK (.int 0)) (ab (eK (.int 12)) af))))))
  (aq (aB false 8 (d6 4 (az gSub (eU nN (eK (.int 1))) (az dH (ag 3 aw (ab (ae 6) (ab (eK (.int 1)) (ab (eK (.int 2)) af)))) (bJ bg (ab (ae 4) af))))))
  (aq (aB false 9 (d6 4 (az dH (ag 3 aw (ab (ae 6) (ab (eK (.int 2)) (ab (eK (.int 60)) af)))) (bJ bg (ab (ae 4) af)))))
  (bW (aL ai (az bj (ae 7) (eK (.str "yes")))) (aG 4 (bq (ab (eK (.str "yes")) af))) (bW (aL ai (az bj (ae 7) (eK (.str "mark")))) (aG 4 (bq (ab (eK (.str "mark")) (ab (ao (eK (.str "abc")) (ag 3 aw (ab (ae 6) (ab (eK (.int 3)) (ab (eK (.int 3)) af))))) af)))) (bW (aL ai (az (bQ false) (ae 7) (bq (ab (eK (.str "and")) (ab (eK (.str "or")) (ab (eK (.str "some until")) (ab (eK (.str "all until")) af))))))) (aG 4 (bq (ab (ae 7) (ab (ae 9) (ab (ae 8) af))))) (aG 4 (bq (ab (ae 7) (ab (ae 8) af)))))))))))
   (GS xs at' many made (KZ (.int (1+(k:Int)))) x6 x7 x8 x9)=.nx (GS xs at' many (made++[s]) (KZ (.int (1+(k:Int)))) y6 y7 y8 y9)/\Mad (made++[s]):=by
 obtain ⟨c,hc⟩:=Dy hx (k:=at'+(1+(k:Int))) (by omega)
 have d0:=zX (c:=c) (k:=0) (b:=12) (by omega) (by omega) (by omega) (by omega)
 have d1:=zX (c:=c) (k:=1) (b:=2) (by omega) (by omega) (by omega) (by omega)
 have d2:=zX (c:=c) (k:=2) (b:=60) (by omega) (by omega) (by omega) (by omega)
 have d3:=zX (c:=c) (k:=3) (b:=3) (by omega) (by omega) (by omega) (by omega)
 have e0:=wG (c:=c) (k:=0) (b:=12) (by omega) (by omega) (by omega) (by omega)
 have e1:=wG (c:=c) (k:=1) (b:=2) (by omega) (by omega) (by omega) (by omega)
 have e2:=wG (c:=c) (k:=2) (b:=60) (by omega) (by omega) (by omega) (by omega)
 have e3:=wG (c:=c) (k:=3) (b:=3) (by omega) (by omega) (by omega) (by omega)
 obtain ⟨a,ka⟩:=BX d0.1 d0.2;have hn:=hM.ne
 have m1:0<=hJ c 1 2 % (made.length:Int):=Int.emod_nonneg _ (by omega)
 have m2:hJ c 1 2 % (made.length:Int)<made.length:=Int.emod_lt_of_pos _ (by omega)
 have m3:0<=hJ c 2 60 % (made.length:Int):=Int.emod_nonneg _ (by omega)
 have m4:hJ c 2 60 % (made.length:Int)<made.length:=Int.emod_lt_of_pos _ (by omega)
 obtain ⟨j1,l1,ix1⟩:=Hu (n:=made.length) (k:=-1-hJ c 1 2 % (made.length:Int)) (by omega) (by omega)
 obtain ⟨j2,l2,ix2⟩:=Hu (n:=made.length) (k:=hJ c 2 60 % (made.length:Int)) (by omega) (by omega)
 obtain ⟨one,ho,eo⟩:=Mad.at l1;obtain ⟨oth,ht,et⟩:=Mad.at l2;obtain ⟨mc,em,hmc⟩:=oC d3.1 d3.2;have ho1:=hM.ok one ho
 have ho2:=hM.dp one ho
 have ht1:=hM.ok oth ht
 have ht2:=hM.dp oth ht
 have s1:∀x5 x6 x7 x8 x9:Option PV,x5=some ⟨.leaf,.int (1+(k:Int))⟩->aB false 6 (ag 2 aP (ab (ae 0) (ab (az bo (ae 1) (ae 5)) af))) (GS xs at' many made x5 x6 x7 x8 x9)=.nx (GS xs at' many made x5 (KZ (.int c)) x7 x8 x9):=fun x5 x6 x7 x8 x9 h5=>by
  subst h5;simp [hc]
 have s2:∀x5 x7 x8 x9:Option PV,aB false 7 (ao (ae 3) (ag 3 aw (ab (ae 6) (ab (eK (.int 0)) (ab (eK (.int 12)) af))))) (GS xs at' many made x5 (KZ (.int c)) x7 x8 x9)=.nx (GS xs at' many made x5 (KZ (.int c)) (KZ (.str a.t)) x8 x9):=fun x5 x7 x8 x9=>by
  simp [e0,ka]
 have s3:∀x5 x7 x8 x9:Option PV,aB false 8 (d6 4 (az gSub (eU nN (eK (.int 1))) (az dH (ag 3 aw (ab (ae 6) (ab (eK (.int 1)) (ab (eK (.int 2)) af)))) (bJ bg (ab (ae 4) af))))) (GS xs at' many made x5 (KZ (.int c)) x7 x8 x9)=.nx (GS xs at' many made x5 (KZ (.int c)) x7 (KZ one.enc) x9):=fun x5 x7 x8 x9=>by
  have:=Hq (i:=4) (j:=j1) (Γ:=GS xs at' many made x5 (KZ (.int c)) x7 x8 x9) (ds:=made.map Sn.enc) (d:=one.enc) (s:=.leaf) (k:=-1-hJ c 1 2 % (made.length:Int)) (fb:=(az gSub (eU nN (eK (.int 1))) (az dH (ag 3 aw (ab (ae 6) (ab (eK (.int 1)) (ab (eK (.int 2)) af)))) (bJ bg (ab (ae 4) af))))) rfl
   (aI (JM aS rfl) (aI (bY (ax (ay rfl) (ax aS (ax aS aj))) e1 rfl rfl) (cO (ax (zq rfl) aj) rfl) (by show dH (.int _) (.int _)=_;rw [length_map,fX (by omega)])) rfl) (by rw [length_map];exact ix1) eo
  rw [iw,this];simp
 have s4:∀x5 x7 x8 x9:Option PV,aB false 9 (d6 4 (az dH (ag 3 aw (ab (ae 6) (ab (eK (.int 2)) (ab (eK (.int 60)) af)))) (bJ bg (ab (ae 4) af)))) (GS xs at' many made x5 (KZ (.int c)) x7 x8 x9)=.nx (GS xs at' many made x5 (KZ (.int c)) x7 x8 (KZ oth.enc)):=fun x5 x7 x8 x9=>by
  have:=Hq (i:=4) (j:=j2) (Γ:=GS xs at' many made x5 (KZ (.int c)) x7 x8 x9) (ds:=made.map Sn.enc) (d:=oth.enc) (s:=.leaf) (k:=hJ c 2 60 % (made.length:Int)) (fb:=(az dH (ag 3 aw (ab (ae 6) (ab (eK (.int 2)) (ab (eK (.int 60)) af)))) (bJ bg (ab (ae 4) af)))) rfl
   (aI (bY (ax (ay rfl) (ax aS (ax aS aj))) e2 rfl rfl) (cO (ax (zq rfl) aj) rfl) (by show dH (.int _) (.int _)=_;rw [length_map,fX (by omega)])) (by rw [length_map];exact ix2) et
  rw [iw,this];simp
 have ap:∀{f:F1} {s:Sn} {sh:Sh} {x5:Option PV},f (GS xs at' many made x5 (KZ (.int c)) (KZ (.str a.t)) (KZ one.enc) (KZ oth.enc))=.ok ⟨sh,s.enc⟩ (GS xs at' many made x5 (KZ (.int c)) (KZ (.str a.t)) (KZ one.enc) (KZ oth.enc))->coer .leaf ⟨sh,s.enc⟩=true ->
   aG 4 f (GS xs at' many made x5 (KZ (.int c)) (KZ (.str a.t)) (KZ one.enc) (KZ oth.enc))=.nx (GS xs at' many (made++[s]) x5 (KZ (.int c)) (KZ (.str a.t)) (KZ one.enc) (KZ oth.enc)):=fun {f s sh x5} h hco=>by
  rw [FG (ds:=made.map Sn.enc) rfl h hco (by rw [length_map];omega)]
  simp [dy]
 have fin:∀{s:Sn},s.ok->s.dep<=made.length+1->(bW (aL ai (az bj (ae 7) (eK (.str "yes")))) (aG 4 (bq (ab (eK (.str "yes")) af))) (bW (aL ai (az bj (ae 7) (eK (.str "mark")))) (aG 4 (bq (ab (eK (.str "mark")) (ab (ao (eK (.str "abc")) (ag 3 aw (ab (ae 6) (ab (eK (.int 3)) (ab (eK (.int 3)) af))))) af)))) (bW (aL ai (az (bQ false) (ae 7) (bq (ab (eK (.str "and")) (ab (eK (.str "or")) (ab (eK (.str "some until")) (ab (eK (.str "all until")) af))))))) (aG 4 (bq (ab (ae 7) (ab (ae 9) (ab (ae 8) af))))) (aG 4 (bq (ab (ae 7) (ab (ae 8) af)))))))
   (GS xs at' many made (KZ (.int (1+(k:Int)))) (KZ (.int c)) (KZ (.str a.t)) (KZ one.enc) (KZ oth.enc))=.nx (GS xs at' many (made++[s]) (KZ (.int (1+(k:Int)))) (KZ (.int c)) (KZ (.str a.t)) (KZ one.enc) (KZ oth.enc)) ->
   ∃s y6 y7 y8 y9,(aq (aB false 6 (ag 2 aP (ab (ae 0) (ab (az bo (ae 1) (ae 5)) af))))
  (aq (aB false 7 (ao (ae 3) (ag 3 aw (ab (ae 6) (ab (eK (.int 0)) (ab (eK (.int 12)) af))))))
  (aq (aB false 8 (d6 4 (az gSub (eU nN (eK (.int 1))) (az dH (ag 3 aw (ab (ae 6) (ab (eK (.int 1)) (ab (eK (.int 2)) af)))) (bJ bg (ab (ae 4) af))))))
  (aq (aB false 9 (d6 4 (az dH (ag 3 aw (ab (ae 6) (ab (eK (.int 2)) (ab (eK (.int 60)) af)))) (bJ bg (ab (ae 4) af)))))
  (bW (aL ai (az bj (ae 7) (eK (.str "yes")))) (aG 4 (bq (ab (eK (.str "yes")) af))) (bW (aL ai (az bj (ae 7) (eK (.str "mark")))) (aG 4 (bq (ab (eK (.str "mark")) (ab (ao (eK (.str "abc")) (ag 3 aw (ab (ae 6) (ab (eK (.int 3)) (ab (eK (.int 3)) af))))) af)))) (bW (aL ai (az (bQ false) (ae 7) (bq (ab (eK (.str "and")) (ab (eK (.str "or")) (ab (eK (.str "some until")) (ab (eK (.str "all until")) af))))))) (aG 4 (bq (ab (ae 7) (ab (ae 9) (ab (ae 8) af))))) (aG 4 (bq (ab (ae 7) (ab (ae 8) af)))))))))))
   (GS xs at' many made (KZ (.int (1+(k:Int)))) x6 x7 x8 x9)=.nx (GS xs at' many (made++[s]) (KZ (.int (1+(k:Int)))) y6 y7 y8 y9)/\Mad (made++[s]):=fun {s} h1 h2 h3=>
  ⟨s,_,_,_,_,av (s1 _ _ _ _ _ rfl) (av (s2 _ _ _ _) (av (s3 _ _ _ _) (av (s4 _ _ _ _) h3))),hM.snoc h1 h2⟩
 have tw:∀{b:Wr},a=b->(GS xs at' many made (KZ (.int (1+(k:Int)))) (KZ (.int c)) (KZ (.str a.t)) (KZ one.enc) (KZ oth.enc))[7]?=some (KZ (.str b.t)):=fun h=>by rw [<-h];rfl
 have ty:∀{t:Bool},decide (a=.yes)=t->aL ai (az bj (ae 7) (eK (.str "yes"))) (GS xs at' many made (KZ (.int (1+(k:Int)))) (KZ (.int c)) (KZ (.str a.t)) (KZ one.enc) (KZ oth.enc))=.ok t (GS xs at' many made (KZ (.int (1+(k:Int)))) (KZ (.int c)) (KZ (.str a.t)) (KZ one.enc) (KZ oth.enc)):=fun h=>by
  rw [<-h];exact dA (aI (ay rfl) aS (qX a))
 have tm:∀{t:Bool},decide (a=.mark)=t->aL ai (az bj (ae 7) (eK (.str "mark"))) (GS xs at' many made (KZ (.int (1+(k:Int)))) (KZ (.int c)) (KZ (.str a.t)) (KZ one.enc) (KZ oth.enc))=.ok t (GS xs at' many made (KZ (.int (1+(k:Int)))) (KZ (.int c)) (KZ (.str a.t)) (KZ one.enc) (KZ oth.enc)):=fun h=>by
  rw [<-h];exact dA (aI (ay rfl) aS (pZ a))
 have tb:∀{t:Bool},decide (a=.and\/a=.or\/a=.su\/a=.au)=t->aL ai (az (bQ false) (ae 7) (bq (ab (eK (.str "and")) (ab (eK (.str "or")) (ab (eK (.str "some until")) (ab (eK (.str "all until")) af)))))) (GS xs at' many made (KZ (.int (1+(k:Int)))) (KZ (.int c)) (KZ (.str a.t)) (KZ one.enc) (KZ oth.enc))=.ok t (GS xs at' many made (KZ (.int (1+(k:Int)))) (KZ (.int c)) (KZ (.str a.t)) (KZ one.enc) (KZ oth.enc)):=fun h=>by
  rw [<-h];exact dA (aI (ay rfl) (bD (ax aS (ax aS (ax aS (ax aS aj)))) rfl rfl) (Cc a))
 have uni:∀u:U5,a=u.w->_:=fun u hu=>fin (s:=.un u one) ho1 (by show one.dep+1<=_;omega)
  (bu (ty (t:=false) (by rw [hu];cases u<;>rfl)) nofun fun _=>bu (tm (t:=false) (by rw [hu];cases u<;>rfl)) nofun fun _=>bu (tb (t:=false) (by rw [hu];cases u<;>rfl)) nofun fun _=>
   ap (sh:=.tup [.leaf,.leaf]) (by rw [show (Sn.un u one).enc=.tuple [.str u.w.t,one.enc] from rfl,<-hu];exact bD (ax (ay rfl) (ax (ay rfl) aj)) rfl rfl) rfl)
 have bin:∀u:B4,a=u.w->_:=fun u hu=>fin (s:=.bi u oth one) ⟨ht1,ho1⟩ (by show max oth.dep one.dep+1<=_;omega)
  (bu (ty (t:=false) (by rw [hu];cases u<;>rfl)) nofun fun _=>bu (tm (t:=false) (by rw [hu];cases u<;>rfl)) nofun fun _=>bu (tb (t:=true) (by rw [hu];cases u<;>rfl)) (fun _=>
   ap (sh:=.tup [.leaf,.leaf,.leaf]) (by rw [show (Sn.bi u oth one).enc=.tuple [.str u.w.t,oth.enc,one.enc] from rfl,<-hu];exact bD (ax (ay rfl) (ax (ay rfl) (ax (ay rfl) aj))) rfl rfl) rfl) nofun)
 have hyes:a=.yes->_:=fun hu=>fin (s:=.yes) trivial (by show 1<=_;omega) (bu (ty (t:=true) (by rw [hu];rfl)) (fun _=>ap (s:=.yes) (sh:=.tup [.leaf]) (bD (ax aS aj) rfl rfl) rfl) nofun)
 have hmark:a=.mark->_:=fun hu=>fin (s:=.mk ⟨#[mc]⟩) hmc (by show 1<=_;omega) (bu (ty (t:=false) (by rw [hu];rfl)) nofun fun _=>bu (tm (t:=true) (by rw [hu];rfl)) (fun _=>
  ap (s:=.mk ⟨#[mc]⟩) (sh:=.tup [.leaf,.leaf]) (bD (ax aS (ax (FZ aS (bY (ax (ay rfl) (ax aS (ax aS aj))) e3 rfl rfl) HK em) aj)) rfl rfl) rfl) nofun)
 cases ea:a with
 | yes=>exact hyes ea
 | mark=>exact hmark ea
 | not=>exact uni .not ea
 | sn=>exact uni .sn ea
 | an=>exact uni .an ea
 | sa=>exact uni .sa ea
 | aa=>exact uni .aa ea
 | and=>exact bin .and ea
 | or=>exact bin .or ea
 | su=>exact bin .su ea
 | au=>exact bin .au ea
theorem ma {xs:List D} (hx:g0 xs) {at' many:Int} (ha:0<=at') (h1:1<=many) (h2:many<=20):∃s:Sn,cG [.list xs,.int at',.int many]=.ok ⟨.leaf,s.enc⟩/\s.ok/\(s.dep:Int)<=many:=by
 obtain ⟨c,hc⟩:=Dy hx (k:=at') ha
 have d3:=zX (c:=c) (k:=3) (b:=3) (by omega) (by omega) (by omega) (by omega)
 have e3:=wG (c:=c) (k:=3) (b:=3) (by omega) (by omega) (by omega) (by omega)
 obtain ⟨mc,em,hmc⟩:=oC d3.1 d3.2;obtain ⟨Γ',e,made,x5,x6,x7,x8,x9,rfl,hM,hl⟩:=kU (fun k:Nat=>PyData.int (1+(k:Int))) (i:=5) (body:=_) (Inv:=fun r Γ=>∃made x5 x6 x7 x8 x9,Γ=GS xs at' many made x5 x6 x7 x8 x9/\Mad made/\made.length+r.length=1+(many-1).toNat) (fun k r Γ ⟨made,x5,x6,x7,x8,x9,hΓ,hM,hl⟩=>by
   subst hΓ;simp only [length_cons] at hl
   obtain ⟨s,y6,y7,y8,y9,e,hM'⟩:=rD hx (many:=many) ha hM (by omega) (k:=k) (x6:=x6) (x7:=x7) (x8:=x8) (x9:=x9)
   exact ⟨by simp,_,e,made++[s],_,_,_,_,_,rfl,hM',by rw [length_append,length_singleton];omega⟩) (List.range (many-1).toNat) (GS xs at' many [.mk ⟨#[mc]⟩] none none none none none) ⟨_,_,_,_,_,_,rfl,⟨by simp,by simpa [Sn.ok] using hmc,by simp [Sn.dep]⟩,by simp⟩
 have hn:=hM.ne
 obtain ⟨j,lj,ixj⟩:=Hu (n:=made.length) (k:=-1) (by omega) (by omega)
 obtain ⟨s,hs,es⟩:=Mad.at lj;refine ⟨s,?_,hM.ok s hs,?_⟩
 ·have k0:EL=.list ([.str "mark",.str "mark",.str "not",.str "and",.str "some until",.str "all until",.str "some next",.str "all next",.str "some always"]++[.str "all always",.str "or",.str "yes"]):=rfl
  refine aD (av (dU (zb (s:=.leaf) (ax aS (ax aS (ax aS (ax aS (ax aS (ax aS (ax aS (ax aS (ax aS aj))))))))) rfl rfl rfl) rfl (by simp [ah])) (av (dU (DM (ay rfl) (zb (s:=.leaf) (ax aS (ax aS (ax aS aj))) rfl rfl rfl) rfl rfl (by simp)) rfl (by simp [ah]))
   (av (Dq (zb (s:=.leaf) (ax (bD (ax aS (ax (FZ aS (bY (ax (bY (ax (ay rfl) (ax (ay rfl) aj)) hc rfl rfl) (ax aS (ax aS aj))) e3 rfl rfl) HK em) aj)) rfl rfl) aj) rfl rfl rfl) rfl (by simp [ah]))
   (av (fV (DI (ax aS (ax (ay rfl) aj)) rfl (by omega) (by omega) (by omega) (by omega)) e)
   (aH (Hq (s:=.leaf) (k:=-1) (j:=j) (ds:=made.map Sn.enc) rfl (JM aS rfl) (by rw [length_map];exact ixj) es) rfl)))))
 ·have:=hM.dp s hs
  simp only [length_nil] at hl
  omega
theorem An {Γ:Ev} {fl:FL} {ps:List PV} (hl:fl Γ=.ok ps Γ) (hc:ps.all tok=true:=by rfl) (hn:decide (ps.length<=1000)=true:=by rfl):bV (bq fl) Γ=.ok ⟨ps.map (·.d),true⟩ Γ:=by
 rw [A9,bD hl hc hn];rfl
theorem pH (l:List Int):fK (l.map .int)=some l:=by
 induction l with
 | nil=>rfl
 | cons a r ih=>rw [map_cons,fK,ih];rfl
theorem Kx (s:Sn):kj (tp s.enc) "tuple"=true:=by cases s<;>rfl
theorem Ac {s a:Sn} (h:a∈s.args):a.dep+1<=s.dep:=by
 cases s with
 | yes=>simp [Sn.args] at h
 | mk c=>simp [Sn.args] at h
 | un k b=>simp [Sn.args] at h;subst h;simp [Sn.dep]
 | bi k b c=>
  simp [Sn.args] at h
  simp only [Sn.dep]
  rcases h with rfl | rfl<;>omega
theorem kZ:∀(n:Nat) (s:Sn),s.dep<=n->bz n [s.enc]=.ok ⟨.leaf,.int (s.size:Int)⟩
 | 0,s,h=>by
  have:=s.dep_args
  omega
 | n+1,s,h=>by
  show aC 2 (dJ (bz n)) [s.enc]=_
  refine aD ?_
  have fin:∀l:List Int,aA .leaf 1 (bV (ik (ae 0) (eK (.int 1)))) (aL bX (lZ "tuple" (ae 1))) (ag 1 (bz n) (ab (ae 1) af)) (ah 2 [s.enc])=.ok ⟨.lst .leaf,.list (l.map .int)⟩ (ah 2 [s.enc])->1+l.sum=(s.size:Int)->dJ (bz n) (ah 2 [s.enc])=.rt ⟨.leaf,.int (s.size:Int)⟩:=fun l e hl=>by
   refine aH (aI aS (cO (ax e aj) (by show sF [.list _]=_;simp only [sF,pH];rfl)) ?_) rfl
   show bo (.int 1) (.int l.sum)=_
   rw [oG,hl]
  have gen:(∃x,s.enc=.tuple (x::s.args.map Sn.enc))->dJ (bz n) (ah 2 [s.enc])=.rt ⟨.leaf,.int (s.size:Int)⟩:=fun ⟨x,ex⟩=>by
   refine fin (s.args.map fun a=>(a.size:Int)) ?_ ?_
   ·have z:(1:Int)<=(s.args.length:Int)+1:=by omega
    have:=zh Sn.enc s.args (fun _=>true) (fun a=>⟨.leaf,.int (a.size:Int)⟩) (s:=.leaf) (i:=1) (fi:=bV (ik (ae 0) (eK (.int 1)))) (fc:=aL bX (lZ "tuple" (ae 1))) (fe:=ag 1 (bz n) (ab (ae 1) af)) (st:=true) (Γ:=ah 2 [s.enc]) (by simp [ah,ex,z]) (by simp [ah]) rfl (by have:=s.args_le;omega) (fun a ha=>by simp [ah,Kx]) (fun a ha _=>by
     have:=kZ n a (by have:=Ac ha;omega)
     simp [ah,this])
    rw [this,List.filter_eq_self.mpr fun _ _=>rfl,map_map]
    rfl
   ·have:=s.args_sz
    have e2:(s.args.map fun a=>(a.size:Int)).sum=((hE s.args:Nat):Int):=by
     unfold hE;generalize s.args=l
     induction l with
     | nil=>rfl
     | cons a r ih=>simp only [map_cons,sum_cons,ih];omega
    rw [e2];omega
  cases s with
  | yes=>exact gen ⟨_,rfl⟩
  | un k a=>exact gen ⟨_,rfl⟩
  | bi k a b=>exact gen ⟨_,rfl⟩
  | mk c=>
   refine fin [] ?_ (by simp [Sn.size])
   have:=zh (fun x:Str=>PyData.str x) [c] (fun _=>false) (fun _=>⟨.leaf,.none⟩) (s:=.leaf) (i:=1) (fi:=bV (ik (ae 0) (eK (.int 1)))) (fc:=aL bX (lZ "tuple" (ae 1))) (fe:=ag 1 (bz n) (ab (ae 1) af)) (st:=true) (Γ:=ah 2 [(Sn.mk c).enc]) (by simp [ah,Sn.enc]) (by simp [ah]) rfl (by simp) (fun a ha=>by simp [ah,kj,tp]) (fun a ha z=>by cases z)
   simpa using this
end KC
namespace KC
open PySem PySem.Spec L2 T
open PyProof.Rows hiding St
noncomputable def eY:FS:=(aF (fU (az (dm true) (ae 0) (eK .none)) (fU (az (dm true) (ae 1) (eK .none)) (az kT (ae 0) (ae 1)))))
noncomputable def dO:List KY->bS:=aC 2 eY
open PySem.SeqAt
noncomputable def ie:Option Nat->Option Nat->Bool
 | some a,some b=>decide (a<b)
 | _,_=>false
theorem sN {a b:Option Nat}:dO [oD a,oD b]=.ok ⟨.leaf,.bool (ie a b)⟩:=by
 refine aD ?_
 cases a with
 | none=>simp [eY,ah,oD,ie,cp]
 | some a=>
  cases b with
  | none=>simp [eY,ah,oD,ie,cp]
  | some b=>simp [eY,ah,oD,ie,cp]
end KC
namespace T
open PySem PySem.Spec L2
open PyProof.Rows hiding St
theorem boot_zip:bootBuiltins "zip"=some (.type "zip"):=by decide +kernel
noncomputable def df (i j:Nat) (fc:FB) (fe:F1) (s:Sh):List (KY×KY)->Ev->List KY->Out (List KY)
 | [],Γ,acc=>.ok acc Γ
 | (d,d2)::r,Γ,acc=>match fc ((Γ.set i (KZ d)).set j (KZ d2)) with
  | .ok true Γ1=>(match fe Γ1 with
   | .ok p Γ2=>if T.coer s p&&decide (acc.length<sizeLine) then df i j fc fe s r ((Γ2.set i none).set j none) (acc++[p.d]) else .no
   | _=>.no)
  | .ok false Γ1=>if acc.length<sizeLine then df i j fc fe s r ((Γ1.set i none).set j none) acc else .no
  | _=>.no
end T
namespace KC
open PySem PySem.Spec L2 T PySem.SeqAt
open PyProof.Rows hiding St
theorem v_or {Γ:Ev} {fa fb:F1} {s:Sh} {a b:Bool} (ha:fa Γ=.ok ⟨s,.bool a⟩ Γ) (hb:fb Γ=.ok ⟨.leaf,.bool b⟩ Γ):vA fa fb Γ=.ok ⟨.leaf,.bool (a||b)⟩ Γ:=by
 unfold vA ba;rw [ha]
 cases a with
 | true=>cases s<;>rfl
 | false=>exact hb
theorem qk {r:List Nat}:shaped (aT r)=true:=Dx fun a ha=>by
 obtain ⟨t,_,e⟩:=List.mem_map.mp ha;exact ⟨(t:Int),e.symm⟩
noncomputable abbrev Jy (w:Wd) (p:Nat->Bool):List Nat:=(List.range w.n).filter p
theorem kX {w:Wd} {p q:Nat->Bool} (h:∀r,r<w.n->p r=q r):Jy w p=Jy w q:=List.filter_congr fun r hr=>h r (List.mem_range.mp hr)
@[simp] theorem Km (a:Wr):bj (.str a.t) (.str "some next")=some (.bool (decide (a=.sn))):=fu a .sn
@[simp] theorem nT (a:Wr):bj (.str a.t) (.str "all next")=some (.bool (decide (a=.an))):=fu a .an
@[simp] theorem Kn (a:Wr):bj (.str a.t) (.str "some always")=some (.bool (decide (a=.sa))):=fu a .sa
@[simp] theorem qM (a:Wr):bj (.str a.t) (.str "all always")=some (.bool (decide (a=.aa))):=fu a .aa
@[simp] theorem Kl (a:Wr):bj (.str a.t) (.str "some until")=some (.bool (decide (a=.su))):=fu a .su
@[simp] theorem vz (a:Wr):bj (.str a.t) (.str "all until")=some (.bool (decide (a=.au))):=fu a .au
theorem tM {sh:Sh} {d:D} (h:sh.isView=false):coer .leaf ⟨sh,d⟩=true:=by
 unfold coer;simp [h]
theorem xl {w:Wd} {a:Sn}:Jy w (fun t=>!(aV w a).contains t)=aV w (.un .not a):=by
 refine kX fun r hr=>?_
 rw [wH hr];exact qY (by rw [Bool.not_eq_true',<-Bool.not_eq_true,satB_iff];rfl)
theorem Hl {r:List Nat}:shaped (aT r)=true:=by
 have:g0 (r.map rm):=fun a ha=>by
  obtain ⟨t,_,e⟩:=List.mem_map.mp ha;exact ⟨(t:Int),e.symm⟩
 exact Dx this
theorem F6 (a b:Wr):PyData.eqv (.str a.t) (.str b.t)=decide (a=b):=by
 have h:=fu a b
 unfold bj at h;rw [FX (kA a),FX (kA b)] at h;simpa using h
theorem Ap {k k':U5}:k.w=k'.w↔k=k':=by cases k<;>cases k'<;>simp [U5.w]
theorem CN {k k':B4}:k.w=k'.w↔k=k':=by cases k<;>cases k'<;>simp [B4.w]
theorem FU {xs ys:List D}:PyData.eqv (.tuple xs) (.tuple ys)=PyData.eqvAll xs ys:=by rw [PyData.eqv]
theorem FJ {x y:D} {xs ys:List D}:PyData.eqvAll (x::xs) (y::ys)=(PyData.eqv x y&&PyData.eqvAll xs ys):=by rw [PyData.eqvAll]
theorem FM:PyData.eqvAll [] []=true:=by rw [PyData.eqvAll]
theorem FK {y:D} {ys:List D}:PyData.eqvAll [] (y::ys)=false:=by rw [PyData.eqvAll]
theorem Hd {y:D} {ys:List D}:PyData.eqvAll (y::ys) []=false:=by rw [PyData.eqvAll]
theorem Cv {x y:Str}:PyData.eqv (.str x) (.str y)=(x==y):=by rw [PyData.eqv]
theorem Hf {x:Str} {s:Sn}:PyData.eqv (.str x) s.enc=false/\PyData.eqv s.enc (.str x)=false:=by
 cases s<;>exact ⟨by rw [Sn.enc,PyData.eqv],by rw [Sn.enc,PyData.eqv]⟩
theorem u4 {k:U5}:(Wr.mark=k.w)=False/\(k.w=Wr.mark)=False:=by cases k<;>simp [U5.w]
theorem yD (s:Sn):∀t:Sn,PyData.eqv s.enc t.enc=true↔s=t:=by
 induction s with
 | yes=>intro t;cases t<;>simp only [Sn.enc,FU,FJ,FM,FK,F6]<;>simp
 | mk c=>intro t;cases t<;>simp only [Sn.enc,FU,FJ,FM,FK,Hd,F6,Cv,Hf,u4]<;>simp
 | un k a ih=>intro t;cases t<;>simp only [Sn.enc,FU,FJ,FM,FK,Hd,F6,Hf,u4,Bool.and_eq_true,ih,decide_eq_true_eq,Ap,Sn.un.injEq]<;>simp
 | bi k a b ia ib=>intro t;cases t<;>simp only [Sn.enc,FU,FJ,FM,FK,Hd,F6,Hf,Bool.and_eq_true,ia,ib,decide_eq_true_eq,CN,Sn.bi.injEq]<;>simp
theorem yC {s:Sn} (h:s.ok):PyData.canLay0 s.enc=true/\PyData.depth s.enc=s.dep:=by
 induction s with
 | yes=>exact ⟨by simp [Sn.enc,PyData.canLay0,PyData.canLayAll0,kA],by simp [Sn.enc,PyData.depth,PyData.depthAll,Sn.dep]⟩
 | mk c=>exact ⟨by simp [Sn.enc,PyData.canLay0,PyData.canLayAll0,kA,(FP h).1],by simp [Sn.enc,PyData.depth,PyData.depthAll,Sn.dep]⟩
 | un k a ih=>obtain ⟨h1,h2⟩:=ih h;exact ⟨by simp [Sn.enc,PyData.canLay0,PyData.canLayAll0,kA,h1],by simp [Sn.enc,PyData.depth,PyData.depthAll,Sn.dep,h2]⟩
 | bi k a b ia ib=>obtain ⟨h1,h2⟩:=ia h.1;obtain ⟨h3,h4⟩:=ib h.2;exact ⟨by simp [Sn.enc,PyData.canLay0,PyData.canLayAll0,kA,h1,h3],by simp [Sn.enc,PyData.depth,PyData.depthAll,Sn.dep,h2,h4]⟩
theorem Hb {s:Sn} (h:s.ok) (hd:s.dep<=60):shaped s.enc=true:=by
 obtain ⟨h1,h2⟩:=yC h;unfold shaped;rw [h1,h2];simp
 omega
theorem Cy {s t:Sn} (hs:s.ok) (ht:t.ok) (ds:s.dep<=60) (dt:t.dep<=60):bj s.enc t.enc=some (.bool (decide (s=t))):=by
 unfold bj;rw [Hb hs ds,Hb ht dt];simp only [Bool.and_self,if_true]
 congr 2
 rw [Bool.eq_iff_iff,yD,decide_eq_true_eq]
noncomputable abbrev dz:Sn:=.un .not .yes
noncomputable def eL:Sn->Sn
 | .un .not a=>a
 | s=>.un .not s
noncomputable def dZ (k:B4) (one oth idle rul:Sn):Sn:=if one=rul\/oth=idle\/one=oth then one else if oth=rul\/one=idle then oth else .bi k one oth
noncomputable def aO:Sn->Sn
 | .yes=>.yes
 | .mk c=>.mk c
 | .un .not a=>eL (aO a)
 | .un k a=>if aO a=.yes\/aO a=dz then aO a else .un k (aO a)
 | .bi .and a b=>dZ .and (aO a) (aO b) .yes dz
 | .bi .or a b=>dZ .or (aO a) (aO b) dz .yes
 | .bi k a b=>if aO a=dz\/aO b=.yes\/aO b=dz then aO b else .bi k (aO a) (aO b)
noncomputable def iD:Sn->Bool
 | .un .not _=>true
 | _=>false
noncomputable def Cl:Sn->Prop
 | .yes=>True
 | .mk _=>True
 | .un .not a=>Cl a/\iD a=false
 | .un _ a=>Cl a/\a≠.yes/\a≠dz
 | .bi .and a b=>Cl a/\Cl b/\a≠.yes/\a≠dz/\b≠.yes/\b≠dz/\a≠b
 | .bi .or a b=>Cl a/\Cl b/\a≠.yes/\a≠dz/\b≠.yes/\b≠dz/\a≠b
 | .bi _ a b=>Cl a/\Cl b/\a≠dz/\b≠.yes/\b≠dz
theorem BH {s:Sn} (h:iD s=false):eL s=.un .not s:=by
 cases s with
 | un k a=>cases k<;>first | rfl | (simp [iD] at h)
 | _=>rfl
theorem DE (s:Sn):(∃a,s=.un .not a/\eL s=a)\/(iD s=false/\eL s=.un .not s):=by
 cases h:iD s with
 | false=>exact .inr ⟨rfl,BH h⟩
 | true=>
  cases s with
  | un k a=>cases k<;>first | exact .inl ⟨a,rfl,rfl⟩ | (simp [iD] at h)
  | _=>simp [iD] at h
structure wy (s t:Sn):Prop where
 ok:t.ok
 sz:t.size<=s.size
 dp:t.dep<=s.dep
 cl:Cl t
theorem Sn.dep_pos (s:Sn):1<=s.dep:=by cases s<;>simp [Sn.dep]
theorem Hm {s:Sn} (h:s.ok):wy s (aO s):=by
 induction s with
 | yes=>exact ⟨trivial,KW _,KW _,trivial⟩
 | mk c=>exact ⟨h,KW _,KW _,trivial⟩
 | un k a ih=>
  have i:=ih h
  have i1:=i.sz
  have i2:=i.dp
  have oth:∀k,k≠.not->(∀t,aO (.un k a)=t->t=if aO a=.yes\/aO a=dz then aO a else .un k (aO a))->wy (.un k a) (aO (.un k a)):=fun k hk he=>by
   rw [he _ rfl];split
   ·exact ⟨i.ok,by simp only [Sn.size];omega,by simp only [Sn.dep];omega,i.cl⟩
   ·rename_i z
    rw [not_or] at z;refine ⟨i.ok,by simp only [Sn.size];omega,by simp only [Sn.dep];omega,?_⟩
    cases k<;>first | exact absurd rfl hk | exact ⟨i.cl,z.1,z.2⟩
  cases k with
  | not=>
   show wy _ (eL (aO a))
   rcases DE (aO a) with ⟨b,e1,e2⟩ | ⟨e1,e2⟩
   ·rw [e2]
    have hc:=i.cl
    rw [e1] at hc i1 i2
    have ho:=i.ok
    rw [e1] at ho;simp only [Sn.size,Sn.dep] at i1 i2
    exact ⟨ho,by simp only [Sn.size];omega,by simp only [Sn.dep];omega,hc.1⟩
   ·rw [e2]
    exact ⟨i.ok,by simp only [Sn.size];omega,by simp only [Sn.dep];omega,i.cl,e1⟩
  | sn=>exact oth .sn (by simp) fun t e=>by rw [<-e];rfl
  | an=>exact oth .an (by simp) fun t e=>by rw [<-e];rfl
  | sa=>exact oth .sa (by simp) fun t e=>by rw [<-e];rfl
  | aa=>exact oth .aa (by simp) fun t e=>by rw [<-e];rfl
 | bi k a b ia ib=>
  have i:=ia h.1
  have j:=ib h.2
  have i1:=i.sz
  have i2:=i.dp
  have j1:=j.sz
  have j2:=j.dp
  have fa:∀k,wy (.bi k a b) (aO a):=fun k=>⟨i.ok,by simp only [Sn.size];omega,by simp only [Sn.dep];omega,i.cl⟩
  have fb:∀k,wy (.bi k a b) (aO b):=fun k=>⟨j.ok,by simp only [Sn.size];omega,by simp only [Sn.dep];omega,j.cl⟩
  have fc:∀k,Cl (.bi k (aO a) (aO b))->wy (.bi k a b) (.bi k (aO a) (aO b)):=fun k hc=>⟨⟨i.ok,j.ok⟩,by simp only [Sn.size];omega,by simp only [Sn.dep];omega,hc⟩
  cases k with
  | and=>
   show wy _ (dZ .and (aO a) (aO b) .yes dz)
   unfold dZ;split
   ·exact fa _
   ·rename_i z
    rw [not_or,not_or] at z;split
    ·exact fb _
    ·rename_i y
     rw [not_or] at y;exact fc _ ⟨i.cl,j.cl,y.2,z.1,z.2.1,y.1,z.2.2⟩
  | or=>
   show wy _ (dZ .or (aO a) (aO b) dz .yes)
   unfold dZ;split
   ·exact fa _
   ·rename_i z
    rw [not_or,not_or] at z;split
    ·exact fb _
    ·rename_i y
     rw [not_or] at y;exact fc _ ⟨i.cl,j.cl,z.1,y.2,y.1,z.2.1,z.2.2⟩
  | su=>
   show wy _ (if aO a=dz\/aO b=.yes\/aO b=dz then aO b else .bi .su (aO a) (aO b))
   split
   ·exact fb _
   ·rename_i z
    rw [not_or,not_or] at z;exact fc _ ⟨i.cl,j.cl,z.1,z.2.1,z.2.2⟩
  | au=>
   show wy _ (if aO a=dz\/aO b=.yes\/aO b=dz then aO b else .bi .au (aO a) (aO b))
   split
   ·exact fb _
   ·rename_i z
    rw [not_or,not_or] at z;exact fc _ ⟨i.cl,j.cl,z.1,z.2.1,z.2.2⟩
theorem C6 {w:Wd} {s:Sn} {r:Nat}:bN w (eL s) r↔¬bN w s r:=by
 rcases DE s with ⟨a,e1,e2⟩ | ⟨_,e2⟩
 ·rw [e2,e1]
  exact ⟨fun h z=>z h,fun h=>Classical.byContradiction h⟩
 ·rw [e2]
  rfl
theorem Ie {w:Wd} (ok:w.Ok) {any:Bool} {P:Nat->Prop} {Q:Nat->Prop} {r:Nat} (hr:r<w.n) (hq:∀t,¬Q t) (h:Unt w any P Q r):False:=by
 induction h with
 | now q=>exact hq _ q
 | some _ _ ht _ ih=>exact ih (ok.stp_lt ht)
 | all _ _ _ ih=>
  obtain ⟨t,ht⟩:=exists_mem_of_ne_nil _ (ok.stp_ne hr);exact ih t ht (ok.stp_lt ht)
theorem w4 {w:Wd} {any:Bool} {P Q:Nat->Prop} {r:Nat} (hp:∀t,¬P t):Unt w any P Q r↔Q r:=by
 rw [Unt.iff];exact ⟨fun h=>h.elim id fun z=>absurd z.1 (hp r),.inl⟩
theorem wb {w:Wd} (ok:w.Ok) {any:Bool} {P P' Q Q':Nat->Prop} (hp:∀t,t<w.n->(P t↔P' t)) (hq:∀t,t<w.n->(Q t↔Q' t)) {r:Nat} (hr:r<w.n):Unt w any P Q r↔Unt w any P' Q' r:=
 ⟨Unt.congr ok (fun t ht=>(hp t ht).mp) (fun t ht=>(hq t ht).mp) hr,Unt.congr ok (fun t ht=>(hp t ht).mpr) (fun t ht=>(hq t ht).mpr) hr⟩
theorem oI {w:Wd} {t:Nat}:¬bN w dz t:=fun h=>h trivial
theorem Cu {w:Wd} (ok:w.Ok) {r:Nat} (hr:r<w.n):∃t,t∈w.stp r:=exists_mem_of_ne_nil _ (ok.stp_ne hr)
theorem ql {w:Wd} (ok:w.Ok) {s:Sn}:∀r,r<w.n->(bN w (aO s) r↔bN w s r):=by
 induction s with
 | yes=>exact fun r _=>Iff.rfl
 | mk c=>exact fun r _=>Iff.rfl
 | un k a ih=>
  have put:∀r,r<w.n->(bN w (.un k (aO a)) r↔bN w (.un k a) r):=fun r hr=>by
   cases k with
   | not=>exact not_congr (ih r hr)
   | sn=>exact ⟨fun ⟨t,h1,h2⟩=>⟨t,h1,(ih t (ok.stp_lt h1)).mp h2⟩,fun ⟨t,h1,h2⟩=>⟨t,h1,(ih t (ok.stp_lt h1)).mpr h2⟩⟩
   | an=>exact ⟨fun h t ht=>(ih t (ok.stp_lt ht)).mp (h t ht),fun h t ht=>(ih t (ok.stp_lt ht)).mpr (h t ht)⟩
   | sa=>exact not_congr (wb ok (fun _ _=>Iff.rfl) (fun t ht=>not_congr (ih t ht)) hr)
   | aa=>exact not_congr (wb ok (fun _ _=>Iff.rfl) (fun t ht=>not_congr (ih t ht)) hr)
  have tri:k≠.not->aO a=.yes\/aO a=dz->∀r,r<w.n->(bN w (aO a) r↔bN w (.un k (aO a)) r):=fun hk h r hr=>by
   obtain ⟨t,ht⟩:=Cu ok hr;rcases h with h | h
   ·rw [h]
    cases k with
    | not=>exact absurd rfl hk
    | sn=>exact ⟨fun _=>⟨t,ht,trivial⟩,fun _=>trivial⟩
    | an=>exact ⟨fun _ _ _=>trivial,fun _=>trivial⟩
    | sa=>exact ⟨fun _ z=>Ie ok hr (fun t h=>h trivial) z,fun _=>trivial⟩
    | aa=>exact ⟨fun _ z=>Ie ok hr (fun t h=>h trivial) z,fun _=>trivial⟩
   ·rw [h]
    refine ⟨fun z=>absurd z oI,fun z=>?_⟩
    cases k with
    | not=>exact absurd rfl hk
    | sn=>obtain ⟨u,_,hu⟩:=z;exact absurd hu oI
    | an=>exact absurd (z t ht) oI
    | sa=>exact absurd (Unt.now oI) z
    | aa=>exact absurd (Unt.now oI) z
  have oth:k≠.not->aO (.un k a)=(if aO a=.yes\/aO a=dz then aO a else .un k (aO a))->∀r,r<w.n->(bN w (aO (.un k a)) r↔bN w (.un k a) r):=fun hk e r hr=>by
   rw [e];split
   ·rename_i z
    exact (tri hk z r hr).trans (put r hr)
   ·exact put r hr
  cases k with
  | not=>exact fun r hr=>(C6 (s:=aO a)).trans (not_congr (ih r hr))
  | sn=>exact oth (by simp) rfl
  | an=>exact oth (by simp) rfl
  | sa=>exact oth (by simp) rfl
  | aa=>exact oth (by simp) rfl
 | bi k a b ia ib=>
  have put:∀r,r<w.n->(bN w (.bi k (aO a) (aO b)) r↔bN w (.bi k a b) r):=fun r hr=>by
   cases k with
   | and=>exact and_congr (ia r hr) (ib r hr)
   | or=>exact or_congr (ia r hr) (ib r hr)
   | su=>exact wb ok ia ib hr
   | au=>exact wb ok ia ib hr
  have unt:∀any,∀r,r<w.n->(aO a=dz\/aO b=.yes\/aO b=dz)->(bN w (aO b) r↔Unt w any (bN w (aO a)) (bN w (aO b)) r):=fun any r hr h=>by
   rcases h with h | h | h
   ·rw [h];exact (w4 fun t=>oI).symm
   ·rw [h];exact ⟨fun z=>.now z,fun _=>trivial⟩
   ·rw [h];exact ⟨fun z=>absurd z oI,fun z=>(Ie ok hr (fun t=>oI) z).elim⟩
  cases k with
  | and=>
   intro r hr;show bN w (dZ .and (aO a) (aO b) .yes dz) r↔_
   refine Iff.trans ?_ (put r hr)
   unfold dZ;split
   ·rename_i z
    rcases z with z | z | z
    ·rw [z];exact ⟨fun h=>absurd h oI,fun h=>absurd h.1 oI⟩
    ·rw [z];exact ⟨fun h=>⟨h,trivial⟩,fun h=>h.1⟩
    ·rw [z];exact ⟨fun h=>⟨h,h⟩,fun h=>h.1⟩
   ·split
    ·rename_i z
     rcases z with z | z
     ·rw [z];exact ⟨fun h=>absurd h oI,fun h=>absurd h.2 oI⟩
     ·rw [z];exact ⟨fun h=>⟨trivial,h⟩,fun h=>h.2⟩
    ·exact Iff.rfl
  | or=>
   intro r hr;show bN w (dZ .or (aO a) (aO b) dz .yes) r↔_
   refine Iff.trans ?_ (put r hr)
   unfold dZ;split
   ·rename_i z
    rcases z with z | z | z
    ·rw [z];exact ⟨fun h=>.inl h,fun _=>trivial⟩
    ·rw [z];exact ⟨fun h=>.inl h,fun h=>h.elim id fun y=>absurd y oI⟩
    ·rw [z];exact ⟨fun h=>.inl h,fun h=>h.elim id id⟩
   ·split
    ·rename_i z
     rcases z with z | z
     ·rw [z];exact ⟨fun h=>.inr h,fun _=>trivial⟩
     ·rw [z];exact ⟨fun h=>.inr h,fun h=>h.elim (fun y=>absurd y oI) id⟩
    ·exact Iff.rfl
  | su=>
   intro r hr;show bN w (if aO a=dz\/aO b=.yes\/aO b=dz then aO b else .bi .su (aO a) (aO b)) r↔_
   refine Iff.trans ?_ (put r hr)
   split
   ·rename_i z;exact unt true r hr z
   ·exact Iff.rfl
  | au=>
   intro r hr;show bN w (if aO a=dz\/aO b=.yes\/aO b=dz then aO b else .bi .au (aO a) (aO b)) r↔_
   refine Iff.trans ?_ (put r hr)
   split
   ·rename_i z;exact unt false r hr z
   ·exact Iff.rfl
noncomputable def tn (turned so:Bool) (t:Sn):Sn:=if so=turned then eL t else t
noncomputable def CO (f g:Sn):Sn:=if f=dz then .un .not (.un .sa g) else .bi .and (.un .not (.un .sa g)) (.un .not (.bi .su g (.bi .and f g)))
noncomputable def bR:Sn->Bool->Sn
 | .yes,so=>tn false so .yes
 | .mk c,so=>tn false so (.mk c)
 | .un .not a,so=>bR a (!so)
 | .un .sn a,so=>tn false so (.un .sn (bR a true))
 | .un .an a,so=>tn true so (.un .sn (bR a false))
 | .un .sa a,so=>tn false so (.un .sa (bR a true))
 | .un .aa a,so=>tn true so (.bi .su .yes (bR a false))
 | .bi .and a b,so=>tn false so (.bi .and (bR a true) (bR b true))
 | .bi .or a b,so=>tn true so (.bi .and (bR a false) (bR b false))
 | .bi .su a b,so=>tn false so (.bi .su (bR a true) (bR b true))
 | .bi .au a b,so=>tn false so (CO (bR a false) (bR b false))
noncomputable def Al:Sn->Prop
 | .yes=>True
 | .mk _=>True
 | .un .an _=>False
 | .un .aa _=>False
 | .un _ a=>Al a
 | .bi .or _ _=>False
 | .bi .au _ _=>False
 | .bi _ a b=>Al a/\Al b
noncomputable def tb (n:Nat):Nat:=[0,2,5,15,24,54,81,171].getD n 0
noncomputable def td (n:Nat):Nat:=[0,2,4,7,9,12,14,17].getD n 0
theorem tb1:∀a,a<7->1<=a->3+tb a<=tb (a+1)/\td a+2<=td (a+1):=by decide
theorem IK:∀a∈List.range 7,∀b∈List.range 7,(1<=a/\1<=b/\a+b+1<=7)->(7+tb a+3*tb b<=tb (a+b+1)/\5+td a<=td (a+b+1)/\5+td b<=td (a+b+1)):=by decide
theorem tb2 (a:Nat) (ha:a<7) (b:Nat) (hb:b<7) (h1:1<=a) (h2:1<=b) (h3:a+b+1<=7):7+tb a+3*tb b<=tb (a+b+1)/\5+td a<=td (a+b+1)/\5+td b<=td (a+b+1):=IK a (List.mem_range.mpr ha) b (List.mem_range.mpr hb) ⟨h1,h2,h3⟩
theorem IJ:∀a,a<8->tb a<=171/\td a<=17:=by decide
structure FA (n:Nat) (t:Sn):Prop where
 ok:t.ok
 sz:t.size<=tb n
 dp:t.dep<=td n
 al:Al t
theorem xV {t:Sn} (h1:t.ok) (h2:Al t):(eL t).ok/\(eL t).size<=t.size+1/\(eL t).dep<=t.dep+1/\Al (eL t):=by
 rcases DE t with ⟨a,rfl,e2⟩ | ⟨_,e2⟩
 ·rw [e2]
  exact ⟨h1,by simp only [Sn.size];omega,by simp only [Sn.dep];omega,h2⟩
 ·rw [e2]
  exact ⟨h1,by simp only [Sn.size];omega,by simp only [Sn.dep];omega,h2⟩
theorem tG {tu so:Bool} {t:Sn} {n:Nat} (h1:t.ok) (h2:Al t) (h3:t.size+1<=tb n) (h4:t.dep+1<=td n):FA n (tn tu so t):=by
 unfold tn;obtain ⟨a,b,c,d⟩:=xV h1 h2;split
 ·exact ⟨a,by omega,by omega,d⟩
 ·exact ⟨h1,by omega,by omega,h2⟩
theorem HN {s:Sn}:s.ok->s.size<=7->∀so,FA s.size (bR s so):=by
 induction s with
 | yes=>exact fun _ _ so=>tG trivial trivial (by decide) (by decide)
 | mk c=>exact fun h _ so=>tG h trivial (by show 1+1<=tb 1;decide) (by show 1+1<=td 1;decide)
 | un k a ih=>
  intro h hz so;simp only [Sn.size] at hz
  have hp:=a.size_pos
  have i1:=ih h (by omega)
  obtain ⟨t1,t2⟩:=tb1 a.size (by omega) hp
  have f:=i1 false
  have t:=i1 true
  have f1:=f.sz
  have f2:=f.dp
  have g1:=t.sz
  have g2:=t.dp
  show FA (a.size+1) _
  cases k with
  | not=>
   have q:=i1 (!so)
   exact ⟨q.ok,Nat.le_trans q.sz (by omega),Nat.le_trans q.dp (by omega),q.al⟩
  | sn=>exact tG (t:=.un .sn (bR a true)) t.ok t.al (by simp only [Sn.size];omega) (by simp only [Sn.dep];omega)
  | an=>exact tG (t:=.un .sn (bR a false)) f.ok f.al (by simp only [Sn.size];omega) (by simp only [Sn.dep];omega)
  | sa=>exact tG (t:=.un .sa (bR a true)) t.ok t.al (by simp only [Sn.size];omega) (by simp only [Sn.dep];omega)
  | aa=>exact tG (t:=.bi .su .yes (bR a false)) ⟨trivial,f.ok⟩ ⟨trivial,f.al⟩ (by simp only [Sn.size];omega) (by have:=(bR a false).dep_pos;simp only [Sn.dep];omega)
 | bi k a b ia ib=>
  intro h hz so;simp only [Sn.size] at hz
  have hpa:=a.size_pos
  have hpb:=b.size_pos
  have i1:=ia h.1 (by omega)
  have j1:=ib h.2 (by omega)
  obtain ⟨t1,t2,t3⟩:=tb2 a.size (by omega) b.size (by omega) hpa hpb (by omega)
  have f:=i1 false
  have t:=i1 true
  have f':=j1 false
  have t':=j1 true
  have f1:=f.sz
  have f2:=f.dp
  have g1:=t.sz
  have g2:=t.dp
  have f3:=f'.sz
  have f4:=f'.dp
  have g3:=t'.sz
  have g4:=t'.dp
  show FA (a.size+b.size+1) _
  cases k with
  | and=>exact tG (t:=.bi .and (bR a true) (bR b true)) ⟨t.ok,t'.ok⟩ ⟨t.al,t'.al⟩ (by simp only [Sn.size];omega) (by simp only [Sn.dep];omega)
  | or=>exact tG (t:=.bi .and (bR a false) (bR b false)) ⟨f.ok,f'.ok⟩ ⟨f.al,f'.al⟩ (by simp only [Sn.size];omega) (by simp only [Sn.dep];omega)
  | su=>exact tG (t:=.bi .su (bR a true) (bR b true)) ⟨t.ok,t'.ok⟩ ⟨t.al,t'.al⟩ (by simp only [Sn.size];omega) (by simp only [Sn.dep];omega)
  | au=>
   show FA _ (tn false so (CO (bR a false) (bR b false)))
   unfold CO;split
   ·exact tG (t:=.un .not (.un .sa (bR b false))) f'.ok f'.al (by simp only [Sn.size];omega) (by simp only [Sn.dep];omega)
   ·exact tG (t:=.bi .and (.un .not (.un .sa (bR b false))) (.un .not (.bi .su (bR b false) (.bi .and (bR a false) (bR b false))))) ⟨f'.ok,f'.ok,f.ok,f'.ok⟩ ⟨f'.al,f'.al,f.al,f'.al⟩ (by simp only [Sn.size];omega) (by simp only [Sn.dep];omega)
theorem vZ {w:Wd} {tu so:Bool} {t s:Sn} {r:Nat} (h:bN w t r↔(if tu then ¬bN w s r else bN w s r)):bN w (tn tu so t) r↔(if so then bN w s r else ¬bN w s r):=by
 unfold tn
 cases tu<;>cases so<;>simp only [if_true,Bool.false_eq_true,if_false,Bool.true_eq_false] at h ⊢
 ·rw [C6,h]
 ·exact h
 ·exact h
 ·rw [C6,h]
  exact ⟨fun z=>Classical.byContradiction z,fun z y=>y z⟩
theorem rn {w:Wd} (ok:w.Ok) {A B:Nat->Prop} {r:Nat} (hr:r<w.n):Unt w false A B r↔(Unt w false (fun _=>True) B r/\¬Unt w true (fun t=>¬B t) (fun t=>¬A t/\¬B t) r):=by
 constructor
 ·intro h
  refine ⟨Unt.congr ok (fun _ _ _=>trivial) (fun _ _ h=>h) hr h,fun z=>?_⟩
  induction z with
  | now q=>
   rcases Unt.iff.mp h with z | z
   ·exact q.2 z
   ·exact q.1 z.1
  | @some r t _ hb ht _ ih=>
   rcases Unt.iff.mp h with z | ⟨_,z⟩
   ·exact hb z
   ·exact ih (ok.stp_lt ht) ((by simpa [led] using z:∀t∈w.stp r,Unt w false A B t) t ht)
  | all e _ _ _=>cases e
 ·rintro ⟨h,z⟩
  induction h with
  | now q=>exact .now q
  | some e _ _ _ _=>cases e
  | @all r _ _ _ ih=>
   by_cases hb:B r
   ·exact .now hb
   ·have ha:A r:=Classical.byContradiction fun y=>z (.now ⟨y,hb⟩)
    exact .all rfl ha fun t ht=>ih t ht (ok.stp_lt ht) fun y=>z (.some rfl hb ht y)
theorem xf {w:Wd} (ok:w.Ok) {s:Sn}:∀(so:Bool) (r:Nat),r<w.n->(bN w (bR s so) r↔(if so then bN w s r else ¬bN w s r)):=by
 induction s with
 | yes=>exact fun so r _=>vZ (by simp)
 | mk c=>exact fun so r _=>vZ (by simp)
 | un k a ih=>
  have it:∀r,r<w.n->(bN w (bR a true) r↔bN w a r):=fun r hr=>by simpa using ih true r hr
  have jf:∀r,r<w.n->(bN w (bR a false) r↔¬bN w a r):=fun r hr=>by simpa using ih false r hr
  cases k with
  | not=>
   intro so r hr;show bN w (bR a (!so)) r↔_
   rw [ih (!so) r hr]
   cases so with
   | true=>simp [bN]
   | false=>simp [bN]
  | sn=>
   refine fun so r hr=>vZ (s:=.un .sn a) ?_
   simp only [Bool.false_eq_true,if_false]
   exact ⟨fun ⟨t,h1,h2⟩=>⟨t,h1,(it t (ok.stp_lt h1)).mp h2⟩,fun ⟨t,h1,h2⟩=>⟨t,h1,(it t (ok.stp_lt h1)).mpr h2⟩⟩
  | an=>
   refine fun so r hr=>vZ (s:=.un .an a) ?_
   simp only [if_true]
   constructor
   ·rintro ⟨t,h1,h2⟩ z
    exact (jf t (ok.stp_lt h1)).mp h2 (z t h1)
   ·intro h
    obtain ⟨t,ht⟩:=Classical.not_forall.mp (show ¬∀t∈w.stp r,bN w a t from h)
    obtain ⟨h1,h2⟩:=Classical.not_imp.mp ht;exact ⟨t,h1,(jf t (ok.stp_lt h1)).mpr h2⟩
  | sa=>
   refine fun so r hr=>vZ (s:=.un .sa a) ?_
   simp only [Bool.false_eq_true,if_false]
   exact not_congr (wb ok (fun _ _=>Iff.rfl) (fun t ht=>not_congr (it t ht)) hr)
  | aa=>
   refine fun so r hr=>vZ (s:=.un .aa a) ?_
   simp only [if_true]
   show Unt w true (bN w .yes) (bN w (bR a false)) r↔¬¬Unt w true (fun _=>True) (fun t=>¬bN w a t) r
   rw [Classical.not_not];exact wb ok (fun _ _=>Iff.rfl) jf hr
 | bi k a b ia ib=>
  have it:∀r,r<w.n->(bN w (bR a true) r↔bN w a r):=fun r hr=>by simpa using ia true r hr
  have jf:∀r,r<w.n->(bN w (bR a false) r↔¬bN w a r):=fun r hr=>by simpa using ia false r hr
  have it':∀r,r<w.n->(bN w (bR b true) r↔bN w b r):=fun r hr=>by simpa using ib true r hr
  have jf':∀r,r<w.n->(bN w (bR b false) r↔¬bN w b r):=fun r hr=>by simpa using ib false r hr
  cases k with
  | and=>
   refine fun so r hr=>vZ (s:=.bi .and a b) ?_
   simp only [Bool.false_eq_true,if_false]
   exact and_congr (it r hr) (it' r hr)
  | or=>
   refine fun so r hr=>vZ (s:=.bi .or a b) ?_
   simp only [if_true]
   show (bN w (bR a false) r/\bN w (bR b false) r)↔¬(bN w a r\/bN w b r)
   rw [jf r hr,jf' r hr,not_or]
  | su=>
   refine fun so r hr=>vZ (s:=.bi .su a b) ?_
   simp only [Bool.false_eq_true,if_false]
   exact wb ok it it' hr
  | au=>
   refine fun so r hr=>vZ (s:=.bi .au a b) ?_
   simp only [Bool.false_eq_true,if_false]
   have e1:bN w (.un .not (.un .sa (bR b false))) r↔Unt w false (fun _=>True) (bN w b) r:=by
    show ¬¬Unt w false (fun _=>True) (fun t=>¬bN w (bR b false) t) r↔_
    rw [Classical.not_not];exact wb ok (fun _ _=>Iff.rfl) (fun t ht=>by rw [jf' t ht];exact Classical.not_not) hr
   unfold CO;split
   ·rename_i z
    rw [e1];have ha:∀t,t<w.n->bN w a t:=fun t ht=>Classical.byContradiction fun y=>by
     have:=(jf t ht).mpr y
     rw [z] at this;exact oI this
    exact wb ok (fun t ht=>⟨fun _=>ha t ht,fun _=>trivial⟩) (fun _ _=>Iff.rfl) hr
   ·show (bN w (.un .not (.un .sa (bR b false))) r/\¬Unt w true (bN w (bR b false)) (fun t=>bN w (bR a false) t/\bN w (bR b false) t) r)↔Unt w false (bN w a) (bN w b) r
    rw [e1];refine Iff.trans ?_ (rn ok hr).symm
    exact and_congr Iff.rfl (not_congr (wb ok jf' (fun t ht=>and_congr (jf t ht) (jf' t ht)) hr))
end KC
namespace KC
open PySem PySem.Spec L2 T
open PyProof.Rows hiding St
noncomputable def gQ:KY:=.tuple [.str "yes"]
noncomputable def cH:KY:=.tuple [.str "not",.tuple [.str "yes"]]
noncomputable def ku:FS:=(aF (az (dm true) (ag 1 dj (ab (ae 0) af)) (eK .none)))
noncomputable def cB:List KY->bS:=aC 1 ku
noncomputable def gk:FS:=(aF (kn (aL ai (az bj (ao (ae 0) (eK (.int 0))) (eK (.str "not")))) (ao (ae 0) (eK (.int 1))) (bq (ab (eK (.str "not")) (ab (ae 0) af)))))
noncomputable def cg:List KY->bS:=aC 1 gk
noncomputable def vJ:FS:=(aq (bW (fD (aL ai (az bj (ae 1) (ae 4))) (fD (aL ai (az bj (ae 2) (ae 3))) (aL ai (az bj (ae 1) (ae 2))))) (aF (ae 1)) aJ)
  (aq (bW (fD (aL ai (az bj (ae 2) (ae 4))) (aL ai (az bj (ae 1) (ae 3)))) (aF (ae 2)) aJ)
  (aF (bq (ab (ae 0) (ab (ae 1) (ab (ae 2) af)))))))
noncomputable def gP:List KY->bS:=aC 5 vJ
noncomputable def dq (r_shortened:List KY->bS):FS:=(aq (aB false 1 (ao (ae 0) (eK (.int 0))))
  (aq (aB false 2 (aA .leaf 4 (bV (ag 1 aN (ab (ae 0) af))) aK (ag 1 r_shortened (ab (ae 4) af))))
  (aq (bW (fD (aL ai (az bj (ae 1) (eK (.str "yes")))) (aL ai (az bj (ae 1) (eK (.str "mark"))))) (aF (ae 0)) aJ)
  (aq (bW (aL ai (az bj (ae 1) (eK (.str "not")))) (aF (ag 1 cg (ab (ao (ae 2) (eK (.int 0))) af))) aJ)
  (aq (bW (aL ai (az bj (ae 1) (eK (.str "and")))) (aF (ag 5 gP (ab (ae 1) (ab (ao (ae 2) (eK (.int 0))) (ab (ao (ae 2) (eK (.int 1))) (ab (eK gQ) (ab (eK cH) af))))))) aJ)
  (aq (bW (aL ai (az bj (ae 1) (eK (.str "or")))) (aF (ag 5 gP (ab (ae 1) (ab (ao (ae 2) (eK (.int 0))) (ab (ao (ae 2) (eK (.int 1))) (ab (eK cH) (ab (eK gQ) af))))))) aJ)
  (aq (bW (aL ai (az bj (bJ bg (ab (ae 2) af)) (eK (.int 2)))) (aq (aB false 3 (vA (az bj (ao (ae 2) (eK (.int 0))) (eK cH)) (vA (az bj (ao (ae 2) (eK (.int 1))) (eK gQ)) (az bj (ao (ae 2) (eK (.int 1))) (eK cH)))))
  (aF (kn (aL bX (ae 3)) (ao (ae 2) (eK (.int 1))) (bq (ab (ae 1) (ab (ao (ae 2) (eK (.int 0))) (ab (ao (ae 2) (eK (.int 1))) af))))))) aJ)
  (aF (kn (fD (aL ai (az bj (ao (ae 2) (eK (.int 0))) (eK gQ))) (aL ai (az bj (ao (ae 2) (eK (.int 0))) (eK cH)))) (ao (ae 2) (eK (.int 0))) (bq (ab (ae 1) (ab (ao (ae 2) (eK (.int 0))) af))))))))))))
noncomputable def bb:Nat->List KY->bS
 | 0=>fun _=>.no
 | n+1=>aC 5 (dq (bb n))
noncomputable def fG:List KY->bS:=bb 20
open PySem.SeqAt
theorem CM {ga gb:FB} {Γ:Ev} (ha:ga Γ=.ok false Γ):gx ga gb Γ=.ok false Γ:=by unfold gx;rw [ha];rfl
theorem zp {fa fb:F1} {Γ:Ev} {s:Sh} {a b:Bool} (ha:fa Γ=.ok ⟨s,.bool a⟩ Γ) (hb:fb Γ=.ok ⟨.leaf,.bool b⟩ Γ):vA fa fb Γ=.ok ⟨.leaf,.bool (a||b)⟩ Γ:=by
 unfold vA ba;rw [ha];simp only [oE]
 cases a with
 | true=>rfl
 | false=>exact hb
theorem lG {c:FB} {fa fb:F1} {Γ:Ev} {t:Bool} {p:PV} (hc:c Γ=.ok t Γ) (ha:t=true->fa Γ=.ok p Γ) (hb:t=false->fb Γ=.ok p Γ):kn c fa fb Γ=.ok p Γ:=by
 unfold kn;rw [hc];simp only [oE]
 cases t with
 | true=>exact ha rfl
 | false=>exact hb rfl
theorem Di {s:Sn} {r:Ev}:ao (ae 0) (eK (.int 0)) (KZ s.enc::r)=.ok ⟨.leaf,.str s.w.t⟩ (KZ s.enc::r):=by
 cases s<;>simp [Sn.enc,Sn.w]
theorem EG {s:Sn}:iD s=decide (s.w=.not):=by
 cases s with
 | un k a=>cases k<;>rfl
 | bi k a b=>cases k<;>rfl
 | _=>rfl
theorem Hr (s:Sn):∃sh:Sh,sh.isView=false/\cg [s.enc]=.ok ⟨sh,(eL s).enc⟩:=by
 rcases DE s with ⟨a,rfl,e2⟩ | ⟨e1,e2⟩
 ·rw [e2]
  exact ⟨.leaf,rfl,by simp [cg,aC,gk,ah,Sn.enc,U5.w]⟩
 ·rw [e2]
  refine ⟨.tup [.leaf,.leaf],rfl,aD (aH (lG (t:=false) (dA (aI Di aS (by rw [zY,<-EG,e1]))) nofun (fun _=>bD (ax aS (ax (ay rfl) aj)) rfl rfl)) rfl)⟩
structure Fit60 (s:Sn):Prop where
 ok:s.ok
 dp:s.dep<=60
theorem Fit60.eq {s t:Sn} (hs:Fit60 s) (ht:Fit60 t):bj s.enc t.enc=some (.bool (decide (s=t))):=Cy hs.ok ht.ok hs.dp ht.dp
theorem fy:Fit60 .yes:=⟨trivial,by simp [Sn.dep]⟩
theorem fn:Fit60 dz:=⟨trivial,by simp [Sn.dep]⟩
theorem jC {k:B4} {s t i r:Sn} (hs:Fit60 s) (ht:Fit60 t) (hi:Fit60 i) (hr:Fit60 r):∃sh:Sh,sh.isView=false/\gP [.str k.w.t,s.enc,t.enc,i.enc,r.enc]=.ok ⟨sh,(dZ k s t i r).enc⟩:=by
 have c1:(fD (aL ai (az bj (ae 1) (ae 4))) (fD (aL ai (az bj (ae 2) (ae 3))) (aL ai (az bj (ae 1) (ae 2))))) [KZ (.str k.w.t),KZ s.enc,KZ t.enc,KZ i.enc,KZ r.enc]=.ok (decide (s=r)||(decide (t=i)||decide (s=t))) [KZ (.str k.w.t),KZ s.enc,KZ t.enc,KZ i.enc,KZ r.enc]:=
  eZ (dA (aI (ay rfl) (ay rfl) (hs.eq hr))) (eZ (dA (aI (ay rfl) (ay rfl) (ht.eq hi))) (dA (aI (ay rfl) (ay rfl) (hs.eq ht))))
 have c2:(fD (aL ai (az bj (ae 2) (ae 4))) (aL ai (az bj (ae 1) (ae 3)))) [KZ (.str k.w.t),KZ s.enc,KZ t.enc,KZ i.enc,KZ r.enc]=.ok (decide (t=r)||decide (s=i)) [KZ (.str k.w.t),KZ s.enc,KZ t.enc,KZ i.enc,KZ r.enc]:=
  eZ (dA (aI (ay rfl) (ay rfl) (ht.eq hr))) (dA (aI (ay rfl) (ay rfl) (hs.eq hi)))
 unfold dZ;by_cases h1:s=r\/t=i\/s=t
 ·rw [if_pos h1]
  rw [show (decide (s=r)||(decide (t=i)||decide (s=t)))=true by simpa using h1] at c1
  exact ⟨.leaf,rfl,aD (oF (bu c1 (fun _=>aH (ay rfl) rfl) nofun))⟩
 ·rw [if_neg h1]
  rw [show (decide (s=r)||(decide (t=i)||decide (s=t)))=false by
   rw [Bool.eq_false_iff];intro z;exact h1 (by simpa using z)] at c1
  by_cases h2:t=r\/s=i
  ·rw [if_pos h2]
   rw [show (decide (t=r)||decide (s=i))=true by simpa using h2] at c2
   exact ⟨.leaf,rfl,aD (av (bu c1 nofun (fun _=>rfl)) (oF (bu c2 (fun _=>aH (ay rfl) rfl) nofun)))⟩
  ·rw [if_neg h2]
   rw [show (decide (t=r)||decide (s=i))=false by
    rw [Bool.eq_false_iff];intro z;exact h2 (by simpa using z)] at c2
   exact ⟨.tup [.leaf,.leaf,.leaf],rfl,aD (av (bu c1 nofun (fun _=>rfl)) (av (bu c2 nofun (fun _=>rfl)) (aH (bD (ax (ay rfl) (ax (ay rfl) (ax (ay rfl) aj))) rfl rfl) rfl)))⟩
noncomputable def Kg (r:bS):PV:=match r with
 | .ok p=>p
 | _=>⟨.leaf,.none⟩
noncomputable abbrev GH (s:Sn) (x3:Option PV):Ev:=[KZ s.enc,KZ (.str s.w.t),KZ (.list (s.args.map fun a=>(aO a).enc)),x3,none]
theorem Iz:∀(n:Nat) (s:Sn),s.ok->s.dep<=n->s.dep<=60->∃sh:Sh,sh.isView=false/\bb n [s.enc]=.ok ⟨sh,(aO s).enc⟩
 | 0,s,_,h,_=>by
  have:=s.dep_args
  omega
 | n+1,s,hs,h,h60=>by
  show ∃sh:Sh,sh.isView=false/\aC 5 (dq (bb n)) [s.enc]=_
  have ih:∀a∈s.args,∃sh:Sh,sh.isView=false/\bb n [a.enc]=.ok ⟨sh,(aO a).enc⟩:=fun a ha=>Iz n a (Sn.args_ok hs a ha) (by have:=Ac ha;omega) (by have:=Ac ha;omega)
  have ft:∀a∈s.args,Fit60 (aO a):=fun a ha=>by
   have:=Hm (Sn.args_ok hs a ha)
   exact ⟨this.ok,by have:=this.dp;have:=Ac ha;omega⟩
  have c:aA .leaf 4 (bV (ag 1 aN (ab (ae 0) af))) aK (ag 1 (bb n) (ab (ae 4) af)) [KZ s.enc,KZ (.str s.w.t),none,none,none]=.ok ⟨.lst .leaf,.list (s.args.map fun a=>(aO a).enc)⟩ [KZ s.enc,KZ (.str s.w.t),none,none,none]:=by
   have q:=mw Sn.enc s.args (fun a=>Kg (bb n [a.enc])) (s:=.leaf) (i:=4) (fi:=bV (ag 1 aN (ab (ae 0) af))) (fe:=ag 1 (bb n) (ab (ae 4) af)) (st:=true) (Γ:=[KZ s.enc,KZ (.str s.w.t),none,none,none]) (by simp [C8,aE]) (by simp) rfl (by have:=s.args_le;omega) (fun a ha=>by
    obtain ⟨sh,h1,h2⟩:=ih a ha;refine ⟨bY (ax (ay rfl) aj) (by show bb n [a.enc]=_;rw [h2];rfl) rfl rfl,?_⟩
    rw [h2];exact tM h1)
   rw [q];congr 3
   refine List.map_congr_left fun a ha=>?_
   obtain ⟨sh,h1,h2⟩:=ih a ha;rw [h2];rfl
  have go:∀{o:dS} {rest:FS},rest (GH s none)=o->(aq (aB false 1 (ao (ae 0) (eK (.int 0)))) (aq (aB false 2 (aA .leaf 4 (bV (ag 1 aN (ab (ae 0) af))) aK (ag 1 (bb n) (ab (ae 4) af)))) rest)) (ah 5 [s.enc])=o:=fun {o rest} hr=>
   av (dU Di rfl (by simp [ah])) (av (dU c rfl (by simp)) hr)
  have tq:∀{u:Wr} {t:Str} {v:Bool},bj (.str s.w.t) (.str t)=some (.bool (decide (s.w=u)))->decide (s.w=u)=v->aL ai (az bj (ae 1) (eK (.str t))) (GH s none)=.ok v (GH s none):=fun {u t v} h1 h2=>dA (aI (ay rfl) aS (by rw [<-h2];exact h1))
  have no:∀{c:FB} {a:FS} {rest:FS} {Γ:Ev} {o:dS},c Γ=.ok false Γ->rest Γ=o->aq (bW c a aJ) rest Γ=o:=fun h1 h2=>av (bu h1 nofun (fun _=>rfl)) h2
  have yes:∀{c:FB} {a:FS} {rest:FS} {Γ:Ev} {p:PV},c Γ=.ok true Γ->a Γ=.rt p->aq (bW c a aJ) rest Γ=.rt p:=fun h1 h2=>oF (bu h1 (fun _=>h2) nofun)
  cases s with
  | yes=>exact ⟨.leaf,rfl,aD (go (yes (eZ (a:=true) (b:=false) (tq (qX _) rfl) (tq (pZ _) rfl)) (aH (ay rfl) rfl)))⟩
  | mk c=>exact ⟨.leaf,rfl,aD (go (yes (eZ (a:=false) (b:=true) (tq (qX _) rfl) (tq (pZ _) rfl)) (aH (ay rfl) rfl)))⟩
  | un k a=>
   have fa:=ft a (by simp [Sn.args])
   have i0:∀x3,ao (ae 2) (eK (.int 0)) (GH (.un k a) x3)=.ok ⟨.leaf,(aO a).enc⟩ (GH (.un k a) x3):=fun x3=>wc (j:=0) (ds:=[(aO a).enc]) (ay rfl) aS rfl rfl rfl
   have e1:(fD (aL ai (az bj (ao (ae 2) (eK (.int 0))) (eK gQ))) (aL ai (az bj (ao (ae 2) (eK (.int 0))) (eK cH)))) (GH (.un k a) none)=.ok (decide (aO a=.yes)||decide (aO a=dz)) (GH (.un k a) none):=eZ (dA (aI (i0 _) aS (fa.eq fy))) (dA (aI (i0 _) aS (fa.eq fn)))
   have tail:k≠.not->aO (.un k a)=(if aO a=.yes\/aO a=dz then aO a else .un k (aO a))->∃sh:Sh,sh.isView=false/\(aF (kn (fD (aL ai (az bj (ao (ae 2) (eK (.int 0))) (eK gQ))) (aL ai (az bj (ao (ae 2) (eK (.int 0))) (eK cH)))) (ao (ae 2) (eK (.int 0))) (bq (ab (ae 1) (ab (ao (ae 2) (eK (.int 0))) af))))) (GH (.un k a) none)=.rt ⟨sh,(aO (.un k a)).enc⟩:=fun hk e=>by
    rw [e];by_cases z:aO a=.yes\/aO a=dz
    ·rw [if_pos z]
     rw [show (decide (aO a=.yes)||decide (aO a=dz))=true by simpa using z] at e1
     exact ⟨.leaf,rfl,aH (lG e1 (fun _=>i0 _) (fun y=>nomatch y)) rfl⟩
    ·rw [if_neg z]
     rw [show (decide (aO a=.yes)||decide (aO a=dz))=false by rw [Bool.eq_false_iff];intro y;exact z (by simpa using y)] at e1
     exact ⟨.tup [.leaf,.leaf],rfl,aH (lG e1 (fun y=>nomatch y) (fun _=>bD (ax (ay rfl) (ax (i0 _) aj)) rfl rfl)) rfl⟩
   have l2:aL ai (az bj (bJ bg (ab (ae 2) af)) (eK (.int 2))) (GH (.un k a) none)=.ok false (GH (.un k a) none):=dA (aI (cO (ax (ay rfl) aj) rfl) aS eq_int)
   have rest:k≠.not->aO (.un k a)=(if aO a=.yes\/aO a=dz then aO a else .un k (aO a))->∃sh:Sh,sh.isView=false/\aC 5 (dq (bb n)) [(Sn.un k a).enc]=.ok ⟨sh,(aO (.un k a)).enc⟩:=fun hk e=>by
    obtain ⟨sh,h1,h2⟩:=tail hk e;exact ⟨sh,h1,aD (go (no (eZ (a:=false) (b:=false) (tq (qX _) (by cases k<;>rfl)) (tq (pZ _) (by cases k<;>rfl))) (no (tq (zY _) (by cases k<;>first | rfl | exact absurd rfl hk)) (no (tq (FH _) (by cases k<;>rfl)) (no (tq (gU _) (by cases k<;>rfl)) (no l2 h2))))))⟩
   cases k with
   | not=>
    obtain ⟨sh,h1,h2⟩:=Hr (aO a);exact ⟨sh,h1,aD (go (no (eZ (a:=false) (b:=false) (tq (qX _) rfl) (tq (pZ _) rfl)) (yes (tq (zY _) rfl) (aH (bY (ax (i0 _) aj) h2 rfl rfl) h1))))⟩
   | sn=>exact rest (by simp) rfl
   | an=>exact rest (by simp) rfl
   | sa=>exact rest (by simp) rfl
   | aa=>exact rest (by simp) rfl
  | bi k a b=>
   have fa:=ft a (by simp [Sn.args])
   have fb:=ft b (by simp [Sn.args])
   have i0:∀x3,ao (ae 2) (eK (.int 0)) (GH (.bi k a b) x3)=.ok ⟨.leaf,(aO a).enc⟩ (GH (.bi k a b) x3):=fun x3=>wc (j:=0) (ds:=[(aO a).enc,(aO b).enc]) (ay rfl) aS rfl rfl rfl
   have i1:∀x3,ao (ae 2) (eK (.int 1)) (GH (.bi k a b) x3)=.ok ⟨.leaf,(aO b).enc⟩ (GH (.bi k a b) x3):=fun x3=>wc (j:=1) (ds:=[(aO a).enc,(aO b).enc]) (ay rfl) aS rfl rfl rfl
   have l2:aL ai (az bj (bJ bg (ab (ae 2) af)) (eK (.int 2))) (GH (.bi k a b) none)=.ok true (GH (.bi k a b) none):=dA (aI (cO (ax (ay rfl) aj) rfl) aS eq_int)
   have e3:vA (az bj (ao (ae 2) (eK (.int 0))) (eK cH)) (vA (az bj (ao (ae 2) (eK (.int 1))) (eK gQ)) (az bj (ao (ae 2) (eK (.int 1))) (eK cH))) (GH (.bi k a b) none)=.ok ⟨.leaf,.bool (decide (aO a=dz)||(decide (aO b=.yes)||decide (aO b=dz)))⟩ (GH (.bi k a b) none):=zp (aI (i0 _) aS (fa.eq fn)) (zp (aI (i1 _) aS (fb.eq fy)) (aI (i1 _) aS (fb.eq fn)))
   have rest:k≠.and->k≠.or->aO (.bi k a b)=(if aO a=dz\/aO b=.yes\/aO b=dz then aO b else .bi k (aO a) (aO b))->∃sh:Sh,sh.isView=false/\aC 5 (dq (bb n)) [(Sn.bi k a b).enc]=.ok ⟨sh,(aO (.bi k a b)).enc⟩:=fun h1 h2 e=>by
    rw [e];have st:∀{p:PV},(aF (kn (aL bX (ae 3)) (ao (ae 2) (eK (.int 1))) (bq (ab (ae 1) (ab (ao (ae 2) (eK (.int 0))) (ab (ao (ae 2) (eK (.int 1))) af)))))) (GH (.bi k a b) (KZ (.bool (decide (aO a=dz)||(decide (aO b=.yes)||decide (aO b=dz))))))=.rt p->aC 5 (dq (bb n)) [(Sn.bi k a b).enc]=.ok p:=fun {p} hp=>
     aD (go (no (eZ (a:=false) (b:=false) (tq (qX _) (by cases k<;>rfl)) (tq (pZ _) (by cases k<;>rfl))) (no (tq (zY _) (by cases k<;>rfl)) (no (tq (FH _) (by cases k<;>first | rfl | exact absurd rfl h1)) (no (tq (gU _) (by cases k<;>first | rfl | exact absurd rfl h2)) (yes l2 (av (dU e3 rfl (by simp)) hp)))))))
    by_cases z:aO a=dz\/aO b=.yes\/aO b=dz
    ·rw [if_pos z]
     refine ⟨.leaf,rfl,st (aH (lG (t:=true) (iI (ay (by show some (some _)=_;rw [show (decide (aO a=dz)||(decide (aO b=.yes)||decide (aO b=dz)))=true by simpa using z]))) (fun _=>i1 _) (fun y=>nomatch y)) rfl)⟩
    ·rw [if_neg z]
     refine ⟨.tup [.leaf,.leaf,.leaf],rfl,st (aH (lG (t:=false) (iI (ay (by show some (some _)=_;rw [show (decide (aO a=dz)||(decide (aO b=.yes)||decide (aO b=dz)))=false by rw [Bool.eq_false_iff];intro y;exact z (by simpa using y)]))) (fun y=>nomatch y) (fun _=>bD (ax (ay rfl) (ax (i0 _) (ax (i1 _) aj))) rfl rfl)) rfl)⟩
   cases k with
   | and=>
    obtain ⟨sh,h1,h2⟩:=jC (k:=.and) fa fb fy fn
    exact ⟨sh,h1,aD (go (no (eZ (a:=false) (b:=false) (tq (qX _) rfl) (tq (pZ _) rfl)) (no (tq (zY _) rfl) (yes (tq (FH _) rfl) (aH (bY (ax (ay rfl) (ax (i0 _) (ax (i1 _) (ax aS (ax aS aj))))) h2 rfl rfl) h1)))))⟩
   | or=>
    obtain ⟨sh,h1,h2⟩:=jC (k:=.or) fa fb fn fy
    exact ⟨sh,h1,aD (go (no (eZ (a:=false) (b:=false) (tq (qX _) rfl) (tq (pZ _) rfl)) (no (tq (zY _) rfl) (no (tq (FH _) rfl) (yes (tq (gU _) rfl) (aH (bY (ax (ay rfl) (ax (i0 _) (ax (i1 _) (ax aS (ax aS aj))))) h2 rfl rfl) h1))))))⟩
   | su=>exact rest (by simp) (by simp) rfl
   | au=>exact rest (by simp) (by simp) rfl
noncomputable def gR:KY:=.tuple [.str "or",.str "all next",.str "all always"]
noncomputable def bZ:KY:=.tuple [.str "or",.str "all next",.str "all always",.str "all until"]
noncomputable def pM:FS:=(aq (dh (ag 1 aZ (ab (ae 0) af)))
  (aF (ag 1 cg (ab (ae 0) af))))
noncomputable def cU:List KY->bS:=aC 1 pM
noncomputable def d9:FS:=(aq (aB false 2 (bq (ab (eK (.str "not")) (ab (bq (ab (eK (.str "some always")) (ab (ae 1) af))) af))))
  (aq (bW (aL ai (az bj (ae 0) (eK cH))) (aF (ae 2)) aJ)
  (aF (bq (ab (eK (.str "and")) (ab (ae 2) (ab (bq (ab (eK (.str "not")) (ab (bq (ab (eK (.str "some until")) (ab (ae 1) (ab (bq (ab (eK (.str "and")) (ab (ae 0) (ab (ae 1) af)))) af)))) af))) af)))))))
noncomputable def bU:List KY->bS:=aC 3 d9
noncomputable def iV:FS:=(aq (aB false 2 (ao (ae 0) (eK (.int 0))))
  (aq (bW (aL ai (az bj (ae 2) (eK (.str "or")))) (aF (bq (ab (eK (.str "and")) (ab (ao (ae 1) (eK (.int 0))) (ab (ao (ae 1) (eK (.int 1))) af))))) aJ)
  (aq (bW (aL ai (az bj (ae 2) (eK (.str "all next")))) (aF (bq (ab (eK (.str "some next")) (ab (ao (ae 1) (eK (.int 0))) af)))) aJ)
  (aq (bW (aL ai (az bj (ae 2) (eK (.str "all always")))) (aF (bq (ab (eK (.str "some until")) (ab (eK gQ) (ab (ao (ae 1) (eK (.int 0))) af))))) aJ)
  (aq (bW (aL ai (az bj (ae 2) (eK (.str "all until")))) (aF (ag 2 bU (ab (ao (ae 1) (eK (.int 0))) (ab (ao (ae 1) (eK (.int 1))) af)))) aJ)
  (aF (kn (aL ai (az bj (ae 2) (eK (.str "mark")))) (ae 0) (jy (bq (ab (ae 2) af)) (jw (ae 1))))))))))
noncomputable def cb:List KY->bS:=aC 3 iV
noncomputable def lg (r_base_of:List KY->bS):FS:=(aq (aB false 2 (ao (ae 0) (eK (.int 0))))
  (aq (bW (aL ai (az bj (ae 2) (eK (.str "not")))) (aF (ag 2 r_base_of (ab (ao (ae 0) (eK (.int 1))) (ab (lY (ae 1)) af)))) aJ)
  (aq (aB false 3 (ag 2 cb (ab (ae 0) (ab (aA .leaf 4 (bV (ag 1 aN (ab (ae 0) af))) aK (ag 2 r_base_of (ab (ae 4) (ab (az (bQ true) (ae 2) (eK bZ)) af)))) af))))
  (aF (kn (aL ai (az bj (ae 1) (az (bQ false) (ae 2) (eK gR)))) (ag 1 cg (ab (ae 3) af)) (ae 3))))))
noncomputable def bO:Nat->List KY->bS
 | 0=>fun _=>.no
 | n+1=>aC 5 (lg (bO n))
noncomputable def kP:List KY->bS:=bO 20
noncomputable def CJ:FS:=(aq (dh (ag 1 aZ (ab (ae 0) af)))
  (aq (aB false 1 (ag 2 kP (ab (ag 1 fG (ab (ae 0) af)) (ab (eK (.bool true)) af))))
  (aq (bW (ff (aL bX (ag 1 cB (ab (ae 1) af)))) AE aJ)
  (aF (ae 1)))))
noncomputable def pD:List KY->bS:=aC 2 CJ
open PySem.SeqAt
theorem fw {s:Sn} (h:s.ok) (hs:s.size<=200) (hd:s.dep<=24):cB [s.enc]=.ok ⟨.leaf,.bool true⟩:=by
 obtain ⟨L,e,_⟩:=jA h hs hd;exact aD (aH (aI (bY (ax (ay rfl) aj) e rfl rfl) aS rfl) rfl)
theorem gW {s:Sn} (h:s.ok) (hs:s.size<=200) (hd:s.dep<=24):∃sh:Sh,sh.isView=false/\cU [s.enc]=.ok ⟨sh,(eL s).enc⟩:=by
 have c:=Ak h hs (by omega)
 obtain ⟨sh,h1,h2⟩:=Hr s;exact ⟨sh,h1,aD (av (zg (bY (ax (ay rfl) aj) c rfl rfl)) (aH (bY (ax (ay rfl) aj) h2 rfl rfl) h1))⟩
theorem yF {f g:Sn} (hf:Fit60 f):∃sh:Sh,sh.isView=false/\bU [f.enc,g.enc]=.ok ⟨sh,(CO f g).enc⟩:=by
 have s1:=dU (i:=2) (bD (fl:=ab (eK (.str "not")) (ab (bq (ab (eK (.str "some always")) (ab (ae 1) af))) af)) (Γ:=ah 3 [f.enc,g.enc]) (ax aS (ax (bD (ax aS (ax (ay rfl) aj)) rfl rfl) aj)) rfl rfl) rfl (by simp [ah])
 have t:aL ai (az bj (ae 0) (eK cH)) [KZ f.enc,KZ g.enc,KZ ((Sn.un .not (.un .sa g)).enc)]=.ok (decide (f=dz)) [KZ f.enc,KZ g.enc,KZ ((Sn.un .not (.un .sa g)).enc)]:=dA (aI (ay rfl) aS (hf.eq fn))
 unfold CO;by_cases z:f=dz
 ·rw [if_pos z]
  rw [decide_eq_true z] at t;exact ⟨.leaf,rfl,aD (av s1 (oF (bu t (fun _=>aH (ay rfl) rfl) nofun)))⟩
 ·rw [if_neg z]
  rw [decide_eq_false z] at t;exact ⟨_,rfl,aD (av s1 (av (bu t nofun (fun _=>rfl)) (aH (bD (ax aS (ax (ay rfl) (ax (bD (ax aS (ax (bD (ax aS (ax (ay rfl) (ax (bD (ax aS (ax (ay rfl) (ax (ay rfl) aj))) rfl rfl) aj))) rfl rfl) aj)) rfl rfl) aj))) rfl rfl) rfl)))⟩
theorem tY {Γ Γ1 Γ2:Ev} {fa fb:F1} {s s':Sh} {xs ys:List D} (ha:fa Γ=.ok ⟨s,.tuple xs⟩ Γ1) (hb:fb Γ1=.ok ⟨s',.tuple ys⟩ Γ2) (h0:s.isView=false) (h1:aE ⟨s',.tuple ys⟩ ys=true) (h2:xs.isEmpty=false) (hn:xs.length+ys.length<=10000):jy fa fb Γ=.ok ⟨.leaf,.tuple (xs++ys)⟩ Γ2:=by
 have hb':(10000:Nat)<=sizeLine:=by decide
 have:xs.length+ys.length<=sizeLine:=Nat.le_trans hn hb'
 unfold jy ba;rw [ha];simp only [oE]
 rw [hb];simp only [oE,h0,h1,h2,decide_eq_true this,Bool.not_false,Bool.and_self,if_true]
theorem wX {Γ Γ1:Ev} {fa:F1} {s:Sh} {ds:List D} (ha:fa Γ=.ok ⟨s,.list ds⟩ Γ1) (h1:aE ⟨s,.list ds⟩ ds=true):jw fa Γ=.ok ⟨.leaf,.tuple ds⟩ Γ1:=by
 unfold jw ba;rw [ha];simp only [oE,h1,if_true]
noncomputable def fl (s:Sn):Bool:=!decide (s.w=.or\/s.w=.an\/s.w=.aa\/s.w=.au)
noncomputable def tu (s:Sn):Bool:=decide (s.w=.or\/s.w=.an\/s.w=.aa)
noncomputable def zQ:Sn->Sn
 | .yes=>.yes
 | .mk c=>.mk c
 | .un .not a=>a
 | .un .sn a=>.un .sn (bR a true)
 | .un .an a=>.un .sn (bR a false)
 | .un .sa a=>.un .sa (bR a true)
 | .un .aa a=>.bi .su .yes (bR a false)
 | .bi .and a b=>.bi .and (bR a true) (bR b true)
 | .bi .or a b=>.bi .and (bR a false) (bR b false)
 | .bi .su a b=>.bi .su (bR a true) (bR b true)
 | .bi .au a b=>CO (bR a false) (bR b false)
theorem yV {s:Sn} (h:s.w≠.not) (so:Bool):bR s so=tn (tu s) so (zQ s):=by
 cases s with
 | yes=>rfl
 | mk c=>rfl
 | un k a=>cases k<;>first | exact absurd rfl h | rfl
 | bi k a b=>cases k<;>rfl
theorem Ca (a:Wr):bQ true (.str a.t) bZ=some (.bool (!decide (a=.or\/a=.an\/a=.aa\/a=.au))):=by cases a<;>kernel_rfl
theorem B8 (a:Wr):bQ false (.str a.t) gR=some (.bool (decide (a=.or\/a=.an\/a=.aa))):=by cases a<;>kernel_rfl
theorem Fb (a b:Bool):bj (.bool a) (.bool b)=some (.bool (decide (a=b))):=by cases a<;>cases b<;>kernel_rfl
noncomputable abbrev GP (s:Sn):Ev:=[KZ s.enc,KZ (.list (s.args.map fun a=>(bR a (fl s)).enc)),KZ (.str s.w.t)]
theorem pL {s:Sn} (hn:s.w≠.not) (hf:∀a∈s.args,Fit60 (bR a (fl s))):∃sh:Sh,sh.isView=false/\cb [s.enc,.list (s.args.map fun a=>(bR a (fl s)).enc)]=.ok ⟨sh,(zQ s).enc⟩:=by
 have go:∀{p:PV} {rest:FS},rest (GP s)=.rt p->(aq (aB false 2 (ao (ae 0) (eK (.int 0)))) rest) (ah 3 [s.enc,.list (s.args.map fun a=>(bR a (fl s)).enc)])=.rt p:=fun {p rest} hr=>
  av (dU Di rfl (by simp [ah])) hr
 have tq:∀{u:Wr} {t:Str} {v:Bool},bj (.str s.w.t) (.str t)=some (.bool (decide (s.w=u)))->decide (s.w=u)=v->aL ai (az bj (ae 2) (eK (.str t))) (GP s)=.ok v (GP s):=fun {u t v} h1 h2=>dA (aI (ay rfl) aS (by rw [<-h2];exact h1))
 have no:∀{c:FB} {a:FS} {rest:FS} {Γ:Ev} {o:dS},c Γ=.ok false Γ->rest Γ=o->aq (bW c a aJ) rest Γ=o:=fun h1 h2=>av (bu h1 nofun (fun _=>rfl)) h2
 have yes:∀{c:FB} {a:FS} {rest:FS} {Γ:Ev} {p:PV},c Γ=.ok true Γ->a Γ=.rt p->aq (bW c a aJ) rest Γ=.rt p:=fun h1 h2=>oF (bu h1 (fun _=>h2) nofun)
 have same:decide (s.w=.or)=false->decide (s.w=.an)=false->decide (s.w=.aa)=false->decide (s.w=.au)=false->decide (s.w=.mark)=false->(zQ s).enc=.tuple (.str s.w.t::s.args.map fun a=>(bR a (fl s)).enc)->∃sh:Sh,sh.isView=false/\cb [s.enc,.list (s.args.map fun a=>(bR a (fl s)).enc)]=.ok ⟨sh,(zQ s).enc⟩:=fun h1 h2 h3 h4 h5 e=>by
  rw [e];exact ⟨.leaf,rfl,aD (go (no (tq (gU _) h1) (no (tq (nT _) h2) (no (tq (qM _) h3) (no (tq (vz _) h4) (aH (lG (tq (pZ _) h5) nofun (fun _=>tY (bD (ax (ay rfl) aj) rfl rfl) (wX (ay rfl) rfl) rfl rfl rfl (by have:=s.args_le;simp only [length_map,length_cons,length_nil];omega))) rfl))))))⟩
 cases s with
 | yes=>exact same rfl rfl rfl rfl rfl rfl
 | mk c=>exact ⟨.leaf,rfl,aD (go (no (tq (gU _) rfl) (no (tq (nT _) rfl) (no (tq (qM _) rfl) (no (tq (vz _) rfl) (aH (lG (tq (pZ _) rfl) (fun _=>ay rfl) nofun) rfl))))))⟩
 | un k a=>
  have i0:ao (ae 1) (eK (.int 0)) (GP (.un k a))=.ok ⟨.leaf,(bR a (fl (.un k a))).enc⟩ (GP (.un k a)):=wc (j:=0) (ds:=[(bR a (fl (.un k a))).enc]) (ay rfl) aS rfl rfl rfl
  cases k with
  | not=>exact absurd rfl hn
  | sn=>exact same rfl rfl rfl rfl rfl rfl
  | sa=>exact same rfl rfl rfl rfl rfl rfl
  | an=>exact ⟨.tup [.leaf,.leaf],rfl,aD (go (no (tq (gU _) rfl) (yes (tq (nT _) rfl) (aH (bD (ax aS (ax i0 aj)) rfl rfl) rfl))))⟩
  | aa=>exact ⟨.tup [.leaf,.leaf,.leaf],rfl,aD (go (no (tq (gU _) rfl) (no (tq (nT _) rfl) (yes (tq (qM _) rfl) (aH (bD (ax aS (ax aS (ax i0 aj))) rfl rfl) rfl)))))⟩
 | bi k a b=>
  have i0:ao (ae 1) (eK (.int 0)) (GP (.bi k a b))=.ok ⟨.leaf,(bR a (fl (.bi k a b))).enc⟩ (GP (.bi k a b)):=wc (j:=0) (ds:=[(bR a (fl (.bi k a b))).enc,(bR b (fl (.bi k a b))).enc]) (ay rfl) aS rfl rfl rfl
  have i1:ao (ae 1) (eK (.int 1)) (GP (.bi k a b))=.ok ⟨.leaf,(bR b (fl (.bi k a b))).enc⟩ (GP (.bi k a b)):=wc (j:=1) (ds:=[(bR a (fl (.bi k a b))).enc,(bR b (fl (.bi k a b))).enc]) (ay rfl) aS rfl rfl rfl
  cases k with
  | and=>exact same rfl rfl rfl rfl rfl rfl
  | su=>exact same rfl rfl rfl rfl rfl rfl
  | or=>exact ⟨.tup [.leaf,.leaf,.leaf],rfl,aD (go (yes (tq (gU _) rfl) (aH (bD (ax aS (ax i0 (ax i1 aj))) rfl rfl) rfl)))⟩
  | au=>
   obtain ⟨sh,h1,h2⟩:=yF (f:=bR a (fl (.bi .au a b))) (g:=bR b (fl (.bi .au a b))) (hf a (by simp [Sn.args]))
   exact ⟨sh,h1,aD (go (no (tq (gU _) rfl) (no (tq (nT _) rfl) (no (tq (qM _) rfl) (yes (tq (vz _) rfl) (aH (bY (ax i0 (ax i1 aj)) h2 rfl rfl) h1))))))⟩
theorem lC {s a:Sn} (h:a∈s.args):a.size+1<=s.size:=by
 cases s with
 | yes=>simp [Sn.args] at h
 | mk c=>simp [Sn.args] at h
 | un k b=>simp [Sn.args] at h;subst h;simp [Sn.size]
 | bi k b c=>
  simp [Sn.args] at h
  simp only [Sn.size]
  rcases h with rfl | rfl<;>omega
theorem yU {s:Sn} (h:s.ok) (hz:s.size<=7) (so:Bool):Fit60 (bR s so):=by
 have:=HN h hz so
 exact ⟨this.ok,by have:=this.dp;have:=(IJ s.size (by omega)).2;omega⟩
theorem iH:∀(n:Nat) (s:Sn) (so:Bool),s.ok->s.size<=7->s.dep<=n->∃sh:Sh,sh.isView=false/\bO n [s.enc,.bool so]=.ok ⟨sh,(bR s so).enc⟩
 | 0,s,_,_,_,h=>by
  have:=s.dep_pos
  omega
 | n+1,s,so,hs,hz,h=>by
  show ∃sh:Sh,sh.isView=false/\aC 5 (lg (bO n)) [s.enc,.bool so]=_
  have ih:∀q,∀a∈s.args,∃sh:Sh,sh.isView=false/\bO n [a.enc,.bool q]=.ok ⟨sh,(bR a q).enc⟩:=fun q a ha=>iH n a q (Sn.args_ok hs a ha) (by have:=lC ha;omega) (by have:=Ac ha;omega)
  have ft:∀q,∀a∈s.args,Fit60 (bR a q):=fun q a ha=>yU (Sn.args_ok hs a ha) (by have:=lC ha;omega) q
  have t0:aL ai (az bj (ae 2) (eK (.str "not"))) [KZ s.enc,KZ (.bool so),KZ (.str s.w.t),none,none]=.ok (decide (s.w=.not)) [KZ s.enc,KZ (.bool so),KZ (.str s.w.t),none,none]:=dA (aI (ay rfl) aS (zY _))
  by_cases hn:s.w=.not
  ·obtain ⟨a,rfl⟩:∃a,s=.un .not a:=by
    cases s with
    | un k a=>cases k<;>first | exact ⟨a,rfl⟩ | (simp [Sn.w,U5.w] at hn)
    | bi k a b=>cases k<;>simp [Sn.w,B4.w] at hn
    | _=>simp [Sn.w] at hn
   obtain ⟨sh,h1,h2⟩:=ih (!so) a (by simp [Sn.args])
   rw [decide_eq_true hn] at t0;have i1:ao (ae 0) (eK (.int 1)) [KZ ((Sn.un .not a).enc),KZ (.bool so),KZ (.str (Sn.un .not a).w.t),none,none]=.ok ⟨.leaf,a.enc⟩ [KZ ((Sn.un .not a).enc),KZ (.bool so),KZ (.str (Sn.un .not a).w.t),none,none]:=jU (j:=1) (ds:=[.str Wr.not.t,a.enc]) (ay rfl) aS rfl rfl rfl
   exact ⟨sh,h1,aD (av (dU Di rfl (by simp [ah])) (oF (bu t0 (fun _=>aH (bY (ax i1 (ax (v_not (ay rfl)) aj)) h2 rfl rfl) h1) nofun)))⟩
  ·rw [decide_eq_false hn] at t0
   have c:aA .leaf 4 (bV (ag 1 aN (ab (ae 0) af))) aK (ag 2 (bO n) (ab (ae 4) (ab (az (bQ true) (ae 2) (eK bZ)) af))) [KZ s.enc,KZ (.bool so),KZ (.str s.w.t),none,none]=.ok ⟨.lst .leaf,.list (s.args.map fun a=>(bR a (fl s)).enc)⟩ [KZ s.enc,KZ (.bool so),KZ (.str s.w.t),none,none]:=by
    have q:=mw Sn.enc s.args (fun a=>Kg (bO n [a.enc,.bool (fl s)])) (s:=.leaf) (i:=4) (fi:=bV (ag 1 aN (ab (ae 0) af))) (fe:=ag 2 (bO n) (ab (ae 4) (ab (az (bQ true) (ae 2) (eK bZ)) af))) (st:=true) (Γ:=[KZ s.enc,KZ (.bool so),KZ (.str s.w.t),none,none]) (by simp [C8,aE]) (by simp) rfl (by have:=s.args_le;omega) (fun a ha=>by
     obtain ⟨sh,h1,h2⟩:=ih (fl s) a ha;refine ⟨bY (ps:=[⟨.leaf,a.enc⟩,⟨.leaf,.bool (fl s)⟩]) (ax (ay rfl) (ax (aI (ay rfl) aS (Ca _)) aj)) (by show bO n [a.enc,.bool (fl s)]=_;rw [h2];rfl) rfl rfl,?_⟩
     rw [h2];exact tM h1)
    rw [q];congr 3
    refine List.map_congr_left fun a ha=>?_
    obtain ⟨sh,h1,h2⟩:=ih (fl s) a ha;rw [h2];rfl
   obtain ⟨sh,h1,h2⟩:=pL hn (ft (fl s));obtain ⟨sk,k1,k2⟩:=Hr (zQ s);have t3:aL ai (az bj (ae 1) (az (bQ false) (ae 2) (eK gR))) [KZ s.enc,KZ (.bool so),KZ (.str s.w.t),KZ ((zQ s).enc),none]=.ok (decide (so=tu s)) [KZ s.enc,KZ (.bool so),KZ (.str s.w.t),KZ ((zQ s).enc),none]:=dA (aI (ay rfl) (aI (ay rfl) aS (B8 _)) (Fb _ _))
   have go:∀{p:PV} {rest:FS},rest [KZ s.enc,KZ (.bool so),KZ (.str s.w.t),KZ ((zQ s).enc),none]=.rt p->(aq (aB false 2 (ao (ae 0) (eK (.int 0)))) (aq (bW (aL ai (az bj (ae 2) (eK (.str "not")))) (aF (ag 2 (bO n) (ab (ao (ae 0) (eK (.int 1))) (ab (lY (ae 1)) af)))) aJ) (aq (aB false 3 (ag 2 cb (ab (ae 0) (ab (aA .leaf 4 (bV (ag 1 aN (ab (ae 0) af))) aK (ag 2 (bO n) (ab (ae 4) (ab (az (bQ true) (ae 2) (eK bZ)) af)))) af)))) rest))) (ah 5 [s.enc,.bool so])=.rt p:=fun {p rest} hr=>
    av (dU Di rfl (by simp [ah])) (av (bu t0 nofun (fun _=>rfl)) (av (dU (bY (ax (ay rfl) (ax c aj)) h2 rfl rfl) (tM h1) (by simp [ah])) hr))
   rw [yV hn];unfold tn;by_cases z:so=tu s
   ·rw [if_pos z]
    rw [decide_eq_true z] at t3;exact ⟨sk,k1,aD (go (aH (lG t3 (fun _=>bY (ax (ay rfl) aj) k2 rfl rfl) nofun) k1))⟩
   ·rw [if_neg z]
    rw [decide_eq_false z] at t3;exact ⟨.leaf,rfl,aD (go (aH (lG t3 nofun (fun _=>ay rfl)) rfl))⟩
theorem vH {s:Sn} (h:s.ok) (hz:s.size<=7) (hd:s.dep<=20):pD [s.enc]=.ok ⟨.leaf,(bR (aO s) true).enc⟩:=by
 have c:=Ak h (by omega) (by omega)
 have S:=Hm h
 have sz:=S.sz
 have dp:=S.dp
 obtain ⟨sh,h1,h2⟩:=Iz 20 s h hd (by omega)
 obtain ⟨sk,k1,k2⟩:=iH 20 (aO s) true S.ok (by omega) (by omega)
 have B:=HN S.ok (by omega) true
 have b1:=B.sz
 have b2:=B.dp
 obtain ⟨b3,b4⟩:=IJ (aO s).size (by omega)
 have di:=fw B.ok (by omega) (by omega)
 exact aD (av (zg (bY (ax (ay rfl) aj) c rfl rfl)) (av (dU (bY (ax (bY (ax (ay rfl) aj) h2 rfl rfl) (ax aS aj)) k2 rfl (by
  show (coer .leaf ⟨sh,(aO s).enc⟩&&(coer .leaf ⟨.leaf,.bool true⟩&&true))=true
  rw [tM h1];rfl)) (tM k1) (by simp [ah])) (av (bu (lB (iI (bY (ax (ay rfl) aj) di rfl rfl))) nofun (fun _=>rfl)) (aH (ay rfl) rfl))))
end KC
namespace T
open PySem
theorem HD {xs:Array Nat} {j p:Nat} (hp:∀k,k<xs.size->(xs.getD k j<j↔k<p)):∀(fuel lo hi:Nat),lo<=p->p<=hi->hi<=xs.size->hi-lo<=fuel->SetTable.below.go xs j fuel lo hi=p
 | 0,lo,hi,h1,h2,h3,h4=>by
  unfold SetTable.below.go;omega
 | n+1,lo,hi,h1,h2,h3,h4=>by
  unfold SetTable.below.go;by_cases c:lo<hi
  ·rw [if_pos c]
   have hm:=hp ((lo+hi) / 2) (by omega)
   simp only
   by_cases d:xs.getD ((lo+hi) / 2) j<j
   ·rw [if_pos d]
    have:=hm.mp d
    exact HD hp n _ _ (by omega) h2 h3 (by omega)
   ·rw [if_neg d]
    have:¬(lo+hi) / 2<p:=fun z=>d (hm.mpr z)
    exact HD hp n _ _ h1 (by omega) (by omega) (by omega)
  ·rw [if_neg c]
   omega
theorem HE {xs:Array Nat} {j p:Nat} (hp:∀k,k<xs.size->(xs.getD k j<j↔k<p)) (hs:p<=xs.size):SetTable.below xs j=p:=HD hp xs.size 0 xs.size (Nat.zero_le _) hs (KW _) (by omega)
noncomputable def Rs (xs:Array Nat):Prop:=xs.toList.Pairwise (· < ·)
theorem Rs.lt {xs:Array Nat} (h:Rs xs) {i k:Nat} (hi:i<xs.size) (hk:k<xs.size) (hik:i<k):xs[i]<xs[k]:=by
 have:=(List.pairwise_iff_getElem.mp h) i k (by simpa using hi) (by simpa using hk) hik
 simpa using this
theorem pT {xs:Array Nat}:SetTable.below xs 0=0:=HE (fun k _=>by simp) (Nat.zero_le _)
theorem Ad {xs:Array Nat} {k j:Nat} (hk:k<xs.size):xs.getD k j=xs[k]:=by
 unfold Array.getD;rw [dif_pos hk];rfl
theorem pU {xs:Array Nat} (h:Rs xs) {i:Nat} (hi:i<xs.size):SetTable.below xs (xs[i]+1)=i+1:=by
 refine HE (fun k hk=>?_) (by omega)
 rw [Ad hk];rcases Nat.lt_trichotomy k i with c | c | c
 ·have:=h.lt hk hi c
  omega
 ·subst c
  omega
 ·have:=h.lt hi hk c
  omega
theorem jg (j:Nat):∀(l:List Nat),l.Pairwise (· < ·)->∀k,k<l.length->(l.getD k j<j↔k<l.countP (·<j))
 | [],_,k,hk=>by simp at hk
 | a::l,h,k,hk=>by
  obtain ⟨h1,h2⟩:=List.pairwise_cons.mp h;rw [List.countP_cons];by_cases c:a<j
  ·simp only [c,decide_true,if_true]
   cases k with
   | zero=>simpa using c
   | succ k=>
    have:=jg j l h2 k (by simpa using hk)
    simp only [List.getD_cons_succ]
    omega
  ·have z:l.countP (·<j)=0:=List.countP_eq_zero.mpr fun b hb=>by
    have:=h1 b hb
    simp
    omega
   simp only [c,decide_false,Bool.false_eq_true,if_false,z]
   cases k with
   | zero=>simp;omega
   | succ k=>
    have hk':k<l.length:=by simpa using hk
    simp only [List.getD_cons_succ]
    rw [KN,KM hk'];have:=h1 _ (getElem_mem hk')
    simp only [Option.getD_some]
    omega
theorem Rs.point {xs:Array Nat} (h:Rs xs) (j:Nat):(∀k,k<xs.size->(xs.getD k j<j↔k<SetTable.below xs j))/\SetTable.below xs j<=xs.size:=by
 have hp:∀k,k<xs.size->(xs.getD k j<j↔k<xs.toList.countP (·<j)):=fun k hk=>by
  have:=jg j xs.toList h k (by simpa using hk)
  rw [KN,KM (by simpa using hk)] at this
  rw [Ad hk];simpa using this
 have hc:xs.toList.countP (·<j)<=xs.size:=by
  have:=List.countP_le_length (p:=(·<j)) (l:=xs.toList)
  simpa using this
 rw [HE hp hc];exact ⟨hp,hc⟩
theorem Rs.insert {xs:Array Nat} (h:Rs xs) {j:Nat} (hj:xs[SetTable.below xs j]?≠some j):Rs (SetTable.insertAt xs (SetTable.below xs j) j):=by
 obtain ⟨hp,hs⟩:=h.point j;generalize SetTable.below xs j=p at hp hs hj
 unfold Rs SetTable.insertAt;have e:(((xs.extract 0 p).push j)++xs.extract p xs.size).toList=xs.toList.take p++[j]++xs.toList.drop p:=by
  simp [Array.toList_extract,List.extract]
  rw [take_of_length_le (by simp)]
 rw [e,append_assoc,List.pairwise_append];have low:∀a∈xs.toList.take p,a<j:=fun a ha=>by
  obtain ⟨k,hk,rfl⟩:=getElem_of_mem ha;rw [length_take] at hk;have hk':k<xs.size:=by
   have:k<xs.toList.length:=by omega
   simpa using this
  have:=(hp k hk').mpr (by omega)
  rw [Ad hk'] at this;simpa using this
 have up:∀a∈xs.toList.drop p,j<a:=fun a ha=>by
  obtain ⟨k,hk,rfl⟩:=getElem_of_mem ha;rw [length_drop,Array.length_toList] at hk;have hk':p+k<xs.size:=by omega
  have q:¬xs.getD (p+k) j<j:=fun z=>by have:=(hp (p+k) hk').mp z;omega
  rw [Ad hk'] at q;have e1:(xs.toList.drop p)[k]=xs[p+k]:=by simp
  rw [e1];have hne:xs[p+k]≠j:=fun z=>by
   cases k with
   | zero=>
    simp only [Nat.add_zero] at z
    exact hj (by rw [Array.getElem?_eq_getElem (by omega),z])
   | succ k=>
    have hp':p<xs.size:=by omega
    have q0:¬xs.getD p j<j:=fun z=>by have:=(hp p hp').mp z;omega
    rw [Ad hp'] at q0;have:=h.lt hp' hk' (by omega)
    omega
  omega
 refine ⟨h.sublist (List.take_sublist _ _),?_,fun a ha b hb=>?_⟩
 ·rw [List.singleton_append,List.pairwise_cons]
  exact ⟨up,h.sublist (List.drop_sublist _ _)⟩
 ·have l1:=low a ha
  rw [List.singleton_append] at hb;rcases KL hb with rfl | hb
  ·exact l1
  ·have:=up b hb
   omega
theorem uo {n:Nat}:Rs (Array.range n):=by
 unfold Rs;rw [Array.toList_range];exact List.pairwise_lt_range
structure Tb (b:Bool) (t:SetTable):Prop where
 led:b=false->t.led=true
 rs:Rs t.place
 nd:t.dummies=#[]
theorem Tb.fresh {b:Bool}:Tb b (.fresh 0 0 (!b)):=⟨fun e=>by rw [e];rfl,List.Pairwise.nil,rfl⟩
theorem Tb.standIn {b:Bool} {t:SetTable} (h:Tb b t) (n:Nat):Tb b (t.standIn n):=⟨h.led,uo,rfl⟩
theorem Tb.orStandIn {b:Bool} {t:SetTable} (h:Tb b t) (n:Nat):Tb b (t.orStandIn n):=by
 unfold SetTable.orStandIn;split
 ·exact h
 ·exact h.standIn n
theorem Tb.plain {b:Bool} {t:SetTable} (h:Tb b t) (p:Bool):Tb b { t with plain:=p }:=⟨h.led,h.rs,h.nd⟩
theorem nE {j:Nat}:SetTable.has #[] j=false:=by
 unfold SetTable.has;simp
theorem Tb.put {b:Bool} {t:SetTable} (h:Tb b t) {j:Nat} (hj:t.place[SetTable.below t.place j]?≠some j):Tb b (t.put j).1:=by
 refine ⟨h.led,h.rs.insert hj,?_⟩
 show (if SetTable.has t.dummies j=true then _ else t.dummies)=#[]
 rw [h.nd,nE];rfl
theorem ix {b:Bool} {t:SetTable} (h:Tb b t) {ha:Nat->Int} {k:Int}:∀(fuel:Nat) (p:SetTable.Probe),p.dummy=none->∀j d,SetTable.probe.go t ha k fuel p=some (.empty j d)->d=none/\t.place[SetTable.below t.place j]?≠some j
 | 0,p,_,j,d,e=>by unfold SetTable.probe.go at e;cases e
 | n+1,p,hp,j,d,e=>by
  unfold SetTable.probe.go at e;have adv:(t.advance p).dummy=none:=by
   unfold SetTable.advance;split
   ·exact hp
   ·exact hp
  cases q:t.slot p.j with
  | empty=>
   rw [q] at e;simp only [Option.some.injEq,SetTable.Met.empty.injEq] at e
   obtain ⟨rfl,rfl⟩:=e;refine ⟨hp,fun z=>?_⟩
   unfold SetTable.slot at q;simp only [z,beq_self_eq_true,if_true] at q
   cases q
  | dummy=>
   unfold SetTable.slot at q;simp only [h.nd,nE] at q
   split at q<;>simp at q
  | live i=>
   rw [q] at e;simp only at e
   split at e
   ·cases e
   ·exact ix h n _ adv j d e
theorem Tb.free {b:Bool} {t:SetTable} (h:Tb b t) {k:Int} {j:Nat} {d:Bool} (e:t.freeSlot k=some (j,d)):t.place[SetTable.below t.place j]?≠some j:=by
 unfold SetTable.freeSlot at e
 cases q:t.probe (fun _=>k+1) k (t.probeStart k) with
 | none=>rw [q] at e;cases e
 | some m=>
  rw [q] at e
  cases m with
  | candidate _ _ _=>cases e
  | empty i x=>
   obtain ⟨rfl,hi⟩:=ix h _ _ rfl i x q;simp only [Option.some.injEq,Prod.mk.injEq] at e
   obtain ⟨rfl,_⟩:=e;exact hi
theorem Tb.layNew {b:Bool} {t:SetTable} (h:Tb b t) (es:Array (Int×Value)) (k:Int) (x:Value):Tb b (PySem.layNew t es k x).2.1:=by
 unfold PySem.layNew
 cases e:t.freeSlot k with
 | none=>exact h.standIn _
 | some jd=>
  obtain ⟨j,d⟩:=jd;exact (h.put (h.free e)).orStandIn _
theorem yj {b led plain:Bool} {mask fg mv:Nat} {hs:Array Int} {t:SetTable} {o:Array Nat} (hl:b=false->led=true) (e:SetTable.laid mask fg mv led plain hs=some (t,o)):Tb b t:=by
 unfold SetTable.laid at e
 cases q:SetTable.layClean mask hs with
 | none=>rw [q] at e;cases e
 | some ow=>
  rw [q] at e;simp only [Option.bind_eq_bind,Option.bind_some,Option.pure_def,Option.some.injEq,Prod.mk.injEq] at e
  obtain ⟨rfl,_⟩:=e;refine ⟨hl,?_,rfl⟩
  unfold Rs;simp only [List.toList_toArray]
  rw [List.pairwise_map];refine List.Pairwise.filterMap _ (R:=(· < ·)) (fun a a' haa' c hc c' hc'=>?_) List.pairwise_lt_range
  cases x:ow.getD a none with
  | none=>rw [x] at hc;cases hc
  | some y=>
   cases x':ow.getD a' none with
   | none=>rw [x'] at hc';cases hc'
   | some y'=>
    rw [x] at hc;rw [x'] at hc'
    cases hc
    cases hc'
    exact haa'
theorem Tb.relay {b:Bool} {t:SetTable} (h:Tb b t) (es:Array (Int×Value)) (n:Nat):Tb b (relayAll t es n).2.1:=by
 unfold relayAll
 cases e:t.relaid (es.map (·.1)) n with
 | none=>exact h.standIn _
 | some to=>
  obtain ⟨t',o⟩:=to;simp only
  split
  ·unfold SetTable.relaid at e
   exact yj h.led e
  ·exact h.standIn _
open PySem.Spec L2
open PyProof.Rows hiding St
noncomputable abbrev eA (w:World):Bool:=w.params.followText "set-order"
section
variable {P:Program} {w:World} {A:Around} {E:Value->Shared->Prop} {s:Shared}
noncomputable abbrev jl (w:World):Obj:={ cls:=.type "set",dict:=none,data:=.set #[] 0 (.fresh 0 0 (!eA w)) }
theorem EI (a:Value) {Q:Value->Shared->Prop} (h:Q (.ref s.heap.objs.size) { s with heap:=s.heap.push (jl w) }):codeAny (model P w) A (.call (.builtin "set.__new__") ⟨[.type "set",a],[]⟩) (wants Q E) s:=by
 refine codeAny_of_tree ?_
 refine KR (wpAny_of_eq (F.newCall_set_1 a) (KS ⟨plainId_quiet F.plain_set_new _,codeAny_builtin F.entry_set_new ?_⟩))
 rw [Around.under_plainId F.plain_set_new _];unfold Builtin.«set.__new__» Builtin.Frozenset.newClass
 have sub:=sub_set_self
 obtain ⟨hp,g,d,tk,os⟩:=s;dsimp only;wp_walk
 refine wpAny_askSetting (KS ?_)
 dsimp only;simp only [newObj]
 exact KR (wpAny_alloc (KS (KS h)))
end
theorem lX:entryFor table "set.__iter__"=some Builtin.«frozenset.__iter__»:=entryFor_alias (id' := "frozenset.__iter__") (by kernel_rfl) rfl (by decide +kernel) (by kernel_rfl)
theorem slot_si_next:Slot "set_iterator" "__next__" "set_iterator.__next__":=
 .of (owner := "set_iterator") (n := "__next__") (by rw [typeLookup_type,builtinLookup_eq_fast];kernel_rfl) (by decide +kernel) (by decide +kernel) (by decide +kernel) (by first | exact .inl (by decide +kernel) | exact .inr (by decide +kernel)) (by rw [isSubtype_type];kernel_rfl)
theorem Gr:entryFor table "set_iterator.__next__"=some Builtin.«set_iterator.__next__»:=entryFor_of_tree (by kernel_rfl)
theorem Gg (a:Value):argsOk "set_iterator.__next__" ⟨[a],[]⟩:=by
 unfold argsOk;rw [signature?_of (id := "set_iterator.__next__") (n:=['_','_','t','x','e','n','_','_']) (o:=['r','o','t','a','r','e','t','i','_','t','e','s']) (by kernel_rfl) (show Manifest.owners.lookup (String.ofList ['r','o','t','a','r','e','t','i','_','t','e','s'].reverse)=some Manifest.sig_set_iterator by kernel_rfl)]
 kernel_rfl
theorem qv {α:Type} (next:Nat->Nat):∀(fuel k:Nat) (l:List α) (out:Array α),l.length=fuel->(pickOrder.go next fuel k l out).toList.Perm (out.toList++l)
 | 0,k,l,out,h=>by
  unfold pickOrder.go;rw [List.length_eq_zero_iff.mp h,append_nil]
 | n+1,k,l,out,h=>by
  unfold pickOrder.go;have lt:next k % l.length<l.length:=Nat.mod_lt _ (by omega)
  generalize next k % l.length=j at lt
  rw [KM lt];simp only
  have ih:=qv next n (k+1) (l.eraseIdx j) (out.push l[j]) (by rw [List.length_eraseIdx_of_lt lt];omega)
  refine ih.trans ?_
  rw [Array.toList_push,append_assoc];refine List.Perm.append_left _ ?_
  rw [List.singleton_append];rw [List.eraseIdx_eq_take_drop_succ];have e:l=l.take j++l[j]::l.drop (j+1):=by rw [List.getElem_cons_drop,List.take_append_drop]
  conv=>rhs;rw [e]
  exact List.perm_middle.symm
theorem HZ {α:Type} (next:Nat->Nat) (xs:Array α):(pickOrder next xs).toList.Perm xs.toList:=by
 unfold pickOrder;have:=qv next xs.size 0 xs.toList #[] (by simp)
 simpa using this
section
variable {P:Program} {w:World} {A:Around} {E:Value->Shared->Prop} {s:Shared} {S it:Addr} {o:Obj} {es:Array (Int×Value)} {ep:Nat} {t:SetTable}
theorem qB (ht:eA w=true) (ho:s.heap.get? S=some o) (hd:o.data=.set es ep t) (hf:t.fits es.size=true) {sl i:Nat} {Q:Option (Value×Nat)->Shared->Prop} (h:Q (((pickOrder (w.params.setOrder S ep) es)[i]?).map fun e=>(e.2,sl)) s):wpAny (model P w) A (setNext S sl i ep) Q E s:=by
 unfold setNext;refine KR (wpAny_setState_of ho hd hf ?_)
 dsimp only;refine KR ?_
 unfold setsByText;refine KR (wpAny_askSetting (KS ?_))
 show wpAny (model P w) A (if eA w=true then _ else _) Q E s
 rw [if_pos ht];simp only [bne_self_eq_false,Bool.false_eq_true,if_false]
 refine KR ?_
 unfold setWalk;refine KR (wpAny_setState_of ho hd hf ?_)
 dsimp only;refine KR ?_
 unfold setsByText;refine KR (wpAny_askSetting (KS ?_))
 show wpAny (model P w) A (if eA w=true then _ else _) _ E s
 rw [if_pos ht];exact KR (wpAny_askSetting (KS (KS h)))
theorem kW (hf:t.fits es.size=true):t.place.size=es.size:=by
 unfold SetTable.fits at hf;rw [Bool.and_eq_true,beq_iff_eq] at hf;exact hf.1
theorem qC (ht:eA w=false) (tb:Tb (eA w) t) (hp:(!t.plain&&decide (es.size>1))=false) (ho:s.heap.get? S=some o) (hd:o.data=.set es ep t) (hf:t.fits es.size=true) {sl i:Nat} {Q:Option (Value×Nat)->Shared->Prop}
  (h:Q (match es[SetTable.below t.place sl]?,t.place[SetTable.below t.place sl]? with | some (_,x),some j=>some (x,j+1) | _,_=>none) s):wpAny (model P w) A (setNext S sl i ep) Q E s:=by
 have led:=tb.led ht
 unfold setNext;refine KR (wpAny_setState_of ho hd hf ?_)
 dsimp only;refine KR ?_
 unfold setsByText;refine KR (wpAny_askSetting (KS ?_))
 show wpAny (model P w) A (if eA w=true then _ else _) Q E s
 rw [if_neg (by rw [ht];exact Bool.false_ne_true)]
 show wpAny (model P w) A (if (!t.plain&&decide (es.size>1))=true then _ else _) Q E s
 rw [if_neg (by rw [hp];exact Bool.false_ne_true)]
 show wpAny (model P w) A ((if (!t.led&&!es.isEmpty)=true then _ else _) >>= _) Q E s
 rw [if_neg (by rw [led];simp)]
 exact KR (KS (KS h))
end
noncomputable def SetIt (h:Heap) (it S:Addr) (f:Value) (i n ep:Nat):Prop:=∃o,h.get? it=some o/\o.cls=.type "set_iterator"/\o.data=.fields #[f,.int i 0,.ref S,.int n 0,.int ep 0]
theorem SetIt.at {h h':Heap} {it S:Addr} {f:Value} {i n ep:Nat} (x:SetIt h it S f i n ep) (k:∀o,h.get? it=some o->h'.get? it=some o):SetIt h' it S f i n ep:=let ⟨o,a,b⟩:=x;⟨o,k o a,b⟩
section
variable {P:Program} {w:World} {A:Around} {E:Value->Shared->Prop} {s:Shared} {S it:Addr} {o:Obj} {es:Array (Int×Value)} {ep:Nat} {t:SetTable} {i n sl nx:Nat} {x:Value} {Q:Option Value->Shared->Prop}
theorem nL (hit:SetIt s.heap it S (.int sl 0) i n ep) (ho:s.heap.get? S=some o) (hd:o.data=.set es ep t) (hf:t.fits es.size=true) (hn:es.size=n)
  (hN:∀(A:Around) (E:Value->Shared->Prop) (R:Option (Value×Nat)->Shared->Prop),R (some (x,nx)) s->wpAny (model P w) A (setNext S sl i ep) R E s)
  (hQ:∀h',SetIt h' it S (.int nx 0) (i+1) n ep->Heap.SameBut it s.heap h'->Q (some x) { s with heap:=h' }):wpAny (model P w) A (pyNext (.ref it)) Q E s:=by
 obtain ⟨oi,gi,ci,di⟩:=hit;have ty:s.TypeIs (.ref it) "set_iterator":=⟨oi,gi,ci⟩
 unfold pyNext;refine KR (wpAny_attempt (wpAny_callSpecial?_slot (name:=Str.ofString "__next__") ty slot_si_next (wpAny_call_entry slot_si_next ty Gr ?_ (Gg _))))
 unfold Builtin.«set_iterator.__next__»
 refine KR (KS ?_)
 refine KR (wpAny_fieldsOf gi di ?_)
 dsimp only;refine KR (wpAny_setEntries_of ho hd hf ?_)
 rw [if_neg (by rw [hn];simp)]
 simp only [Int.toNat_natCast]
 refine KR (hN _ _ _ ?_)
 dsimp only;refine KR (wpAny_setField gi di (by simp) ?_)
 have g1:=Heap.get?_update_self (Obj.mapFields (·.setIfInBounds 0 (rawInt nx))) gi (Obj.isFreed_of_fields (Obj.data_mapFields di _))
 have d1:=Obj.data_mapFields di (·.setIfInBounds 0 (rawInt nx))
 refine KR (wpAny_setField g1 d1 (by simp) (KS ⟨x,rfl,KS (hQ _ ?_ ((Heap.SameBut.update ..).trans (Heap.SameBut.update ..)))⟩))
 refine ⟨_,Heap.get?_update_self _ g1 (Obj.isFreed_of_fields (Obj.data_mapFields d1 _)),(Obj.cls_mapFields ..).trans ((Obj.cls_mapFields ..).trans ci),?_⟩
 rw [Obj.data_mapFields d1];simp [rawInt]
theorem qN (hh:A.handled=none) (hit:SetIt s.heap it S (.int sl 0) i n ep) (ho:s.heap.get? S=some o) (hd:o.data=.set es ep t) (hf:t.fits es.size=true) (hn:es.size=n)
  (hN:∀(A:Around) (E:Value->Shared->Prop) (R:Option (Value×Nat)->Shared->Prop),R none s->wpAny (model P w) A (setNext S sl i ep) R E s)
  (hQ:∀h',Heap.ExtBut it s.heap h'->Q none { s with heap:=h' }):wpAny (model P w) A (pyNext (.ref it)) Q E s:=by
 obtain ⟨oi,gi,ci,di⟩:=hit;have ty:s.TypeIs (.ref it) "set_iterator":=⟨oi,gi,ci⟩
 unfold pyNext;refine KR (wpAny_attempt (wpAny_callSpecial?_slot (name:=Str.ofString "__next__") ty slot_si_next (wpAny_call_entry slot_si_next ty Gr ?_ (Gg _))))
 unfold Builtin.«set_iterator.__next__»
 refine KR (KS ?_)
 refine KR (wpAny_fieldsOf gi di ?_)
 dsimp only;refine KR (wpAny_setEntries_of ho hd hf ?_)
 rw [if_neg (by rw [hn];simp)]
 simp only [Int.toNat_natCast]
 refine KR (hN _ _ _ ?_)
 dsimp only;refine KR (wpAny_setField gi di (by simp) ?_)
 refine KR ?_
 simp only [newExc,newTuple]
 refine KR (wpAny_newObj_type ?_ (by size_fits))
 refine KR (m:=firstArgMember _ _) (wpAny_of_eq (a:=Value.none) (by first | rfl | (simp only [firstArgMember];rfl)) ?_)
 refine wpAny_newObj_type ?_ (by size_fits)
 simp only [raiseNew]
 refine KR (wpAny_handled ?_)
 rw [show A.in1.handled=none from hh];refine KR (KS (wpAny_throw ?_))
 refine KR (wpAny_isInstance (T := "StopIteration") (b:=true) ⟨_,Heap.get?_push_size _ rfl,rfl⟩ isSubtype_stop ?_)
 exact KS (hQ _ (((Heap.SameBut.update ..).extBut.push _).push _))
end
theorem gG:Slot "set_iterator" "__iter__" "set_iterator.__iter__":=
 .of (owner := "set_iterator") (n := "__iter__") (by rw [typeLookup_type,builtinLookup_eq_fast];kernel_rfl) (by decide +kernel) (by decide +kernel) (by decide +kernel) (by first | exact .inl (by decide +kernel) | exact .inr (by decide +kernel)) (by rw [isSubtype_type];kernel_rfl)
theorem kl:entryFor table "set_iterator.__iter__"=some Builtin.«dict_keyiterator.__iter__»:=entryFor_alias (id' := "dict_keyiterator.__iter__") (by kernel_rfl) (by first | rfl | decide +kernel) (by decide +kernel) (by kernel_rfl)
theorem mq (a:Value):argsOk "set_iterator.__iter__" ⟨[a],[]⟩:=by
 unfold argsOk;rw [signature?_of (id := "set_iterator.__iter__") (n:=['_','_','r','e','t','i','_','_']) (o:=['r','o','t','a','r','e','t','i','_','t','e','s']) (by kernel_rfl) (show Manifest.owners.lookup (String.ofList ['r','o','t','a','r','e','t','i','_','t','e','s'].reverse)=some Manifest.sig_set_iterator by kernel_rfl)]
 kernel_rfl
section
variable {P:Program} {w:World} {A:Around} {E:Value->Shared->Prop} {s:Shared} {S it:Addr} {o:Obj} {es:Array (Int×Value)} {ep:Nat} {t:SetTable} {i n:Nat} {f:Value}
theorem HB {Q:Value->Shared->Prop} (hit:SetIt s.heap it S f i n ep) (h:Q (.ref it) s):wpAny (model P w) A (pyIter (.ref it)) Q E s:=by
 obtain ⟨oi,gi,ci,_⟩:=hit;have ty:s.TypeIs (.ref it) "set_iterator":=⟨oi,gi,ci⟩
 refine wpAny_pyIter_slot ty gG (wpAny_call_entry gG ty kl ?_ (mq _))
 show wpAny _ _ (ret (.ref it)) _ _ s
 exact KS ⟨_,rfl, "set_iterator",_,ty,slot_si_next.lookup,h⟩
theorem wR (hh:A.handled=none) (ht:eA w=true) (hne:S≠it) (hd:o.data=.set es ep t) (hf:t.fits es.size=true) (hn:es.size=n) :
  Walks P w A it [it,S] [it] n (fun i v=>((pickOrder (w.params.setOrder S ep) es).toList.map (·.2))[i]?=some v) (fun i h=>SetIt h it S (.int 0 0) i n ep/\h.get? S=some o) where
 sub:=fun b hb=>by simp at hb;simp [hb]
 frame:=fun _ _ _ st hk=>⟨st.1.at fun o e=>hk it (by simp) o e,hk S (by simp) o st.2⟩
 item:=fun i s Q E hi st hQ=>by
  have hl:(pickOrder (w.params.setOrder S ep) es).size=n:=by rw [<-Array.length_toList,(HZ _ es).length_eq,Array.length_toList,hn]
  have hi':i<(pickOrder (w.params.setOrder S ep) es).size:=by rw [hl];exact hi
  refine nL (x:=((pickOrder (w.params.setOrder S ep) es)[i]).2) (nx:=0) st.1 st.2 hd hf hn (fun A E R h=>qB ht st.2 hd hf (by rw [Array.getElem?_eq_getElem hi'];exact h)) fun h' it' sb=>?_
  exact hQ _ h' s.toks (by rw [getElem?_map,Array.getElem?_toList,Array.getElem?_eq_getElem hi'];rfl) ⟨it',sb.extBut S o hne st.2⟩ fun b o hb e=>sb.extBut b o (fun z=>hb (by simp [z])) e
 done:=fun s Q E st hQ=>by
  have hl:(pickOrder (w.params.setOrder S ep) es).size=n:=by rw [<-Array.length_toList,(HZ _ es).length_eq,Array.length_toList,hn]
  exact qN hh st.1 st.2 hd hf hn (fun A E R h=>qB ht st.2 hd hf (by rw [Array.getElem?_eq_none (by omega)];exact h)) fun h' eb=>hQ h' s.toks fun b o hb e=>eb b o (fun z=>hb (by simp [z])) e
 self:=fun _ _ _ _ st hQ=>HB st.1 hQ
noncomputable abbrev rC (t:SetTable) (i:Nat):Nat:=if i=0 then 0 else t.place.getD (i-1) 0+1
theorem mR (tb:Tb (eA w) t) (hf:t.fits es.size=true) (hi:i<=es.size):SetTable.below t.place (rC t i)=i:=by
 have hs:=kW hf
 unfold rC;by_cases c:i=0
 ·rw [if_pos c,c]
  exact pT
 ·rw [if_neg c,Ad (by omega),pU tb.rs (by omega)]
  omega
theorem wU (hh:A.handled=none) (ht:eA w=false) (tb:Tb (eA w) t) (hp:(!t.plain&&decide (es.size>1))=false) (hne:S≠it) (hd:o.data=.set es ep t) (hf:t.fits es.size=true) (hn:es.size=n) :
  Walks P w A it [it,S] [it] n (fun i v=>(es.toList.map (·.2))[i]?=some v) (fun i h=>SetIt h it S (.int (rC t i) 0) i n ep/\h.get? S=some o) where
 sub:=fun b hb=>by simp at hb;simp [hb]
 frame:=fun _ _ _ st hk=>⟨st.1.at fun o e=>hk it (by simp) o e,hk S (by simp) o st.2⟩
 item:=fun i s Q E hi st hQ=>by
  have hs:=kW hf
  have hi':i<es.size:=by omega
  have hi2:i<t.place.size:=by omega
  refine nL (x:=(es[i]).2) (nx:=rC t (i+1)) st.1 st.2 hd hf hn (fun A E R h=>qC ht tb hp st.2 hd hf ?_) fun h' it' sb=>?_
  ·rw [mR tb hf (by omega),Array.getElem?_eq_getElem hi',Array.getElem?_eq_getElem hi2]
   have e:rC t (i+1)=t.place[i]+1:=by
    unfold rC;rw [if_neg (by omega),Nat.add_sub_cancel,Ad hi2]
   rw [e] at h;exact h
  ·exact hQ _ h' s.toks (by rw [getElem?_map,Array.getElem?_toList,Array.getElem?_eq_getElem hi'];rfl) ⟨it',sb.extBut S o hne st.2⟩ fun b o hb e=>sb.extBut b o (fun z=>hb (by simp [z])) e
 done:=fun s Q E st hQ=>by
  refine qN hh st.1 st.2 hd hf hn (fun A E R h=>qC ht tb hp st.2 hd hf ?_) fun h' eb=>hQ h' s.toks fun b o hb e=>eb b o (fun z=>hb (by simp [z])) e
  rw [mR tb hf (by omega),Array.getElem?_eq_none (by omega)]
  exact h
 self:=fun _ _ _ _ st hQ=>HB st.1 hQ
theorem pV {src:Source} {n:Nat} {Q:Nat->Shared->Prop} {M:Model} (hn:n≠0) (h:Q (M.w.draws src (s.drawn.get src) % n) { s with drawn:=s.drawn.bump src }):wpAny M A (choose src n) Q E s:=fun _ _ _=>⟨hn,h⟩
theorem sJ {α:Type} {M:Model} (n:Nat):∀(l:List α) (s:Shared) {Q:List α->Shared->Prop},l.length=n->(∀l' d,l'.Perm l->Q l' { s with drawn:=d })->wpAny M A (drawOrder n l) Q E s:=by
 induction n with
 | zero=>
  intro l s Q hl h;rw [List.length_eq_zero_iff.mp hl] at h ⊢;have:=h [] s.drawn (List.Perm.refl _)
  have e:s={ s with drawn:=s.drawn }:=by cases s;rfl
  unfold drawOrder;rw [e];exact KS this
 | succ n ih=>
  intro l s Q hl h
  cases l with
  | nil=>cases hl
  | cons a l=>
   unfold drawOrder;refine KR (pV (by simp) ?_)
   have lt:M.w.draws Source.order (s.drawn.get Source.order) % (a::l).length<(a::l).length:=Nat.mod_lt _ (by simp)
   generalize M.w.draws Source.order (s.drawn.get Source.order) % (a::l).length=j at lt
   rw [KM lt];dsimp only;refine KR (ih _ _ (by rw [List.length_eraseIdx_of_lt lt];omega) fun l' d pm=>KS (h _ d ?_))
   refine (List.Perm.cons _ pm).trans ?_
   rw [List.eraseIdx_eq_take_drop_succ];have e:(a::l)=(a::l).take j++(a::l)[j]::(a::l).drop (j+1):=by rw [List.getElem_cons_drop,List.take_append_drop]
   conv=>rhs;rw [e]
   exact List.perm_middle.symm
end
section
variable {P:Program} {w:World} {A:Around} {E:Value->Shared->Prop} {s:Shared} {S it T:Addr} {o oT:Obj} {es:Array (Int×Value)} {ep c:Nat} {t:SetTable} {i n:Nat} {x:Value} {pl:List Nat} {Q:Option Value->Shared->Prop}
noncomputable abbrev tv (pl:List Nat):Array Value:=(pl.map fun (i:Nat)=>rawInt i).toArray
theorem yl (hit:SetIt s.heap it S (.ref T) i n ep) (ho:s.heap.get? S=some o) (hd:o.data=.set es ep t) (hf:t.fits es.size=true) (hn:es.size=n) (hT:s.heap.get? T=some oT) (dT:oT.data=.seq (tv pl) c)
  {p:Nat} {e:Int×Value} (hp:pl[i]?=some p) (he:es[p]?=some e)
  (hQ:∀h',SetIt h' it S (.ref T) (i+1) n ep->Heap.SameBut it s.heap h'->Q (some e.2) { s with heap:=h' }):wpAny (model P w) A (pyNext (.ref it)) Q E s:=by
 obtain ⟨oi,gi,ci,di⟩:=hit;have ty:s.TypeIs (.ref it) "set_iterator":=⟨oi,gi,ci⟩
 unfold pyNext;refine KR (wpAny_attempt (wpAny_callSpecial?_slot (name:=Str.ofString "__next__") ty slot_si_next (wpAny_call_entry slot_si_next ty Gr ?_ (Gg _))))
 unfold Builtin.«set_iterator.__next__»
 refine KR (KS ?_)
 refine KR (wpAny_fieldsOf gi di ?_)
 dsimp only;refine KR (wpAny_setEntries_of ho hd hf ?_)
 rw [if_neg (by rw [hn];simp)]
 refine KR (wpAny_seqItems hT dT ?_)
 have e1:(tv pl)[Int.toNat (i:Int)]?=some (rawInt p):=by
  rw [Int.toNat_natCast,getElem?_toArray,getElem?_map,hp];rfl
 dsimp only;rw [e1];simp only [rawInt,Int.toNat_natCast]
 refine KR ?_
 unfold setNextDrawn;refine KR (wpAny_setState_of ho hd hf ?_)
 dsimp only;simp only [bne_self_eq_false,Bool.false_eq_true,if_false]
 rw [he];refine KS ?_
 refine KR (wpAny_setField gi di (by simp) (KS ⟨e.2,rfl,KS (hQ _ ?_ (Heap.SameBut.update ..))⟩))
 refine ⟨_,Heap.get?_update_self _ gi (Obj.isFreed_of_fields (Obj.data_mapFields di _)),(Obj.cls_mapFields ..).trans ci,?_⟩
 rw [Obj.data_mapFields di];simp [rawInt]
theorem Cz (hh:A.handled=none) (hit:SetIt s.heap it S (.ref T) i n ep) (ho:s.heap.get? S=some o) (hd:o.data=.set es ep t) (hf:t.fits es.size=true) (hn:es.size=n) (hT:s.heap.get? T=some oT) (dT:oT.data=.seq (tv pl) c)
  (hp:pl[i]?=none) (hQ:∀h',Heap.ExtBut it s.heap h'->Q none { s with heap:=h' }):wpAny (model P w) A (pyNext (.ref it)) Q E s:=by
 obtain ⟨oi,gi,ci,di⟩:=hit;have ty:s.TypeIs (.ref it) "set_iterator":=⟨oi,gi,ci⟩
 unfold pyNext;refine KR (wpAny_attempt (wpAny_callSpecial?_slot (name:=Str.ofString "__next__") ty slot_si_next (wpAny_call_entry slot_si_next ty Gr ?_ (Gg _))))
 unfold Builtin.«set_iterator.__next__»
 refine KR (KS ?_)
 refine KR (wpAny_fieldsOf gi di ?_)
 dsimp only;refine KR (wpAny_setEntries_of ho hd hf ?_)
 rw [if_neg (by rw [hn];simp)]
 refine KR (wpAny_seqItems hT dT ?_)
 have e1:(tv pl)[Int.toNat (i:Int)]?=none:=by
  rw [Int.toNat_natCast,getElem?_toArray,getElem?_map,hp];rfl
 dsimp only;rw [e1];dsimp only;refine KR (wpAny_setField gi di (by simp) ?_)
 have g1:=Heap.get?_update_self (Obj.mapFields (·.setIfInBounds 0 (rawInt 0))) gi (Obj.isFreed_of_fields (Obj.data_mapFields di _))
 have d1:=Obj.data_mapFields di (·.setIfInBounds 0 (rawInt 0))
 refine KR (wpAny_setField g1 d1 (by simp) ?_)
 refine KR ?_
 simp only [newExc,newTuple]
 refine KR (wpAny_newObj_type ?_ (by size_fits))
 refine KR (m:=firstArgMember _ _) (wpAny_of_eq (a:=Value.none) (by first | rfl | (simp only [firstArgMember];rfl)) ?_)
 refine wpAny_newObj_type ?_ (by size_fits)
 simp only [raiseNew]
 refine KR (wpAny_handled ?_)
 rw [show A.in1.handled=none from hh];refine KR (KS (wpAny_throw ?_))
 refine KR (wpAny_isInstance (T := "StopIteration") (b:=true) ⟨_,Heap.get?_push_size _ rfl,rfl⟩ isSubtype_stop ?_)
 exact KS (hQ _ ((((Heap.SameBut.update ..).trans (Heap.SameBut.update ..)).extBut.push _).push _))
theorem wV (hh:A.handled=none) (hne:S≠it) (hneT:T≠it) (hd:o.data=.set es ep t) (hf:t.fits es.size=true) (hn:es.size=n) (dT:oT.data=.seq (tv pl) c) (hl:pl.length=n) (hm:∀p∈pl,p<n) :
  Walks P w A it [it,S,T] [it] n (fun i v=>(pl.map fun p=>(es.getD p (0,.none)).2)[i]?=some v) (fun i h=>SetIt h it S (.ref T) i n ep/\h.get? S=some o/\h.get? T=some oT) where
 sub:=fun b hb=>by simp at hb;simp [hb]
 frame:=fun _ _ _ st hk=>⟨st.1.at fun o e=>hk it (by simp) o e,hk S (by simp) o st.2.1,hk T (by simp) oT st.2.2⟩
 item:=fun i s Q E hi st hQ=>by
  have hi':i<pl.length:=by omega
  have hp:pl[i]<es.size:=by
   rw [hn];exact hm _ (getElem_mem hi')
  refine yl st.1 st.2.1 hd hf hn st.2.2 dT (KM hi') (Array.getElem?_eq_getElem hp) fun h' it' sb=>?_
  refine hQ _ h' s.toks ?_ ⟨it',sb.extBut S o hne st.2.1,sb.extBut T oT hneT st.2.2⟩ fun b o hb e=>sb.extBut b o (fun z=>hb (by simp [z])) e
  rw [getElem?_map,KM hi'];simp [Array.getD,hp]
 done:=fun s Q E st hQ=>Cz hh st.1 st.2.1 hd hf hn st.2.2 dT (getElem?_eq_none (by omega)) fun h' eb=>hQ h' s.toks fun b o hb e=>eb b o (fun z=>hb (by simp [z])) e
 self:=fun _ _ _ _ st hQ=>HB st.1 hQ
end
section
variable {P:Program} {w:World} {A:Around} {E:Value->Shared->Prop} {s:Shared} {S:Addr} {o:Obj} {es:Array (Int×Value)} {ep:Nat} {t:SetTable} {Q:Value->Shared->Prop}
theorem jm (es:Array (Int×Value)):(List.range es.size).map (fun p=>(es.getD p (0,.none)).2)=es.toList.map (·.2):=by
 apply List.ext_getElem
 ·simp
 ·intro i h1 h2
  have hi:i<es.size:=by simpa using h1
  simp [Array.getD,hi]
theorem vd (hh:A.handled=none) (ho:s.heap.get? S=some o) (hc:o.cls=.type "set") (hd:o.data=.set es ep t) (hf:t.fits es.size=true) (hb:es.size<scanBound) (tb:Tb (eA w) t)
  (h:∀(h':Heap) (dr:Drawn) (it:Addr) (fp:List Addr) (us:List Value) (St:Nat->Heap->Prop),(∀b o,s.heap.get? b=some o->h'.get? b=some o)->us.Perm (es.toList.map (·.2))->s.heap.objs.size<=it->(∀b∈fp,b<h'.objs.size/\(b=S\/s.heap.objs.size<=b)) ->
   Walks P w A it fp [it] es.size (fun i v=>us[i]?=some v) St->St 0 h'->Q (.ref it) { s with heap:=h',drawn:=dr }) :
  wpAny (model P w) A (pyIter (.ref S)) Q E s:=by
 have ty:s.TypeIs (.ref S) "set":=⟨o,ho,hc⟩
 have lS:S<s.heap.objs.size:=Heap.lt_size ho
 refine wpAny_pyIter_slot ty F.slot_set_iter (wpAny_call_entry F.slot_set_iter ty lX ?_ (F.args_set_iter_1 _))
 unfold Builtin.«frozenset.__iter__»
 refine KR (KS ?_)
 refine KR ?_
 unfold Builtin.Frozenset.sizeOf;refine KR (wpAny_setEntries_of ho hd hf (KS ?_))
 have hsz:es.size<=sizeLine:=Nat.le_of_lt (Nat.lt_of_lt_of_le hb (by decide))
 have fin:∀(first:Value) (s':Shared) (h1:s'.heap.get? S=some o),Q (.ref s'.heap.objs.size) { s' with heap:=s'.heap.push { cls:=.type "set_iterator",data:=.fields #[first,.int 0 0,.ref S,.int es.size 0,.int ep 0] } } ->
   wpAny (model P w) A.in1 (do
    let e <-setEpoch S
    let r <-newFields "set_iterator" [first,rawInt 0,Value.ref S,rawInt ↑es.size,rawInt ↑e]
    ret r) (fun fin s'=>∃v,fin=Fin.done (Flow.ret v)/\∃T' r,s'.TypeIs v T'/\typeLookup (Value.type T') (Str.ofString "__next__")=pure (some r)/\Q v s') E s':=by
  intro first s' h1 q
  refine KR ?_
  unfold setEpoch;refine KR (wpAny_setState_of h1 hd hf (KS ?_))
  refine KR ?_
  unfold newFields;refine wpAny_newObj_type (KS ⟨_,rfl, "set_iterator",_,⟨_,Heap.get?_push_size _ rfl,rfl⟩,slot_si_next.lookup,?_⟩) (by size_fits)
  exact q
 refine KR ?_
 unfold setDrawn;refine KR (wpAny_setState_of ho hd hf ?_)
 dsimp only;refine KR ?_
 unfold setsByText;refine KR (wpAny_askSetting (KS ?_))
 refine KS ?_
 show wpAny (model P w) A.in1 (if (!eA w&&(!t.plain&&decide (es.size>1)))=true then _ else _) _ E s
 by_cases hdr:(!eA w&&(!t.plain&&decide (es.size>1)))=true
 ·rw [if_pos hdr]
  refine KR (sJ es.size (List.range es.size) s (by simp) fun pl dr pm=>?_)
  have hl:pl.length=es.size:=by rw [pm.length_eq,List.length_range]
  refine KR (wpAny_newTuple ?_ (by rw [length_map,hl];exact hsz))
  refine fin _ _ (KU _ ho) ?_
  have gT:(s.heap.push { cls:=.type "tuple",data:=.seq (tv pl) }).get? s.heap.objs.size=some { cls:=.type "tuple",data:=.seq (tv pl) }:=Heap.get?_push_size _ rfl
  have eI:(s.heap.push { cls:=.type "tuple",data:=.seq (tv pl) }).objs.size=s.heap.objs.size+1:=Heap.size_push ..
  have gI:=Heap.get?_push_size (o:={ cls:=.type "set_iterator",data:=.fields #[.ref s.heap.objs.size,.int 0 0,.ref S,.int es.size 0,.int ep 0] }) (s.heap.push { cls:=.type "tuple",data:=.seq (tv pl) }) rfl
  have W:=wV (P:=P) (w:=w) (A:=A) (it:=(s.heap.push { cls:=.type "tuple",data:=.seq (tv pl) }).objs.size) (S:=S) (T:=s.heap.objs.size) (o:=o) (t:=t) (ep:=ep) (pl:=pl) (c:=0) hh (by rw [eI];exact Nat.ne_of_lt (Nat.lt_succ_of_lt lS)) (by rw [eI];exact Nat.ne_of_lt (Nat.lt_succ_self _)) hd hf rfl (oT:={ cls:=.type "tuple",data:=.seq (tv pl) }) rfl hl fun p hp=>by simpa using pm.mem_iff.mp hp
  refine h _ dr _ [(s.heap.push { cls:=.type "tuple",data:=.seq (tv pl) }).objs.size,S,s.heap.objs.size] (pl.map fun p=>(es.getD p (0,.none)).2) _ (fun b o e=>KU _ (KU _ e)) ?_ ?_ ?_ W ⟨⟨_,gI,rfl,rfl⟩,KU _ (KU _ ho),KU _ gT⟩
  ·rw [<-jm]
   exact pm.map _
  ·show s.heap.objs.size<=(s.heap.push _).objs.size
   rw [Heap.size_push];omega
  ·intro b hb
   show b<((s.heap.push _).push _).objs.size/\_
   rw [Heap.size_push,Heap.size_push];simp only [mem_cons,not_mem_nil,or_false] at hb
   rcases hb with rfl | rfl | rfl
   ·exact ⟨by rw [eI];exact Nat.lt_succ_self _,.inr (by rw [eI];exact Nat.le_succ _)⟩
   ·exact ⟨Nat.lt_succ_of_lt (Nat.lt_succ_of_lt lS),.inl rfl⟩
   ·exact ⟨Nat.lt_succ_of_lt (Nat.lt_succ_self _),.inr (KW _)⟩
 ·rw [if_neg hdr]
  refine KR (KS ?_)
  refine fin _ _ ho ?_
  have kp:∀b o,s.heap.get? b=some o->(s.heap.push { cls:=.type "set_iterator",data:=.fields #[.int 0 0,.int 0 0,.ref S,.int es.size 0,.int ep 0] }).get? b=some o:=fun b o e=>KU _ e
  have fpl:∀b∈[s.heap.objs.size,S],b<(s.heap.push { cls:=.type "set_iterator",data:=.fields #[.int 0 0,.int 0 0,.ref S,.int es.size 0,.int ep 0] }).objs.size/\(b=S\/s.heap.objs.size<=b):=by
   intro b hb;rw [Heap.size_push];simp only [mem_cons,not_mem_nil,or_false] at hb
   rcases hb with rfl | rfl
   ·exact ⟨Nat.lt_succ_self _,.inr (KW _)⟩
   ·exact ⟨Nat.lt_succ_of_lt lS,.inl rfl⟩
  have si:SetIt (s.heap.push { cls:=.type "set_iterator",data:=.fields #[.int 0 0,.int 0 0,.ref S,.int es.size 0,.int ep 0] }) s.heap.objs.size S (.int 0 0) 0 es.size ep:=⟨_,Heap.get?_push_size _ rfl,rfl,rfl⟩
  by_cases ht:eA w=true
  ·exact h _ s.drawn _ [s.heap.objs.size,S] _ _ kp ((HZ (w.params.setOrder S ep) es).map _) (KW _) fpl (wR (o:=o) hh ht (Nat.ne_of_lt lS) hd hf rfl) ⟨si,kp S o ho⟩
  ·have ht':eA w=false:=by simpa using ht
   rw [ht'] at hdr;have hp:(!t.plain&&decide (es.size>1))=false:=by simpa using hdr
   exact h _ s.drawn _ [s.heap.objs.size,S] _ _ kp (List.Perm.refl _) (KW _) fpl (wU (o:=o) hh ht' tb hp (Nat.ne_of_lt lS) hd hf rfl) ⟨si,kp S o ho⟩
end
section
variable {P:Program} {w:World} {A:Around} {E:Value->Shared->Prop} {s:Shared} {r:Addr}
theorem vi {Q:Bool->Shared->Prop} (hT:s.TypeIs (.ref r) "set") (h:Q false s):wpAny (model P w) A (Builtin.List.listLengthHint (.ref r)) Q E s:=by
 unfold Builtin.List.listLengthHint;refine KR (wpAny_specialOf hT PySem.F.slot_set_len.lookup ?_)
 generalize dD:("set.__len__":String)=id0
 wp_delta
 rw [show splitId id0=some ("set", "__len__") from by subst dD;decide +kernel]
 subst dD;refine KR (wpAny_isInstance (T := "set") (b:=true) hT (by rw [isSubtype_type];kernel_rfl) ?_)
 refine wpAny_ite_split (fun hab=>absurd hab (by decide)) (fun _=>?_)
 refine wpAny_ite_split (fun _=>?_) (fun hab=>absurd (by decide +kernel) hab)
 refine KR (wpAny_typeOf hT ?_)
 exact KS h
variable {o:Obj} {es:Array (Int×Value)} {ep:Nat} {t:SetTable}
theorem yz {R:Result->Shared->Prop} (hh:A.handled=none) (ho:s.heap.get? r=some o) (hc:o.cls=.type "set") (hd:o.data=.set es ep t) (hf:t.fits es.size=true) (hb:es.size<scanBound) (tb:Tb (eA w) t) (S:Addr) (hSr:S≠r) (res:Value) (hS:s.heap.get? S=some { cls:=.type "list",data:=.seq #[] 0 })
  (hR:∀h' tk dr acc' c',(∀b o,b≠S->s.heap.get? b=some o->h'.get? b=some o)->h'.get? S=some { cls:=.type "list",dict:=none,data:=.seq acc' c',slots:=#[] }->acc'.toList.Perm (es.toList.map (·.2))->R (.ok (.ret res)) { s with heap:=h',toks:=tk,drawn:=dr }) :
  wpAny (model P w) A.in1 (Builtin.List.listExtendWith (.ref S) (.ref r) res)
   (fun fin s'=>match fin with | .done f=>R (.ok f) s' | .again c'=>c'.quiet=true/\codeAny (model P w) A c' R s') (fun e s'=>R (.error e) s') s:=by
 have lS:=Heap.lt_size hS
 have hsz:es.size<=sizeLine:=Nat.le_of_lt (Nat.lt_of_lt_of_le hb (by decide))
 unfold Builtin.List.listExtendWith;refine KR (wpAny_typeOf (T := "set") ⟨o,ho,hc⟩ ?_)
 have h1:Builtin.List.listSameRef (.ref S) (.ref r)=false:=by simp [Builtin.List.listSameRef,hSr]
 have n1:(Value.type "set"==Value.type "list")=false:=by decide
 have n2:(Value.type "set"==Value.type "tuple")=false:=by decide
 simp only [h1,n1,n2,Bool.or_false,Bool.false_eq_true,if_false]
 refine KR (vd hh ho hc hd hf hb tb fun h' dr it fp us St kp pm lI hfp W st=>?_)
 have hSf:S∉fp:=fun hm=>by
  rcases (hfp S hm).2 with e | e
  ·exact hSr e
  ·exact absurd lS (Nat.not_lt_of_le e)
 have hS₁:=kp S _ hS
 have key:∀(h2:Heap) (c₁:Nat),St 0 h2->(∀b o,b≠S->s.heap.get? b=some o->h2.get? b=some o) ->
   h2.get? S=some { cls:=.type "list",data:=.seq #[] c₁ }->codeAny (model P w) A (.builtin "list.extend.loop" ⟨[.ref S,.ref it,res],[]⟩) R { s with heap:=h2,drawn:=dr }:=by
  intro h2 c₁ hst hk hS₁;refine codeAny_extend_loopS W.toS hsz S hSf res es.size 0 _ #[] c₁ rfl (Nat.zero_le _) hst hS₁ (ItemsOf.nil _) fun s' acc' c' hm hS' hacc=>?_
  have e:acc'.toList=us:=by
   apply ext_getElem?
   intro i;have lu:us.length=es.size:=by rw [pm.length_eq,length_map,Array.length_toList]
   by_cases hi:i<acc'.size
   ·have:=hacc.2 i acc'[i] (Array.getElem?_eq_getElem hi)
    rw [Array.getElem?_toList,Array.getElem?_eq_getElem hi,this]
   ·rw [Array.getElem?_toList,Array.getElem?_eq_none (by omega),getElem?_eq_none (by have:=hacc.1;omega)]
  rw [Moved.eq_with hm];refine hR s'.heap s'.toks dr acc' c' (fun b o hb e=>hm.heap b o (fun hmem=>?_) (hk b o hb e)) hS' (by rw [e];exact pm)
  rcases KL hmem with e' | hmem
  ·exact hb e'
  ·exact absurd (Heap.lt_size e) (by rw [List.mem_singleton.mp hmem];exact Nat.not_lt_of_le lI)
 refine KR (wpAny_holding (vi (r:=r) ⟨o,kp r o ho,hc⟩ ?_))
 refine wpAny_ite_split (fun _=>?_) (fun _=>KS ⟨plainId_quiet PySem.F.plain_extend_loop _,key _ 0 st (fun b o _ e=>kp b o e) hS₁⟩)
 refine KR (wpAny_rule ?_)
 refine KR ?_
 show wpAny _ _ (updateSeq S (·.push .none) >>= fun _=>updateSeq S (·.pop)) _ _ _
 refine KR (wpAny_updateSeq hS₁ rfl ?_)
 have hS₂:=Heap.get?_update_self (Obj.mapSeq (·.push Value.none)) hS₁ rfl
 refine wpAny_updateSeq (hz:=by seq_fits) hS₂ rfl ?_
 have hS₃:=Heap.get?_update_self (Obj.mapSeq (·.pop)) hS₂ rfl
 refine KS ⟨plainId_quiet PySem.F.plain_extend_loop _,key _ _ ?_ (fun b o hb e=>?_) hS₃⟩
 ·refine W.frame 0 _ _ st fun b hb o e=>?_
  have hbS:b≠S:=fun h=>hSf (h▸hb)
  exact (Heap.get?_update_other _ _ (Ne.symm hbS)).trans ((Heap.get?_update_other _ _ (Ne.symm hbS)).trans e)
 ·exact (Heap.get?_update_other _ _ (Ne.symm hb)).trans ((Heap.get?_update_other _ _ (Ne.symm hb)).trans (kp b o e))
theorem oz {R:List Value->Shared->Prop} (hh:A.handled=none) (ho:s.heap.get? r=some o) (hc:o.cls=.type "set") (hd:o.data=.set es ep t) (hf:t.fits es.size=true) (hb:es.size<scanBound) (tb:Tb (eA w) t)
  (h:∀(h':Heap) (tk:Nat) (dr:Drawn) (us:List Value),(∀b o,s.heap.get? b=some o->h'.get? b=some o)->us.Perm (es.toList.map (·.2))->R us { s with heap:=h',toks:=tk,drawn:=dr }) :
  wpAny (model P w) A (collect (.ref r)) R E s:=by
 have lr:=Heap.lt_size ho
 unfold collect;refine KR (wpAny_runValue (codeAny_builtin entry_proto_collect' ?_))
 rw [Around.under_plainId PySem.F.plain_proto_collect _];show wpAny _ A.in1 (newList [] >>= fun l=>again (.builtin "list.__iadd__" ⟨[l,.ref r],[]⟩)) _ _ s
 refine KR (wpAny_newObj_type ?_)
 refine KS ⟨plainId_quiet PySem.F.plain_list_iadd _,codeAny_builtin entry_list_iadd' ?_⟩
 rw [Around.under_plainId PySem.F.plain_list_iadd _];have hS₁:(s.heap.push { cls:=.type "list",data:=.seq ([]:List Value).toArray }).get? s.heap.objs.size=some { cls:=.type "list",data:=.seq #[] }:=Heap.get?_push_size _ rfl
 show wpAny _ A.in1 (Builtin.List.listExtendWith (.ref s.heap.objs.size) (.ref r) (.ref s.heap.objs.size)) _ _ _
 have key:=yz (P:=P) (w:=w) (A:=A) (s:={ s with heap:=s.heap.push { cls:=.type "list",data:=.seq ([]:List Value).toArray } })
  (R:=fun (q:Result) (s':Shared)=>∃(h':Heap) (tk:Nat) (dr:Drawn) (acc':Array Value) (c':Nat),q=.ok (.ret (.ref s.heap.objs.size))/\s'={ s with heap:=h',toks:=tk,drawn:=dr } /\
   (∀b o,s.heap.get? b=some o->h'.get? b=some o)/\h'.get? s.heap.objs.size=some { cls:=.type "list",dict:=none,data:=.seq acc' c',slots:=#[] }/\acc'.toList.Perm (es.toList.map (·.2)))
  hh (KU _ ho) hc hd hf hb tb s.heap.objs.size (Nat.ne_of_gt lr) (.ref s.heap.objs.size) hS₁
  (fun h' tk dr acc' c' hk hS' hacc=>⟨h',tk,dr,acc',c',rfl,rfl,fun b o e=>hk b o (Nat.ne_of_lt (Heap.lt_size e)) (KU _ e),hS',hacc⟩)
 refine wpAny_mono key (fun fin s' x=>?_) fun e s' x=>?_
 ·cases fin with
  | done f=>
   obtain ⟨h',tk,dr,acc',c',e,rfl,hk,hS',hacc⟩:=x
   cases e;show wpAny _ A (load s.heap.objs.size >>= _) _ _ _
   refine KR (wpAny_load hS' ?_)
   exact KS (h h' tk dr acc'.toList hk hacc)
  | again c₁=>
   refine ⟨x.1,codeAny_mono x.2 fun q s₂ y=>?_⟩
   obtain ⟨h',tk,dr,acc',c',rfl,rfl,hk,hS',hacc⟩:=y;show wpAny _ A (load s.heap.objs.size >>= _) _ _ _
   refine KR (wpAny_load hS' ?_)
   exact KS (h h' tk dr acc'.toList hk hacc)
 ·obtain ⟨_,_,_,_,_,e',_⟩:=x
  cases e'
end
theorem L2Inv.drawn {X:Cx} {pins:List (Addr×Obj)} {σ:List (Option V)} {H:Hp} {s:Shared} (I:L2.Inv X pins σ H s) (d:Drawn):L2.Inv X pins σ H { s with drawn:=d }:=
 ⟨I.ok,I.os,I.bare,I.base,I.loc,I.cell,I.free,I.freeC,I.pin,I.hok,I.len⟩
theorem Fj:bootBuiltins "set"=some (.type "set"):=by decide +kernel
noncomputable def SetU (P:Program) (w:World) (h:Heap) (a:Addr) (S:Str->Bool) (n:Nat):Prop:=
 ∃o es ep t,h.get? a=some o/\o.ExactSet/\o.data=.set es ep t/\ElemsOf (PySem.strKind P w) es.toList/\(∀k,S k=true↔∃e∈es.toList,(PySem.strKind P w).is k e.2=true)/\es.size<scanBound/\t.fits es.size=true/\es.size=n/\Tb (eA w) t
section
variable {P:Program} {w:World} {A:Around} {E:Value->Shared->Prop} {s:Shared}
theorem SetU.at {h h':Heap} {a:Addr} {S:Str->Bool} {n:Nat} (x:SetU P w h a S n) (k:∀o,h.get? a=some o->h'.get? a=some o):SetU P w h' a S n:=by
 obtain ⟨o,es,ep,t,ho,r⟩:=x;exact ⟨o,es,ep,t,k o ho,r⟩
theorem SetU.congr {h:Heap} {a:Addr} {S S':Str->Bool} {n n':Nat} (x:SetU P w h a S n) (e:∀k,S k=S' k) (en:n=n'):SetU P w h a S' n':=by
 have:S=S':=funext e
 subst this en;exact x
theorem qi {h:Heap} {a:Addr} {o:Obj} {es es':Array (Int×Value)} {ep:Nat} {t t':SetTable} {S:Str->Bool} (ho:h.get? a=some o) (hex:o.ExactSet) (hd:o.data=.set es ep t) (hel:ElemsOf (PySem.strKind P w) es'.toList) (hm:∀k,S k=true↔∃e∈es'.toList,(PySem.strKind P w).is k e.2=true) (hb:es'.size<scanBound) (hf:t'.fits es'.size=true) (tb:Tb (eA w) t') :
  (h.update a (Obj.putSet es' t')).get? a=some { o with data:=.set es' (ep+1) t' }/\SetU P w (h.update a (Obj.putSet es' t')) a S es'.size:=by
 have q:=(SetOf_store (knd:=PySem.strKind P w) ho hex hd hel hm hb hf).1
 exact ⟨q,_,es',ep+1,t',q,hex,rfl,hel,hm,hb,hf,rfl,tb⟩
theorem Fq {a:Addr} {S:Str->Bool} {n:Nat} {k:Str} {x:Value} {Q:Bool->Shared->Prop} (hk:(PySem.strKind P w).is k x=true) (hx:x.scannable=true) (hS:SetU P w s.heap a S n) (hr:n+1<scanBound)
  (h:∀h',Heap.SameBut a s.heap h'->SetU P w h' a (fun i=>S i||decide (i=k)) (if S k then n else n+1)->∀b,Q b { s with heap:=h' }):wpAny (model P w) A (setAddHashed a x ((PySem.strKind P w).hash k)) Q E s:=by
 obtain ⟨o,es,ep,t,ho,hex,hd,hel,hm,hb,hf,hn,tb⟩:=hS;unfold setAddHashed setAddHashedIn;refine wpAny_holding (KR (wpAny_setState_of ho hd hf ?_))
 dsimp only;rw [byScan_of hx hb hel,if_pos rfl];unfold setAddByScan;refine KR (KR (wpAny_rule (KR (wpAny_setScan_of hk ho hd hf hel ?_))))
 cases q:List.findIdx? (fun e=>(PySem.strKind P w).is k e.2) es.toList with
 | some j=>
  dsimp only;obtain ⟨hj,hp,_⟩:=List.findIdx?_eq_some_iff_getElem.mp q
  have sk:S k=true:=(hm k).mpr ⟨_,getElem_mem hj,hp⟩
  refine KS (KS ?_)
  have z:=h s.heap (Heap.SameBut.refl a s.heap) ⟨o,es,ep,t,ho,hex,hd,hel,fun i=>?_,hb,hf,by rw [sk];exact hn,tb⟩ false
  ·have es':s={ s with heap:=s.heap }:=by cases s;rfl
   rw [es'];exact z
  ·rw [Bool.or_eq_true,decide_eq_true_eq,<-hm i]
   exact ⟨fun y=>y.elim id fun e=>e▸sk,.inl⟩
 | none=>
  dsimp only;have sk:S k=false:=by
   cases e:S k with
   | false=>rfl
   | true=>
    obtain ⟨y,hy,hp⟩:=(hm k).mp e;have:=List.findIdx?_eq_none_iff.mp q y hy
    rw [hp] at this
    cases this
  have pm:=layNew_perm t es ((PySem.strKind P w).hash k) x
  have ft:=layNew_fits t es ((PySem.strKind P w).hash k) x
  have tb1:=tb.layNew es ((PySem.strKind P w).hash k) x
  generalize layNew t es ((PySem.strKind P w).hash k) x=L at pm ft tb1 ⊢
  obtain ⟨e1,t1,wd,gv⟩:=L;dsimp only at pm ft tb1 ⊢
  rw [Array.toList_push] at pm;have el1:ElemsOf (PySem.strKind P w) e1.toList:=(hel.push hk hx).perm pm
  have m1:=fun i=>mem_push_iff hk hm pm i
  have sz:e1.size=n+1:=by rw [<-Array.length_toList,pm.length_eq,length_append,Array.length_toList,hn];rfl
  have b1:e1.size<scanBound:=by rw [sz];exact hr
  have gw:∀(b:Bool) {s1:Shared} {R:Unit->Shared->Prop},R () s1->wpAny (model P w) A (match b with | true=>rule "set.scan.the-table-gave-way" | false=>pure ()) R E s1:=fun b s1 R y=>by
   cases b
   ·exact KS y
   ·exact wpAny_rule y
  have fin:∀h',Heap.SameBut a s.heap h'->SetU P w h' a (fun i=>S i||decide (i=k)) e1.size->∀b,Q b { s with heap:=h' }:=fun h' sb y=>by
   have:=h h' sb
   rw [sk] at this;rw [sz] at y;exact this y
  have tail:∀t2:SetTable,t2.fits e1.size=true->Tb (eA w) t2->∀{R:Option Bool->Shared->Prop},(∀h',(∀b,Q b { s with heap:=h' })->R (some true) { s with heap:=h' })->wpAny (model P w) A (do
    storeSet a e1 t2
    if (!wd&&t2.tooFull)=true then do
      (match (relayAll t2 e1 (SetTable.grown e1.size)).2.2 with | true=>rule "set.scan.the-table-gave-way" | false=>pure ())
      storeSet a (relayAll t2 e1 (SetTable.grown e1.size)).1 (relayAll t2 e1 (SetTable.grown e1.size)).2.1
      pure (some true)
     else pure (some true)) R E s:=fun t2 f2 tb2 R hR=>by
   refine KR (wpAny_storeSet_of ho hd ?_ (fits_of_scanBound b1))
   obtain ⟨g1,s1⟩:=qi ho hex hd el1 m1 b1 f2 tb2;have sb1:=Heap.SameBut.update s.heap a (Obj.putSet e1 t2)
   split
   ·have pr:=relayAll_perm t2 e1 (SetTable.grown e1.size)
    have fr:=relayAll_fits t2 e1 (SetTable.grown e1.size)
    have tr:=tb2.relay e1 (SetTable.grown e1.size)
    generalize relayAll t2 e1 (SetTable.grown e1.size)=Rl at pr fr tr ⊢
    obtain ⟨e2,t3,g2⟩:=Rl;dsimp only at pr fr tr ⊢
    have sz2:e2.size=e1.size:=by rw [<-Array.length_toList,pr.length_eq,Array.length_toList]
    have b2:e2.size<scanBound:=by rw [sz2];exact b1
    refine KR (gw _ (KR (wpAny_storeSet_of g1 rfl ?_ (fits_of_scanBound b2))))
    obtain ⟨_,s2⟩:=qi (P:=P) (S:=fun i=>S i||decide (i=k)) g1 hex rfl (el1.perm pr) (fun i=>(m1 i).trans ⟨fun ⟨e,he,y⟩=>⟨e,pr.mem_iff.mpr he,y⟩,fun ⟨e,he,y⟩=>⟨e,pr.mem_iff.mp he,y⟩⟩) b2 fr tr
    rw [sz2] at s2;exact KS (hR _ (fin _ (sb1.trans (Heap.SameBut.update _ a _)) s2))
   ·exact KS (hR _ (fin _ sb1 s1))
  refine KR (gw _ ?_)
  split
  ·refine KR ?_
   rw [hashByValue_scannable 8 hx];refine KS ?_
   refine tail _ ?_ ?_ fun h' y=>?_
   ·split
    ·exact ft
    ·exact SetTable.fits_plain_off ft
   ·split
    ·exact tb1
    ·exact tb1.plain false
   ·exact KS (y true)
  ·refine KR (KS ?_)
   simp only [if_true]
   exact tail _ ft tb1 fun h' y=>KS (y true)
end
noncomputable def eG (val:Nat->Str) (i:Nat):List Str:=((List.range i).map val).foldl step_dedup []
theorem DD (val:Nat->Str) (i:Nat):eG val (i+1)=step_dedup (eG val i) (val i):=by
 unfold eG;rw [List.range_succ,map_append,List.foldl_append];rfl
theorem nG (val:Nat->Str):∀i,(eG val i).length<=i
 | 0=>KW 0
 | i+1=>by
  rw [DD];unfold step_dedup;have:=nG val i
  split
  ·omega
  ·rw [length_append]
   simp
   omega
theorem kK (σ:List Str) (v k:Str):(step_dedup σ v).any (·==k)=(σ.any (·==k)||decide (k=v)):=by
 unfold step_dedup;split
 ·rename_i h
  by_cases e:k=v
  ·subst e
   simp only [h,Bool.true_or]
  ·simp [e]
 ·rw [List.any_append]
  congr 1
  simp only [List.any_cons,List.any_nil,Bool.or_false]
  rw [Bool.eq_iff_iff,decide_eq_true_eq,beq_iff_eq];exact ⟨Eq.symm,Eq.symm⟩
theorem rA (σ:List Str) (v:Str):(step_dedup σ v).length=if σ.any (·==v) then σ.length else σ.length+1:=by
 unfold step_dedup;split
 ·rfl
 ·rw [length_append,length_singleton]
theorem qh:∀{us:List Value} {ss:List Str},StrsAre us ss->∀(i:Nat) (v:Value),us[i]?=some v->∃t,v=.str (ss.getD i ⟨#[]⟩) t
 | _,_,.nil,i,v,h=>by simp at h
 | _,_,.cons y t r,i,v,h=>by
  cases i with
  | zero=>
   rw [List.getElem?_cons_zero] at h
   cases h;exact ⟨t,rfl⟩
  | succ i=>
   rw [List.getElem?_cons_succ] at h;rw [List.getD_cons_succ];exact qh r i v h
section
variable {P:Program} {w:World} {A:Around} {R:Result->Shared->Prop} {I:Addr} {fp wr:List Addr} {G:Array GenState->Array GenState->Prop} {n:Nat} {Pr:Nat->Value->Prop} {Sn:Nat->Shared->Prop}
theorem DN (W:WalksS P w A.in1 I fp wr G n Pr Sn) (S:Addr) (hS:S∉fp) (val:Nat->Str) (hv:∀i v,Pr i v->∃t,v=.str (val i) t) (hb:n+1<scanBound):∀(k i:Nat) (s:Shared),n-i=k->i<=n->Sn i s->SetU P w s.heap S (fun z=>(eG val i).any (·==z)) (eG val i).length ->
   (∀s',Moved (S::wr) G s s'->SetU P w s'.heap S (fun z=>(eG val n).any (·==z)) (eG val n).length->R (.ok (.ret .none)) s')->codeAny (model P w) A (.builtin "set.update.loop" ⟨[.ref S,.ref I],[]⟩) R s:=by
 have hw:S∉wr:=fun z=>hS (W.sub _ z)
 have sub:∀b∈wr,b∈S::wr:=fun b z=>KO _ z
 intro k;induction k with
 | zero=>
  intro i s hk hi st x hR;obtain rfl:i=n:=by omega
  refine codeAny_builtin F.entry_set_update_loop ?_
  rw [Around.under_plainId F.plain_set_update_loop _];refine KR (W.done s _ _ st fun s' mv=>?_)
  exact KS (hR s' (mv.mono sub) (x.at fun o e=>mv.heap S o hw e))
 | succ k ih=>
  intro i s hk hi st x hR;have lt:i<n:=by omega
  refine codeAny_builtin F.entry_set_update_loop ?_
  rw [Around.under_plainId F.plain_set_update_loop _];refine KR (W.item i s _ _ lt st fun v s' pv st' mv=>?_)
  obtain ⟨t,rfl⟩:=hv i v pv;have x':=x.at fun o e=>mv.heap S o hw e
  refine KR (wpAny_holding ?_)
  unfold setAdd;refine wpAny_holding (KR ((PySem.strKind P w).pyHash (k:=val i) (strKind_is _ _ _ _) ?_))
  have room:(eG val i).length+1<scanBound:=by have:=nG val i;omega
  refine Fq (s:={ s' with toks:=s'.toks+1 }) (strKind_is _ _ _ _) rfl x' room fun h' sb x2 b=>?_
  have x3:SetU P w h' S (fun z=>(eG val (i+1)).any (·==z)) (eG val (i+1)).length:=x2.congr (fun z=>by rw [DD,kK]) (by rw [DD,rA])
  refine KS ⟨plainId_quiet F.plain_set_update_loop _,ih (i+1) _ (by omega) lt (W.frame _ s' _ _ st' (Nat.le_succ _) fun c hc o e=>?_) x3 fun s2 mv2 x4=>?_⟩
  ·rw [sb.2 c fun z=>hS (by rw [<-z];exact hc)]
   exact e
  ·refine hR s2 (Moved.trans W.gtrans ((mv.mono sub).then_heap (Nat.le_succ _) fun c o hc e=>?_) mv2) x4
   rw [sb.2 c fun z=>hc (by rw [z];exact mem_cons_self)]
   exact e
end
section
variable {P:Program} {w:World} {A:Around} {E:Value->Shared->Prop} {s:Shared}
theorem yy {h:Heap} {a:Addr} (e:h.get? a=some (jl w)):SetU P w h a (fun _=>false) 0:=
 ⟨_,#[],0,_,e,⟨rfl,rfl,rfl⟩,rfl,fun e he=>by simp at he,fun k=>by simp,by decide,rfl,rfl,Tb.fresh⟩
theorem pR {l:Addr} {its:Array Value} {ns:List Str} {Q:Value->Shared->Prop} (hh:A.handled=none) (hl:s.heap.IsList l its) (hi:StrsAre its.toList ns) (hb:its.size+1<scanBound)
  (h:∀(h':Heap) (tk:Nat),SetU P w h' s.heap.objs.size (fun z=>(eG (fun i=>ns.getD i ⟨#[]⟩) its.size).any (·==z)) (eG (fun i=>ns.getD i ⟨#[]⟩) its.size).length->(∀b o,s.heap.get? b=some o->h'.get? b=some o)->Q (.ref s.heap.objs.size) { s with heap:=h',toks:=tk }) :
  wpAny (model P w) A (call (.type "set") [.ref l]) Q E s:=by
 obtain ⟨c,tl,mro⟩:=F.called_set.mro;have made:=F.called_set.made
 have sub:=F.called_set.sub
 refine wpAny_call (codeAny_of_tree ?_)
 show wpAny _ _ (callAny (.type "set") _) _ _ _
 refine KS ⟨Code.quiet_builtin _ (by decide +kernel),codeAny_builtin F.entry_type_call ?_⟩
 rw [Around.under_plain (weight_type_call_type "set" [.ref l] []) rfl]
 have h1:=F.called_set.notType
 have h2:=F.called_set.canCreate
 have ct:=F.typeCall_set_1 (.ref l)
 repeat (any_goals (first | assumption | wp_step))
 refine codeAny_mono (EI (.ref l) (E:=E) (Q:=fun ob s1=>ob=.ref s.heap.objs.size/\s1={ s with heap:=s.heap.push (jl w) }) ⟨rfl,rfl⟩) fun r s1 hr=>?_
 cases r with
 | error e=>exact hr
 | ok fl=>
  cases fl with
  | ret ob=>
   obtain ⟨rfl,rfl⟩:=hr;have gS:(s.heap.push (jl w)).get? s.heap.objs.size=some (jl w):=Heap.get?_push_size _ rfl
   have ty:Shared.TypeIs { s with heap:=s.heap.push (jl w) } (.ref s.heap.objs.size) "set":=⟨_,gS,rfl⟩
   have li:=F.called_set.init.lookup
   have bi:=F.called_set.init.bind (.ref s.heap.objs.size)
   repeat (any_goals (first | assumption | wp_step))
   refine codeAny_mono (codeAny_call_builtin (R:=wants (fun r s2=>r=.none/\∃h' tk,s2={ s with heap:=h',toks:=tk }/\SetU P w h' s.heap.objs.size (fun z=>(eG (fun i=>ns.getD i ⟨#[]⟩) its.size).any (·==z)) (eG (fun i=>ns.getD i ⟨#[]⟩) its.size).length/\(∀b o,s.heap.get? b=some o->h'.get? b=some o)) E) F.called_set.init.plain F.entry_set_init (check_set_init_1 ty ?_)) fun r2 s2 hr2=>?_
   ·have hl':=hl
    obtain ⟨ol,gl,cl,nl,dl⟩:=hl;obtain ⟨oc,od,odt,os⟩:=ol;simp only at cl dl
    subst cl dl;have gl':(s.heap.push (jl w)).get? l=some { cls:=.type "list",dict:=od,data:=.seq its nl,slots:=os }:=KU _ gl
    have s1:=F.sub_list_set
    have s2:=F.sub_list_frozenset
    have ne:(Value.type "list"==Value.type "dict")=false:=by decide
    have l1:(s.heap.push (jl w)).IsList l its:=⟨_,gl',rfl,nl,rfl⟩
    unfold Builtin.«set.__init__» noKeywords Builtin.Frozenset.updateFrom
    generalize hPI:pyIter=PI
    wp_walk
    subst hPI;refine wpAny_pyIter_list l1 (KR (wpAny_runValue ?_))
    have lS:l<s.heap.objs.size:=Heap.lt_size gl
    have h3:A.in1.in1.in1.handled=none:=by simp [hh]
    have nI:l≠(s.heap.push (jl w)).objs.size:=by
     rw [Heap.size_push];exact Nat.ne_of_lt (Nat.lt_succ_of_lt lS)
    have nf:s.heap.objs.size∉[(s.heap.push (jl w)).objs.size,l]:=by
     rw [Heap.size_push];simp only [mem_cons,not_mem_nil,or_false,not_or]
     exact ⟨Nat.ne_of_lt (Nat.lt_succ_self _),Nat.ne_of_gt lS⟩
    refine DN ((Walks.list h3 _ l nI its).toS) s.heap.objs.size nf (fun i=>ns.getD i ⟨#[]⟩) (fun i v e=>qh hi i v (by rw [Array.getElem?_toList];exact e)) hb (its.size-0) 0 _ (by omega) (Nat.zero_le _) ⟨⟨_,Heap.get?_push_size _ rfl,rfl,rfl⟩,l1.push _⟩ ?_ fun s' mv x=>?_
    ·exact (yy (KU _ gS)).congr (fun _=>rfl) rfl
    ·obtain ⟨h',g',d',tk',os'⟩:=s'
     have e1:g'=s.gens:=mv.gens
     have e2:d'=s.drawn:=mv.drawn
     have e3:os'=s.os:=mv.os
     subst e1 e2 e3;refine KS (KS ⟨rfl,h',tk',rfl,x,fun b o e=>?_⟩)
     have hb1:b≠s.heap.objs.size:=Nat.ne_of_lt (Heap.lt_size e)
     have hb2:b≠(s.heap.push (jl w)).objs.size:=by
      rw [Heap.size_push];exact Nat.ne_of_lt (Nat.lt_succ_of_lt (Heap.lt_size e))
     exact mv.heap b o (by simp only [mem_cons,not_mem_nil,or_false,not_or];exact ⟨hb1,hb2⟩) (KU _ (KU _ e))
   ·cases r2 with
    | error e=>exact hr2
    | ok f2=>
     cases f2 with
     | ret r=>
      obtain ⟨rfl,h',tk,rfl,x,kp⟩:=hr2;repeat (any_goals (first | assumption | wp_step))
      exact h _ _ x kp
     | _=>exact hr2.elim
  | _=>exact hr.elim
end
theorem qg:∀{ns:List Str} {us:List Value},Vals (ns.map V.str) us->StrsAre us ns
 | [],_,.nil=>.nil
 | n::ns,_,.cons ⟨t,e⟩ q=>by subst e;exact .cons n t (qg q)
theorem mH:∀{ns:List Str} {us:List Value},StrsAre us ns->Vals (ns.map V.str) us
 | _,_,.nil=>.nil
 | _,_,.cons n t q=>.cons ⟨t,rfl⟩ (mH q)
noncomputable def zP (ns:List Str):List Str:=eG (fun i=>ns.getD i ⟨#[]⟩) ns.length
theorem DF (val:Nat->Str):∀i,(eG val i).Nodup
 | 0=>nodup_nil
 | i+1=>by
  rw [DD];unfold step_dedup;split
  ·exact DF val i
  ·rename_i h
   rw [List.nodup_append];refine ⟨DF val i,by simp,fun a ha b hb e=>h ?_⟩
   rw [List.mem_singleton] at hb;subst hb e;exact List.any_eq_true.mpr ⟨_,ha,by simp⟩
theorem nH (val:Nat->Str) (k:Str):∀i,k∈eG val i↔∃j,j<i/\val j=k
 | 0=>by
  show k∈([]:List Str)↔_
  simp
 | i+1=>by
  have ih:=nH val k i
  have a:=kK (eG val i) (val i) k
  rw [DD];have b:∀l:List Str,l.any (·==k)=true↔k∈l:=fun l=>by simp
  rw [<-b,a,Bool.or_eq_true,b,ih,decide_eq_true_eq];constructor
  ·rintro (⟨j,h1,h2⟩ | h)
   ·exact ⟨j,by omega,h2⟩
   ·exact ⟨i,by omega,h.symm⟩
  ·rintro ⟨j,h1,h2⟩
   by_cases c:j=i
   ·subst c
    exact .inr h2.symm
   ·exact .inl ⟨j,by omega,h2⟩
theorem ddS_mem {ns:List Str} {k:Str}:k∈zP ns↔k∈ns:=by
 unfold zP;rw [nH];constructor
 ·rintro ⟨j,h1,h2⟩
  rw [KN,KM h1] at h2;rw [<-h2];exact getElem_mem h1
 ·intro h
  obtain ⟨j,h1,h2⟩:=getElem_of_mem h;exact ⟨j,h1,by rw [KN,KM h1];exact h2⟩
theorem kH {P:Program} {w:World}:∀(us:List Value),(∀u∈us,∃k,(PySem.strKind P w).is k u=true)->∃ns,StrsAre us ns
 | [],_=>⟨[],.nil⟩
 | u::us,h=>by
  obtain ⟨k,e⟩:=h u mem_cons_self;obtain ⟨t,rfl⟩:=Value.isStrOf_shape e;obtain ⟨ns,x⟩:=kH us fun v hv=>h v (KO _ hv)
  exact ⟨_,.cons _ _ x⟩
theorem mM {P:Program} {w:World} {k:Str}:∀{us:List Value} {ns:List Str},StrsAre us ns->((∃u∈us,(PySem.strKind P w).is k u=true)↔k∈ns)
 | _,_,.nil=>by simp
 | _,_,.cons i t x=>by
  have ih:=mM (k:=k) (P:=P) (w:=w) x
  rw [mem_cons,<-ih];constructor
  ·rintro ⟨u,hu,e⟩
   rcases KL hu with rfl | hu
   ·obtain ⟨t',e'⟩:=Value.isStrOf_shape (show Value.isStrOf k (Value.str i t)=true from e)
    cases e'
    exact .inl rfl
   ·exact .inr ⟨u,hu,e⟩
  ·rintro (rfl | ⟨u,hu,e⟩)
   ·exact ⟨_,mem_cons_self,strKind_is P w k t⟩
   ·exact ⟨u,KO _ hu,e⟩
theorem gL:∀(l m:List Str),l.Nodup->(∀x∈l,x∈m)->m.length=l.length->m.Perm l
 | [],m,_,_,h=>by rw [List.length_eq_zero_iff.mp h]
 | a::l,m,nd,hm,h=>by
  have ha:a∈m:=hm a mem_cons_self
  obtain ⟨na,nl⟩:=List.nodup_cons.mp nd;have ih:=gL l (m.erase a) nl (fun x hx=>(List.mem_erase_of_ne (fun e:x=a=>na (e▸hx))).mpr (hm x (KO _ hx))) (by rw [List.length_erase_of_mem ha,h,length_cons];omega)
  exact (List.perm_cons_erase ha).trans (ih.cons a)
theorem kM:∀(l m:List Str),l.Nodup->(∀x∈l,x∈m)->l.length<=m.length
 | [],m,_,_=>Nat.zero_le _
 | a::l,m,nd,hm=>by
  have ha:a∈m:=hm a mem_cons_self
  obtain ⟨na,nl⟩:=List.nodup_cons.mp nd;have ih:=kM l (m.erase a) nl fun x hx=>(List.mem_erase_of_ne (fun e:x=a=>na (e▸hx))).mpr (hm x (KO _ hx))
  rw [List.length_erase_of_mem ha] at ih;have:=List.length_pos_of_mem ha
  rw [length_cons];omega
theorem mN:∀{us:List Value} {ns:List Str},StrsAre us ns->us.length=ns.length
 | _,_,.nil=>rfl
 | _,_,.cons _ _ x=>by rw [length_cons,length_cons,mN x]
noncomputable abbrev GQ (a b:Str):Prop:=a.cps.toList<=b.cps.toList
theorem D6:∀(p:Str) (l:List Str),risingS p l=true->(p::l).Pairwise GQ
 | p,[],_=>by simp
 | p,x::r,h=>by
  have h':(!ltCps x.cps.toList p.cps.toList&&risingS x r)=true:=h
  rw [Bool.and_eq_true,Bool.not_eq_true',ltCps_eq,decide_eq_false_iff_not,List.not_lt] at h';have ih:=D6 x r h'.2
  refine List.pairwise_cons.mpr ⟨fun y hy=>?_,ih⟩
  rcases KL hy with rfl | hy
  ·exact h'.1
  ·exact List.le_trans h'.1 ((List.pairwise_cons.mp ih).1 y hy)
theorem mQ:∀(l:List Str),sortedS l=true->l.Pairwise GQ
 | [],_=>List.Pairwise.nil
 | p::l,h=>D6 p l h
theorem u9 {a b:Str} (h:GQ a b) (h':GQ b a):a=b:=by
 have:=List.le_antisymm h h'
 cases a
 cases b;simp only [Str.mk.injEq]
 exact Array.toList_inj.mp this
noncomputable def rN (L:List Str):Bool:=sortedS L&&decide L.Nodup
noncomputable def iK (L ns:List Str):List Str:=L.filter fun c=>ns.contains c
theorem AB {L ns zs:List Str} (hL:rN L=true) (hs:∀c∈ns,c∈L) (hp:zs.Perm (zP ns)) (hz:sortedS zs=true):zs=iK L ns:=by
 unfold rN at hL;rw [Bool.and_eq_true,decide_eq_true_eq] at hL;refine List.Perm.eq_of_pairwise (fun a b _ _ h h'=>u9 h h') (mQ zs hz) ((mQ L hL.1).sublist List.filter_sublist) (hp.trans ?_)
 refine (List.perm_ext_iff_of_nodup (DF _ _) (hL.2.sublist List.filter_sublist)).mpr fun a=>?_
 rw [show eG (fun i=>ns.getD i ⟨#[]⟩) ns.length=zP ns from rfl,ddS_mem,List.mem_filter,contains_iff_mem]
 exact ⟨fun h=>⟨hs a h,h⟩,fun h=>h.2⟩
noncomputable def JR (K:Fg) (L:List Str) (ta:TA):TE:=fun σ H Q=>ta σ H fun vs H1=>∃(p:Addr) (ns:List Str),vs=[.ref p]/\SqL K H1 p (ns.map V.str)/\ns.length<4000/\(∀c∈ns,c∈L)/\L.length<64/\rN L=true/\∀l,H1 l=none->Q (.ref l) (cy H1 l (.lst ((iK L ns).map V.str)))
theorem nc {X:Cx} {L:List Str} {a:Expr} {ta:TA} {p p2 pos pos2:Pos} (hg:Gl X "sorted") (hm:X.mg "sorted"=none) (hg2:Gl X "set") (hm2:X.mg "set"=none) (hc:X.calm=true) (ha:PA X [a] ta) (hs:starEach [a] X.env=[(false,eval a X.env)])
  (hs1:starEach [.Call (.Name "set" p2) [a] [] pos2] X.env=[(false,eval (.Call (.Name "set" p2) [a] [] pos2) X.env)]):PE X (.Call (.Name "sorted" p) [.Call (.Name "set" p2) [a] [] pos2] [] pos) (JR X.K L ta):=by
 intro pins s σ H Q I h;refine wpAny_Call_Name_kw (vY I hg hm vP (PyProof.Rows.callWith_builtin1 ?_ hs1 rfl))
 rw [hs1];show wpAny _ _ (spliced ((false,eval (.Call (.Name "set" p2) [a] [] pos2) X.env)::[])) _ _ s
 refine Calls.spliced_cons (Call_ (vY I hg2 hm2 Fj (PyProof.Rows.callWith_type1 (b6 (ha pos2 pins s σ H _ I h) fun us s1 ⟨vs,H1,I1,r1,q1⟩=>?_) hs rfl)))
 obtain ⟨pa,ns,e,hS,q1,hsub,q2,hL,q⟩:=q1;subst e;obtain ⟨u,rfl,ru⟩:=r1.one
 cases ru;obtain ⟨its,r,pl,hz⟩:=I1.list hS;have hI:=qg r
 have hl:its.length=ns.length:=by rw [<-r.length,length_map]
 have hl':its.toArray.size=ns.length:=by rw [size_toArray,hl]
 refine pR (ns:=ns) (I.ok.hd hc) pl.isList (by simpa using hI) (by rw [hl'];have:scanBound=4096:=rfl;omega) fun h1 tk1 st kp1=>?_
 rw [hl'] at st;refine Calls.spliced_nil ?_
 have I2:L2.Inv X pins σ H1 { s1 with heap:=h1,toks:=tk1 }:=I1.kept (t':=tk1) kp1
 obtain ⟨o,es,ep,t,ho,hex,hd,hel,hmem,hb,hf,hn,tb⟩:=st;refine Calls.call_function_entry kind_sorted plain_sorted entry_sorted (args_sorted1 _) ?_
 unfold Builtin.«sorted»
 refine KR (m:=checkCount "sorted" 1 1 _) (KS ?_)
 refine KR (oz (I.ok.hd hc) ho hex.1 hd hf hb tb fun h' tk dr us hk pm=>?_)
 have hlu:us.length=(zP ns).length:=by
  rw [pm.length_eq,length_map,Array.length_toList,hn];rfl
 obtain ⟨zs,hZ⟩:=kH (P:=X.prog) (w:=X.w) us fun u hu=>by
  obtain ⟨e,he,rfl⟩:=List.mem_map.mp (pm.mem_iff.mp hu);obtain ⟨k,hk,_⟩:=(hel e he).1;exact ⟨k,hk⟩
 have hdl:(zP ns).length<=L.length:=by
  unfold rN at hL;rw [Bool.and_eq_true,decide_eq_true_eq] at hL;exact kM _ _ (DF _ _) fun c hc=>hsub c (ddS_mem.mp hc)
 have hpz:zs.Perm (zP ns):=by
  refine (gL (zP ns) zs (DF _ _) (fun k hk=>?_) ?_)
  ·obtain ⟨e,he,hx⟩:=(hmem k).mp (List.any_eq_true.mpr ⟨k,hk,by simp⟩)
   exact (mM (P:=X.prog) (w:=X.w) hZ).mp ⟨e.2,pm.mem_iff.mpr (List.mem_map.mpr ⟨e,he,rfl⟩),hx⟩
  ·rw [<-hlu,mN hZ]
 refine KR (wpAny_newList ?_ (by rw [hlu,sizeLine_eq];omega))
 have hoL:(h'.push { cls:=.type "list",data:=.seq us.toArray }).get? h'.objs.size=some (seqObj "list" us.toArray 0):=Heap.get?_push_size _ rfl
 refine KR (wpAny_holding (wpAny_call_entry slot_list_sort ⟨_,hoL,rfl⟩ entry_list_sort (list_sort_treeK strKind_oneLt hoL hZ.keysOf (fun v1 v2 rest e=>keyKind_strs (by rw [<-e];exact hZ)) (by rw [hlu];omega) fun st' hp hs'=>⟨_,rfl,?_⟩) (args_list_sort _)))
 obtain ⟨ns',a1,a2,a3⟩:=sorted_out_str hZ hp hs'
 generalize (arrOf st').map (·.2)=out at a1
 have e:=AB hL hsub (a2.trans hpz) a3
 subst e;have hlen:(iK L ns).length<=L.length:=length_filter_le _ _
 obtain ⟨n,ho'⟩:=sortedHeap_at (out:=out) hoL
 have I3:L2.Inv X pins σ H1 { s1 with heap:=h',toks:=tk,drawn:=dr }:=L2Inv.drawn (I2.kept (t':=tk) hk) dr
 have kk:∀b o,h'.get? b=some o->(sortedHeap (h'.push { cls:=.type "list",data:=.seq us.toArray }) h'.objs.size us out).get? b=some o:=fun b o e=>by
  have hlt:=Heap.lt_size e
  rw [sortedHeap_old (Nat.ne_of_lt hlt) (by rw [Heap.size_push];exact Nat.lt_succ_of_lt hlt)]
  exact KU _ e
 exact KS ⟨_,rfl,.ref h'.objs.size,cy H1 h'.objs.size (.lst ((iK L ns).map V.str)),I3.laid (t':=tk) kk (KW _) ⟨by rw [length_map,sizeLine_eq];omega,out.toList,n,mH a1,by simpa [seqObj] using ho'⟩,rfl,q _ (I3.hok.fresh (KW _))⟩
noncomputable def gF:List KY->Option (List Str)
 | []=>some []
 | .str x::r=>(gF r).map (x :: ·)
 | _=>none
theorem mO:∀{ds:List KY} {ns:List Str},gF ds=some ns->ds=ns.map .str
 | [],ns,h=>by
  unfold gF at h
  cases h;rfl
 | d::r,ns,h=>by
  cases d with
  | str x=>
   unfold gF at h;obtain ⟨m,h1,rfl⟩:=Option.map_eq_some_iff.mp h;rw [mO h1];rfl
  | _=>cases h
noncomputable def gE:List KY->Option (List Str)
 | [.list ds]=>gF ds
 | _=>none
theorem oP {ds:List KY} {ns:List Str} (h:gE ds=some ns):ds=[.list (ns.map .str)]:=by
 unfold gE at h;split at h
 ·rw [mO h]
 ·cases h
noncomputable def lO (L ns:List Str):Bool:=decide (ns.length<4000)&&(ns.all fun c=>L.contains c)&&decide (L.length<64)&&rN L
section
variable {K:Fg} {W:XW} {σ:St} {H:Hp} {Q:VK} {fa:F1} {fl:FL}
noncomputable def gr (L:List Str) (fl:FL):F1:=fun Γ=>(fl Γ).bind fun ps Γ'=>match gE (ps.map (·.d)) with
 | some ns=>if lO L ns then .ok ⟨.lst .leaf,.list ((iK L ns).map .str)⟩ Γ' else .no
 | none=>.no
theorem uw {L:List Str} (h:tE K W (gr L fl) σ H Q):JR K L (tA K W fl) σ H Q:=by
 obtain ⟨He,O,Fs,Γ,E,h⟩:=h;refine ⟨He,O,Fs,Γ,E,?_⟩
 unfold gr at h
 cases e:fl Γ with
 | er c Γ'=>rw [e] at h;exact h
 | no=>rw [e] at h;exact h
 | ok ps Γ1=>
  rw [e] at h;intro vs H1 Gs Fs1 A;have r:=A.reps
  have h:Wants K W He O Fs H σ Q (match gE (ps.map (·.d)) with | some ns=>if lO L ns then .ok ⟨.lst .leaf,.list ((iK L ns).map .str)⟩ Γ1 else .no | none=>.no):=h
  cases ei:gE (ps.map (·.d)) with
   | none=>rw [ei] at h;exact h.elim
   | some ns=>
    rw [ei] at h;rw [oP ei] at r;have h:Wants K W He O Fs H σ Q (if lO L ns then .ok ⟨.lst .leaf,.list ((iK L ns).map .str)⟩ Γ1 else .no):=h
    by_cases hn:lO L ns=true
    case neg=>rw [if_neg hn] at h;exact h.elim
    rw [if_pos hn] at h;unfold lO at hn;simp only [Bool.and_eq_true,decide_eq_true_eq,all_eq_true,contains_iff_mem] at hn
    obtain ⟨⟨⟨n1,n2⟩,n3⟩,n4⟩:=hn;have hl:=r.1
    match vs,hl with
    | [v],_=>
     have q:=r.2 0 v (.list (ns.map .str)) rfl rfl
     cases q with
     | @lst p ws _ hq hwl hw=>
      have ew:ws=ns.map V.str:=by
       apply ext_getElem?
       intro i;by_cases hi:i<ws.length
       ·have hi2:i<ns.length:=by rw [length_map] at hwl;omega
        have q:=hw i (ws[i]'hi) (.str (ns[i]'hi2)) (KM _) (by rw [getElem?_map,KM hi2];rfl)
        rw [KM hi,getElem?_map,KM hi2];generalize ws[i]'hi=u at q
        cases q;rfl
       ·rw [getElem?_eq_none (by omega),getElem?_eq_none (by rw [length_map] at hwl ⊢;omega)]
      rw [ew] at hq;refine ⟨p,ns,rfl,hq,n1,n2,n3,n4,fun l hl=>h _ _ _ _ (A.newSc E.ndO hl (by simp) fun i v d a1 a2=>?_)⟩
      rw [getElem?_map] at a1 a2
      cases e3:(iK L ns)[i]? with
      | none=>rw [e3] at a1;cases a1
      | some z=>
       rw [e3] at a1 a2
       cases a1
       cases a2;exact .str z
end
section
variable {X:Cx} {N gl:List Str} {vs cs ls lo gs:List Nat} {W:XW} {a:Expr} {p pos:Pos} {fl:FL}
theorem cb_sortText {p2 pos2:Pos} (L:List Str) (S:Cp X N gl vs cs ls lo gs) (j k:Nat) (hj:gl[j]?=some ("sorted":Str)) (hg:gs.contains j=true) (hm:X.mg "sorted"=none) (hk:gl[k]?=some ("set":Str)) (hg2:gs.contains k=true) (hm2:X.mg "set"=none) (ha:PA X [a] (tA X.K W fl)) (hs:starEach [a] X.env=[(false,eval a X.env)])
  (hs1:starEach [.Call (.Name "set" p2) [a] [] pos2] X.env=[(false,eval (.Call (.Name "set" p2) [a] [] pos2) X.env)]):PE X (.Call (.Name "sorted" p) [.Call (.Name "set" p2) [a] [] pos2] [] pos) (tE X.K W (gr L fl)):=
 bp (nc (S.g hj hg).1 hm (S.g hk hg2).1 hm2 S.calm ha hs hs1) fun _ _ _=>uw
end
end T
namespace TQ
open PySem PySem.Spec L2 T
open PyProof.Rows hiding St
section
variable {X:Cx} {N gl:List Str} {vs cs ls lo gs:List Nat} {W:XW} {a:Expr} {p pos:Pos} {fl:FL}
theorem jW {p2 pos2:Pos} (L:List Str) (S:Cp X N gl vs cs ls lo gs) (j k:Nat) (hj:gl[j]?=some ("sorted":Str)) (hg:gs.contains j=true) (hm:X.mg "sorted"=none) (hk:gl[k]?=some ("set":Str)) (hg2:gs.contains k=true) (hm2:X.mg "set"=none) (ha:Q (PA X [a] (tA X.K W fl))) (hs:starEach [a] X.env=[(false,eval a X.env)])
  (hs1:starEach [.Call (.Name "set" p2) [a] [] pos2] X.env=[(false,eval (.Call (.Name "set" p2) [a] [] pos2) X.env)]):Q (PE X (.Call (.Name "sorted" p) [.Call (.Name "set" p2) [a] [] pos2] [] pos) (tE X.K W (gr L fl))):=⟨T.cb_sortText L S j k hj hg hm hk hg2 hm2 ha.p hs hs1⟩
end
end TQ
namespace T
open PySem PySem.Spec L2
open PyProof.Rows hiding St
section
variable {P:Program} {w:World} {A:Around} {E:Value->Shared->Prop} {s:Shared}
theorem uV {c t:Addr} {k:Nat} {its:Array Value} {x:Value} {Q:Value->Shared->Prop} (hc:s.heap.IsTupleIter c t k) (ht:s.heap.IsTuple t its) (hx:its[k]?=some x)
  (q:∀h',h'.IsTupleIter c t (k+1)->Heap.SameBut c s.heap h'->Q x { s with heap:=h' }):wpAny (model P w) A (Builtin.SmallTypes.nextOf (.ref c)) Q E s:=by
 obtain ⟨oc,e1,e2,e3⟩:=id hc;obtain ⟨ot,f1,_,n,f3⟩:=ht;unfold Builtin.SmallTypes.nextOf;refine KR (wpAny_callSpecial?_slot (name:=Str.ofString "__next__") hc.typeIs F.slot_tuple_iterator_next (wpAny_call_entry F.slot_tuple_iterator_next hc.typeIs F.entry_tuple_iterator_next ?_ (F.args_tuple_iterator_next_1 _)))
 show wpAny _ _ (field (.ref c) 0 >>= _) _ _ s
 refine KR (wpAny_field e1 e3 (x:=.ref t) rfl ?_)
 have ne:¬((Value.ref t==Value.none)=true):=Bool.false_ne_true
 show wpAny _ _ (if (Value.ref t==Value.none)=true then _ else _) _ _ _
 rw [if_neg ne];show wpAny _ _ (field (.ref c) 1 >>= _) _ _ s
 refine KR (wpAny_field e1 e3 (x:=.int k 0) rfl ?_)
 show wpAny _ _ (seqItems? (.ref t) >>= _) _ _ _
 refine KR (wpAny_seqItems f1 f3 ?_)
 simp only [hx,Int.toNat_natCast]
 refine KR (wpAny_setField e1 e3 (by simp) (KS ⟨x,rfl,KS (q _ ⟨_,Heap.get?_update_self _ e1 (Obj.isFreed_of_fields (Obj.data_mapFields e3 _)),(Obj.cls_mapFields ..).trans e2,?_⟩ (Heap.SameBut.update ..))⟩))
 rw [Obj.data_mapFields e3];simp [rawInt]
theorem yf {c t:Addr} {k:Nat} {its:Array Value} {Q:Value->Shared->Prop} (hn:A.handled=none) (hc:s.heap.IsTupleIter c t k) (ht:s.heap.IsTuple t its) (hx:its[k]?=none)
  (q:∀h' e,Heap.ExtBut c s.heap h'->(∃o,h'.get? e=some o/\o.cls=.type "StopIteration")->E (.ref e) { s with heap:=h' }):wpAny (model P w) A (Builtin.SmallTypes.nextOf (.ref c)) Q E s:=by
 obtain ⟨oc,e1,e2,e3⟩:=id hc;obtain ⟨ot,f1,_,n,f3⟩:=ht;unfold Builtin.SmallTypes.nextOf;refine KR (wpAny_callSpecial?_slot (name:=Str.ofString "__next__") hc.typeIs F.slot_tuple_iterator_next (wpAny_call_entry F.slot_tuple_iterator_next hc.typeIs F.entry_tuple_iterator_next ?_ (F.args_tuple_iterator_next_1 _)))
 show wpAny _ _ (field (.ref c) 0 >>= _) _ _ s
 refine KR (wpAny_field e1 e3 (x:=.ref t) rfl ?_)
 have ne:¬((Value.ref t==Value.none)=true):=Bool.false_ne_true
 show wpAny _ _ (if (Value.ref t==Value.none)=true then _ else _) _ _ _
 rw [if_neg ne];show wpAny _ _ (field (.ref c) 1 >>= _) _ _ s
 refine KR (wpAny_field e1 e3 (x:=.int k 0) rfl ?_)
 show wpAny _ _ (seqItems? (.ref t) >>= _) _ _ _
 refine KR (wpAny_seqItems f1 f3 ?_)
 simp only [hx,Int.toNat_natCast]
 refine KR (wpAny_rule (KR (wpAny_setField e1 e3 (by simp) ?_)))
 show wpAny _ _ (newExc (.type "StopIteration") [] >>= _) _ _ (_:Shared)
 refine KR ?_
 simp only [newTuple,newExc]
 refine KR (wpAny_newObj_type ?_ (by size_fits));refine KR (m:=firstArgMember _ _) (wpAny_of_eq (a:=Value.none) (by first | rfl | (simp only [firstArgMember];rfl)) ?_)
 refine wpAny_newObj_type ?_ (by size_fits);simp only [raiseNew]
 refine KR (wpAny_handled ?_);first | rw [show A.in1.handled=none from hn] | rw [hn]
 refine KR (KS (wpAny_throw (q _ _ (((Heap.SameBut.update ..).extBut.push _).push _) ⟨_,Heap.get?_push_size _ rfl,rfl⟩)))
theorem Heap.IsTupleIter.at' {h h':Heap} {a t:Addr} {i:Nat} (x:h.IsTupleIter a t i) (k:∀o,h.get? a=some o->h'.get? a=some o):h'.IsTupleIter a t i:=by
 obtain ⟨o,e,r⟩:=x;exact ⟨o,k o e,r⟩
theorem wC {z TI TO i1 i2 l1 l2:Addr} {k:Nat} {xs ys:Array Value} {x y a b:Value} {Q:Value->Shared->Prop} (D:ZipApart z TI TO i1 i2 l1 l2)
  (hz:IsZip s.heap z TI TO .none) (hI:IsPair s.heap TI (.ref i1) (.ref i2)) (hO:IsPair s.heap TO a b) (c1:s.heap.IsTupleIter i1 l1 k) (c2:s.heap.IsListIter i2 l2 k) (g1:s.heap.IsTuple l1 xs) (g2:s.heap.IsList l2 ys) (hx:xs[k]?=some x) (hy:ys[k]?=some y)
  (q:∀h',IsZip h' z TI TO (rawInt s.heap.objs.size)->IsPair h' TO x y->h'.IsTupleIter i1 l1 (k+1)->h'.IsListIter i2 l2 (k+1)->IsPair h' s.heap.objs.size x y->h'.objs.size=s.heap.objs.size+1 ->
   (∀c o,c≠z->c≠TO->c≠i1->c≠i2->s.heap.get? c=some o->h'.get? c=some o)->Q (.ref s.heap.objs.size) { s with heap:=h' }) :
  wpAny (model P w) A (Builtin.«zip.__next__» ⟨[.ref z],[]⟩) (fun fin s'=>∃v,fin=.done (.ret v)/\Q v s') E s:=by
 show wpAny _ _ (field (.ref z) 2 >>= _) _ _ s
 refine KR (wpAny_field hz rfl (x:=.bool false) rfl ?_);show wpAny _ _ (field (.ref z) 3 >>= _) _ _ _
 refine KR (wpAny_field hz rfl (x:=.ref TI) rfl ?_);refine KR (wpAny_seqItems hI rfl ?_)
 show wpAny _ _ (Builtin.SmallTypes.ownedTupleIsFree (.ref z) >>= _) _ _ s
 refine KR ?_;unfold Builtin.SmallTypes.ownedTupleIsFree;refine KR (wpAny_field hz rfl (x:=.none) rfl (KS ?_))
 simp only [if_true];refine KR (wpAny_rule ?_);refine KR (wpAny_field hz rfl (x:=.ref TO) rfl ?_)
 refine KR (wpAny_setField_rec hz (by simp) fun j1 z1 s1=>?_);replace z1:IsZip j1 z TI TO .ellipsis:=z1
 refine KR ?_;simp only [List.zipIdx_cons,List.zipIdx_nil,forIn_nil,List.forIn_cons]
 refine KR (KR (wpAny_onRaise ?_));show wpAny _ _ (Builtin.SmallTypes.nextOf (.ref i1) >>= _) _ _ _
 refine KR (uV (c1.extBut s1.extBut D.i1z) (g1.extBut s1.extBut D.l1z) hx fun j2 d1 s2=>KS ?_)
 have o2:IsPair j2 TO a b:=s2.extBut _ _ D.TOi1 (s1.extBut _ _ D.TOz hO)
 refine KR (wpAny_seqItems o2 rfl ?_);refine KR (wpAny_updateSeq_pair o2 fun j3 o3 s3=>?_)
 replace o3:IsPair j3 TO x b:=o3
 refine KR (wpAny_letGo (KS ?_));refine KR (KR (wpAny_onRaise ?_));show wpAny _ _ (Builtin.SmallTypes.nextOf (.ref i2) >>= _) _ _ _
 refine KR (wpAny_nextOf_list_item (((c2.extBut s1.extBut D.i2z).extBut s2.extBut D.i12.symm).extBut s3.extBut D.TOi2.symm) (((g2.extBut s1.extBut D.l2z).extBut s2.extBut D.l2i1).extBut s3.extBut D.l2TO) hy fun j4 d2 s4=>KS ?_)
 have o4:IsPair j4 TO x b:=s4.extBut _ _ D.TOi2 o3
 refine KR (wpAny_seqItems o4 rfl ?_);refine KR (wpAny_updateSeq_pair o4 fun j5 o5 s5=>?_)
 replace o5:IsPair j5 TO x y:=o5
 refine KR (wpAny_letGo (KS (KS ?_)));refine KR (wpAny_seqItems o5 rfl ?_);refine KR (wpAny_newTuple ?_)
 have ez:j5.objs.size=s.heap.objs.size:=by rw [s5.1,s4.1,s3.1,s2.1,s1.1]
 have z5:IsZip j5 z TI TO .ellipsis:=s5.extBut _ _ D.TOz.symm (s4.extBut _ _ D.i2z.symm (s3.extBut _ _ D.TOz.symm (s2.extBut _ _ D.i1z.symm z1)))
 have kp:∀c o,c≠z->c≠TO->c≠i1->c≠i2->s.heap.get? c=some o->j5.get? c=some o:=fun c o n1 n2 n3 n4 e=>s5.extBut _ _ n2 (s4.extBut _ _ n4 (s3.extBut _ _ n2 (s2.extBut _ _ n3 (s1.extBut _ _ n1 e))))
 have a1:j5.IsTupleIter i1 l1 (k+1):=((d1.extBut s3.extBut D.TOi1.symm).extBut s4.extBut D.i12).extBut s5.extBut D.TOi1.symm
 have a2:j5.IsListIter i2 l2 (k+1):=d2.extBut s5.extBut D.TOi2.symm
 have zl:z<j5.objs.size:=Heap.lt_size z5
 show wpAny _ _ (Builtin.SmallTypes.ownedTupleHandOut (.ref z) (.ref j5.objs.size) >>= _) _ _ _
 refine KR ?_;unfold Builtin.SmallTypes.ownedTupleHandOut;have z6:IsZip (j5.push { cls:=.type "tuple",data:=.seq #[x,y] }) z TI TO .ellipsis:=KU _ z5
 refine KR (wpAny_setField_rec z6 (by simp) fun j7 z7 s7=>?_);replace z7:IsZip j7 z TI TO (rawInt j5.objs.size):=z7
 refine wpAny_setField_rec z7 (by simp) fun j8 z8 s8=>?_;replace z8:IsZip j8 z TI TO (rawInt j5.objs.size):=z8
 have up:∀c o,c≠z->j5.get? c=some o->j8.get? c=some o:=fun c o n1 e=>s8.extBut _ _ n1 (s7.extBut _ _ n1 (KU _ e))
 have t8:IsPair j8 j5.objs.size x y:=s8.extBut _ _ (Nat.ne_of_gt zl) (s7.extBut _ _ (Nat.ne_of_gt zl) (Heap.get?_push_size _ rfl))
 have n8:j8.objs.size=j5.objs.size+1:=by rw [s8.1,s7.1,Heap.size_push]
 rw [ez] at z8 t8 n8
 refine KS ⟨_,rfl,?_⟩;show Q (.ref j5.objs.size) _;rw [ez];exact q j8 z8 (up _ _ D.TOz o5) (Heap.IsTupleIter.at' a1 fun o e=>up _ o D.i1z e) (a2.at fun o e=>up _ o D.i2z e) t8 n8 fun c o n1 n2 n3 n4 e=>up c o n1 (kp c o n1 n2 n3 n4 e)
theorem zW {z TI TO i1 i2 l1 l2:Addr} {k:Nat} {xs:Array Value} {a b:Value} {Q:Fin->Shared->Prop} (hn:A.handled=none) (D:ZipApart z TI TO i1 i2 l1 l2)
  (hz:IsZip s.heap z TI TO .none) (hI:IsPair s.heap TI (.ref i1) (.ref i2)) (c1:s.heap.IsTupleIter i1 l1 k) (g1:s.heap.IsTuple l1 xs) (hx:xs[k]?=none)
  (q:∀h' e,(∀c o,c≠z->c≠i1->s.heap.get? c=some o->h'.get? c=some o)->(∃o,h'.get? e=some o/\o.cls=.type "StopIteration")->E (.ref e) { s with heap:=h' }) :
  wpAny (model P w) A (Builtin.«zip.__next__» ⟨[.ref z],[]⟩) Q E s:=by
 show wpAny _ _ (field (.ref z) 2 >>= _) _ _ s
 refine KR (wpAny_field hz rfl (x:=.bool false) rfl ?_);show wpAny _ _ (field (.ref z) 3 >>= _) _ _ _
 refine KR (wpAny_field hz rfl (x:=.ref TI) rfl ?_);refine KR (wpAny_seqItems hI rfl ?_)
 show wpAny _ _ (Builtin.SmallTypes.ownedTupleIsFree (.ref z) >>= _) _ _ s
 refine KR ?_;unfold Builtin.SmallTypes.ownedTupleIsFree;refine KR (wpAny_field hz rfl (x:=.none) rfl (KS ?_))
 simp only [if_true];refine KR (wpAny_rule ?_);refine KR (wpAny_field hz rfl (x:=.ref TO) rfl ?_)
 refine KR (wpAny_setField_rec hz (by simp) fun j1 z1 s1=>?_);replace z1:IsZip j1 z TI TO .ellipsis:=z1
 refine KR ?_;simp only [List.zipIdx_cons,List.zipIdx_nil,forIn_nil,List.forIn_cons]
 refine KR (KR (wpAny_onRaise ?_));show wpAny _ _ (Builtin.SmallTypes.nextOf (.ref i1) >>= _) _ _ _
 refine KR (yf hn (c1.extBut s1.extBut D.i1z) (g1.extBut s1.extBut D.l1z) hx fun j2 e s2 he=>?_)
 obtain ⟨oe,he1,he2⟩:=he;have z2:IsZip j2 z TI TO .ellipsis:=s2 _ _ D.i1z.symm z1
 have ne:e≠z:=fun y=>by
  subst y;rw [z2] at he1
  cases he1;simp at he2
 exact wpAny_setField_rec z2 (by simp) fun j3 _ s3=>q j3 e (fun c o n1 n3 y=>s3.extBut _ _ n1 (s2 _ _ n3 (s1.extBut _ _ n1 y))) ⟨oe,s3.extBut _ _ ne he1,he2⟩
theorem wB {z TI TO i1 i2 l1 l2:Addr} {k:Nat} {xs ys:Array Value} {x y a b:Value} {Q:Option Value->Shared->Prop} (D:ZipApart z TI TO i1 i2 l1 l2)
  (hz:IsZip s.heap z TI TO .none) (hI:IsPair s.heap TI (.ref i1) (.ref i2)) (hO:IsPair s.heap TO a b) (c1:s.heap.IsTupleIter i1 l1 k) (c2:s.heap.IsListIter i2 l2 k) (g1:s.heap.IsTuple l1 xs) (g2:s.heap.IsList l2 ys) (hx:xs[k]?=some x) (hy:ys[k]?=some y)
  (q:∀h',IsZip h' z TI TO (rawInt s.heap.objs.size)->IsPair h' TO x y->h'.IsTupleIter i1 l1 (k+1)->h'.IsListIter i2 l2 (k+1)->IsPair h' s.heap.objs.size x y->h'.objs.size=s.heap.objs.size+1 ->
   (∀c o,c≠z->c≠TO->c≠i1->c≠i2->s.heap.get? c=some o->h'.get? c=some o)->Q (some (.ref s.heap.objs.size)) { s with heap:=h' }):wpAny (model P w) A (pyNext (.ref z)) Q E s:=by
 have ty:s.TypeIs (.ref z) "zip":=⟨_,hz,rfl⟩
 unfold pyNext;exact KR (wpAny_attempt (wpAny_callSpecial?_slot (name:=Str.ofString "__next__") ty F.slot_zip_next (wpAny_call_entry F.slot_zip_next ty F.entry_zip_next (wC D hz hI hO c1 c2 g1 g2 hx hy fun h' a1 a2 a3 a4 a5 a6 a7=>KS (q h' a1 a2 a3 a4 a5 a6 a7)) (F.args_zip_next_1 _))))
theorem wA {z TI TO i1 i2 l1 l2:Addr} {k:Nat} {xs:Array Value} {a b:Value} {Q:Option Value->Shared->Prop} (hn:A.handled=none) (D:ZipApart z TI TO i1 i2 l1 l2)
  (hz:IsZip s.heap z TI TO .none) (hI:IsPair s.heap TI (.ref i1) (.ref i2)) (c1:s.heap.IsTupleIter i1 l1 k) (g1:s.heap.IsTuple l1 xs) (hx:xs[k]?=none)
  (q:∀h',(∀c o,c≠z->c≠i1->s.heap.get? c=some o->h'.get? c=some o)->Q none { s with heap:=h' }):wpAny (model P w) A (pyNext (.ref z)) Q E s:=by
 have ty:s.TypeIs (.ref z) "zip":=⟨_,hz,rfl⟩
 unfold pyNext;refine KR (wpAny_attempt (wpAny_callSpecial?_slot (name:=Str.ofString "__next__") ty F.slot_zip_next (wpAny_call_entry F.slot_zip_next ty F.entry_zip_next (zW (a:=a) (b:=b) hn D hz hI c1 g1 hx fun h' e hk he=>?_) (F.args_zip_next_1 _))))
 obtain ⟨o,h1,h2⟩:=he;exact KR (wpAny_isInstance (T := "StopIteration") (b:=true) ⟨o,h1,h2⟩ isSubtype_stop (KS (q _ hk)))
noncomputable abbrev FF (h:Heap) (l1:Addr):Heap:=h.push { cls:=.type "tuple_iterator",data:=.fields #[.ref l1,.int 0 0] }
noncomputable abbrev FE (h:Heap) (l1 l2:Addr):Heap:=(FF h l1).push { cls:=.type "list_iterator",data:=.fields #[.ref l2,.int 0 0] }
noncomputable abbrev FD (h:Heap) (l1 l2:Addr):Heap:=(FE h l1 l2).push { cls:=.type "tuple",data:=.seq #[.ref h.objs.size,.ref (FF h l1).objs.size] }
noncomputable abbrev FC (h:Heap) (l1 l2:Addr):Heap:=(FD h l1 l2).push { cls:=.type "tuple",data:=.seq #[.none,.none] }
noncomputable abbrev CY (h:Heap) (l1 l2:Addr):Heap:=(FC h l1 l2).push { cls:=.type "zip",data:=.fields #[.none,.bool false,.bool false,.ref (FE h l1 l2).objs.size,.ref (FD h l1 l2).objs.size] }
theorem zV (l1 l2:Addr) (xs ys:Array Value) :
  Meets (Builtin.«zip.__new__» ⟨[.type "zip",.ref l1,.ref l2],[]⟩) (fun _ R s=>s.heap.IsTuple l1 xs/\s.heap.IsList l2 ys/\R (.ok (.ret (.ref (FC s.heap l1 l2).objs.size))) { s with heap:=CY s.heap l1 l2 }):=
 .of_wp fun prog w A R s h=>by
  obtain ⟨hp,g,d,tk,os⟩:=s;obtain ⟨e1,e2,h⟩:=h;have hsub:=sub_zip
  have f1:Heap.IsTuple (Shared.heap ⟨hp,g,d,tk,os⟩) l1 xs:=e1
  have f2:Heap.IsList (Shared.heap ⟨hp.push { cls:=.type "tuple_iterator",data:=.fields #[.ref l1,.int 0 0] },g,d,tk,os⟩) l2 ys:=Heap.IsList.push e2 _
  wp_walk using wpAny_pyIter_tuple f1,wpAny_pyIter_list f2
  exact ⟨_,rfl,h⟩
theorem yQ {l1 l2:Addr} {xs ys:Array Value} {Q:Value->Shared->Prop} (e1:s.heap.IsTuple l1 xs) (e2:s.heap.IsList l2 ys)
  (q:∀h',IsZip h' (s.heap.objs.size+4) (s.heap.objs.size+2) (s.heap.objs.size+3) .none->IsPair h' (s.heap.objs.size+2) (.ref s.heap.objs.size) (.ref (s.heap.objs.size+1))->IsPair h' (s.heap.objs.size+3) .none .none->h'.IsTupleIter s.heap.objs.size l1 0->h'.IsListIter (s.heap.objs.size+1) l2 0 ->
   (∀c o,s.heap.get? c=some o->h'.get? c=some o)->Q (.ref (s.heap.objs.size+4)) { s with heap:=h' }):wpAny (model P w) A (call (.type "zip") [.ref l1,.ref l2]) Q E s:=by
 refine callType_new F.called_zip (by decide) (F.typeCall_zip_2 _ _) (F.newCall_zip_2 _ _) (fun obj=>F.args_object_init_3 obj _ _) F.entry_zip_new (zV l1 l2 xs ys) ⟨e1,e2,?_⟩
 have p1:(FF s.heap l1).objs.size=s.heap.objs.size+1:=Heap.size_push ..
 have p2:(FE s.heap l1 l2).objs.size=s.heap.objs.size+2:=by rw [Heap.size_push,p1]
 have p3:(FD s.heap l1 l2).objs.size=s.heap.objs.size+3:=by rw [Heap.size_push,p2]
 have p4:(FC s.heap l1 l2).objs.size=s.heap.objs.size+4:=by rw [Heap.size_push,p3]
 have g5:(CY s.heap l1 l2).get? (FC s.heap l1 l2).objs.size=some _:=Heap.get?_push_size _ rfl
 have g4:(CY s.heap l1 l2).get? (FD s.heap l1 l2).objs.size=some _:=KU _ (Heap.get?_push_size _ rfl)
 have g3:(CY s.heap l1 l2).get? (FE s.heap l1 l2).objs.size=some _:=KU _ (KU _ (Heap.get?_push_size _ rfl))
 have g2:(CY s.heap l1 l2).get? (FF s.heap l1).objs.size=some _:=KU _ (KU _ (KU _ (Heap.get?_push_size _ rfl)))
 have g1:(CY s.heap l1 l2).get? s.heap.objs.size=some _:=KU _ (KU _ (KU _ (KU _ (Heap.get?_push_size _ rfl))))
 show _/\_
 rw [p2,p3,p4] at g5;rw [p1,p2] at g3;rw [p3] at g4;rw [p1] at g2;rw [p4];exact ⟨⟨_,g5,rfl⟩,q _ g5 g3 g4 ⟨_,g1,rfl,rfl⟩ ⟨_,g2,rfl,rfl⟩ fun c o x=>KU _ (KU _ (KU _ (KU _ (KU _ x))))⟩
end
noncomputable def JI (K:Fg) (a b:Addr):It:=
 ⟨fun i H=>∃xs ys x y,SqT K H a xs/\SqL K H b ys/\xs[i]?=some x/\ys[i]?=some y,fun i H x H'=>∃T v w,x=.ref T/\H T=none/\H'=cy H T (.tup [v,w])/\∀xs ys,SqT K H a xs->SqL K H b ys->xs[i]?=some v/\ys[i]?=some w,fun i H=>∃xs,SqT K H a xs/\i=xs.length⟩
theorem w5 {P:Program} {w:World} {K:Fg} {elts:List Expr} {k:Nat} {pos:Pos} (a b z TI TO i1 i2:Addr) (D:ZipApart z TI TO i1 i2 a b) :
  vU P w K (.Tuple elts k pos) (JI K a b) [z,TI,TO,i1,i2] z (fun i h=>IsZip h z TI TO .none/\IsPair h TI (.ref i1) (.ref i2)/\(∃a b,IsPair h TO a b)/\h.IsTupleIter i1 a i/\h.IsListIter i2 b i) where
 mem:=by simp
 obj:=fun i h st c hc=>by
  obtain ⟨hz,hTI,⟨u,v,hTO⟩,⟨o1,e1,c1,d1⟩,⟨o2,e2,c2,d2⟩⟩:=st;simp only [mem_cons,not_mem_nil,or_false] at hc
  rcases hc with rfl | rfl | rfl | rfl | rfl
  ·exact ⟨_,hz,fun v z=>by
    have z':Data.fields _=Data.cell v:=z
    cases z'⟩
  ·exact ⟨_,hTI,fun v z=>by
    have z':Data.seq _ _=Data.cell v:=z
    cases z'⟩
  ·exact ⟨_,hTO,fun v z=>by
    have z':Data.seq _ _=Data.cell v:=z
    cases z'⟩
  ·exact ⟨o1,e1,fun v z=>by rw [d1] at z;cases z⟩
  ·exact ⟨o2,e2,fun v z=>by rw [d2] at z;cases z⟩
 keep:=fun i h h' st kk=>by
  obtain ⟨hz,hTI,⟨u,v,hTO⟩,h1,h2⟩:=st;exact ⟨kk z (by simp) _ hz,kk TI (by simp) _ hTI,⟨u,v,kk TO (by simp) _ hTO⟩,Heap.IsTupleIter.at' h1 fun o q=>kk i1 (by simp) o q,h2.at fun o q=>kk i2 (by simp) o q⟩
 item:=by
  intro X hP hw hK hc i pins s σ H E I hf st hg;subst hP hw hK;obtain ⟨xs,ys,x,y,hq,hq2,hx,hy⟩:=hg;obtain ⟨its,rv,p,hz⟩:=I.tuple hq;obtain ⟨its2,rv2,p2,hz2⟩:=I.list hq2;obtain ⟨u,hu,ru⟩:=rv.get hx;obtain ⟨u2,hu2,ru2⟩:=rv2.get hy;obtain ⟨sz,sI,⟨a0,b0,sO⟩,s1,s2⟩:=st;refine wB D sz sI sO s1 s2 p p2.isList (by rw [getElem?_toArray];exact hu) (by rw [getElem?_toArray];exact hu2) fun h' r1 r2 r3 r4 r5 r6 kk=>?_
  refine ⟨.ref s.heap.objs.size,rfl,wpAny_letOwnedTupleGo_zip r1 fun h2 z2 kk2=>?_⟩
  have lt:∀{c o},s.heap.get? c=some o->s.heap.objs.size≠c:=fun e=>Nat.ne_of_gt (Heap.lt_size e)
  have nz:s.heap.objs.size≠z:=lt sz
  have hTn:H s.heap.objs.size=none:=I.hok.fresh (KW _)
  have kAll:∀c o,c∉[z,TI,TO,i1,i2]->s.heap.get? c=some o->h2.get? c=some o:=fun c o hb q=>by
   simp only [mem_cons,not_mem_nil,or_false,not_or] at hb
   exact kk2.extBut _ _ hb.1 (kk c o hb.1 hb.2.2.1 hb.2.2.2.1 hb.2.2.2.2 q)
  have tT:h2.IsTuple s.heap.objs.size #[u,u2]:=⟨_,kk2.extBut _ _ nz r5,rfl,_,rfl⟩
  have hvs:Vals [x,y] [u,u2]:=.cons ru (.cons ru2 .nil)
  have I3:L2.Inv X pins σ (cy H s.heap.objs.size (.tup [x,y])) { s with heap:=h2 }:=Inv.turnedT (t':=s.toks) I kAll hf (KW _) ⟨by show 2<=sizeLine;decide,[u,u2],hvs,(show IsTup h2 _ _ from tT)⟩
  refine ⟨.ref s.heap.objs.size,cy H s.heap.objs.size (.tup [x,y]),I3,rfl,⟨_,x,y,rfl,hTn,rfl,fun xs' ys' h1 h2=>by rw [I.tuple_inj h1 hq,I.list_inj h2 hq2];exact ⟨hx,hy⟩⟩,⟨z2,kk2.extBut _ _ D.TIz (kk TI _ D.TIz D.TITO D.TIi1 D.TIi2 sI),⟨_,_,kk2.extBut _ _ D.TOz r2⟩,r3.extBut kk2.extBut D.i1z,r4.extBut kk2.extBut D.i2z⟩,fun c hb=>?_⟩
  have hbT:c≠s.heap.objs.size:=fun q=>by
   subst q;simp only [mem_cons,not_mem_nil,or_false] at hb
   rcases hb with h | h | h | h | h
   ·exact nz h
   ·exact lt sI h
   ·exact lt sO h
   ·exact (let ⟨_,e,_⟩:=s1;lt e) h
   ·exact (let ⟨_,e,_⟩:=s2;lt e) h
  rw [gz hbT];exact (hf c hb).1
 done:=by
  intro X hP hw hK hc i pins s σ H E I hf st hg;subst hP hw hK;obtain ⟨xs,hq,hx⟩:=hg;obtain ⟨its,rv,p,hz⟩:=I.tuple hq;obtain ⟨sz,sI,⟨a0,b0,sO⟩,s1,s2⟩:=st;refine wA (a:=a0) (b:=b0) (I.ok.hd hc) D sz sI s1 p (by rw [getElem?_toArray,hx,rv.length];simp) fun h' hk=>⟨rfl,Inv.turnedL (t':=s.toks) I (fun c o hb q=>?_) hf⟩
  simp only [mem_cons,not_mem_nil,or_false,not_or] at hb
  exact hk c o hb.1 hb.2.2.2.1 q
 self:=fun _ _ _ _ _ st h=>wpAny_pyIter_zip st.1 h
noncomputable def Kj (K:Fg) (ta:TA):TI:=fun σ H R=>ta σ H fun vs H1=>∃a b,vs=[.ref a,.ref b]/\(∃xs,SqT K H1 a xs)/\(∃ys,SqL K H1 b ys)/\R (JI K a b) H1
theorem Ew {X:Cx} {elts:List Expr} {kt:Nat} {ptg:Pos} {l m:Expr} {ta:TA} {p pos:Pos} (hg:Gl X "zip") (hm:X.mg "zip"=none) (ha:PA X [l,m] ta) (hs:starEach [l,m] X.env=(false,eval l X.env)::starEach [m] X.env) (hpl:(backTo pos (starEach [m] X.env)).any (·.1)=false) :
  PI X (.Tuple elts kt ptg) (.Call (.Name "zip" p) [l,m] [] pos) (Kj X.K ta):=by
 intro pins s σ H R I h;refine Call_ (vY I hg hm boot_zip (PyProof.Rows.callWith_type1 (b6 (ha pos pins s σ H _ I h) fun us s1 ⟨vs,H1,I1,r1,q1⟩=>?_) hs hpl))
 obtain ⟨a,b,e,⟨xs,hq⟩,⟨ys,hq2⟩,q⟩:=q1;subst e;obtain ⟨u1,u2,rfl,ru,ru2⟩:∃u1 u2,us=[u1,u2]/\RelV (.ref a) u1/\RelV (.ref b) u2:=by
  cases r1 with
  | cons p q=>
   cases q with
   | cons p' q'=>
    cases q'
    exact ⟨_,_,rfl,p,p'⟩
 cases ru
 cases ru2;obtain ⟨its,rv,pl,hz⟩:=I1.tuple hq;obtain ⟨its2,rv2,pl2,hz2⟩:=I1.list hq2;refine yQ pl pl2.isList fun h' hZ hTI hTO hi1 hi2 hk=>?_
 have ha1:a<s1.heap.objs.size:=by
  obtain ⟨o,q1,_⟩:=pl;exact Heap.lt_size q1
 have hb1:b<s1.heap.objs.size:=by
  obtain ⟨o,q1,_⟩:=pl2.isList;exact Heap.lt_size q1
 refine wpAny_pyIter_zip (s:={ s1 with heap:=h' }) hZ ?_
 have I2:L2.Inv X pins σ H1 { s1 with heap:=h' }:=I1.kept (t':=s1.toks) hk
 have D:ZipApart (s1.heap.objs.size+4) (s1.heap.objs.size+2) (s1.heap.objs.size+3) s1.heap.objs.size (s1.heap.objs.size+1) a b:=by
  constructor<;>first | exact Nat.ne_of_lt (by omega) | exact Nat.ne_of_gt (by omega) | exact Nat.ne_of_lt (Nat.lt_of_lt_of_le ha1 (by omega)) | exact Nat.ne_of_lt (Nat.lt_of_lt_of_le hb1 (by omega))
 refine ⟨s1.heap.objs.size+4,[s1.heap.objs.size+4,s1.heap.objs.size+2,s1.heap.objs.size+3,s1.heap.objs.size,s1.heap.objs.size+1],_,JI X.K a b,H1,rfl,I2,w5 a b _ _ _ _ _ D,⟨hZ,hTI,⟨_,_,hTO⟩,hi1,hi2⟩,fun c hb=>?_,q⟩
 simp only [mem_cons,not_mem_nil,or_false] at hb
 have hb2:s1.heap.objs.size<=c:=by
  rcases hb with z | z | z | z | z<;>rw [z]<;>first | exact Nat.le_add_right _ _ | exact KW _
 exact I1.fpOk hb2 (I1.hok.fresh hb2)
noncomputable def wD (s:Sh) (i j:Nat) (fc:FB) (fe:F1) (ps:List PV) (Γ1:Ev):Out PV:=match ps with
 | [⟨s1,.tuple ds⟩,⟨s2,.list ds2⟩]=>if aE ⟨s1,.tuple ds⟩ ds&&aE ⟨s2,.list ds2⟩ ds2&&decide (ds.length=ds2.length)&&d5 Γ1[i]?&&d5 Γ1[j]?&&!s.isView then (match df i j fc fe s (ds.zip ds2) Γ1 [] with
  | .ok ds Γ2=>.ok ⟨.lst s,.list ds⟩ Γ2
  | _=>.no) else .no
 | _=>.no
noncomputable def fM (s:Sh) (i j:Nat) (fl:FL) (fc:FB) (fe:F1):F1:=fun Γ=>(fl Γ).bind (wD s i j fc fe)
section
variable {K:Fg} {W:XW} {σ:St} {H:Hp} {Q:VK} {fl:FL} {fe:F1} {fc:FB} {s:Sh} {i j:Nat}
theorem uA (hij:i≠j) (h:tE K W (fM s i j fl fc fe) σ H Q):mJ [i,j] (Kj K (tA K W fl)) (EX K 2 (vw (iE i) (vw (iE j) EY))) (tT K W0 fc) (tE K W0 fe) σ H Q:=by
 obtain ⟨He,O,Fs,Γ,E,h⟩:=h;refine ⟨He,O,Fs,Γ,E,?_⟩
 unfold fM at h
 cases e:fl Γ with
 | er c Γ1=>rw [e] at h;exact h
 | no=>rw [e] at h;exact h
 | ok ps Γ1=>
  rw [e] at h;intro us H1 Gs0 Fs1 A;have hz:Wants K W He O Fs H σ Q (wD s i j fc fe ps Γ1):=h
  clear h;unfold wD at hz;split at hz
  case h_2=>exact hz.elim
  rename_i s1 ds s2 ds2;have h:=hz
  clear hz;by_cases hn:(aE ⟨s1,.tuple ds⟩ ds&&aE ⟨s2,.list ds2⟩ ds2&&decide (ds.length=ds2.length)&&d5 Γ1[i]?&&d5 Γ1[j]?&&!s.isView)=true
  case neg=>rw [if_neg hn] at h;exact h.elim
  rw [if_pos hn] at h;simp only [Bool.and_eq_true,Bool.not_eq_true',decide_eq_true_eq] at hn
  obtain ⟨⟨⟨⟨⟨hc1,hc2⟩,hdl⟩,hni⟩,hnj⟩,hsv⟩:=hn;have hni:=jt hni
  have hnj:=jt hnj
  match us,A.len1,Gs0,A.len2,A with
  | [v1,v2],_,[G1,G2],_,A=>
    cases eg:df i j fc fe s (ds.zip ds2) Γ1 [] with
    | er c Γ'=>rw [eg] at h;exact h.elim
    | no=>rw [eg] at h;exact h.elim
    | ok ds' Γ2=>
     rw [eg] at h;have h:Wants K W He O Fs H σ Q (.ok ⟨.lst s,.list ds'⟩ Γ2):=h
     have nd0:=A.env.nd
     have dis:∀a∈[G1,G2].flatten,a∉O++Fs1.flatten:=fun a ha z=>by
      obtain ⟨n1,n2,n3⟩:=KP nd0;rcases KJ z with y | y
      ·exact (KP n1).2.2 a ha a y rfl
      ·exact n3 a (KI _ ha) a y rfl
     have sub:∀a∈O++Fs1.flatten,a∈[G1,G2].flatten++O++Fs1.flatten:=fun a ha=>by
      rcases KJ ha with z | z
      ·exact KI _ (KH _ z)
      ·exact KH _ z
     obtain ⟨p,vs,rfl,hq,hst,hr⟩:=(A.own 0 v1 _ G1 rfl rfl rfl).itemsT (O':=O++Fs1.flatten) hc1 sub (fun a ha=>dis a (by simp [ha]))
     obtain ⟨p2,vs2,rfl,hq2,hst2,hr2⟩:=(A.own 1 v2 _ G2 rfl rfl rfl).items (O':=O++Fs1.flatten) hc2 sub (fun a ha=>dis a (by simp [ha]))
     have E1:EnvOk K He O Fs1 H1 σ Γ1:=A.env.dropL
     have hlen:vs.length=ds.length:=hr.1
     have hlen2:vs2.length=ds2.length:=hr2.1
     have hi:i<Γ1.length:=(KQ hni).1
     have hj:j<Γ1.length:=(KQ hnj).1
     refine ⟨p,p2,rfl,⟨vs,hq⟩,⟨vs2,hq2⟩,fun A0 hD=>?_⟩
     have hHeD:He A0=none:=E1.same.free hD
     have E0':EnvOk K He (A0::([]:List (List Addr)).flatten++O) Fs1 (cy H1 A0 (.lst [])) (bL [i,j] σ) Γ1:=
      (E1.blank2 hni hnj).hide (G:=[A0]) (lD hD) (by simp) (fun a ha=>by simp at ha;rw [ha];exact hD) (fun a ha=>by simp at ha;rw [ha,jQ];exact Option.some_ne_none _)
     refine ⟨fun k m ys H'=>m=vs.length-k/\k<=vs.length/\∃Γk Fk Gs acc,Fy K He O Fs1 H1 σ i j s A0 Γ1.length ys H' Γk Fk Gs acc/\df i j fc fe s ((ds.zip ds2).drop k) Γk acc=.ok ds' Γ2,⟨vs.length,by simp,Nat.zero_le _,Γ1,Fs1,[],[],⟨E0',lD hD,jQ,fun a ha=>.inl (by simpa using ha),rfl,rfl,fun m v d G h1=>by simp at h1,rfl⟩,by simpa using eg⟩,?_⟩
     rintro k m ys H' ⟨rfl,hk,Γk,Fk,Gs,acc,g,eg'⟩
     refine ⟨g.at_,?_⟩
     have hPk:SqT K H' p vs:=gm g.same hq
     have hPk2:SqL K H' p2 vs2:=g.same.seq hq2
     by_cases hlt:k<vs.length
     case neg=>
      left
      have:(ds.zip ds2).drop k=[]:=List.drop_eq_nil_of_le (by rw [List.length_zip];omega)
      rw [this] at eg';have eg'':(Out.ok acc Γk:Out (List KY))=.ok ds' Γ2:=eg'
      injection eg'' with e1 e2
      subst e1;subst e2;refine ⟨⟨vs,hPk,by omega⟩,?_⟩
      obtain ⟨n1',_,n3'⟩:=KP g.env.ndO;refine h (.ref A0) H' (A0::Gs.flatten) Fk ⟨A.same.trans g.same,g.env.unblank2,fun a ha=>?_,?_⟩
      ·have up:a∈Fs1.flatten\/H1 a=none->a∈Fs.flatten\/H a=none:=fun z=>z.elim (fun y=>A.new a (KH _ y)) fun y=>.inr (A.same.free y)
       rcases KJ ha with z | z
       ·rcases KL z with z | z
        ·exact up (.inr (by rw [z];exact hD))
        ·exact up (g.new a (KI _ z))
       ·exact up (g.new a (KH _ z))
      ·exact .lst hsv g.at_ g.l1 g.l2 n1' fun m v d G h1 h2 h3=>g.own m v d G h1 h2 h3
     case pos=>
      right
      have hv:vs[k]?=some vs[k]:=KM hlt
      have hkd:k<ds.length:=by omega
      have hd:ds[k]?=some ds[k]:=KM hkd
      have hv2:vs2[k]?=some (vs2[k]'(by omega)):=KM _
      have hd2:ds2[k]?=some (ds2[k]'(by omega)):=KM _
      have hdr:(ds.zip ds2).drop k=(ds[k],ds2[k]'(by omega))::(ds.zip ds2).drop (k+1):=by
       rw [List.drop_eq_getElem_cons (by rw [List.length_zip];omega),List.getElem_zip]
      rw [hdr] at eg';generalize hdk:ds[k]=d at hd eg'
      generalize hvk:vs[k]=v at hv
      generalize hdk2:ds2[k]'(by omega)=d2 at hd2 eg'
      generalize hvk2:vs2[k]'(by omega)=w2 at hv2
      simp only [df] at eg'
      have hik:i<Γk.length:=by rw [g.len];exact hi
      have hjk:j<Γk.length:=by rw [g.len];exact hj
      have hsl:ys.length<sizeLine:=by
       rw [g.l1]
       cases ec:fc ((Γk.set i (KZ d)).set j (KZ d2)) with
       | no=>rw [ec] at eg';cases eg'
       | er c Γ'=>rw [ec] at eg';cases eg'
       | ok b Γa=>
        rw [ec] at eg'
        cases b with
        | false=>
         dsimp only at eg'
         split at eg'
         ·assumption
         ·cases eg'
        | true=>
         dsimp only at eg'
         split at eg'
         ·split at eg'
          ·rename_i z
           simp only [Bool.and_eq_true,decide_eq_true_eq] at z
           exact z.2
          ·cases eg'
         ·cases eg'
      refine ⟨⟨vs,vs2,v,w2,hPk,hPk2,hv,hv2⟩,hsl,?_⟩
      rintro x Hx ⟨T,v',u',rfl,hTn,rfl,hv'⟩
      have ev:v'=v:=Option.some.inj ((hv' vs vs2 hPk hPk2).1.symm.trans hv)
      subst ev;have eu:u'=w2:=Option.some.inj ((hv' vs vs2 hPk hPk2).2.symm.trans hv2)
      subst eu;refine ⟨T,[v',u'],rfl,.of jQ,rfl,v',[u'],rfl,u',[],rfl,rfl,?_⟩
      have sT:Same H' (cy H' T (.tup [v',u'])):=lD hTn
      have Eg:=g.env.grow sT
      have reps:∀(x:V) (e:KY),Rep K (dD H1 (O++Fs1.flatten)) x e->Rep K (dD (cy H' T (.tup [v',u'])) (A0::Gs.flatten++O++Fk.flatten)) x e:=fun x e hxe=>hxe.mono (we (g.same.trans sT) fun a ha=>by
       rcases KJ ha with z | z
       ·rcases KJ z with z | z
        ·rcases KL z with z | z
         ·rw [z];exact .inr hD
         ·exact (g.new a (KI _ z)).elim (fun y=>.inl (KH _ y)) .inr
        ·exact .inl (KI _ z)
       ·exact (g.new a (KH _ z)).elim (fun y=>.inl (KH _ y)) .inr)
      have rep:=reps _ _ (hr.2 k v' d hv hd)
      have rep2:=reps _ _ (hr2.2 k u' d2 hv2 hd2)
      have lF:Fk.length=Γk.length:=g.env.len2
      have Ep:=EnvOk.put (G:=[]) (i:=i) (p:=⟨.leaf,d⟩) (v:=v') Eg (.leaf rep) rfl (fun a ha=>by simp at ha) hik
      have fk:∀a∈(Fk.set i []).flatten,a∈Fk.flatten:=fun a ha=>nQ (by omega) ha
      have Eq:=EnvOk.put (G:=[]) (i:=j) (p:=⟨.leaf,d2⟩) (v:=u') Ep (.leaf (rep2.mono (we (Same.refl _) fun a ha=>.inl (by
       rcases KJ ha with z | z
       ·exact KI _ z
       ·exact KH _ (fk a z))))) rfl (fun a ha=>by simp at ha) (by rw [length_set];exact hjk)
      have fkk:∀a∈((Fk.set i []).set j []).flatten,a∈Fk.flatten:=fun a ha=>fk a (nQ (by rw [length_set];omega) ha)
      refine ⟨⟨by rw [length_set,length_set],fun m u hm=>?_⟩,?_⟩
      ·have:=(F9 hm).1
       simp only [mem_cons,not_mem_nil,or_false,not_or] at this
       rw [getElem?_set_ne (Ne.symm this.2),getElem?_set_ne (Ne.symm this.1)];exact hm
      refine ⟨He,_,_,_,Eq,?_⟩
      cases ec:fc ((Γk.set i (KZ d)).set j (KZ d2)) with
      | no=>rw [ec] at eg';cases eg'
      | er c Γ'=>rw [ec] at eg';cases eg'
      | ok b Γa=>
       rw [ec] at eg';intro H3 Fs3 s3' E3 n3
       have s3:Same H' H3:=sT.trans s3'
       have lena:Γa.length=Γ1.length:=by
        have:=E3.len1
        rw [length_set,length_set,zk,E1.len1] at this;exact this.symm
       have n3':∀a∈Fs3.flatten,a∈Fs1.flatten\/H1 a=none:=fun a ha=>(n3 a ha).elim (fun z=>g.new a (KH _ (fkk a z))) fun z=>.inr (g.same.free (sT.free z))
       have n3k:∀a∈Fs3.flatten,a∈Fk.flatten\/H' a=none:=fun a ha=>(n3 a ha).elim (fun z=>.inl (fkk a z)) fun z=>.inr (sT.free z)
       cases b with
       | false=>
        dsimp only at eg'
        split at eg'
        case isFalse=>cases eg'
        refine lV ⟨vs.length-(k+1),by omega,rfl,hlt,(Γa.set i none).set j none,Fs3,Gs,acc,⟨E3.forget2,g.same.trans s3,s3 _ _ g.at_,fun a ha=>?_,g.l1,g.l2,fun m v d G h1 h2 h3=>(g.own m v d G h1 h2 h3).mono s3 fun a ha=>?_,by rw [length_set,length_set];exact lena⟩,eg'⟩
        ·rcases KJ ha with z | z
         ·exact g.new a (KI _ z)
         ·exact n3' a z
        ·rcases KJ ha with z | z
         ·exact .inl (KI _ z)
         ·exact (n3k a z).elim (fun y=>.inl (KH _ y)) .inr
       | true=>
        refine lU ⟨He,_,_,_,E3,?_⟩
        dsimp only at eg'
        cases ee:fe Γa with
        | no=>rw [ee] at eg';cases eg'
        | er c Γ'=>rw [ee] at eg';cases eg'
        | ok p Γb=>
         rw [ee] at eg';dsimp only at eg'
         split at eg'
         case isFalse=>cases eg'
         rename_i hco;simp only [Bool.and_eq_true,decide_eq_true_eq] at hco
         obtain ⟨hco,_⟩:=hco;intro u H4 G Fs4 A4;have lenb:Γb.length=Γ1.length:=by
          have:=A4.env.len1
          rw [length_set,length_set,zk,E1.len1] at this;exact this.symm
         have at4:H4 A0=some (.lst ys):=A4.same _ _ (s3 _ _ g.at_)
         have s14:Same H1 H4:=(g.same.trans s3).trans A4.same
         have new4:∀a∈G++Fs4.flatten,a∈Fs1.flatten\/H1 a=none:=fun a ha=>(A4.new a ha).elim (n3' a) fun z=>.inr ((g.same.trans s3).free z)
         have hG':∀a∈aW s G,a∈G:=fun a ha=>HW ha
         obtain ⟨k1,k2,k3⟩:=KP A4.env.ndO;have ndk:(aW s G).Nodup:=by
          cases s<;>first | exact nodup_nil | exact k1
         have pmO:(A0::(Gs++[aW s G]).flatten++O).Perm (aW s G++(A0::Gs.flatten++O)):=by
          rw [wQ];show (A0::((Gs.flatten++aW s G)++O)).Perm _
          refine List.Perm.trans ?_ List.perm_middle.symm
          refine List.Perm.cons _ ?_
          rw [append_assoc];exact m9 _ _ _
         have E5:EnvOk K He (aW s G++(A0::Gs.flatten++O)) Fs4 H4 (((bL [i,j] σ).set i (some v')).set j (some u')) Γb:=A4.env.drop (fun a ha=>by
          rcases KJ ha with z | z
          ·exact KI _ (hG' a z)
          ·exact KH _ z) (List.nodup_append.mpr ⟨ndk,k2,fun a ha b hb=>k3 a (hG' a ha) b hb⟩)
         have E6:=(E5.perm pmO).forget2
         have hDin:A0∈A0::(Gs++[aW s G]).flatten++O:=mem_cons_self
         have E7:=E6.mutO (o:=.lst (ys++[u])) hDin at4 hHeD
         have subH:∀a∈A0::(Gs++[aW s G]).flatten++O++Fs4.flatten,a∈G++(A0::Gs.flatten++O)++Fs4.flatten:=fun a ha=>by
          rcases KJ ha with z | z
          ·rcases KJ (pmO.mem_iff.mp z) with y | y
           ·exact KI _ (KI _ (hG' a y))
           ·exact KI _ (KH _ y)
          ·exact KH _ z
         have Dnot:∀{m:Nat} {Gj:List Addr},Gs[m]?=some Gj->A0∉Gj:=fun {m Gj} hj z=>by
          have nd:=g.env.ndO
          exact (List.nodup_cons.mp nd).1 (KI _ (oH hj z))
         refine ⟨at4,vs.length-(k+1),by omega,rfl,hlt,(Γb.set i none).set j none,Fs4,Gs++[aW s G],acc++[p.d],⟨E7,fun b o hb=>?_,jQ,fun a ha=>?_,by simp [g.l1],by simp [g.l2],fun m w d' G' h1 h2 h3=>?_,by rw [length_set,length_set];exact lenb⟩,eg'⟩
         ·rw [gz (wq hb hD)]
          exact s14 b o hb
         ·rcases KJ ha with z | z
          ·rw [wQ] at z
           rcases KJ z with z | z
           ·exact g.new a (KI _ z)
           ·exact new4 a (KI _ (hG' a z))
          ·exact new4 a (KH _ z)
         ·by_cases hm:m<ys.length
          ·rw [getElem?_append_left hm] at h1
           rw [getElem?_append_left (by rw [<-g.l1];exact hm)] at h2
           rw [getElem?_append_left (by rw [g.l2,<-g.l1];exact hm)] at h3
           have o1:=g.own m w d' G' h1 h2 h3
           have o2:=o1.mono (O':=A0::(Gs++[aW s G]).flatten++O++Fs4.flatten) (s3.trans A4.same) fun a ha=>by
            have up:a∈G++Fs4.flatten->a∈A0::Gs.flatten++O++Fk.flatten\/H' a=none:=fun z=>(A4.new a z).elim (fun y=>(n3k a y).elim (fun y=>.inl (KH _ y)) .inr) fun y=>.inr (s3.free y)
            rcases KJ (subH a ha) with z | z
            ·rcases KJ z with z | z
             ·exact up (KI _ z)
             ·exact .inl (KI _ z)
            ·exact up (KH _ z)
           exact o2.mut hsv (KI _ hDin) (Dnot h3) at4
          ·have hm':m=ys.length:=by
            have:=(KQ h1).1
            rw [length_append,length_singleton] at this;omega
           subst hm'
           rw [getElem?_append_right (KW _),Nat.sub_self] at h1;rw [getElem?_append_right (by rw [g.l1];exact KW _),show ys.length-acc.length=0 by rw [g.l1];exact Nat.sub_self _] at h2
           rw [getElem?_append_right (by rw [g.l2,g.l1];exact KW _),show ys.length-Gs.length=0 by rw [g.l2,g.l1];exact Nat.sub_self _] at h3
           cases h1
           cases h2
           cases h3;have o3:=A4.own.coer (s:=s) (O':=A0::(Gs++[aW s G]).flatten++O++Fs4.flatten) hco subH fun a ha hO=>by
            cases s with
            | leaf=>
             exfalso
             have hO':a∈(A0::Gs.flatten++O)++Fs4.flatten:=by
              rw [wQ] at hO;simpa [aW] using hO
             rcases KJ hO' with z | z
             ·exact k3 a ha a z rfl
             ·have nd:=A4.env.nd
              exact (KP nd).2.2 a (KI _ ha) a z rfl
            | view=>cases hsv
            | lst s=>exact ha
            | tup ss=>exact ha
           refine o3.mut hsv (KI _ hDin) (fun z=>?_) at4
           exact k3 A0 (hG' A0 z) A0 mem_cons_self rfl
end
section
variable {X:Cx} {N gl:List Str} {vs cs ls lo gs:List Nat} {W:XW} {a b:Expr} {pos p:Pos} {fl:FL}
theorem coY {scope:Scope} {x y:Str} {px py pt cpos:Pos} {kt:Nat} {elt:Expr} {ifs:List Expr} {fe:F1} {fc:FB} {vs' cs' lo' gs':List Nat} (S:Cp X N gl vs cs ls lo gs) (s:Sh) (i j k:Nat) (hij:(i != j)=true) (hx:N[i]?=some x) (hy:N[j]?=some y) (hk:gl[k]?=some ("zip":Str)) (hg:gs.contains k=true) (hm:X.mg "zip"=none)
  (h1:mj N [i,j] cs scope=true) (h2:tx N gl vs' cs' [i,j] lo' gs' scope=true) (ha:PA X [a,b] (tA X.K W fl)) (hs1:starEach [a,b] X.env=(false,eval a X.env)::starEach [b] X.env) (hpl:(backTo cpos (starEach [b] X.env)).any (·.1)=false)
  (hc:tF X N gl vs' cs' [i,j] lo' gs' fun Y=>PF Y ifs (tT Y.K W0 fc)) (he:tF X N gl vs' cs' [i,j] lo' gs' fun Y=>PE Y elt (tE Y.K W0 fe)) (hs:∀x,foldedSetIterable (.Call (.Name "zip" p) [a,b] [] cpos) X.env x=pure x) :
  PE X (.ListComp elt [⟨.Tuple [.Name x px,.Name y py] kt pt,.Call (.Name "zip" p) [a,b] [] cpos,ifs,0⟩] scope pos) (tE X.K W (fM s i j fl fc fe)):=by
 have B:=fun cells C s₀ H₀ ex=>S.blk h2 cells C s₀ H₀ ex
 have L:=fun cells C s₀ H₀ ex=>(B cells C s₀ H₀ ex).loc i x hx (by simp)
 have L2':=fun cells C s₀ H₀ ex=>(B cells C s₀ H₀ ex).loc j y hy (by simp)
 have hN:X.N.Nodup:=by rw [S.hN];exact S.nd
 exact bp (qw (sU S h1) S.calm (Ew (S.g hk hg).1 hm ha hs1 hpl)
  (fun cells C s₀ H₀ ex=>Bv (X:=blk X scope cells C s₀ H₀ ex) S.calm (m8 (Dv (X:=blk X scope cells C s₀ H₀ ex) (i:=i) hN (by show X.N[i]?=_;rw [S.hN];exact hx) (L cells C s₀ H₀ ex).1 (L cells C s₀ H₀ ex).2) (m8 (Dv (X:=blk X scope cells C s₀ H₀ ex) (i:=j) hN (by show X.N[j]?=_;rw [S.hN];exact hy) (L2' cells C s₀ H₀ ex).1 (L2' cells C s₀ H₀ ex).2) xQ)))
  (fun cells C s₀ H₀ ex=>hc _ (B cells C s₀ H₀ ex) ⟨rfl,rfl,rfl,rfl,rfl,rfl⟩) (fun cells C s₀ H₀ ex=>he _ (B cells C s₀ H₀ ex) ⟨rfl,rfl,rfl,rfl,rfl,rfl⟩) hs) fun _ _ _=>uA (by simpa using hij)
end
end T
namespace TQ
open PySem PySem.Spec L2 T
open PyProof.Rows hiding St
variable {X:Cx} {N gl:List Str} {vs cs ls lo gs:List Nat} {W:XW} {a b:Expr} {pos p:Pos} {fl:FL}
theorem DJ {scope:Scope} {x y:Str} {px py pt cpos:Pos} {kt:Nat} {elt:Expr} {ifs:List Expr} {fe:F1} {fc:FB} {vs' cs' lo' gs':List Nat} (S:Cp X N gl vs cs ls lo gs) (s:Sh) (i j k:Nat) (hij:(i != j)=true) (hx:N[i]?=some x) (hy:N[j]?=some y) (hk:gl[k]?=some ("zip":Str)) (hg:gs.contains k=true) (hm:X.mg "zip"=none)
  (h1:mj N [i,j] cs scope=true) (h2:tx N gl vs' cs' [i,j] lo' gs' scope=true) (ha:Q (PA X [a,b] (tA X.K W fl))) (hs1:starEach [a,b] X.env=(false,eval a X.env)::starEach [b] X.env) (hpl:(backTo cpos (starEach [b] X.env)).any (·.1)=false)
  (hc:tF X N gl vs' cs' [i,j] lo' gs' fun Y=>Q (PF Y ifs (tT Y.K W0 fc))) (he:tF X N gl vs' cs' [i,j] lo' gs' fun Y=>Q (PE Y elt (tE Y.K W0 fe))) (hs:∀x,foldedSetIterable (.Call (.Name "zip" p) [a,b] [] cpos) X.env x=pure x) :
  Q (PE X (.ListComp elt [⟨.Tuple [.Name x px,.Name y py] kt pt,.Call (.Name "zip" p) [a,b] [] cpos,ifs,0⟩] scope pos) (tE X.K W (fM s i j fl fc fe))):=⟨T.coY S s i j k hij hx hy hk hg hm h1 h2 ha.p hs1 hpl (fun Y S' F=>(hc Y S' F).p) (fun Y S' F=>(he Y S' F).p) hs⟩
end TQ
namespace KC
open PySem PySem.Spec L2 T
open PyProof.Rows hiding St
noncomputable def jH (r_paper_of:List KY->bS):FS:=(aq (aB false 2 (aA .leaf 5 (bV (ag 1 aN (ab (ae 1) af))) aK (ag 2 r_paper_of (ab (ae 0) (ab (ae 5) af)))))
  (aq (aB false 3 (aA .leaf 6 (bf (ae 2)) aK (ao (ae 6) (eK (.int 0)))))
  (aq (aB true 4 (ag 3 bK (ab (ae 0) (ab (ae 1) (ab (ae 3) af)))))
  (aF (bq (ab (dB 4 b7 (ab (ae 0) (ab (ae 1) (ab (ae 3) (ab (ae 4) af))))) (ab (dE 4) (ab (ae 2) af))))))))
noncomputable def cJ:Nat->List KY->bS
 | 0=>fun _=>.no
 | n+1=>aC 7 (jH (cJ n))
noncomputable def jo:List KY->bS:=cJ 30
noncomputable def yL:FS:=(aq (dh (ag 1 cj (ab (ae 0) af)))
  (aq (dh (ag 1 aZ (ab (ae 1) af)))
  (aF (ag 2 jo (ab (ae 0) (ab (ae 1) af))))))
noncomputable def i3:List KY->bS:=aC 2 yL
noncomputable def iU:FS:=(aq (aB false 5 (ao (ae 2) (ae 4)))
  (aq (aB false 6 (aA .leaf 9 (bf (ao (ao (ae 0) (eK (.int 2))) (ae 4))) aK (ao (ae 2) (ae 9))))
  (aq (aB false 7 (az (bQ false) (ae 1) (eK bB)))
  (aq (bW (aL ai (az (bQ false) (ae 4) (ao (ae 3) (eK (.int 1))))) (aF (az bj (ae 5) (eK (.int 0)))) aJ)
  (aq (bW (aL ai (az (dm false) (ae 5) (eK .none))) (aF (vA (az (bQ true) (ae 4) (ao (ae 3) (eK (.int 0)))) (lY (ag 2 b9 (ab (ae 7) (ab (aA .leaf 10 (bf (ae 6)) aK (az (dm true) (ae 10) (eK .none))) af)))))) aJ)
  (aq (aB false 8 (ag 2 b9 (ab (ae 7) (ab (aA .leaf 10 (bf (ae 6)) aK (ag 2 dO (ab (ae 10) (ab (ae 5) af)))) af))))
  (aF (fU (az pI (ae 5) (eK (.int 0))) (fU (az (bQ false) (ae 4) (ao (ae 3) (eK (.int 0)))) (ae 8))))))))))
noncomputable def cF:List KY->bS:=aC 11 iU
noncomputable def gY:FS:=(aq (aB false 4 (ao (ae 1) (eK (.int 0))))
  (aq (bW (gx (aL ai (az (bQ true) (ae 4) (eK cD))) (aL ai (az (bQ true) (ae 4) (eK dk)))) (aF (az (dm false) (ae 3) (eK .none))) aJ)
  (aq (bW (fD (aL ai (az (dm false) (ae 3) (eK .none))) (aL ai (az jT (bJ bg (ab (ae 3) af)) (bJ bg (ab (ao (ae 0) (eK (.int 0))) af))))) (aF (eK (.bool false))) aJ)
  (aq (aB false 5 (ag 3 aX (ab (ae 0) (ab (ae 1) (ab (ae 2) af)))))
  (aF (bJ (cW false) (ab (aA .leaf 6 (i4 (ab (bJ bg (ab (ae 3) af)) af)) aK (ag 5 cF (ab (ae 0) (ab (ae 4) (ab (ae 3) (ab (ae 5) (ab (ae 6) af))))))) af)))))))
noncomputable def aQ:List KY->bS:=aC 7 gY
noncomputable def jJ (r_is_right:List KY->bS):FS:=(aq (aB false 3 (ag 1 aN (ab (ae 1) af)))
  (aq (bW (aL ai (az jT (bJ bg (ab (ao (ae 2) (eK (.int 2))) af)) (bJ bg (ab (ae 3) af)))) (aF (eK (.bool false))) aJ)
  (aq (bW (ff (aL bX (bJ (cW false) (ab (fM .leaf 6 5 (ab (ae 3) (ab (ao (ae 2) (eK (.int 2))) af)) aK (ag 3 r_is_right (ab (ae 0) (ab (ae 6) (ab (ae 5) af))))) af)))) (aF (eK (.bool false))) aJ)
  (aq (aB false 4 (aA .leaf 5 (bf (ao (ae 2) (eK (.int 2)))) aK (ao (ae 5) (eK (.int 0)))))
  (aF (fU (ag 4 aQ (ab (ae 0) (ab (ae 1) (ab (ae 4) (ab (ao (ae 2) (eK (.int 1))) af))))) (az bj (ao (ae 2) (eK (.int 0))) (ag 4 b7 (ab (ae 0) (ab (ae 1) (ab (ae 4) (ab (ao (ae 2) (eK (.int 1))) af))))))))))))
noncomputable def cK:Nat->List KY->bS
 | 0=>fun _=>.no
 | n+1=>aC 7 (jJ (cK n))
noncomputable def jr:List KY->bS:=cK 30
noncomputable def pP:FS:=(aq (dh (ag 1 cj (ab (ae 0) af)))
  (aq (dh (ag 1 aZ (ab (ae 1) af)))
  (aF (ag 3 jr (ab (ae 0) (ab (ae 1) (ab (ae 2) af)))))))
noncomputable def eO:List KY->bS:=aC 3 pP
open PySem.SeqAt
theorem ox {α β:Type} (e1:α->D) (e2:β->D) (f:α->β->PV) {s:Sh} {i j:Nat} {fe:F1} {Γ:Ev} (hb:∀x y,((((Γ.set i x).set j y).set i none).set j none)=Γ) :
  ∀(xs:List α) (ys:List β) (acc:List D),xs.length=ys.length->(∀a∈xs,∀b∈ys,(a,b)∈xs.zip ys->fe ((Γ.set i (KZ (e1 a))).set j (KZ (e2 b)))=.ok (f a b) ((Γ.set i (KZ (e1 a))).set j (KZ (e2 b)))/\coer s (f a b)=true)->acc.length+xs.length<=10000 ->
  df i j aK fe s ((xs.map e1).zip (ys.map e2)) Γ acc=.ok (acc++(xs.zip ys).map fun p=>(f p.1 p.2).d) Γ
 | [],[],acc,_,_,_=>by simp [df]
 | a::xs,b::ys,acc,hl,he,hn=>by
  have hb0:(10000:Nat)<=sizeLine:=by decide
  obtain ⟨h1,h2⟩:=he a mem_cons_self b mem_cons_self (by simp)
  simp only [length_cons] at hn hl
  rw [map_cons,map_cons,List.zip_cons_cons,df];show (match fe ((Γ.set i (KZ (e1 a))).set j (KZ (e2 b))) with
   | .ok p Γ2=>if T.coer s p&&decide (acc.length<sizeLine) then df i j aK fe s _ ((Γ2.set i none).set j none) (acc++[p.d]) else .no
   | _=>.no)=_
  rw [h1];dsimp only;rw [h2,decide_eq_true (by omega),Bool.and_self,if_pos rfl,hb,ox e1 e2 f hb xs ys _ (by omega) (fun a ha b hb h=>he a (KO _ ha) b (KO _ hb) (by simp [h])) (by simp only [length_append,length_cons,length_nil];omega)]
  simp
theorem vM {α β:Type} (e1:α->D) (e2:β->D) (f:α->β->PV) {xs:List α} {ys:List β} {s s1 s2:Sh} {i j:Nat} {fl:FL} {fe:F1} {Γ:Ev} (hf:fl Γ=.ok [⟨s1,.tuple (xs.map e1)⟩,⟨s2,.list (ys.map e2)⟩] Γ) (hb:∀x y,((((Γ.set i x).set j y).set i none).set j none)=Γ) (hi:d5 Γ[i]?=true) (hj:d5 Γ[j]?=true) (hs:s.isView=false) (k1:aE ⟨s1,.tuple (xs.map e1)⟩ (xs.map e1)=true) (k2:aE ⟨s2,.list (ys.map e2)⟩ (ys.map e2)=true)
  (hl:xs.length=ys.length) (hn:xs.length<=10000) (he:∀a∈xs,∀b∈ys,(a,b)∈xs.zip ys->fe ((Γ.set i (KZ (e1 a))).set j (KZ (e2 b)))=.ok (f a b) ((Γ.set i (KZ (e1 a))).set j (KZ (e2 b)))/\coer s (f a b)=true) :
  fM s i j fl aK fe Γ=.ok ⟨.lst s,.list ((xs.zip ys).map fun p=>(f p.1 p.2).d)⟩ Γ:=by
 unfold fM;rw [hf,oE];unfold wD;dsimp only;rw [k1,k2,hi,hj,hs,decide_eq_true (by simpa using hl)]
 simp only [Bool.and_self,Bool.not_false,if_true]
 rw [ox e1 e2 f hb xs ys [] hl he (by simpa using hn)]
 simp
noncomputable def rK (w:Wd) (any:Bool) (thr goal:List Nat) (rk:List (Option Nat)) (r:Nat):Bool:=
 if goal.contains r then decide (bc rk r=some 0) else match bc rk r with
 | none=>!thr.contains r||!fC any ((w.stp r).map fun t=>(bc rk t).isSome)
 | some k=>decide (0<k)&&(thr.contains r&&fC any ((w.stp r).map fun t=>ie (bc rk t) (some k)))
theorem Kv {o:Option Nat}:bj (oD o) (.int 0)=some (.bool (decide (o=some 0))):=by
 cases o with
 | none=>rfl
 | some k=>
  show some (PyData.bool (decide ((k:Int)=0)))=_
  have:decide ((k:Int)=0)=decide (some k=some 0):=by
   by_cases h:k=0<;>simp [h]
  rw [this]
noncomputable abbrev GK (w:Wd) (a:Wr) (thr goal:List Nat) (rk:List (Option Nat)) (r:Nat) (x y z u:Option PV):Ev:=[KZ w.enc,KZ (.str a.t),KZ (fq rk),KZ (.tuple [aT thr,aT goal]),KZ (rm r),x,y,z,u,none,none]
theorem pF {o:Option Nat}:(!o.isNone)=o.isSome:=by cases o<;>rfl
theorem jz {w:Wd} (ok:w.Ok) {a:Wr} {thr goal:List Nat} {rk:List (Option Nat)} {r:Nat} (hl:rk.length=w.n) (hr:r<w.n) :
  cF [w.enc,.str a.t,fq rk,.tuple [aT thr,aT goal],rm r]=.ok ⟨.leaf,.bool (rK w a.some thr goal rk r)⟩:=by
 have a1:=iJ (rk:=rk) (t:=r) (by omega)
 have a2:=ok.at2 hr
 have s1:aB false 5 (ao (ae 2) (ae 4)) (GK w a thr goal rk r none none none none)=.nx (GK w a thr goal rk r (KZ (oD (bc rk r))) none none none):=by simp [GK,a1]
 have c1:aA .leaf 9 (bf (ao (ao (ae 0) (eK (.int 2))) (ae 4))) aK (ao (ae 2) (ae 9)) (GK w a thr goal rk r (KZ (oD (bc rk r))) none none none)=.ok ⟨.lst .leaf,.list ((w.stp r).map fun t=>oD (bc rk t))⟩ (GK w a thr goal rk r (KZ (oD (bc rk r))) none none none):=by
  refine mw rm (w.stp r) (fun t=>⟨.leaf,oD (bc rk t)⟩) (st:=true) (by simp [GK,Wd.enc,a2]) (by simp [GK]) rfl (F8 ok) fun t ht=>?_
  have a3:=iJ (rk:=rk) (t:=t) (by rw [hl];exact ok.stp_lt ht)
  simp [GK,a3]
 have s2:aB false 6 (aA .leaf 9 (bf (ao (ao (ae 0) (eK (.int 2))) (ae 4))) aK (ao (ae 2) (ae 9))) (GK w a thr goal rk r (KZ (oD (bc rk r))) none none none)=.nx (GK w a thr goal rk r (KZ (oD (bc rk r))) (KZ (.list ((w.stp r).map fun t=>oD (bc rk t)))) none none):=by
  rw [iw,c1];simp [GK]
 have s3:aB false 7 (az (bQ false) (ae 1) (eK bB)) (GK w a thr goal rk r (KZ (oD (bc rk r))) (KZ (.list ((w.stp r).map fun t=>oD (bc rk t)))) none none)=.nx (GK w a thr goal rk r (KZ (oD (bc rk r))) (KZ (.list ((w.stp r).map fun t=>oD (bc rk t)))) (KZ (.bool a.some)) none):=by simp [GK]
 have c2:aA .leaf 10 (bf (ae 6)) aK (az (dm true) (ae 10) (eK .none)) (GK w a thr goal rk r (KZ (oD (bc rk r))) (KZ (.list ((w.stp r).map fun t=>oD (bc rk t)))) (KZ (.bool a.some)) none)=.ok ⟨.lst .leaf,.list (((w.stp r).map fun t=>(bc rk t).isSome).map .bool)⟩ (GK w a thr goal rk r (KZ (oD (bc rk r))) (KZ (.list ((w.stp r).map fun t=>oD (bc rk t)))) (KZ (.bool a.some)) none):=by
  rw [map_map];refine mw (fun t=>oD (bc rk t)) (w.stp r) (fun t=>⟨.leaf,.bool (bc rk t).isSome⟩) (st:=true) (by simp [GK]) (by simp [GK]) rfl (F8 ok) fun t ht=>?_
  simp [GK,pF]
 have c3:aA .leaf 10 (bf (ae 6)) aK (ag 2 dO (ab (ae 10) (ab (ae 5) af))) (GK w a thr goal rk r (KZ (oD (bc rk r))) (KZ (.list ((w.stp r).map fun t=>oD (bc rk t)))) (KZ (.bool a.some)) none)=.ok ⟨.lst .leaf,.list (((w.stp r).map fun t=>ie (bc rk t) (bc rk r)).map .bool)⟩ (GK w a thr goal rk r (KZ (oD (bc rk r))) (KZ (.list ((w.stp r).map fun t=>oD (bc rk t)))) (KZ (.bool a.some)) none):=by
  rw [map_map];refine mw (fun t=>oD (bc rk t)) (w.stp r) (fun t=>⟨.leaf,.bool (ie (bc rk t) (bc rk r))⟩) (st:=true) (by simp [GK]) (by simp [GK]) rfl (F8 ok) fun t ht=>?_
  have dl:=sN (a:=bc rk t) (b:=bc rk r)
  simp [GK,dl]
 have d2:=FT (c:=a.some) (bs:=(w.stp r).map fun t=>(bc rk t).isSome)
 have d3:=FT (c:=a.some) (bs:=(w.stp r).map fun t=>ie (bc rk t) (bc rk r))
 have l2:ag 2 b9 (ab (ae 7) (ab (aA .leaf 10 (bf (ae 6)) aK (az (dm true) (ae 10) (eK .none))) af)) (GK w a thr goal rk r (KZ (oD (bc rk r))) (KZ (.list ((w.stp r).map fun t=>oD (bc rk t)))) (KZ (.bool a.some)) none)=.ok ⟨.leaf,.bool (fC a.some ((w.stp r).map fun t=>(bc rk t).isSome))⟩ (GK w a thr goal rk r (KZ (oD (bc rk r))) (KZ (.list ((w.stp r).map fun t=>oD (bc rk t)))) (KZ (.bool a.some)) none):=
  bY (ax (ay rfl) (ax c2 aj)) d2 rfl rfl
 have l3:ag 2 b9 (ab (ae 7) (ab (aA .leaf 10 (bf (ae 6)) aK (ag 2 dO (ab (ae 10) (ab (ae 5) af)))) af)) (GK w a thr goal rk r (KZ (oD (bc rk r))) (KZ (.list ((w.stp r).map fun t=>oD (bc rk t)))) (KZ (.bool a.some)) none)=.ok ⟨.leaf,.bool (fC a.some ((w.stp r).map fun t=>ie (bc rk t) (bc rk r)))⟩ (GK w a thr goal rk r (KZ (oD (bc rk r))) (KZ (.list ((w.stp r).map fun t=>oD (bc rk t)))) (KZ (.bool a.some)) none):=
  bY (ax (ay rfl) (ax c3 aj)) d3 rfl rfl
 have b1:aL ai (az (bQ false) (ae 4) (ao (ae 3) (eK (.int 1)))) (GK w a thr goal rk r (KZ (oD (bc rk r))) (KZ (.list ((w.stp r).map fun t=>oD (bc rk t)))) (KZ (.bool a.some)) none)=.ok (goal.contains r) (GK w a thr goal rk r (KZ (oD (bc rk r))) (KZ (.list ((w.stp r).map fun t=>oD (bc rk t)))) (KZ (.bool a.some)) none):=
  dA (s:=.leaf) (aI (ay rfl) (jU (j:=1) (s:=.leaf) (s2:=.leaf) (d:=aT goal) (ay rfl) aS rfl rfl rfl) FO)
 have b2:aL ai (az (dm false) (ae 5) (eK .none)) (GK w a thr goal rk r (KZ (oD (bc rk r))) (KZ (.list ((w.stp r).map fun t=>oD (bc rk t)))) (KZ (.bool a.some)) none)=.ok (bc rk r).isNone (GK w a thr goal rk r (KZ (oD (bc rk r))) (KZ (.list ((w.stp r).map fun t=>oD (bc rk t)))) (KZ (.bool a.some)) none):=
  dA (s:=.leaf) (aI (ay rfl) aS (by rw [Ec,ye]))
 refine aD (av s1 (av s2 (av s3 ?_)))
 unfold rK
 cases hg:goal.contains r with
 | true=>
  rw [hg] at b1;rw [if_pos rfl];exact oF (bu b1 (fun _=>aH (aI (ay rfl) aS Kv) rfl) nofun)
 | false=>
  rw [hg] at b1;rw [if_neg (by simp)]
  refine av (bu b1 nofun fun _=>rfl) ?_
  cases hk:bc rk r with
  | none=>
   rw [hk] at b2 l2
   exact oF (bu b2 (fun _=>aH (v_or (aI (ay rfl) (jU (j:=0) (s:=.leaf) (s2:=.leaf) (d:=aT thr) (ay rfl) aS rfl rfl rfl) HX) (v_not l2)) rfl) nofun)
  | some k=>
   rw [hk] at b2 l3
   refine av (bu b2 nofun fun _=>rfl) (av (dU l3 rfl (by simp)) (aH (v_and (a:=decide (0<k)) (aI (p:=⟨.leaf,.int (k:Int)⟩) (ay rfl) aS ?_) (v_and (aI (ay rfl) (jU (j:=0) (s:=.leaf) (s2:=.leaf) (d:=aT thr) (ay rfl) aS rfl rfl rfl) FO) (ay rfl))) rfl))
   show some (PyData.bool (decide ((0:Int)<(k:Int))))=_
   rw [show decide ((0:Int)<(k:Int))=decide (0<k) from decide_eq_decide.mpr (by omega)]
theorem yi {o:Option Nat} {k:Nat}:ie o (some k)=true↔∃j,o=some j/\j<k:=by
 cases o with
 | none=>simp [ie]
 | some a=>simp [ie]
theorem kQ {any:Bool} {l:List Nat} {p q:Nat->Prop} (h:∀t∈l,p t↔q t):led any l p↔led any l q:=by
 unfold led
 cases any with
 | true=>simpa using ⟨fun ⟨t,a,b⟩=>⟨t,a,(h t a).mp b⟩,fun ⟨t,a,b⟩=>⟨t,a,(h t a).mpr b⟩⟩
 | false=>simpa using ⟨fun z t a=>(h t a).mp (z t a),fun z t a=>(h t a).mpr (z t a)⟩
theorem xj {w:Wd} {any:Bool} {thr goal:List Nat} {rk:List (Option Nat)} (hl:rk.length=w.n):(List.range w.n).all (rK w any thr goal rk)=true↔Right w any thr goal rk:=by
 have l1:∀r,fC any ((w.stp r).map fun t=>(bc rk t).isSome)=true↔led any (w.stp r) fun t=>bc rk t≠none:=fun r=>led_iff.trans (kQ fun t _=>by cases bc rk t<;>simp)
 have l2:∀r k,fC any ((w.stp r).map fun t=>ie (bc rk t) (some k))=true↔led any (w.stp r) fun t=>∃j,bc rk t=some j/\j<k:=fun r k=>led_iff.trans (kQ fun t _=>yi)
 have hm:∀(l:List Nat) r,l.contains r=true↔r∈l:=fun l r=>by simp
 constructor
 ·intro h
  have h:∀r,r<w.n->rK w any thr goal rk r=true:=fun r hr=>List.all_eq_true.mp h r (List.mem_range.mpr hr)
  refine ⟨hl,fun r hr hg=>?_,fun r k hr hg hk=>?_,fun r hr hk=>?_⟩
  ·have:=h r hr
   unfold rK at this;rw [if_pos ((hm _ _).mpr hg)] at this;exact of_decide_eq_true this
  ·have:=h r hr
   unfold rK at this;rw [if_neg (fun z=>hg ((hm _ _).mp z)),hk] at this
   simp only [Bool.and_eq_true,decide_eq_true_eq] at this
   exact ⟨this.1,(hm _ _).mp this.2.1,(l2 r k).mp this.2.2⟩
  ·have:=h r hr
   unfold rK at this;by_cases hg:r∈goal
   ·rw [if_pos ((hm _ _).mpr hg),hk] at this
    cases of_decide_eq_true this
   ·rw [if_neg (fun z=>hg ((hm _ _).mp z)),hk] at this
    simp only [Bool.or_eq_true,Bool.not_eq_true'] at this
    refine ⟨hg,this.elim (fun z=>.inl fun y=>?_) fun z=>.inr fun y=>?_⟩
    ·rw [(hm _ _).mpr y] at z;cases z
    ·rw [(l1 r).mpr y] at z;cases z
 ·intro R
  refine List.all_eq_true.mpr fun r hr=>?_
  have hr:=List.mem_range.mp hr
  unfold rK;by_cases hg:r∈goal
  ·rw [if_pos ((hm _ _).mpr hg),R.g r hr hg];rfl
  ·rw [if_neg (fun z=>hg ((hm _ _).mp z))]
   cases hk:bc rk r with
   | none=>
    simp only [Bool.or_eq_true,Bool.not_eq_true']
    refine (R.z r hr hk).2.elim (fun z=>.inl ?_) fun z=>.inr ?_
    ·cases e:thr.contains r with
     | false=>rfl
     | true=>exact absurd ((hm _ _).mp e) z
    ·cases e:fC any ((w.stp r).map fun t=>(bc rk t).isSome) with
     | false=>rfl
     | true=>exact absurd ((l1 r).mp e) z
   | some k=>
    obtain ⟨h1,h2,h3⟩:=R.p r k hr hg hk;simp only [Bool.and_eq_true,decide_eq_true_eq]
    exact ⟨h1,(hm _ _).mpr h2,(l2 r k).mpr h3⟩
theorem Hv {s:Sn} {Γ:Ev} (h:Γ[1]?=some (KZ s.enc)):ao (ae 1) (eK (.int 0)) Γ=.ok ⟨.leaf,.str s.w.t⟩ Γ:=by
 cases s<;>simp [h,Sn.enc,Sn.w]
noncomputable abbrev JO:FB:=gx (aL ai (az (bQ true) (ae 4) (eK cD))) (aL ai (az (bQ true) (ae 4) (eK dk)))
theorem zr {a:Wr} {Γ:Ev} (h:Γ[4]?=some (KZ (.str a.t))):JO Γ=.ok (!(decide (a=.su\/a=.au))&&!(decide (a=.sa\/a=.aa))) Γ:=by
 cases a<;>simp [JO,h]
theorem y3 {w:Wd} {s:Sn} {P R:D} (h1:¬(s.w=.su\/s.w=.au)) (h2:¬(s.w=.sa\/s.w=.aa)):aQ [w.enc,s.enc,P,R]=.ok ⟨.leaf,.bool (cp R)⟩:=by
 refine aD (av (dU (Hv rfl) rfl (by simp [ah])) (oF (bu (zr (a:=s.w) rfl) (fun _=>aH (aI (ay rfl) aS rfl) rfl) fun z=>?_)))
 rw [decide_eq_false h1,decide_eq_false h2] at z
 cases z
theorem FQ {w:Wd} (ok:w.Ok) {s:Sn} {P:D} {sh:Sh} {thr goal:List Nat} {rk:List (Option Nat)} (h:(s.w=.su\/s.w=.au)\/(s.w=.sa\/s.w=.aa)) (ht:aX [w.enc,s.enc,P]=.ok ⟨sh,.tuple [aT thr,aT goal]⟩) (hc:coer .leaf ⟨sh,.tuple [aT thr,aT goal]⟩=true) (hl:rk.length=w.n) :
  aQ [w.enc,s.enc,P,fq rk]=.ok ⟨.leaf,.bool ((List.range w.n).all (rK w s.w.some thr goal rk))⟩:=by
 have lo:=ok.g.lo
 have h24:=ok.h24
 have lk:bJ bg (ab (ae 3) af) [KZ w.enc,KZ s.enc,KZ P,KZ (fq rk),KZ (.str s.w.t),none,none]=.ok ⟨.leaf,.int (w.n:Int)⟩ [KZ w.enc,KZ s.enc,KZ P,KZ (fq rk),KZ (.str s.w.t),none,none]:=by
  refine cO (ax (ay rfl) aj) ?_
  show some (PyData.int ((rk.map oD).length:Int))=_
  rw [length_map,hl]
 have lw:bJ bg (ab (ao (ae 0) (eK (.int 0))) af) [KZ w.enc,KZ s.enc,KZ P,KZ (fq rk),KZ (.str s.w.t),none,none]=.ok ⟨.leaf,.int (w.n:Int)⟩ [KZ w.enc,KZ s.enc,KZ P,KZ (fq rk),KZ (.str s.w.t),none,none]:=by
  refine cO (ax (jU (j:=0) (s:=.leaf) (s2:=.leaf) (d:=.list w.os) (ay rfl) aS rfl rfl rfl) aj) ?_
  show some (PyData.int (w.os.length:Int))=_
  rw [lo]
 have c:aA .leaf 6 (i4 (ab (bJ bg (ab (ae 3) af)) af)) aK (ag 5 cF (ab (ae 0) (ab (ae 4) (ab (ae 3) (ab (ae 5) (ab (ae 6) af)))))) [KZ w.enc,KZ s.enc,KZ P,KZ (fq rk),KZ (.str s.w.t),KZ (.tuple [aT thr,aT goal]),none]=.ok ⟨.lst .leaf,.list ((List.range w.n).map fun r=>.bool (rK w s.w.some thr goal rk r))⟩ [KZ w.enc,KZ s.enc,KZ P,KZ (fq rk),KZ (.str s.w.t),KZ (.tuple [aT thr,aT goal]),none]:=by
  refine mw rm (List.range w.n) (fun r=>⟨.leaf,.bool (rK w s.w.some thr goal rk r)⟩) (st:=true) ?_ (by simp) rfl (by simp;omega) fun r hr=>⟨?_,rfl⟩
  ·refine (lE (k:=(w.n:Int)) (ps:=[⟨.leaf,.int w.n⟩]) (ax (cO (ax (ay rfl) aj) ?_) aj) rfl (by omega) (by omega)).trans (by rw [<-Dw];rfl)
   show some (PyData.int ((rk.map oD).length:Int))=_
   rw [length_map,hl]
  ·exact bY (ax (ay rfl) (ax (ay rfl) (ax (ay rfl) (ax (ay rfl) (ax (ay rfl) aj))))) (jz ok hl (List.mem_range.mp hr)) rfl rfl
 refine aD (av (dU (Hv rfl) rfl (by simp [ah])) (av (bu (zr (a:=s.w) rfl) (fun z=>?_) fun _=>rfl) (av (bu (eZ (a:=false) (b:=false) (dA (s:=.leaf) (aI (ay rfl) aS rfl)) (dA (s:=.leaf) (aI lk lw ?_))) nofun fun _=>rfl) (av (dU (bY (ax (ay rfl) (ax (ay rfl) (ax (ay rfl) aj))) ht rfl rfl) hc (by simp [ah])) (aH (cO (ax c aj) ?_) rfl)))))
 ·exfalso
  rcases h with h | h
  ·rw [decide_eq_true h] at z;cases z
  ·rw [decide_eq_true h] at z;simp at z
 ·show some (PyData.bool (!decide ((w.n:Int)=(w.n:Int))))=_
  simp
 ·have:=HH (bs:=(List.range w.n).map (rK w s.w.some thr goal rk))
  rw [map_map] at this;rw [List.all_map] at this;exact this
theorem vR {w:Wd} (ok:w.Ok) {s:Sn} (h:(s.w=.su\/s.w=.au)\/(s.w=.sa\/s.w=.aa)) {rk:List (Option Nat)} (hl:rk.length=w.n):∃b:Bool,aQ [w.enc,s.enc,cZ (s.args.map (aV w)),fq rk]=.ok ⟨.leaf,.bool b⟩/\(b=true↔jO w s (fq rk)):=by
 have inj:∀{a b:List (Option Nat)},fq a=fq b->a=b:=fun {a b} e=>by
  have e:a.map oD=b.map oD:=PyData.list.inj e
  have io:∀x y:Option Nat,oD x=oD y->x=y:=fun x y z=>by
   cases x<;>cases y<;>first | rfl | (cases z;done) | skip
   rename_i p q;have:((p:Int))=(q:Int):=PyData.int.inj z
   rw [Int.ofNat.inj this]
  exact (List.map_inj_right (fun x y z=>io x y z)).mp e
 have key:∀{any:Bool} {thr goal:List Nat},(List.range w.n).all (rK w any thr goal rk)=true↔∃rk',fq rk=fq rk'/\Right w any thr goal rk':=fun {any thr goal}=>(xj hl).trans ⟨fun R=>⟨rk,rfl,R⟩,fun ⟨rk',e,R⟩=>by rw [inj e];exact R⟩
 cases s with
 | yes=>exact absurd h (by simp [Sn.w])
 | mk c=>exact absurd h (by simp [Sn.w])
 | un k a=>
  cases k with
  | not=>exact absurd h (by simp [Sn.w,U5.w])
  | sn=>exact absurd h (by simp [Sn.w,U5.w])
  | an=>exact absurd h (by simp [Sn.w,U5.w])
  | sa=>exact ⟨_,FQ ok h (Df ok (s:=.un .sa a) (A:=aV w a) (by simp [Sn.w,U5.w])) rfl hl,key⟩
  | aa=>exact ⟨_,FQ ok h (Df ok (s:=.un .aa a) (A:=aV w a) (by simp [Sn.w,U5.w])) rfl hl,key⟩
 | bi k a b=>
  cases k with
  | and=>exact absurd h (by simp [Sn.w,B4.w])
  | or=>exact absurd h (by simp [Sn.w,B4.w])
  | su=>exact ⟨_,FQ ok h (Dg (s:=.bi .su a b) (A:=aV w a) (B:=aV w b) (.inl rfl)) rfl hl,key⟩
  | au=>exact ⟨_,FQ ok h (Dg (s:=.bi .au a b) (A:=aV w a) (B:=aV w b) (.inr rfl)) rfl hl,key⟩
theorem wZ {Γ Γ1:Ev} {fl:FL} {ps:List PV} {n:Nat} {l:List Nat} {den:List D->bS} (hl:fl Γ=.ok ps Γ1) (hd:den (ps.map (·.d))=.ok ⟨.lst .leaf,aT l⟩) (hn:ps.length=n):dB n den fl Γ=.ok ⟨.lst .leaf,aT l⟩ Γ1:=by
 have f:nR ⟨.lst .leaf,aT l⟩=true:=by
  show (l.map rm).all bP=true
  simp [bP]
 unfold dB;rw [hl];simp only [Out.bind,hn,hd,f,if_true]
inductive Pap (w:Wd):Sn->D->Prop where
 | mk {s:Sn} {R:D} {bs:List D}:jO w s R->bs.length=s.args.length->(∀a b,(a,b)∈s.args.zip bs->Pap w a b)->Pap w s (.tuple [aT (aV w s),R,.list bs])
theorem Pap.fst {w:Wd} {s:Sn} {d:D} (h:Pap w s d):∃r,d=.tuple (aT (aV w s)::r):=by
 cases h with
 | mk h1 h2 h3=>exact ⟨_,rfl⟩
theorem iF {s a:Sn} (ha:a∈s.args) {n:Nat} (h:s.dep<=n+1):a.dep<=n:=by
 have:=Ac ha
 omega
theorem uE {w:Wd} (ok:w.Ok) {s:Sn}:∃p:PV,bK [w.enc,s.enc,cZ (s.args.map (aV w))]=.ok p/\jO w s p.d/\(p=⟨.leaf,.none⟩\/p.s=.lst .leaf)/\((s.w=.su\/s.w=.au)\/(s.w=.sa\/s.w=.aa)->p.s=.lst .leaf):=by
 have h24:=ok.h24
 have plain:∀s:Sn,¬(s.w=.su\/s.w=.au)->¬(s.w=.sa\/s.w=.aa)->∀P:D,bK [w.enc,s.enc,P]=.ok ⟨.leaf,.none⟩:=fun s h1 h2 P=>by
  have hst:=Hv (s:=s) (Γ:=ah 6 [w.enc,s.enc,P]) rfl
  refine aD ?_
  unfold eX;rw [eE,iw,hst];simp [ah,h1,h2]
 have pl:∀s:Sn,¬(s.w=.su\/s.w=.au)->¬(s.w=.sa\/s.w=.aa)->(∀R,R=.none->jO w s R)->∃p:PV,bK [w.enc,s.enc,cZ (s.args.map (aV w))]=.ok p/\jO w s p.d/\(p=⟨.leaf,.none⟩\/p.s=.lst .leaf)/\((s.w=.su\/s.w=.au)\/(s.w=.sa\/s.w=.aa)->p.s=.lst .leaf):=fun s h1 h2 h3=>⟨_,plain s h1 h2 _,h3 _ rfl,.inl rfl,fun z=>(z.elim h1 h2).elim⟩
 have gl:∀a:Sn,(∀r∈(List.range w.n).filter (fun t=>!(aV w a).contains t),r<w.n)/\((List.range w.n).filter fun t=>!(aV w a).contains t).length<=1000:=fun a=>
  ⟨fun r hr=>List.mem_range.mp (List.mem_filter.mp hr).1,Nat.le_trans (length_filter_le _ _) (by simp;omega)⟩
 cases s with
 | yes=>exact pl .yes (by simp [Sn.w]) (by simp [Sn.w]) fun R h=>h
 | mk c=>exact pl (.mk c) (by simp [Sn.w]) (by simp [Sn.w]) fun R h=>h
 | un k a=>
  cases k with
  | not=>exact pl (.un .not a) (by simp [Sn.w,U5.w]) (by simp [Sn.w,U5.w]) fun R h=>h
  | sn=>exact pl (.un .sn a) (by simp [Sn.w,U5.w]) (by simp [Sn.w,U5.w]) fun R h=>h
  | an=>exact pl (.un .an a) (by simp [Sn.w,U5.w]) (by simp [Sn.w,U5.w]) fun R h=>h
  | sa=>
   obtain ⟨rk,e,R⟩:=zm ok (s:=.un .sa a) (P:=cZ [aV w a]) (.inr (.inl rfl)) ⟨_,rfl,Df ok (by simp [Sn.w,U5.w])⟩ (fun r hr=>List.mem_range.mp hr) (by simp;omega) (gl a).1 (gl a).2
   exact ⟨_,e,⟨rk,rfl,R⟩,.inr rfl,fun _=>rfl⟩
  | aa=>
   obtain ⟨rk,e,R⟩:=zm ok (s:=.un .aa a) (P:=cZ [aV w a]) (.inr (.inr rfl)) ⟨_,rfl,Df ok (by simp [Sn.w,U5.w])⟩ (fun r hr=>List.mem_range.mp hr) (by simp;omega) (gl a).1 (gl a).2
   exact ⟨_,e,⟨rk,rfl,R⟩,.inr rfl,fun _=>rfl⟩
 | bi k a b=>
  cases k with
  | and=>exact pl (.bi .and a b) (by simp [Sn.w,B4.w]) (by simp [Sn.w,B4.w]) fun R h=>h
  | or=>exact pl (.bi .or a b) (by simp [Sn.w,B4.w]) (by simp [Sn.w,B4.w]) fun R h=>h
  | su=>
   obtain ⟨rk,e,R⟩:=zm ok (s:=.bi .su a b) (P:=cZ [aV w a,aV w b]) (.inl (.inl rfl)) ⟨_,rfl,Dg (.inl rfl)⟩ za (zf ok) za (zf ok)
   exact ⟨_,e,⟨rk,rfl,R⟩,.inr rfl,fun _=>rfl⟩
  | au=>
   obtain ⟨rk,e,R⟩:=zm ok (s:=.bi .au a b) (P:=cZ [aV w a,aV w b]) (.inl (.inr rfl)) ⟨_,rfl,Dg (.inr rfl)⟩ za (zf ok) za (zf ok)
   exact ⟨_,e,⟨rk,rfl,R⟩,.inr rfl,fun _=>rfl⟩
theorem gV {w:Wd} (ok:w.Ok):∀(n:Nat) (s:Sn),s.ok->s.dep<=n->∃R bs,∃shR:Sh,cJ n [w.enc,s.enc]=.ok ⟨.tup [.lst .leaf,shR,.leaf],.tuple [aT (aV w s),R,.list bs]⟩/\Pap w s (.tuple [aT (aV w s),R,.list bs])/\((s.w=.su\/s.w=.au)\/(s.w=.sa\/s.w=.aa)->shR=.lst .leaf)
 | 0,s,_,h=>by
  have:=s.dep_args
  omega
 | n+1,s,hs,h=>by
  have pa:=C8 s
  have ih:∀a:Sn,∃p:PV,a∈s.args->cJ n [w.enc,a.enc]=.ok p/\Pap w a p.d/\coer .leaf p=true:=fun a=>by
   by_cases ha:a∈s.args
   ·obtain ⟨R,bs,shR,e,P,_⟩:=gV ok n a (Sn.args_ok hs a ha) (iF ha h)
    exact ⟨_,fun _=>⟨e,P,rfl⟩⟩
   ·exact ⟨⟨.leaf,.none⟩,fun z=>absurd z ha⟩
  obtain ⟨f,hf⟩:=Classical.axiomOfChoice ih;have c:aA .leaf 5 (bV (ag 1 aN (ab (ae 1) af))) aK (ag 2 (cJ n) (ab (ae 0) (ab (ae 5) af))) (ah 7 [w.enc,s.enc])=.ok ⟨.lst .leaf,.list (s.args.map fun a=>(f a).d)⟩ (ah 7 [w.enc,s.enc]):=by
   refine mw Sn.enc s.args f (st:=true) ?_ (by simp [ah]) rfl (by have:=s.args_le;omega) fun a ha=>?_
   ·simp [ah,pa,aE]
   ·exact ⟨bY (ax (ay rfl) (ax (ay rfl) aj)) (hf a ha).1 rfl rfl,(hf a ha).2.2⟩
  have c2:aA .leaf 6 (bf (ae 2)) aK (ao (ae 6) (eK (.int 0))) [KZ w.enc,KZ s.enc,KZ (.list (s.args.map fun a=>(f a).d)),none,none,none,none]=.ok ⟨.lst .leaf,cZ (s.args.map (aV w))⟩ [KZ w.enc,KZ s.enc,KZ (.list (s.args.map fun a=>(f a).d)),none,none,none,none]:=by
   have:=mw (fun a=>(f a).d) s.args (fun a=>⟨.leaf,aT (aV w a)⟩) (s:=.leaf) (i:=6) (fi:=bf (ae 2)) (fe:=ao (ae 6) (eK (.int 0))) (st:=true) (Γ:=[KZ w.enc,KZ s.enc,KZ (.list (s.args.map fun a=>(f a).d)),none,none,none,none]) (eC (ay rfl) rfl) (by simp) rfl (by have:=s.args_le;omega) fun a ha=>by
    obtain ⟨r,e⟩:=(hf a ha).2.1.fst;exact ⟨jU (j:=0) (s:=.leaf) (s2:=.leaf) (ds:=aT (aV w a)::r) (by rw [<-e];exact ay rfl) aS (by simp [eT]) rfl rfl,rfl⟩
   rw [this,cZ,map_map];rfl
  obtain ⟨p,e1,e3,e4,e5⟩:=uE ok (s:=s)
  have pv:p.s.isView=false:=by
   rcases e4 with z | z
   ·rw [z];rfl
   ·rw [z];rfl
  have pt:tok p=true/\wu p=p.s:=by
   rcases e4 with z | z
   ·rw [z];exact ⟨rfl,rfl⟩
   ·obtain ⟨ps,pd⟩:=p
    cases z;exact ⟨rfl,rfl⟩
  have rb:=IC ok hs e3
  have v4:ae 4 [KZ w.enc,KZ s.enc,KZ (.list (s.args.map fun a=>(f a).d)),KZ (cZ (s.args.map (aV w))),some p,none,none]=.ok (Bm p) [KZ w.enc,KZ s.enc,KZ (.list (s.args.map fun a=>(f a).d)),KZ (cZ (s.args.map (aV w))),some p,none,none]:=by
   rw [m7];rfl
  have pd:(Bm p).d=p.d:=by
   rcases e4 with z | z
   ·rw [z];rfl
   ·obtain ⟨ps,pd⟩:=p
    cases z;rfl
  have cr:dB 4 b7 (ab (ae 0) (ab (ae 1) (ab (ae 3) (ab (ae 4) af)))) [KZ w.enc,KZ s.enc,KZ (.list (s.args.map fun a=>(f a).d)),KZ (cZ (s.args.map (aV w))),some p,none,none]=.ok ⟨.lst .leaf,aT (aV w s)⟩ [KZ w.enc,KZ s.enc,KZ (.list (s.args.map fun a=>(f a).d)),KZ (cZ (s.args.map (aV w))),some p,none,none]:=
   wZ (ax (ay rfl) (ax (ay rfl) (ax (ay rfl) (ax v4 aj)))) (by show b7 [_,_,_,(Bm p).d]=_;rw [pd];exact rb) rfl
  have et:bq (ab (dB 4 b7 (ab (ae 0) (ab (ae 1) (ab (ae 3) (ab (ae 4) af))))) (ab (dE 4) (ab (ae 2) af))) [KZ w.enc,KZ s.enc,KZ (.list (s.args.map fun a=>(f a).d)),KZ (cZ (s.args.map (aV w))),some p,none,none]=.ok ⟨.tup [.lst .leaf,p.s,.leaf],.tuple [aT (aV w s),p.d,.list (s.args.map fun a=>(f a).d)]⟩ [KZ w.enc,KZ s.enc,KZ (.list (s.args.map fun a=>(f a).d)),KZ (cZ (s.args.map (aV w))),none,none,none]:=by
   have:=bD (ax cr (ax (F5 (i:=4) (p:=p) rfl) (ax (ay (i:=2) rfl) aj))) (by simp [pt.1]) rfl
   rw [this];show Out.ok (⟨.tup [.lst .leaf,wu p,.leaf],_⟩:PV) _=_
   rw [pt.2];rfl
  refine ⟨p.d,s.args.map fun a=>(f a).d,p.s,?_,.mk e3 (by simp) fun a b hab=>?_,e5⟩
  ·show aC 7 (jH (cJ n)) [w.enc,s.enc]=_
   exact aD (av (dU c rfl (by simp [ah])) (av (dU c2 rfl (by simp)) (av (Dq (bY (ax (ay rfl) (ax (ay rfl) (ax (ay rfl) aj))) e1 rfl rfl) pv (by simp)) (aH et rfl))))
  ·have:∀l:List Sn,(a,b)∈l.zip (l.map fun a=>(f a).d)->a∈l/\b=(f a).d:=fun l=>by
    induction l with
    | nil=>intro h;simp at h
    | cons x r ih=>
     intro h;rw [map_cons,List.zip_cons_cons] at h;rcases KL h with e | e
     ·cases e;exact ⟨mem_cons_self,rfl⟩
     ·exact ⟨KO _ (ih e).1,(ih e).2⟩
   obtain ⟨h1,h2⟩:=this _ hab;rw [h2];exact (hf a h1).2.1
theorem nS:∀a b:List Nat,PyData.eqvAll (a.map rm) (b.map rm)=decide (a=b)
 | [],[]=>by simp [PyData.eqvAll]
 | [],y::b=>by simp [PyData.eqvAll]
 | x::a,[]=>by simp [PyData.eqvAll]
 | x::a,y::b=>by
  rw [map_cons,map_cons,PyData.eqvAll,nS a b,PyData.eqv];have:((x:Int)==(y:Int))=decide (x=y):=by
   rw [Bool.eq_iff_iff];simp only [beq_iff_eq,decide_eq_true_eq]
   omega
  rw [this];by_cases h1:x=y<;>by_cases h2:a=b<;>simp [h1,h2]
theorem yB {a b:List Nat}:bj (aT a) (aT b)=some (.bool (decide (a=b))):=by
 show (if shaped (aT a)&&shaped (aT b) then some (PyData.bool (PyData.eqv (.list (a.map rm)) (.list (b.map rm)))) else none)=_
 rw [qk,qk,Bool.and_self,if_pos rfl,PyData.eqv,nS]
theorem gX {w:Wd} (ok:w.Ok):∀(n:Nat) (s:Sn),s.ok->s.dep<=n->∀(A:List Nat) (R:D) (bs:List D) (b:Bool),bs.length=s.args.length->(∀a b,(a,b)∈s.args.zip bs->Pap w a b)->aQ [w.enc,s.enc,cZ (s.args.map (aV w)),R]=.ok ⟨.leaf,.bool b⟩->(b=true->jO w s R) ->
  cK n [w.enc,s.enc,.tuple [aT A,R,.list bs]]=.ok ⟨.leaf,.bool (b&&decide (A=aV w s))⟩
 | 0,s,_,h=>by
  have:=s.dep_args
  omega
 | n+1,s,hs,h=>by
  intro A R bs b hl hp hr hb;have pa:=C8 s
  have ls:=s.args_le
  let P:D:=.tuple [aT A,R,.list bs]
  have i2:∀x3 x4:Option PV,ao (ae 2) (eK (.int 2)) [KZ w.enc,KZ s.enc,KZ (.tuple [aT A,R,.list bs]),x3,x4,none,none]=.ok ⟨.leaf,.list bs⟩ [KZ w.enc,KZ s.enc,KZ (.tuple [aT A,R,.list bs]),x3,x4,none,none]:=fun x3 x4=>jU (j:=2) (s:=.leaf) (s2:=.leaf) (ay rfl) aS rfl rfl rfl
  have c:fM .leaf 6 5 (ab (ae 3) (ab (ao (ae 2) (eK (.int 2))) af)) aK (ag 3 (cK n) (ab (ae 0) (ab (ae 6) (ab (ae 5) af)))) [KZ w.enc,KZ s.enc,KZ (.tuple [aT A,R,.list bs]),KZ (.tuple (s.args.map Sn.enc)),none,none,none]=.ok ⟨.lst .leaf,.list ((s.args.zip bs).map fun _=>.bool true)⟩ [KZ w.enc,KZ s.enc,KZ (.tuple [aT A,R,.list bs]),KZ (.tuple (s.args.map Sn.enc)),none,none,none]:=by
   refine vM Sn.enc (fun d:D=>d) (fun _ _=>⟨.leaf,.bool true⟩) (xs:=s.args) (ys:=bs) (s1:=.leaf) (s2:=.leaf) ?_ (fun _ _=>rfl) rfl rfl rfl rfl rfl hl.symm (by omega) fun a ha b hb' hab=>⟨?_,rfl⟩
   ·have:=ax (ay (Γ:=[KZ w.enc,KZ s.enc,KZ (.tuple [aT A,R,.list bs]),KZ (.tuple (s.args.map Sn.enc)),none,none,none]) (i:=3) rfl) (ax (i2 (KZ (.tuple (s.args.map Sn.enc))) none) aj)
    rw [this,List.map_id']
   ·refine bY (ax (ay rfl) (ax (ay rfl) (ax (ay rfl) aj))) ?_ rfl rfl
    show cK n [w.enc,a.enc,b]=.ok ⟨.leaf,.bool true⟩
    have hp':=hp a b hab
    cases hp' with
    | @mk _ R' bs' h1 h2 h3=>
     have ha':=Sn.args_ok hs a ha
     have rt:aQ [w.enc,a.enc,cZ (a.args.map (aV w)),R']=.ok ⟨.leaf,.bool true⟩:=by
      by_cases ht:(a.w=.su\/a.w=.au)\/(a.w=.sa\/a.w=.aa)
      ·have hrk:∃rk,R'=fq rk/\rk.length=w.n:=by
        cases a with
        | yes=>exact absurd ht (by simp [Sn.w])
        | mk c=>exact absurd ht (by simp [Sn.w])
        | un k a=>
         cases k with
         | not=>exact absurd ht (by simp [Sn.w,U5.w])
         | sn=>exact absurd ht (by simp [Sn.w,U5.w])
         | an=>exact absurd ht (by simp [Sn.w,U5.w])
         | sa=>obtain ⟨rk,e,R⟩:=h1;exact ⟨rk,e,R.len⟩
         | aa=>obtain ⟨rk,e,R⟩:=h1;exact ⟨rk,e,R.len⟩
        | bi k a b=>
         cases k with
         | and=>exact absurd ht (by simp [Sn.w,B4.w])
         | or=>exact absurd ht (by simp [Sn.w,B4.w])
         | su=>obtain ⟨rk,e,R⟩:=h1;exact ⟨rk,e,R.len⟩
         | au=>obtain ⟨rk,e,R⟩:=h1;exact ⟨rk,e,R.len⟩
       obtain ⟨rk,e,hl'⟩:=hrk;subst e;obtain ⟨b',e1,e2⟩:=vR ok ht hl'
       rw [e1,e2.mpr h1]
      ·have hn:R'=.none:=by
        cases a with
        | yes=>exact h1
        | mk c=>exact h1
        | un k a=>
         cases k with
         | not=>exact h1
         | sn=>exact h1
         | an=>exact h1
         | sa=>exact absurd (.inr (.inl rfl)) ht
         | aa=>exact absurd (.inr (.inr rfl)) ht
        | bi k a b=>
         cases k with
         | and=>exact h1
         | or=>exact h1
         | su=>exact absurd (.inl (.inl rfl)) ht
         | au=>exact absurd (.inl (.inr rfl)) ht
       rw [y3 (fun z=>ht (.inl z)) fun z=>ht (.inr z),hn]
       rfl
     have:=gX ok n a ha' (iF ha h) (aV w a) R' bs' true h2 h3 rt fun _=>h1
     rw [this];simp
  have al:cW false [.list ((s.args.zip bs).map fun _=>.bool true)]=some (.bool true):=by
   have:=HH (bs:=(s.args.zip bs).map fun _=>true)
   rw [map_map] at this;rw [List.all_map] at this;refine this.trans ?_
   have:(s.args.zip bs).all (id∘fun _=>true)=true:=List.all_eq_true.mpr fun _ _=>rfl
   rw [this]
  have c2:aA .leaf 5 (bf (ao (ae 2) (eK (.int 2)))) aK (ao (ae 5) (eK (.int 0))) [KZ w.enc,KZ s.enc,KZ (.tuple [aT A,R,.list bs]),KZ (.tuple (s.args.map Sn.enc)),none,none,none]=.ok ⟨.lst .leaf,cZ (s.args.map (aV w))⟩ [KZ w.enc,KZ s.enc,KZ (.tuple [aT A,R,.list bs]),KZ (.tuple (s.args.map Sn.enc)),none,none,none]:=by
   have eb:bs=(s.args.zip bs).map fun p=>p.2:=by
    rw [List.map_snd_zip (by omega)]
   have es:s.args=(s.args.zip bs).map fun p=>p.1:=by
    rw [List.map_fst_zip (by omega)]
   have:=mw (fun p:Sn×D=>p.2) (s.args.zip bs) (fun p=>⟨.leaf,aT (aV w p.1)⟩) (s:=.leaf) (i:=5) (fi:=bf (ao (ae 2) (eK (.int 2)))) (fe:=ao (ae 5) (eK (.int 0))) (st:=true) (Γ:=[KZ w.enc,KZ s.enc,KZ (.tuple [aT A,R,.list bs]),KZ (.tuple (s.args.map Sn.enc)),none,none,none]) (by rw [<-eb];exact eC (i2 _ _) rfl) (by simp) rfl (by rw [List.length_zip];omega) fun p hp'=>by
    obtain ⟨r,e⟩:=(hp p.1 p.2 hp').fst
    exact ⟨jU (j:=0) (s:=.leaf) (s2:=.leaf) (ds:=aT (aV w p.1)::r) (by rw [<-e];exact ay rfl) aS (by simp [eT]) rfl rfl,rfl⟩
   rw [this];have e2:(s.args.zip bs).map (fun p=>aT (aV w p.1))=(s.args.map (aV w)).map aT:=by
    rw [map_map];conv=>rhs;rw [es]
    rw [map_map];rfl
   show Out.ok (⟨.lst .leaf,.list ((s.args.zip bs).map fun p=>aT (aV w p.1))⟩:PV) _=_
   rw [e2]
  show aC 7 (jJ (cK n)) [w.enc,s.enc,.tuple [aT A,R,.list bs]]=_
  refine aD (av (dU (bY (ax (ay rfl) aj) pa rfl rfl) (by cases s<;>rfl) (by simp [ah])) (av (bu (t:=false) (dA (s:=.leaf) (aI (cO (ax (i2 _ _) aj) rfl) (cO (ax (ay rfl) aj) rfl) ?_)) nofun fun _=>rfl) (av (bu (lB (iI (cO (ax c aj) al))) nofun fun _=>rfl) (av (dU c2 rfl (by simp)) ?_))))
  ·show some (PyData.bool (!decide (((bs.length:Nat):Int)=((s.args.map Sn.enc).length:Int))))=_
   rw [length_map,hl];simp
  ·have ar:ag 4 aQ (ab (ae 0) (ab (ae 1) (ab (ae 4) (ab (ao (ae 2) (eK (.int 1))) af)))) [KZ w.enc,KZ s.enc,KZ (.tuple [aT A,R,.list bs]),KZ (.tuple (s.args.map Sn.enc)),KZ (cZ (s.args.map (aV w))),none,none]=.ok ⟨.leaf,.bool b⟩ [KZ w.enc,KZ s.enc,KZ (.tuple [aT A,R,.list bs]),KZ (.tuple (s.args.map Sn.enc)),KZ (cZ (s.args.map (aV w))),none,none]:=
    bY (ax (ay rfl) (ax (ay rfl) (ax (ay rfl) (ax (jU (j:=1) (s:=.leaf) (s2:=.leaf) (d:=R) (ay rfl) aS rfl rfl rfl) aj)))) hr rfl rfl
   cases b with
   | false=>
    refine aH (p:=⟨.leaf,.bool false⟩) (Γ1:=[KZ w.enc,KZ s.enc,KZ (.tuple [aT A,R,.list bs]),KZ (.tuple (s.args.map Sn.enc)),KZ (cZ (s.args.map (aV w))),none,none]) ?_ rfl
    rw [Bb];refine (congrArg (fun o=>Out.bind o _) ar).trans rfl
   | true=>
    have rb:=IC ok hs (hb rfl)
    exact aH (v_and ar (aI (jU (j:=0) (s:=.leaf) (s2:=.leaf) (d:=aT A) (ay rfl) aS rfl rfl rfl) (bY (ax (ay rfl) (ax (ay rfl) (ax (ay rfl) (ax (jU (j:=1) (s:=.leaf) (s2:=.leaf) (d:=R) (ay rfl) aS rfl rfl rfl) aj)))) rb rfl rfl) yB)) rfl
end KC
namespace T
open PySem PySem.Spec L2
open PyProof.Rows hiding St
noncomputable abbrev il (x:Str) (s:Stmt) (ps:List Str) (us:List Value):Prop:=∀(kV doc pm:Value) (an:Option Addr) (cdv ct:Value),bindArgs (PySem.W.fnOf x x (fR s) (dI s) (br s) .none kV doc pm an cdv ct) ⟨us,[]⟩=pure (ps.zip us)
noncomputable abbrev fj (x:Str) (s:Stmt) (ps:List Str):Prop:=∀us:List Value,us.length=ps.length->il x s ps us
section
variable {x:Str} {s:Stmt} {p1 p2 p3 p4 p5 p6:Str}
theorem i5 (h:∀a,il x s [p1] [a]:=by exact fun _ _ _ _ _ _ _=>rfl):fj x s [p1]:=fun us hl=>match us,hl with | [_],_=>h _
theorem oB (h:∀a b,il x s [p1,p2] [a,b]:=by exact fun _ _ _ _ _ _ _ _=>rfl):fj x s [p1,p2]:=fun us hl=>match us,hl with | [_,_],_=>h _ _
theorem tD (h:∀a b c,il x s [p1,p2,p3] [a,b,c]:=by exact fun _ _ _ _ _ _ _ _ _=>rfl):fj x s [p1,p2,p3]:=fun us hl=>match us,hl with | [_,_,_],_=>h _ _ _
theorem GV (h:∀a b c d,il x s [p1,p2,p3,p4] [a,b,c,d]:=by exact fun _ _ _ _ _ _ _ _ _ _=>rfl):fj x s [p1,p2,p3,p4]:=fun us hl=>match us,hl with | [_,_,_,_],_=>h _ _ _ _
theorem JB (h:∀a b c d e,il x s [p1,p2,p3,p4,p5] [a,b,c,d,e]:=by exact fun _ _ _ _ _ _ _ _ _ _ _=>rfl):fj x s [p1,p2,p3,p4,p5]:=fun us hl=>match us,hl with | [_,_,_,_,_],_=>h _ _ _ _ _
end
noncomputable def Ft (K:Fg) (mg:Str->Option Value) (n:Str) (s:Stmt):Prop:=∃f fd,mg n=some (.ref f)/\Fun K n n s f fd
theorem ft {K:Fg} {h:Heap} {mg:Str->Option Value} {n:Str} {s:Stmt} {f:Addr} {od an:Option Addr} {sl:Array (Option Value)} {oc kV dc pm cd ct:Value} (X:K.In h) (G:h.Ns mainGlobals mg) (a:PySem.W.nsIn K mainGlobals n=some (some (.ref f))) (l:K.lookup f=some ⟨oc,od,.func (PySem.W.fnOf n n (fR s) (dI s) (br s) .none kV dc pm an cd ct),sl⟩) (c:PySem.W.codeIn K cd n=true) (k:PySem.W.keepIn K (.ref f)=true):Ft K mg n s:=⟨f,_,PySem.W.mg_of X G a,Cs (st:=s) l c k⟩
theorem vO {K:Fg} {x:Str} {st:Stmt} {f:Addr} {fd:FuncData} {ps:List Str} (F:Fun K x x st f fd) (b:fj x st ps):Binds K fd ps []:=F.binds fun kV doc pm an cdv ct us hl=>b us hl kV doc pm an cdv ct
noncomputable def BV (vs cs:List Nat):List Nat:=vs.filter fun i=>!cs.contains i
noncomputable def fB (N gl ps:List Str) (vs cs gs:List Nat) (s:Stmt):Bool:=tx N gl vs cs vs (BV vs cs) gs (br s)&&EH N gl&&(!(br s).isCoroutine&&!(br s).isGenerator&&decide (N.take ps.length=ps)&&(ps.all fun x=>fI (br s) [.local,.cell] (some x))&&((br s).names.all fun y=>!decide (y.2=.free)))
theorem E9 {N gl ps:List Str} {vs cs gs:List Nat} {s:Stmt} (h:fB N gl ps vs cs gs s=true):tx N gl vs cs vs (BV vs cs) gs (br s)=true/\EH N gl=true/\g9 N ps (br s):=by
 unfold fB at h;simp only [Bool.and_eq_true,decide_eq_true_eq,all_eq_true,Bool.not_eq_true',decide_eq_false_iff_not] at h
 obtain ⟨⟨h1,h2⟩,⟨⟨⟨h3,h4⟩,h5⟩,h6⟩,h7⟩:=h;refine ⟨h1,h2,(G9 h1).kind,h3,h4,(uY h2).1,h5,fun x hx=>?_,h7⟩
 obtain ⟨k,hk,q⟩:=Dc (h6 x hx);simp only [mem_cons,not_mem_nil,or_false] at hk
 rcases hk with rfl | rfl
 ·exact .inl q
 ·exact .inr q
structure In (p:Fg->(Str->Option Value)->Prop) (X:Cx) (P:Program) (w:World) (K:Fg) (mg:Str->Option Value) (base:Heap) (k:Nat):Prop where
 e1:X.prog=P
 e2:X.w=w
 e3:X.K=K
 e4:X.mg=mg
 e5:X.base=base
 rm:Room k X.A
 pp:p K mg
section
variable {p:Fg->(Str->Option Value)->Prop} {X Y:Cx} {P:Program} {w:World} {K:Fg} {mg:Str->Option Value} {base:Heap} {j k n:Nat} {x:Str} {s:Stmt} {ps:List Str} {g:FS} {den:List KY->bS} {ss:List Sh}
theorem In.r (I:In p X P w K mg base k):Rm X:=I.rm.units
theorem In.e (I:In p X P w K mg base k):p X.K X.mg:=by rw [I.e3,I.e4];exact I.pp
theorem In.c (I:In p X P w K mg base k) (h:DefOk P w K mg base j x n den) (hj:decide (j<=k)=true:=by first | exact rfl | exact decide_eq_true (by omega)):Fz X x n den:=by
 obtain ⟨rfl,rfl,rfl,rfl,rfl,r,_⟩:=I;exact h.cal r hj
theorem Fx.i (F:Fx X Y) (I:In p X P w K mg base k):In p Y P w K mg base k:=⟨F.prog.trans I.e1,F.w.trans I.e2,F.K.trans I.e3,F.mg.trans I.e4,F.base.trans I.e5,by rw [F.A];exact I.rm,I.pp⟩
noncomputable abbrev Bd (p:Fg->(Str->Option Value)->Prop) (P:Program) (w:World) (K:Fg) (mg:Str->Option Value) (base:Heap) (k:Nat) (N gl:List Str) (vs cs gs:List Nat) (s:Stmt) (g:FS):Prop:=∀X:Cx,Cp X N gl vs cs vs (BV vs cs) gs->In p X P w K mg base k->PassesOwn (model X.prog X.w) X.A X.env X.xe->TQ.Q (PSs X (dI s) (tS X.K W0 g))
theorem zF (F:Ft K mg x s) (b:fj x s ps):DefOk P w K mg base j x ps.length (fun _=>.no):=by
 obtain ⟨f,fd,hm,F⟩:=F;exact ⟨f,fd,ps,E8,hm,F.kp,vO F b⟩
theorem Kh {f:Addr} {fd:FuncData} (F:Fun K x x s f fd) (e:p K mg) (N gl:List Str) (vs cs gs:List Nat) (h:fB N gl ps vs cs gs s=true) (hb:Bd p P w K mg base k N gl vs cs gs s g):gy P w K mg base pY (k+1) f fd ps (rB K ps.length (aC N.length g)):=by
 obtain ⟨h1,h2,h3⟩:=E9 h;exact Ct F h3 fun cdv A outer s H E hr=>(hb _ (Cp.fn h1 h2) ⟨rfl,rfl,rfl,rfl,rfl,hr,e⟩ PassesOwn.never).p
theorem mk (F:Ft K mg x s) (e:p K mg) (ps:List Str) (b:fj x s ps) (rs gl:List Str) (vs cs gs:List Nat) (hb:Bd p P w K mg base k (ps++rs) gl vs cs gs s g) (h:fB (ps++rs) gl ps vs cs gs s=true:=by kernel_rfl):DefOk P w K mg base (k+1) x ps.length (aC (ps++rs).length g):=by
 obtain ⟨f,fd,hm,F⟩:=F;exact ⟨f,fd,ps,Kh F e _ gl vs cs gs h hb,hm,F.kp,vO F b⟩
theorem Kw {fa:Addr} (F:Ft K mg x s) (e:p K mg) (q:Str) (b:fj x s [q]) (hfa:mg x=some (.ref fa)) (rs gl:List Str) (vs cs gs:List Nat) (hb:∀base,Bd p P w K mg base k ([q]++rs) gl vs cs gs s g) (h:fB ([q]++rs) gl [q] vs cs gs s=true:=by kernel_rfl) :
  ∃fd:FuncData,(∀(s:Shared) (v:Value),BindsTo s fd ⟨[v],[]⟩ [(q,v)])/\∀base:Heap,K.In base->base.Ns mainGlobals mg->gy P w K mg base pY (k+1) fa fd [q] (rB K 1 (aC ([q]++rs).length g)):=by
 obtain ⟨f,fd,hm,F⟩:=F;have e':=hfa.symm.trans hm
 cases e'
 refine ⟨fd,fun s v=>?_,fun base _ _=>Kh F e _ gl vs cs gs h (hb base)⟩
 obtain ⟨oc,od,kV,doc,pm,an,cdv,ct,osl,rfl,lk,hcd⟩:=F.ex;exact .of_eq (b [v] rfl kV doc pm an cdv ct)
section
variable {h:Heap} {a:Addr} {dd:Option Addr} {its:Array Value} {n:Nat} {sl:Array (Option Value)} {ds:List KY} (KX:K.In h) (G:h.Ns mainGlobals mg)
include KX G
theorem gn (z:PySem.W.nsIn K mainGlobals x=some none):mg x=none:=PySem.W.mg_none_of KX G z
theorem gi {i:Int} {t:Tok} (z:PySem.W.nsIn K mainGlobals x=some (some (.int i t))):fh K mg x (.int i):=yO (PySem.W.mg_of KX G z)
theorem gt (z:PySem.W.nsIn K mainGlobals x=some (some (.ref a))) (l:K.lookup a=some ⟨.type "tuple",dd,.seq its n,sl⟩) (c:sW its ds=true):fh K mg x (.tuple ds):=yM (PySem.W.mg_of KX G z) l c
theorem g2 {y:Str} {b:Addr} {d2:Option Addr} {i2:Array Value} {n2:Nat} {sl2:Array (Option Value)} {t:Tok} (z:PySem.W.nsIn K mainGlobals x=some (some (.ref a))) (l:K.lookup a=some ⟨.type "tuple",dd,.seq its n,sl⟩) (hi:its.toList=[.str y t,.ref b]) (l2:K.lookup b=some ⟨.type "tuple",d2,.seq i2 n2,sl2⟩) (h:sW i2 ds=true):fh K mg x (.tuple [.str y,.tuple ds]):=vL (PySem.W.mg_of KX G z) l hi l2 h
theorem gd {es:Array DictEntry} {ep:Nat} {tab:List (Str×Int)} (z:PySem.W.nsIn K mainGlobals x=some (some (.ref a))) (l:K.lookup a=some ⟨.type "dict",none,.dict es ep,#[]⟩) (c:ua a es tab=true):qW K mg x tab:=yN (PySem.W.mg_of KX G z) l c
end
theorem walkG {m:List KY->bS} {l:PySem.W.OpenLaw} {q:Program} {loose:List Str} {XP:(Str->Option Value)->Heap->Prop} {YP:World->Heap->Prop} {d:DefRec} {K:Params->Fg} (lt:∀ns:List Int,ns.length<=63->m [.list (ns.map .int)]=.ok ⟨.leaf,.bool true⟩) (hr:Room j callerA) (hn:l.most=some 63) (hdf:d.params.defaults=[])
  (hY:∀(w:World) (h:Heap),YP w h->(K w.params).In h)
  (F:∀(w:World) (mg:Str->Option Value) (fa:Addr) (h:Heap),(K w.params).In h->h.Ns mainGlobals mg->mg d.name=some (.ref fa) ->
   ∃fd:FuncData,(∀(s:Shared) (u:Value),BindsTo s fd ⟨[u],[]⟩ [("script",u)])/\∀base:Heap,(K w.params).In base->base.Ns mainGlobals mg->gy l.prog w (K w.params) mg base pY j fa fd ["script"] (rB (K w.params) 1 m)) :
  PySem.W.WalkO q loose XP YP l.row.toRowW d [] (fun f vs=>PySem.call f vs):=
 L2.walk_of (n:=63) (k:=j) (x := "script") (CX:=fun _=>pY) (sp:=fun w=>rB (K w.params) 1 m) hn (by decide) hdf hr hY F (fun _ _ a ns hl _ hS=>BW (lt ns hl) hS) fun _ _ _ _ _ z=>z
end
end T
namespace TQ
open PySem PySem.Spec L2 T
open PyProof.Rows hiding St
section
variable {X:Cx} {N gl:List Str} {vs cs ls lo gs:List Nat} {W:XW} {a b c e:Expr} {es:List Expr} {pos p:Pos} {fa fb fc:F1} {fl:FL} {ga gb:FB} {g1 g2 g:FS}
theorem ak (S:Cp X N gl vs cs ls lo gs) (i:Nat) {x:Str} (hN:N[i]?=some x:=by exact rfl) (hv:vs.contains i=true:=by exact rfl):Q (PE X (.Name x pos) (tE X.K W (ae i))):=ID S i hN hv
theorem aR (ha:Q (PE X e (tE X.K W fa))) (hr:Q (PA X es (tA X.K W fl))) (hs:fJ e=false:=by exact rfl):Q (PA X (e::es) (tA X.K W (ab fa fl))):=kC ha hr (gA hs)
theorem aM (ha:Q (PE X e (tE X.K W fa))) (hs:fJ e=false:=by exact rfl):Q (PA X [e] (tA X.K W (ab fa af))):=kC ha wg (gA hs)
theorem bF (ha:Q (PE X a (tE X.K W fa))) (hb:Q (PE X b (tE X.K W fb))) (hs:g6 b:=by exact fun _ _=>rfl):Q (PE X (.Subscript a b pos) (tE X.K W (ao fa fb))):=tP ha hb hs
theorem bw {x:Str} {n:Nat} {den:List KY->bS} (S:Cp X N gl vs cs ls lo gs) (j:Nat) (C:Fz X x n den) (ha:Q (PA X (e::es) (tA X.K W fl))) (hj:gl[j]?=some x:=by exact rfl) (hg:gs.contains j=true:=by exact rfl) (he:fJ e=false:=by exact rfl) (hpl:(backTo pos (starEach es X.env)).any (·.1)=false:=by exact rfl):Q (PE X (.Call (.Name x p) (e::es) [] pos) (tE X.K W (ag n den fl))):=IH S j hj hg C ha (gA he) hpl
theorem cN (S:Cp X N gl vs cs ls lo gs) (own:Bool) (i:Nat) {x:Str} {pos':Pos} (ha:Q (PE X a (tE X.K W fa))) (hi:N[i]?=some x:=by exact rfl) (hl:ls.contains i=true:=by exact rfl) (hs:swapsWith a (some (.Name x pos')) pos.line X.env=pure false:=by exact rfl):Q (PS X (.Assign [.Name x pos'] a pos) (tS X.K W (aB own i fa))):=tQ S own i hi hl hs ha
theorem hU (S:Cp X N gl vs cs ls lo gs) (j:Nat) (hm:X.mg "len"=none) (ha:Q (PA X (e::es) (tA X.K W fl))) (hj:gl[j]?=some ("len":Str):=by exact rfl) (hg:gs.contains j=true:=by exact rfl) (he:fJ e=false:=by exact rfl) (hpl:(backTo pos (starEach es X.env)).any (·.1)=false:=by exact rfl):Q (PE X (.Call (.Name "len" p) (e::es) [] pos) (tE X.K W (bJ bg fl))):=tW S j hj hg hm ha (gA he) hpl
theorem b8 {op:CmpOp} {r:R2} {g:KY->KY->Option KY} (k:Ck X op r g) (ha:Q (PE X a (tE X.K W fa))) (hb:Q (PE X b (tE X.K W fb))) (hm:behindInMarks op b=false:=by with_unfolding_all rfl):Q (PT X (.Compare a [op] [b] pos) (tT X.K W (aL ai (az g fa fb)))):=IE k ha hb hm
theorem fQ {op:CmpOp} {r:R2} {g:KY->KY->Option KY} (k:Ck X op r g) (ha:Q (PE X a (tE X.K W fa))) (hb:Q (PE X b (tE X.K W fb))) (hm:behindInMarks op b=false:=by with_unfolding_all rfl):Q (PE X (.Compare a [op] [b] pos) (tE X.K W (az g fa fb))):=IG k ha hb hm
theorem bM (ha:Q (PE X a (tE X.K W fa))):Q (PSs X [.Return (some a) pos] (tS X.K W (aF fa))):=gC (tN ha)
theorem jX {scope:Scope} {x:Str} {px:Pos} {iter elt:Expr} {ifs:List Expr} {fi:FI} {fe:F1} {fc:FB} (vs' cs' gs':List Nat) (S:Cp X N gl vs cs ls lo gs) (i:Nat) (hi':Q (PI X (.Name x px) iter (tI X.K W fi))) (hc:tF X N gl vs' cs' [i] [] gs' fun Y=>Q (PF Y ifs (tT Y.K W0 fc))) (he:tF X N gl vs' cs' [i] [] gs' fun Y=>Q (PE Y elt (tE Y.K W0 fe))) (hx:N[i]?=some x:=by exact rfl) (h1:ll N i cs scope=true:=by kernel_rfl) (h2:tx N gl vs' cs' [i] [] gs' scope=true:=by kernel_rfl) (hs:∀x,foldedSetIterable iter X.env x=pure x:=by exact fun _=>rfl):Q (PE X (.ListComp elt [⟨.Name x px,iter,ifs,0⟩] scope pos) (tE X.K W (aA .leaf i fi fc fe))):=IF S .leaf i hx h1 h2 hi' hc he hs
end
end TQ
namespace T
open PySem PySem.Spec L2
open PyProof.Rows hiding St
theorem nK:∀{ts:List Str} {us:List Value},Vals (ts.map V.str) us->∃l:List (Str×Tok),us=strValues l/\l.map (·.1)=ts
 | [],_,.nil=>⟨[],rfl,rfl⟩
 | x::ts,_,.cons r t=>by
  obtain ⟨k,rfl⟩:=(show ∃k,_=Value.str x k from r)
  obtain ⟨l,rfl,e⟩:=nK t;exact ⟨(x,k)::l,rfl,by rw [map_cons,e]⟩
noncomputable def qr (K:Fg):V->List V->Hp->VK->Prop:=fun x xs H Q=>∃(sep:Str) (p:Addr) (ts:List Str),x=.str sep/\xs=[.ref p]/\SqL K H p (ts.map V.str)/\JoinOk sep ts=true/\Q (.str (Txt.join sep ts)) H
theorem yg {X:Cx}:JH X "str.join" (qr X.K):=by
 intro pins s σ H x xs v us Q I rx rv h;obtain ⟨sep,p,ts,rfl,rfl,hS,ok,q⟩:=h;obtain ⟨t,rfl⟩:=rx;obtain ⟨u,rfl,ru⟩:=rv.one
 cases (show u=Value.ref p from ru)
 obtain ⟨its,r,pl,hz⟩:=I.list hS;obtain ⟨l,rfl,e⟩:=nK r;obtain ⟨o,n,ho,hc,hd,hdt⟩:=pl;exact SC.join (l:=l) (texts:=ts) ⟨o,ho,hc,n,hdt⟩ e ok fun t' k=>⟨.str _,H,I.tok _,⟨_,rfl⟩,q⟩
noncomputable def Dk:List KY->Option (List Str)
 | []=>some []
 | .str x::r=>(Dk r).map (x :: ·)
 | _=>none
theorem vb:∀{ds:List KY} {ts:List Str},Dk ds=some ts->ds=ts.map .str
 | [],_,h=>by cases h;rfl
 | d::r,ts,h=>by
  cases d with
  | str x=>
   unfold Dk at h
   cases e:Dk r with
   | none=>rw [e] at h;cases h
   | some us=>rw [e] at h;cases h;rw [vb e];rfl
  | _=>cases h
theorem m5 {K:Fg} {H:Hp}:∀{ts:List Str} {vs:List V},vs.length=ts.length->(∀(i:Nat) v d,vs[i]?=some v->(ts.map PySem.PyData.str)[i]?=some d->Rep K H v d)->vs=ts.map V.str
 | [],[],_,_=>rfl
 | x::ts,v::vs,h,f=>by
  have h0:=f 0 v (.str x) rfl rfl
  cases h0;rw [m5 (ts:=ts) (vs:=vs) (by simpa using h) fun i v d a b=>f (i+1) v d (by simpa using a) (by simpa using b)]
  rfl
 | [],_::_,h,_=>by cases h
 | _::_,[],h,_=>by cases h
noncomputable def fZ (sep:Str):List KY->Option KY
 | [.list ds]=>match Dk ds with
  | some ts=>if JoinOk sep ts=true then some (.str (Txt.join sep ts)) else none
  | none=>none
 | _=>none
theorem yv {K:Fg} {x:Str}:GCall K (fun xs H Q=>qr K (.str x) xs H Q) (fZ x):=by
 intro vs H Q ds d rs e k;unfold fZ at e;split at e
 ·rename_i es
  obtain ⟨v,rfl,r⟩:=rs.one
  cases hs:Dk es with
  | none=>rw [hs] at e;cases e
  | some ts=>
   rw [hs] at e;dsimp only at e;split at e
   ·rename_i ok
    cases e;have ed:=vb hs
    subst ed
    cases r with
    | @lst p us _ hq hl hr=>
     have ev:=m5 (by simpa using hl) hr
     subst ev;exact ⟨x,p,ts,rfl,rfl,hq,ok,k _ (.str _)⟩
   ·cases e
 ·cases e
theorem xx {K:Fg} {W:XW} {σ:St} {H:Hp} {Q:VK} {x:Str} {fl:FL} (h:tE K W (bJ (fZ x) fl) σ H Q):DZ K "str" (qr K) (tC (.str x)) (tA K W fl) σ H Q:=
 ⟨rfl,uC yv h⟩
theorem ce_join {X:Cx} {W:XW} {x:Str} {j:Nat} {p apos cpos:Pos} {e:Expr} {fe:F1} (ha:PE X e (tE X.K W fe)) (hs:starEach [e] X.env=[(false,eval e X.env)]) (hline:(apos.endLine==cpos.line)=true) :
  PE X (.Call (.Attribute (.Constant (.str x) j p) "join" apos) [e] [] cpos) (tE X.K W (bJ (fZ x) (ab fe af))):=
 bp (qy (T := "str") (r:=qr X.K) F.plainAttrs_str F.slot_str_join F.type_str_join yg FV (da_cons ha da_nil hs) rfl (by rw [hs];rfl) hline hs rfl) fun _ _ _=>xx
noncomputable def stB (x y:Str) (i:Int):Bool:=decide (fromIndex x.length i+y.length<=x.length)&&Builtin.Str.subAt x y (fromIndex x.length i)
noncomputable def Jn:V->List V->Hp->VK->Prop:=fun v xs H Q=>∃(x y:Str) (i:Int),v=.str x/\xs=[.str y,.int i]/\Q (.bl (stB x y i)) H
theorem EJ {X:Cx}:JH X "str.startswith" Jn:=by
 intro pins s σ H x xs v us Q I rx rv h;obtain ⟨x,y,i,rfl,rfl,q⟩:=h;obtain ⟨t,rfl⟩:=rx
 cases rv with
 | cons r1 r2=>
  obtain ⟨u,rfl⟩:=(show ∃k,_=Value.str y k from r1)
  obtain ⟨w,rfl,ru⟩:=(show Vals [.int i] _ from r2).one
  obtain ⟨k,rfl⟩:=(show ∃k,w=Value.int i k from ru)
  exact call_gives F.slot_str_startswith (typeIs_str _ _ _) F.entry_str_startswith (F.args_str_startswith_3 _ _ _) (gives_str_startswith_from x y i t u k) ⟨.bl _,H,I,rfl,q⟩
theorem Dp {K:Fg} {H:Hp} {σ:St} {He:Hp} {O:List Addr} {Fs:List (List Addr)} {Γ:Ev} {i:Nat} {x:Str} (E:EnvOk K He O Fs H σ Γ) (h:Γ[i]?=some (KZ (.str x))):σ[i]?=some (some (.str x)):=by
 obtain ⟨_,v,F,h1,_,o⟩:=E.slot i _ h;have r:=o.rep
 cases r;exact h1
theorem Hj {K:Fg} {H:Hp} {σ:St} {He:Hp} {O:List Addr} {Fs:List (List Addr)} {Γ:Ev} {i:Nat} {x:Int} (E:EnvOk K He O Fs H σ Γ) (h:Γ[i]?=some (KZ (.int x))):σ[i]?=some (some (.int x)):=by
 obtain ⟨_,v,F,h1,_,o⟩:=E.slot i _ h;have r:=o.rep
 cases r;exact h1
noncomputable def fL (i j k:Nat):F1:=fun Γ=>match Γ[i]?,Γ[j]?,Γ[k]? with
 | some (some ⟨.leaf,.str x⟩),some (some ⟨.leaf,.str y⟩),some (some ⟨.leaf,.int n⟩)=>.ok ⟨.leaf,.bool (stB x y n)⟩ Γ
 | _,_,_=>.no
noncomputable def jv (i j k:Nat):F1:=fun Γ=>match Γ[i]?,Γ[j]?,Γ[k]? with
 | some (some ⟨.leaf,.str x⟩),some (some ⟨.leaf,.int a⟩),some (some ⟨.leaf,.int b⟩)=>if x.length<=sizeLine then .ok ⟨.leaf,.str (Txt.slice x (some a) (some b))⟩ Γ else .no
 | _,_,_=>.no
noncomputable def zN (i j:Nat) (a b:Str):F1:=fun Γ=>match Γ[i]?,Γ[j]? with
 | some (some ⟨.leaf,.str x⟩),some (some ⟨.leaf,.str y⟩)=>if x.length+a.length+y.length+b.length<=sizeLine then .ok ⟨.leaf,.str (x++a++y++b)⟩ Γ else .no
 | _,_=>.no
section
variable {K:Fg} {W:XW} {σ:St} {H:Hp} {Q:VK}
theorem uv {i j k:Nat} (h:tE K W (fL i j k) σ H Q):DZ K "str" Jn (fx i) (kG (fx j) (kG (fx k) w9)) σ H Q:=by
 obtain ⟨He,O,Fs,Γ,E,h⟩:=h;have h:Wants K W He O Fs H σ Q (fL i j k Γ):=h
 unfold fL at h;split at h
 ·rename_i x y n e1 e2 e3
  exact ⟨.str x,Dp E e1,rfl,.str y,Dp E e2,.int n,Hj E e3,x,y,n,rfl,rfl,h _ _ _ _ (C2 E (Same.refl _) (fun a ha=>.inl ha) (.bl _))⟩
 ·exact h.elim
end
section
variable {X:Cx} {N gl:List Str} {vs cs ls lo gs:List Nat} {W:XW}
theorem y4 (S:Cp X N gl vs cs ls lo gs) (i:Nat) {x:Str} {p:Pos} (hi:N[i]?=some x) (hv:vs.contains i=true):PE X (.Name x p) (fx i):=by
 have m:=S.nm x (mem_of_getElem? hi)
 exact Aa (by rw [S.hN];exact hi) (S.vis i x hi hv) m.1 m.2
theorem ce_start (S:Cp X N gl vs cs ls lo gs) (i j k:Nat) {x y z:Str} {p1 p2 p3 apos cpos:Pos} (hi:N[i]?=some x) (hv:vs.contains i=true) (hj:N[j]?=some y) (hw:vs.contains j=true) (hk:N[k]?=some z) (hz:vs.contains k=true)
  (hbase:attributeBase (.Name x p1) "startswith" X.env (eval (.Name x p1) X.env)=eval (.Name x p1) X.env:=by rfl) (hline:(apos.endLine==cpos.line)=true:=by rfl) :
  PE X (.Call (.Attribute (.Name x p1) "startswith" apos) [.Name y p2,.Name z p3] [] cpos) (tE X.K W (fL i j k)):=
 bp (qy (T := "str") (r:=Jn) F.plainAttrs_str F.slot_str_startswith F.type_str_startswith EJ (y4 S i hi hv) (Du (y4 S j hj hw) (Du (y4 S k hk hz) Hk rfl) rfl) hbase rfl hline rfl rfl) fun _ _ _=>uv
end
noncomputable def IL (ta:TE):TE:=fun σ H Q=>ta σ H fun v H1=>∃x,v=.str x/\x.length<=sizeLine/\Q (.str x) H1
theorem zB {X:Cx} {a:Expr} {ta:TE} {pos:Pos} (ha:PE X a ta):PE X (.FormattedValue a (-1) none pos) (IL ta):=by
 intro pins s σ H Q I h;refine wpAny_FormattedValue_plain (b6 (ha pins s σ H _ I h) fun v s1 ⟨v',H1,I1,r1,x,e,hx,q⟩=>?_)
 subst e;obtain ⟨t,rfl⟩:=r1;exact wpAny_formatField_str ⟨.str x,H1,I1,⟨_,rfl⟩,q⟩ ⟨.str x,H1,I1.tok _,⟨_,rfl⟩,q⟩ hx
noncomputable def JU (t1 t2 t3 t4:TE):TE:=fun σ H Q=>t1 σ H fun v1 H1=>∃x1,v1=.str x1/\x1.length<=sizeLine/\t2 σ H1 fun v2 H2=>∃x2,v2=.str x2/\(x1++x2).length<=sizeLine /\
 t3 σ H2 fun v3 H3=>∃x3,v3=.str x3/\(x1++x2++x3).length<=sizeLine/\t4 σ H3 fun v4 H4=>∃x4,v4=.str x4/\(x1++x2++x3++x4).length<=sizeLine/\Q (.str (x1++x2++x3++x4)) H4
theorem qO (x:Str):Str.empty++x=x:=by
 cases x;show (⟨_⟩:Str)=_
 simp [Str.empty]
theorem Ez {X:Cx} {a b c d:Expr} {t1 t2 t3 t4:TE} {pos:Pos} (h1:PE X a t1) (h2:PE X b t2) (h3:PE X c t3) (h4:PE X d t4):PE X (.JoinedStr [a,b,c,d] pos) (JU t1 t2 t3 t4):=by
 intro pins s σ H Q I h;refine wpAny_JoinedStr (b6 (h1 pins s σ H _ I h) fun v s1 ⟨v1,H1,I1,r1,x1,e1,l1,k1⟩=>?_)
 subst e1;obtain ⟨t,rfl⟩:=r1;refine ⟨x1,t,rfl,by rw [qO];exact l1,?_⟩
 rw [qO];refine b6 (h2 pins s1 σ H1 _ I1 k1) fun v s2 ⟨v2,H2,I2,r2,x2,e2,l2,k2⟩=>?_
 subst e2;obtain ⟨t,rfl⟩:=r2;refine ⟨x2,t,rfl,l2,?_⟩
 refine b6 (h3 pins s2 σ H2 _ I2 k2) fun v s3 ⟨v3,H3,I3,r3,x3,e3,l3,k3⟩=>?_
 subst e3;obtain ⟨t,rfl⟩:=r3;refine ⟨x3,t,rfl,l3,?_⟩
 refine b6 (h4 pins s3 σ H3 _ I3 k3) fun v s4 ⟨v4,H4,I4,r4,x4,e4,l4,k4⟩=>?_
 subst e4;obtain ⟨t,rfl⟩:=r4;exact ⟨x4,t,rfl,l4,l4,.str _,H4,I4.tok _,⟨_,rfl⟩,k4⟩
theorem iY (x y:Str):(x++y).length=x.length+y.length:=by
 show (x.cps++y.cps).size=_
 rw [Array.size_append];rfl
theorem Ea {K:Fg} {W:XW} {σ:St} {H:Hp} {Q:VK} {i j:Nat} {a b:Str} (h:tE K W (zN i j a b) σ H Q):JU (IL (fx i)) (tC (.str a)) (IL (fx j)) (tC (.str b)) σ H Q:=by
 obtain ⟨He,O,Fs,Γ,E,h⟩:=h;have h:Wants K W He O Fs H σ Q (zN i j a b Γ):=h
 unfold zN at h;split at h
 ·rename_i x y e1 e2
  split at h
  ·rename_i hl
   refine ⟨.str x,Dp E e1,x,rfl,by omega,x,rfl,by omega,a,rfl,by rw [iY];omega,.str y,Dp E e2,y,rfl,by omega,y,rfl,by rw [iY,iY];omega,b,rfl,by rw [iY,iY,iY];omega,?_⟩
   exact h _ _ _ _ (C2 E (Same.refl _) (fun a ha=>.inl ha) (.str _))
  ·exact h.elim
 ·exact h.elim
theorem xr {K:Fg} {W:XW} {σ:St} {H:Hp} {Q:VK} {i j k:Nat} (h:tE K W (jv i j k) σ H Q):fx i σ H fun v H1=>fx j σ H1 fun u H2=>∃a,u=.int a/\fx k σ H2 fun z H3=>∃b,z=.int b/\Ej v (some a) (some b) H3 Q:=by
 obtain ⟨He,O,Fs,Γ,E,h⟩:=h;have h:Wants K W He O Fs H σ Q (jv i j k Γ):=h
 unfold jv at h;split at h
 ·rename_i x a b e1 e2 e3
  split at h
  ·rename_i hl
   exact ⟨.str x,Dp E e1,.int a,Hj E e2,a,rfl,.int b,Hj E e3,b,rfl,x,rfl,hl,h _ _ _ _ (C2 E (Same.refl _) (fun a ha=>.inl ha) (.str _))⟩
  ·exact h.elim
 ·exact h.elim
section
variable {X:Cx} {N gl:List Str} {vs cs ls lo gs:List Nat} {W:XW}
theorem ce_fs (S:Cp X N gl vs cs ls lo gs) (i j:Nat) {x y a b:Str} {ka kb:Nat} {p1 p2 p3 p4 p5 p6 pos:Pos} (hi:N[i]?=some x) (hv:vs.contains i=true) (hj:N[j]?=some y) (hw:vs.contains j=true) :
  PE X (.JoinedStr [.FormattedValue (.Name x p1) (-1) none p2,.Constant (.str a) ka p3,.FormattedValue (.Name y p4) (-1) none p5,.Constant (.str b) kb p6] pos) (tE X.K W (zN i j a b)):=
 bp (Ez (zB (y4 S i hi hv)) FV (zB (y4 S j hj hw)) FV) fun _ _ _=>Ea
theorem ce_txsl (S:Cp X N gl vs cs ls lo gs) (i j k:Nat) {x y z:Str} {p1 p2 p3 p4 pos:Pos} (hi:N[i]?=some x) (hv:vs.contains i=true) (hj:N[j]?=some y) (hw:vs.contains j=true) (hk:N[k]?=some z) (hz:vs.contains k=true) :
  PE X (.Subscript (.Name x p1) (.Slice (some (.Name y p2)) (some (.Name z p3)) none p4) pos) (tE X.K W (jv i j k)):=
 bp (nh Ay (y4 S i hi hv) (Hz (y4 S j hj hw)) (Hz (y4 S k hk hz))) fun _ _ _=>xr
end
end T
namespace TQ
open PySem PySem.Spec L2 T
open PyProof.Rows hiding St
theorem rl {X:Cx} {W:XW} {x:Str} {j:Nat} {p apos cpos:Pos} {e:Expr} {fe:F1} (ha:Q (PE X e (tE X.K W fe))) (hs:starEach [e] X.env=[(false,eval e X.env)]) (hline:(apos.endLine==cpos.line)=true) :
  Q (PE X (.Call (.Attribute (.Constant (.str x) j p) "join" apos) [e] [] cpos) (tE X.K W (bJ (fZ x) (ab fe af)))):=⟨T.ce_join ha.p hs hline⟩
section
variable {X:Cx} {N gl:List Str} {vs cs ls lo gs:List Nat} {W:XW}
theorem oM (S:Cp X N gl vs cs ls lo gs) (i j k:Nat) {x y z:Str} {p1 p2 p3 apos cpos:Pos} (hi:N[i]?=some x) (hv:vs.contains i=true) (hj:N[j]?=some y) (hw:vs.contains j=true) (hk:N[k]?=some z) (hz:vs.contains k=true)
  (hbase:attributeBase (.Name x p1) "startswith" X.env (eval (.Name x p1) X.env)=eval (.Name x p1) X.env:=by rfl) (hline:(apos.endLine==cpos.line)=true:=by rfl) :
  Q (PE X (.Call (.Attribute (.Name x p1) "startswith" apos) [.Name y p2,.Name z p3] [] cpos) (tE X.K W (fL i j k))):=⟨T.ce_start S i j k hi hv hj hw hk hz hbase hline⟩
theorem wW (S:Cp X N gl vs cs ls lo gs) (i j:Nat) {x y a b:Str} {ka kb:Nat} {p1 p2 p3 p4 p5 p6 pos:Pos} (hi:N[i]?=some x) (hv:vs.contains i=true) (hj:N[j]?=some y) (hw:vs.contains j=true) :
  Q (PE X (.JoinedStr [.FormattedValue (.Name x p1) (-1) none p2,.Constant (.str a) ka p3,.FormattedValue (.Name y p4) (-1) none p5,.Constant (.str b) kb p6] pos) (tE X.K W (zN i j a b))):=⟨T.ce_fs S i j hi hv hj hw⟩
theorem rj (S:Cp X N gl vs cs ls lo gs) (i j k:Nat) {x y z:Str} {p1 p2 p3 p4 pos:Pos} (hi:N[i]?=some x) (hv:vs.contains i=true) (hj:N[j]?=some y) (hw:vs.contains j=true) (hk:N[k]?=some z) (hz:vs.contains k=true) :
  Q (PE X (.Subscript (.Name x p1) (.Slice (some (.Name y p2)) (some (.Name z p3)) none p4) pos) (tE X.K W (jv i j k))):=⟨T.ce_txsl S i j k hi hv hj hw hk hz⟩
end
end TQ
namespace KC.Y
open PySem PySem.Spec L2 T
open PyProof.Rows hiding St
open KC
noncomputable def b5:KY:=.tuple [.str "(",.str ")",.str ","]
noncomputable def pN:FS:=(aq (aB true 1 (cc .leaf af))
  (aq (fz 2 (bf (ag 1 bH (ab (ae 0) af)))
  (gK 1 (aA .leaf 3 (bf (ae 2)) (aL ai (az bj (ao (ae 3) (eK (.int 0))) (eK (.str "mark")))) (ao (ae 3) (eK (.int 1))))))
  (aF (gr letters (ab (ae 1) af)))))
noncomputable def bT:List KY->bS:=aC 4 pN
noncomputable def sR:FS:=(aq (dh (ag 1 aZ (ab (ae 0) af)))
  (aF (ag 1 fG (ab (ae 0) af))))
noncomputable def cM:List KY->bS:=aC 1 sR
noncomputable def la (r_text_of:List KY->bS):FS:=(aq (aB false 1 (ao (ae 0) (eK (.int 0))))
  (aq (bW (aL ai (az bj (ae 1) (eK (.str "yes")))) (aF (ae 1)) aJ)
  (aq (bW (aL ai (az bj (ae 1) (eK (.str "mark")))) (aF (ao (ae 0) (eK (.int 1)))) aJ)
  (aq (aB false 2 (bJ (fZ ", ") (ab (aA .leaf 3 (bV (ik (ae 0) (eK (.int 1)))) aK (ag 1 r_text_of (ab (ae 3) af))) af)))
  (aF (zN 1 2 "(" ")"))))))
noncomputable def cf:Nat->List KY->bS
 | 0=>fun _=>.no
 | n+1=>aC 4 (la (cf n))
noncomputable def kO:List KY->bS:=cf 20
noncomputable def yK:FS:=(aq (dh (ag 1 aZ (ab (ae 0) af)))
  (aF (ag 1 kO (ab (ae 0) af))))
noncomputable def gO:List KY->bS:=aC 1 yK
noncomputable def sQ:FS:=(aq (aB false 2 (ae 1))
  (aq (fF 1000 (gx (aL ai (az kT (ae 2) (bJ bg (ab (ae 0) af)))) (aL ai (az (bQ true) (ao (ae 0) (ae 2)) (eK b5))))
  (fm 2 (eK (.int 1))))
  (aF (jv 0 1 2))))
noncomputable def eH:List KY->bS:=aC 3 sQ
noncomputable def vK:FS:=(aq (bW (ff (aL bX (fL 0 2 1))) AE aJ)
  (aF (az bo (ae 1) (bJ bg (ab (ae 2) af)))))
noncomputable def cP:List KY->bS:=aC 3 vK
noncomputable def gg (r_sentence_at:List KY->bS):FS:=(aq (aB false 3 (ag 2 eH (ab (ae 0) (ab (ae 1) af))))
  (aq (aB false 4 (az bo (ae 1) (bJ bg (ab (ae 3) af))))
  (aq (bW (aL ai (az (bQ false) (ae 3) (eK bI))) (aF (bq (ab (bq (ab (eK (.str "mark")) (ab (ae 3) af))) (ab (ae 4) af)))) aJ)
  (aq (bW (aL ai (az bj (ae 3) (eK (.str "yes")))) (aF (bq (ab (bq (ab (ae 3) af)) (ab (ae 4) af)))) aJ)
  (aq (bW (fD (aL ai (km true cE (ae 3))) (aL ai (az bj (ae 2) (eK bG)))) AE aJ)
  (aq (aB false 5 (bq (ab (ae 3) af)))
  (aq (fz 6 (i4 (ab (jx cE (ae 3)) af))
  (aq (aB false 7 (ag 3 r_sentence_at (ab (ae 0) (ab (ag 3 cP (ab (ae 0) (ab (ae 4) (ab (kn (aL bX (ae 6)) (eK (.str ", ")) (eK (.str "("))) af)))) (ab (az bo (ae 2) (eK (.int 1))) af)))))
  (aq (aB false 5 (jy (ae 5) (bq (ab (ao (ae 7) (eK (.int 0))) af))))
  (aB false 4 (ao (ae 7) (eK (.int 1)))))))
  (aF (bq (ab (ae 5) (ab (ag 3 cP (ab (ae 0) (ab (ae 4) (ab (eK (.str ")")) af)))) af)))))))))))
noncomputable def bx:Nat->List KY->bS
 | 0=>fun _=>.no
 | n+1=>aC 8 (gg (bx n))
noncomputable def fY:List KY->bS:=bx 30
noncomputable def CI:FS:=(aq (aB false 1 (ag 3 fY (ab (ae 0) (ab (eK (.int 0)) (ab (eK (.int 1)) af)))))
  (aq (bW (fD (aL ai (az jT (ao (ae 1) (eK (.int 1))) (bJ bg (ab (ae 0) af)))) (ff (aL bX (ag 1 cB (ab (ao (ae 1) (eK (.int 0))) af))))) AE aJ)
  (aF (ao (ae 1) (eK (.int 0))))))
noncomputable def jn:List KY->bS:=aC 2 CI
noncomputable def Ff:FS:=(aq (aB false 1 (ag 3 dF (ab (ae 0) (ab (eK (.int 0)) (ab (eK (.int 6)) af)))))
  (aq (aB false 2 (ag 3 cG (ab (ae 0) (ab (eK (.int 8)) (ab (az bo (eK (.int 1)) (az dH (ag 2 aP (ab (ae 0) (ab (eK (.int 7)) af))) (eK (.int 7)))) af)))))
  (aq (bW (aL ai (az pI (ag 1 dG (ab (ae 2) af)) (eK (.int 7)))) (aF (eK (.bool true))) aJ)
  (aq (aB false 3 (ag 2 eQ (ab (ae 1) (ab (ae 2) af))))
  (aq (fz 4 (bV (bq (ab (ag 1 pD (ab (ae 2) af)) (ab (ag 1 cM (ab (ae 2) af)) (ab (ag 1 jn (ab (ag 1 gO (ab (ae 2) af)) af)) (ab (ag 1 cU (ab (ag 1 cU (ab (ae 2) af)) af)) af))))))
  (aq (bW (aL ai (az jT (ag 2 eQ (ab (ae 1) (ab (ae 4) af))) (ae 3))) (aF (eK (.bool false))) aJ)
  (aq (aB false 6 (ag 2 i3 (ab (ae 1) (ab (ae 4) af))))
  (bW (fD (aL ai (az jT (ao (ae 6) (eK (.int 0))) (ae 3))) (aL ai (az (vq true) (ag 3 eO (ab (ae 1) (ab (ae 4) (ab (ae 6) af)))) (eK (.bool true))))) (aF (eK (.bool false))) aJ))))
  (aq (aB false 5 (aA .leaf 7 (i4 (ab (bJ bg (ab (ao (ae 1) (eK (.int 0))) af)) af)) (aL ai (az (bQ true) (ae 7) (ae 3))) (ae 7)))
  (aq (bW (fD (aL ai (az jT (ag 2 eQ (ab (ae 1) (ab (ag 1 cU (ab (ae 2) af)) af))) (ae 5))) (aL ai (az jT (ag 1 jn (ab (ag 1 gO (ab (ae 2) af)) af)) (ae 2)))) (aF (eK (.bool false))) aJ)
  (aF (az bj (ag 1 bT (ab (ag 1 cM (ab (ae 2) af)) af)) (aA .leaf 8 (bf (ag 1 bT (ab (ae 2) af))) (aL ai (az (bQ false) (ae 8) (ag 1 bT (ab (ag 1 cM (ab (ae 2) af)) af)))) (ae 8)))))))))))
noncomputable def u6:List KY->bS:=aC 9 Ff
noncomputable def cv:Sn->Str
 | .yes=>Wr.yes.t
 | .mk c=>c
 | .un k a=>k.w.t ++ "("++cv a ++ ")"
 | .bi k a b=>k.w.t ++ "("++(cv a ++ ", "++cv b) ++ ")"
theorem zc (a:Wr):a.t.length<=11:=by cases a<;>decide +kernel
theorem qF {c:Str} (h:c∈letters):c.length=1:=by
 unfold letters at h;simp only [mem_cons,not_mem_nil,or_false] at h
 rcases h with rfl | rfl | rfl | rfl | rfl | rfl<;>decide +kernel
theorem l1:("(":Str).length=1:=by decide +kernel
theorem l2:(")":Str).length=1:=by decide +kernel
theorem l3:(", ":Str).length=2:=by decide +kernel
theorem Ae:∀{s:Sn},s.ok->(cv s).length<=15*s.size
 | .yes,_=>by have:=zc .yes;show Wr.yes.t.length<=15*1;omega
 | .mk c,h=>by have:=qF h;show c.length<=15*1;omega
 | .un k a,h=>by
  have:=zc k.w
  have:=Ae (s:=a) h
  show (k.w.t ++ "("++cv a ++ ")").length<=15*(a.size+1)
  rw [iY,iY,iY,l1,l2];omega
 | .bi k a b,h=>by
  have:=zc k.w
  have:=Ae (s:=a) h.1
  have:=Ae (s:=b) h.2
  show (k.w.t ++ "("++(cv a ++ ", "++cv b) ++ ")").length<=15*(a.size+b.size+1)
  rw [iY,iY,iY,iY,iY,l1,l2,l3];omega
theorem EN (a:Str):Txt.join ", " [a]=a:=StrLaws.glued_eq_join _ _
theorem EM (a b:Str):Txt.join ", " [a,b]=a ++ ", "++b:=StrLaws.glued_eq_join _ _
theorem Kz {a:Str} (h:a.length<=10000):fZ ", " [.list [.str a]]=some (.str a):=by
 show (if JoinOk ", " [a]=true then some (PyData.str (Txt.join ", " [a])) else none)=_
 rw [if_pos (by
  show (!decide (0+a.length+(", ":Str).length>sizeLine))=true
  rw [l3,show sizeLine=16777216 from rfl];simp;omega),EN]
theorem Ky {a b:Str} (h:a.length<=10000) (h':b.length<=10000):fZ ", " [.list [.str a,.str b]]=some (.str (a ++ ", "++b)):=by
 show (if JoinOk ", " [a,b]=true then some (PyData.str (Txt.join ", " [a,b])) else none)=_
 rw [if_pos (by
  show (!decide (0+a.length+(", ":Str).length+b.length+(", ":Str).length>sizeLine))=true
  rw [l3,show sizeLine=16777216 from rfl];simp;omega),EM]
theorem DL {i j:Nat} {a b x y:Str} {Γ:Ev} (h1:Γ[i]?=some (KZ (.str x))) (h2:Γ[j]?=some (KZ (.str y))) (h:x.length+a.length+y.length+b.length<=sizeLine):zN i j a b Γ=.ok ⟨.leaf,.str (x++a++y++b)⟩ Γ:=by
 unfold zN;rw [h1,h2];simp only [if_pos h]
noncomputable abbrev GT (s:Sn) (x2 x3:Option PV):Ev:=[KZ s.enc,KZ (.str s.w.t),x2,x3]
theorem iG:∀(n:Nat) (s:Sn),s.ok->s.dep<=n->s.size<=200->cf n [s.enc]=.ok ⟨.leaf,.str (cv s)⟩
 | 0,s,_,h,_=>by
  have:=s.dep_args
  omega
 | n+1,s,hs,h,hz=>by
  show aC 4 (la (cf n)) [s.enc]=_
  have ih:∀a∈s.args,cf n [a.enc]=.ok ⟨.leaf,.str (cv a)⟩:=fun a ha=>iG n a (Sn.args_ok hs a ha) (by have:=Ac ha;omega) (by cases s<;>simp [Sn.args] at ha<;>simp only [Sn.size] at hz<;>first | (subst ha;omega) | (rcases ha with rfl | rfl<;>omega))
  have tq:∀{u:Wr} {t:Str} {v:Bool},bj (.str s.w.t) (.str t)=some (.bool (decide (s.w=u)))->decide (s.w=u)=v->aL ai (az bj (ae 1) (eK (.str t))) (GT s none none)=.ok v (GT s none none):=fun {u t v} h1 h2=>dA (aI (ay rfl) aS (by rw [<-h2];exact h1))
  have no:∀{c:FB} {a:FS} {rest:FS} {Γ:Ev} {o:dS},c Γ=.ok false Γ->rest Γ=o->aq (bW c a aJ) rest Γ=o:=fun h1 h2=>av (bu h1 nofun (fun _=>rfl)) h2
  have yes:∀{c:FB} {a:FS} {rest:FS} {Γ:Ev} {p:PV},c Γ=.ok true Γ->a Γ=.rt p->aq (bW c a aJ) rest Γ=.rt p:=fun h1 h2=>oF (bu h1 (fun _=>h2) nofun)
  have go:∀{o:dS} {rest:FS},rest (GT s none none)=o->(aq (aB false 1 (ao (ae 0) (eK (.int 0)))) rest) (ah 4 [s.enc])=o:=fun {o rest} hr=>av (dU Di rfl (by simp [ah])) hr
  have comp:∀x,s.enc=.tuple (x::s.args.map Sn.enc)->s.args≠[]->aA .leaf 3 (bV (ik (ae 0) (eK (.int 1)))) aK (ag 1 (cf n) (ab (ae 3) af)) (GT s none none)=.ok ⟨.lst .leaf,.list (s.args.map fun a=>.str (cv a))⟩ (GT s none none):=fun x ex hne=>by
   have z:(1:Int)<=(s.args.length:Int)+1:=by omega
   have q:=mw Sn.enc s.args (fun a=>⟨.leaf,.str (cv a)⟩) (s:=.leaf) (i:=3) (fi:=bV (ik (ae 0) (eK (.int 1)))) (fe:=ag 1 (cf n) (ab (ae 3) af)) (st:=true) (Γ:=GT s none none) (by simp [ex,z]) (by simp) rfl (by have:=s.args_le;omega) (fun a ha=>⟨bY (ax (ay rfl) aj) (ih a ha) rfl rfl,rfl⟩)
   exact q
  cases s with
  | yes=>exact aD (go (yes (tq (qX _) rfl) (aH (ay rfl) rfl)))
  | mk c=>exact aD (go (no (tq (qX _) rfl) (yes (tq (pZ _) rfl) (aH (by simp [Sn.enc,cv];rfl) rfl))))
  | un k a=>
   have ha:=Ae (s:=a) hs
   have hz':a.size+1<=200:=hz
   have hw:=zc k.w
   have hj:bJ (fZ ", ") (ab (aA .leaf 3 (bV (ik (ae 0) (eK (.int 1)))) aK (ag 1 (cf n) (ab (ae 3) af))) af) (GT (.un k a) none none)=.ok ⟨.leaf,.str (cv a)⟩ (GT (.un k a) none none):=
    cO (ax (comp _ rfl (by simp [Sn.args])) aj) (Kz (by omega))
   exact aD (go (no (tq (qX _) (by cases k<;>rfl)) (no (tq (pZ _) (by cases k<;>rfl)) (av (dU hj rfl (by simp)) (aH (DL (x:=k.w.t) (y:=cv a) rfl rfl (by rw [l1,l2,show sizeLine=16777216 from rfl];omega)) rfl)))))
  | bi k a b=>
   have ha:=Ae (s:=a) hs.1
   have hb:=Ae (s:=b) hs.2
   have hz':a.size+b.size+1<=200:=hz
   have hw:=zc k.w
   have hj:bJ (fZ ", ") (ab (aA .leaf 3 (bV (ik (ae 0) (eK (.int 1)))) aK (ag 1 (cf n) (ab (ae 3) af))) af) (GT (.bi k a b) none none)=.ok ⟨.leaf,.str (cv a ++ ", "++cv b)⟩ (GT (.bi k a b) none none):=
    cO (ax (comp _ rfl (by simp [Sn.args])) aj) (Ky (by omega) (by omega))
   exact aD (go (no (tq (qX _) (by cases k<;>rfl)) (no (tq (pZ _) (by cases k<;>rfl)) (av (dU hj rfl (by simp)) (aH (DL (x:=k.w.t) (y:=cv a ++ ", "++cv b) rfl rfl (by rw [iY,iY,l1,l2,l3,show sizeLine=16777216 from rfl];omega)) rfl)))))
noncomputable def stp (c:Nat):Bool:=c==40||c==41||c==44
theorem Cd:(List.range 128).all (fun c=>match bQ true (.str ⟨#[c]⟩) b5 with | some (.bool b)=>b==!stp c | _=>false)=true:=by decide +kernel
theorem EU {c:Nat} (h:c<128):bQ true (.str ⟨#[c]⟩) b5=some (.bool (!stp c)):=by
 have q:=List.all_eq_true.mp Cd c (List.mem_range.mpr h)
 split at q
 ·rename_i b e
  rw [e,eq_of_beq q]
 ·cases q
noncomputable def G6 (R:List Nat):Prop:=R=[]\/∃c r,R=c::r/\stp c=true/\c<128
structure At (x:Str) (P w R:List Nat):Prop where
 e:x.cps.toList=P++w++R
 g:∀c∈w,c<128/\stp c=false
 b:G6 R
 l:x.length<=5000
theorem At.len {x:Str} {P w R:List Nat} (h:At x P w R):x.length=P.length+w.length+R.length:=by
 have:=congrArg List.length h.e
 rw [Array.length_toList,length_append,length_append] at this;exact this
noncomputable abbrev GW (x:Str) (k e:Nat):Ev:=[KZ (.str x),KZ (.int (k:Int)),KZ (.int (e:Int))]
theorem nW {x:Str} {P w R:List Nat} (h:At x P w R) (hw:w.length<=500):eH [.str x,.int (P.length:Int)]=.ok ⟨.leaf,.str ⟨w.toArray⟩⟩:=by
 have hl:=h.len
 have h5:=h.l
 have sz:sizeLine=16777216:=rfl
 have lenE:∀e,bJ bg (ab (ae 0) af) (GW x P.length e)=.ok ⟨.leaf,.int (x.length:Int)⟩ (GW x P.length e):=fun e=>cO (ax (ay rfl) aj) (by
  show (qL [.str x]).or (nP [.str x])=_
  show (if x.length<=sizeLine then some (PyData.int x.length) else none)=_
  rw [if_pos (by omega)])
 have ch:∀e c,x.cps.toList[e]?=some c->c<128->aL ai (az (bQ true) (ao (ae 0) (ae 2)) (eK b5)) (GW x P.length e)=.ok (!stp c) (GW x P.length e):=fun e c hc h8=>
  dA (aI (FZ (ay rfl) (ay rfl) (by omega) (L2.atI_nat hc)) aS (EU h8))
 obtain ⟨e',h1,⟨h2,h3⟩,h4⟩:=Gf (G:=fun e:Nat=>GW x P.length e) (test:=fun e=>decide (e<P.length+w.length)) (step:=fun e=>e+1) (Inv:=fun e=>P.length<=e/\e<=P.length+w.length) (meas:=fun e=>P.length+w.length-e)
  (c:=gx (aL ai (az kT (ae 2) (bJ bg (ab (ae 0) af)))) (aL ai (az (bQ true) (ao (ae 0) (ae 2)) (eK b5)))) (g:=fm 2 (eK (.int 1)))
  (fun e hi=>by
   have hlt:aL ai (az kT (ae 2) (bJ bg (ab (ae 0) af))) (GW x P.length e)=.ok (decide ((e:Int)<(x.length:Int))) (GW x P.length e):=dA (aI (ay rfl) (lenE e) lt_int)
   by_cases hb:e<P.length+w.length
   ·have hc:x.cps.toList[e]?=some (w[e-P.length]'(by omega)):=by
     rw [h.e,getElem?_append_left (by rw [length_append];exact hb),getElem?_append_right hi.1,KM]
    have hg:=h.g _ (getElem_mem (l:=w) (n:=e-P.length) (by omega))
    have q:=zR hlt (ch e _ hc hg.1)
    rw [hg.2] at q;rw [q];congr 1
    simp;omega
   ·have he:e=P.length+w.length:=by omega
    have ht:decide (e<P.length+w.length)=false:=decide_eq_false hb
    rw [ht];rcases h.b with z | ⟨c,r,z,hs,h8⟩
    ·refine CM ?_
     rw [hlt];congr 1
     rw [z] at hl;simp at hl ⊢;omega
    ·have hc:x.cps.toList[e]?=some c:=by
      rw [h.e,z,getElem?_append_right (by rw [length_append];omega),length_append,he,Nat.sub_self];rfl
     have q:=zR hlt (ch e c hc h8)
     rw [hs] at q;rw [q];congr 1
     simp)
  (fun e hi ht=>by
   have hb:e<P.length+w.length:=of_decide_eq_true ht
   refine ⟨?_,⟨by omega,by omega⟩,by omega⟩
   unfold fm;rfl) 1000 P.length ⟨KW _,by omega⟩ (by omega)
 have he:e'=P.length+w.length:=by
  have:=of_decide_eq_false h4
  omega
 subst he;refine aD (av (dU (ay rfl) rfl (by simp [ah])) (av h1 (aH (Γ1:=GW x P.length (P.length+w.length)) ?_ rfl)))
 unfold jv;show (if x.length<=sizeLine then Out.ok (⟨.leaf,.str (Txt.slice x (some (P.length:Int)) (some ((P.length+w.length:Nat):Int)))⟩:PV) (GW x P.length (P.length+w.length)) else .no)=_
 rw [if_pos (by omega)]
 have e2:Txt.slice x (some (P.length:Int)) (some ((P.length+w.length:Nat):Int))=⟨w.toArray⟩:=by
  show StrLaws.sliceText x _ _=_
  rw [StrLaws.sliceText_plain ⟨by omega,by omega,by have z:x.cps.toList.length=x.length:=Array.length_toList;rw [z];omega⟩]
  congr 2
  rw [h.e,Int.toNat_natCast,append_assoc,List.drop_left,show (((P.length+w.length:Nat):Int)-(P.length:Int)).toNat=w.length by omega,List.take_left]
 rw [e2]
theorem mI (x:Str):x.cps.toList.length=x.length:=Array.length_toList
theorem Aw {x y:Str} {P R:List Nat} (e:x.cps.toList=P++y.cps.toList++R):stB x y (P.length:Int)=true:=by
 have f:fromIndex x.length (P.length:Int)=P.length:=by
  unfold fromIndex;rw [if_neg (by omega)]
  omega
 have hl:=congrArg List.length e
 rw [length_append,length_append,mI,mI] at hl;unfold stB;rw [f,decide_eq_true (show P.length+y.length<=x.length by omega),Bool.true_and]
 show (x.cps.extract P.length (P.length+y.length)==y.cps)=true
 have:x.cps.extract P.length (P.length+y.length)=y.cps:=by
  apply Array.ext'
  rw [Array.toList_extract,e,List.extract_eq_drop_take,append_assoc,List.drop_left,Nat.add_sub_cancel_left,List.take_append_of_le_length (by rw [mI];exact KW _),take_of_length_le (by rw [mI];exact KW _)]
 rw [this];exact beq_self_eq_true _
theorem Hi {Γ:Ev} {i:Nat} {x:Str} (h:Γ[i]?=some (KZ (.str x))) (hl:x.length<=5000):bJ bg (ab (ae i) af) Γ=.ok ⟨.leaf,.int (x.length:Int)⟩ Γ:=cO (ax (ay h) aj) (by
  show (qL [.str x]).or (nP [.str x])=_
  show (if x.length<=sizeLine then some (PyData.int x.length) else none)=_
  rw [if_pos (by rw [show sizeLine=16777216 from rfl];omega)])
theorem jE {x y:Str} {P R:List Nat} (e:x.cps.toList=P++y.cps.toList++R) (hl:x.length<=5000):cP [.str x,.int (P.length:Int),.str y]=.ok ⟨.leaf,.int ((P.length+y.length:Nat):Int)⟩:=by
 have hl':=congrArg List.length e
 rw [length_append,length_append,mI,mI] at hl';have c:ff (aL bX (fL 0 2 1)) (ah 3 [.str x,.int (P.length:Int),.str y])=.ok false (ah 3 [.str x,.int (P.length:Int),.str y]):=by
  have q:fL 0 2 1 (ah 3 [.str x,.int (P.length:Int),.str y])=.ok ⟨.leaf,.bool true⟩ (ah 3 [.str x,.int (P.length:Int),.str y]):=by
   show Out.ok (⟨.leaf,.bool (stB x y (P.length:Int))⟩:PV) _=_
   rw [Aw e]
  exact lB (iI q)
 refine aD (av (bu c nofun (fun _=>rfl)) (aH (p:=⟨.leaf,.int ((P.length+y.length:Nat):Int)⟩) (aI (ay rfl) (Hi rfl (by omega)) ?_) rfl))
 rw [oG,Int.natCast_add]
theorem zj (x y:Str):(x++y).cps.toList=x.cps.toList++y.cps.toList:=Array.toList_append
theorem wx:("(":Str).cps.toList=[40]:=by decide +kernel
theorem GJ:(")":Str).cps.toList=[41]:=by decide +kernel
theorem GI:(", ":Str).cps.toList=[44,32]:=by decide +kernel
noncomputable def Dm (t:Str):Prop:=∀c∈t.cps.toList,c<128/\stp c=false
theorem Cj (a:Wr):Dm a.t:=by cases a<;>(unfold Dm;decide +kernel)
theorem Jw {c:Str} (h:c∈letters):Dm c:=by
 unfold letters at h;simp only [mem_cons,not_mem_nil,or_false] at h
 rcases h with rfl | rfl | rfl | rfl | rfl | rfl<;>(unfold Dm;decide +kernel)
theorem vD {x t:Str} {P R:List Nat} (e:x.cps.toList=P++t.cps.toList++R) (g:Dm t) (b:G6 R) (hl:x.length<=5000) (ht:t.length<=500):eH [.str x,.int (P.length:Int)]=.ok ⟨.leaf,.str t⟩:=by
 rw [nW (w:=t.cps.toList) ⟨e,g,b,hl⟩ (by rw [mI];exact ht)]
theorem ES (a:Wr):bQ false (.str a.t) bI=some (.bool false):=by cases a<;>kernel_rfl
theorem ET {c:Str} (h:c∈letters):bQ false (.str c) bI=some (.bool true):=by
 unfold letters at h;simp only [mem_cons,not_mem_nil,or_false] at h
 rcases h with rfl | rfl | rfl | rfl | rfl | rfl<;>kernel_rfl
noncomputable abbrev GS (x:Str) (k lv:Nat) (wd pl told kk fd:Option PV):Ev:=[KZ (.str x),KZ (.int (k:Int)),KZ (.int (lv:Int)),wd,pl,told,kk,fd]
noncomputable abbrev lS (t:Str):Option PV:=some ⟨.leaf,.str t⟩
noncomputable abbrev lI (n:Nat):Option PV:=some ⟨.leaf,.int (n:Int)⟩
noncomputable abbrev lT (xs:List D):Option PV:=some ⟨.leaf,.tuple xs⟩
noncomputable def D4 (n:Nat):FS:=(aq (aB false 7 (ag 3 (bx n) (ab (ae 0) (ab (ag 3 cP (ab (ae 0) (ab (ae 4) (ab (kn (aL bX (ae 6)) (eK (.str ", ")) (eK (.str "("))) af)))) (ab (az bo (ae 2) (eK (.int 1))) af)))))
  (aq (aB false 5 (jy (ae 5) (bq (ab (ao (ae 7) (eK (.int 0))) af))))
  (aB false 4 (ao (ae 7) (eK (.int 1))))))
theorem As (k:Nat) (hk:k<2) {x:Str} {i lv:Nat} {wd pl told fd:Option PV}:kn (aL bX (ae 6)) (eK (.str ", ")) (eK (.str "(")) (GS x i lv wd pl told (lI k) fd)=.ok ⟨.leaf,.str (if k=0 then "(" else ", ")⟩ (GS x i lv wd pl told (lI k) fd):=by
 rcases k with _ | _ | k
 ·rfl
 ·rfl
 ·omega
theorem tZ {n:Nat} {x y:Str} {i lv k:Nat} (hk:k<2) (hy:y=(if k=0 then ("(":Str) else (", ":Str))) {Pp R:List Nat} {a:Sn} {sh:Sh} {xs:List D} {wd fd:Option PV} (e:x.cps.toList=Pp++y.cps.toList++(cv a).cps.toList++R) (hl:x.length<=5000) (hv:sh.isView=false)
  (ih:bx n [.str x,.int ((Pp.length+y.length:Nat):Int),.int ((lv+1:Nat):Int)]=.ok ⟨sh,.tuple [a.enc,.int ((Pp.length+y.length+(cv a).length:Nat):Int)]⟩) (hx:xs.isEmpty=false) (hx2:xs.length<=10) :
  ∃fd',D4 n (GS x i lv wd (lI Pp.length) (lT xs) (lI k) fd)=.nx (GS x i lv wd (lI (Pp.length+y.length+(cv a).length)) (lT (xs++[a.enc])) (lI k) fd'):=by
 have hb:=jE (x:=x) (y:=y) (P:=Pp) (R:=(cv a).cps.toList++R) (by rw [e];simp only [append_assoc]) hl
 have c1:ag 3 cP (ab (ae 0) (ab (ae 4) (ab (kn (aL bX (ae 6)) (eK (.str ", ")) (eK (.str "("))) af))) (GS x i lv wd (lI Pp.length) (lT xs) (lI k) fd)=.ok ⟨.leaf,.int ((Pp.length+y.length:Nat):Int)⟩ (GS x i lv wd (lI Pp.length) (lT xs) (lI k) fd):=
  bY (ax (ay rfl) (ax (ay rfl) (ax (As k hk) aj))) (by show cP [.str x,.int (Pp.length:Int),.str (if k=0 then "(" else ", ")]=_;rw [<-hy];exact hb) rfl rfl
 have c2:ag 3 (bx n) (ab (ae 0) (ab (ag 3 cP (ab (ae 0) (ab (ae 4) (ab (kn (aL bX (ae 6)) (eK (.str ", ")) (eK (.str "("))) af)))) (ab (az bo (ae 2) (eK (.int 1))) af))) (GS x i lv wd (lI Pp.length) (lT xs) (lI k) fd)=.ok ⟨sh,.tuple [a.enc,.int ((Pp.length+y.length+(cv a).length:Nat):Int)]⟩ (GS x i lv wd (lI Pp.length) (lT xs) (lI k) fd):=
  bY (ax (ay rfl) (ax c1 (ax (aI (ay rfl) aS oG) aj))) (by show bx n [.str x,.int ((Pp.length+y.length:Nat):Int),.int ((lv:Int)+1)]=_;rw [<-ih];rfl) rfl rfl
 refine ⟨some ⟨.leaf,.tuple [a.enc,.int ((Pp.length+y.length+(cv a).length:Nat):Int)]⟩,?_⟩
 refine av (dU c2 (tM hv) (by simp)) (av (dU (tY (s:=.leaf) (s':=.tup [.leaf]) (xs:=xs) (ys:=[a.enc]) (ay rfl) (bD (ax (jU (j:=0) (s2:=.leaf) (ds:=[a.enc,.int ((Pp.length+y.length+(cv a).length:Nat):Int)]) (ay rfl) aS rfl rfl rfl) aj) rfl rfl) rfl rfl hx (by simp;omega)) rfl (by simp)) ?_)
 exact dU (jU (j:=1) (s2:=.leaf) (ds:=[a.enc,.int ((Pp.length+y.length+(cv a).length:Nat):Int)]) (ay rfl) aS rfl rfl rfl) rfl (by simp)
theorem Ah {i:Nat} {body:FS} {d:D} {r:List D} {Γ Γ1:Ev} {o:dS} (hi:i<Γ.length) (h:body (Γ.set i (KZ d))=.nx Γ1) (h2:cQ i body r Γ1=o):cQ i body (d::r) Γ=o:=by
 rw [cQ,if_pos hi,h];exact h2
theorem Gm:∀(n:Nat) (s:Sn),s.ok->s.dep<=n->s.size<=200->∀(x:Str) (P R:List Nat) (lv:Nat),x.cps.toList=P++(cv s).cps.toList++R->G6 R->x.length<=5000->lv+s.dep<=25 ->
  ∃sh:Sh,sh.isView=false/\bx n [.str x,.int (P.length:Int),.int (lv:Int)]=.ok ⟨sh,.tuple [s.enc,.int ((P.length+(cv s).length:Nat):Int)]⟩
 | 0,s,_,h,_,_,_,_,_,_,_,_,_=>by
  have:=s.dep_args
  omega
 | n+1,s,hs,h,hz,x,P,R,lv,e,hR,hl,hv=>by
  have no:∀{c:FB} {a:FS} {rest:FS} {Γ:Ev} {o:dS},c Γ=.ok false Γ->rest Γ=o->aq (bW c a aJ) rest Γ=o:=fun h1 h2=>av (bu h1 nofun (fun _=>rfl)) h2
  have yes:∀{c:FB} {a:FS} {rest:FS} {Γ:Ev} {p:PV},c Γ=.ok true Γ->a Γ=.rt p->aq (bW c a aJ) rest Γ=.rt p:=fun h1 h2=>oF (bu h1 (fun _=>h2) nofun)
  have go:∀{t:Str} {T:List Nat} {o:dS} {rest:FS},x.cps.toList=P++t.cps.toList++T->Dm t->G6 T->t.length<=500->rest (GS x P.length lv (lS t) (lI (P.length+t.length)) none none none)=o ->
    (aq (aB false 3 (ag 2 eH (ab (ae 0) (ab (ae 1) af)))) (aq (aB false 4 (az bo (ae 1) (bJ bg (ab (ae 3) af)))) rest)) (ah 8 [.str x,.int (P.length:Int),.int (lv:Int)])=o:=fun {t T o rest} e1 g1 b1 l1 hr=>
   av (dU (bY (ax (ay rfl) (ax (ay rfl) aj)) (vD e1 g1 b1 hl l1) rfl rfl) rfl (by simp [ah])) (av (dU (p:=⟨.leaf,.int ((P.length+t.length:Nat):Int)⟩) (aI (ay rfl) (Hi rfl (by omega)) (by rw [oG,Int.natCast_add])) rfl (by simp [ah])) hr)
  have hw:∀(u:Wr),aL ai (az (bQ false) (ae 3) (eK bI)) (GS x P.length lv (lS u.t) (lI (P.length+u.t.length)) none none none)=.ok false (GS x P.length lv (lS u.t) (lI (P.length+u.t.length)) none none none):=fun u=>dA (aI (ay rfl) aS (ES u))
  have hy:∀(u:Wr),aL ai (az bj (ae 3) (eK (.str "yes"))) (GS x P.length lv (lS u.t) (lI (P.length+u.t.length)) none none none)=.ok (decide (u=.yes)) (GS x P.length lv (lS u.t) (lI (P.length+u.t.length)) none none none):=fun u=>dA (aI (ay rfl) aS (qX u))
  have hp:∀(u:Wr) (m:Int),u.ar=some m->lv≠24->fD (aL ai (km true cE (ae 3))) (aL ai (az bj (ae 2) (eK bG))) (GS x P.length lv (lS u.t) (lI (P.length+u.t.length)) none none none)=.ok false (GS x P.length lv (lS u.t) (lI (P.length+u.t.length)) none none none):=fun u m hu hne=>by
   have q1:aL ai (km true cE (ae 3)) (GS x P.length lv (lS u.t) (lI (P.length+u.t.length)) none none none)=.ok false (GS x P.length lv (lS u.t) (lI (P.length+u.t.length)) none none none):=dA (s:=.leaf) (by
    rw [Ed];show Out.ok (⟨.leaf,.bool (if true=true then !(cC u.t cE).isSome else _)⟩:PV) _=_
    rw [qE,hu];rfl)
   have q2:aL ai (az bj (ae 2) (eK bG)) (GS x P.length lv (lS u.t) (lI (P.length+u.t.length)) none none none)=.ok ((lv:Int)==24) (GS x P.length lv (lS u.t) (lI (P.length+u.t.length)) none none none):=dA (aI (ay rfl) aS eq_int)
   rw [show ((lv:Int)==24)=false by rw [beq_eq_false_iff_ne];omega] at q2
   exact eZ q1 q2
  have hr:∀(u:Wr) (m:Nat) {told:Option PV},u.ar=some (m:Int)->m<=2->i4 (ab (jx cE (ae 3)) af) (GS x P.length lv (lS u.t) (lI (P.length+u.t.length)) told none none)=.ok ⟨cw 0 m,true⟩ (GS x P.length lv (lS u.t) (lI (P.length+u.t.length)) told none none):=fun u m {told} hu hm=>by
   have q:jx cE (ae 3) (GS x P.length lv (lS u.t) (lI (P.length+u.t.length)) told none none)=.ok ⟨.leaf,.int (m:Int)⟩ (GS x P.length lv (lS u.t) (lI (P.length+u.t.length)) told none none):=by
    show (match cC u.t cE with | some i=>Out.ok (⟨.leaf,.int i⟩:PV) _ | none=>.no)=_
    rw [qE,hu]
   exact lE (k:=(m:Int)) (ax q aj) rfl (by omega) (by omega)
  have bh:∀{Pp T:List Nat} {wd told kk fd:Option PV},x.cps.toList=Pp++(")":Str).cps.toList++T->ag 3 cP (ab (ae 0) (ab (ae 4) (ab (eK (.str ")")) af))) (GS x P.length lv wd (lI Pp.length) told kk fd)=.ok ⟨.leaf,.int ((Pp.length+(")":Str).length:Nat):Int)⟩ (GS x P.length lv wd (lI Pp.length) told kk fd):=fun {Pp T wd told kk fd} e1=>
   bY (ax (ay rfl) (ax (ay rfl) (ax aS aj))) (jE e1 hl) rfl rfl
  show ∃sh:Sh,sh.isView=false/\aC 8 (gg (bx n)) _=_
  cases s with
  | yes=>exact ⟨_,rfl,aD (go (t:=Wr.yes.t) e (Cj _) hR (by have:=zc .yes;omega) (no (hw .yes) (yes (hy .yes) (aH (bD (ax (bD (ax (ay rfl) aj) rfl rfl) (ax (ay rfl) aj)) rfl rfl) rfl))))⟩
  | mk c=>
   have hc:aL ai (az (bQ false) (ae 3) (eK bI)) (GS x P.length lv (lS c) (lI (P.length+c.length)) none none none)=.ok true (GS x P.length lv (lS c) (lI (P.length+c.length)) none none none):=dA (aI (ay rfl) aS (ET hs))
   exact ⟨_,rfl,aD (go (t:=c) e (Jw hs) hR (by have:=qF hs;omega) (yes hc (aH (bD (ax (bD (ax aS (ax (ay rfl) aj)) rfl rfl) (ax (ay rfl) aj)) rfl rfl) rfl)))⟩
  | un k a=>
   have hz':a.size+1<=200:=hz
   have hd':a.dep+1<=n+1:=h
   have hv':lv+(a.dep+1)<=25:=hv
   have hd1:=a.dep_pos
   have e0:x.cps.toList=P++k.w.t.cps.toList++([40]++(cv a).cps.toList++[41]++R):=by
    rw [e];show P++(k.w.t ++ "("++cv a ++ ")").cps.toList++R=_
    rw [zj,zj,zj,wx,GJ];simp only [append_assoc]
   have lp:(P++k.w.t.cps.toList).length=P.length+k.w.t.length:=by rw [length_append,mI]
   obtain ⟨sh,v1,q1⟩:=Gm n a hs (by omega) (by omega) x (P++k.w.t.cps.toList++("(":Str).cps.toList) ([41]++R) (lv+1) (by rw [e0,wx];simp only [append_assoc]) (.inr ⟨41,R,rfl,rfl,by omega⟩) hl (by omega)
   rw [length_append,mI] at q1;obtain ⟨fd,t1⟩:=tZ (n:=n) (i:=P.length) (lv:=lv) (k:=0) (wd:=lS k.w.t) (fd:=none) (by omega) (y := "(") rfl (Pp:=P++k.w.t.cps.toList) (R:=[41]++R) (a:=a) (xs:=[.str k.w.t]) (by rw [e0,wx];simp only [append_assoc]) hl v1 q1 rfl (by simp)
   have e3:x.cps.toList=(P++k.w.t.cps.toList++("(":Str).cps.toList++(cv a).cps.toList)++(")":Str).cps.toList++R:=by rw [e0,wx,GJ];simp only [append_assoc]
   have b3:=bh (wd:=lS k.w.t) (told:=lT ([.str k.w.t]++[a.enc])) (kk:=lI 0) (fd:=fd) e3
   have l3':(P++k.w.t.cps.toList++("(":Str).cps.toList++(cv a).cps.toList).length=(P++k.w.t.cps.toList).length+("(":Str).length+(cv a).length:=by rw [length_append,length_append,mI,mI]
   rw [l3'] at b3;rw [lp] at t1 b3
   have fin:((P.length+k.w.t.length+("(":Str).length+(cv a).length+(")":Str).length:Nat):Int)=((P.length+(cv (.un k a)).length:Nat):Int):=by
    show _=((P.length+(k.w.t ++ "("++cv a ++ ")").length:Nat):Int)
    rw [iY,iY,iY];omega
   rw [fin] at b3;exact ⟨_,rfl,aD (go (t:=k.w.t) e0 (Cj _) (.inr ⟨40,_,rfl,rfl,by omega⟩) (by have:=zc k.w;omega) (no (hw k.w) (no ((hy k.w).trans (by cases k<;>rfl)) (no (hp k.w 1 (by cases k<;>rfl) (by omega))
    (av (dU (bD (ax (ay rfl) aj) rfl rfl) rfl (by simp)) (av (fV (hr k.w 1 (by cases k<;>rfl) (by omega)) (Ah (by simp) t1 rfl)) (aH (bD (ax (ay rfl) (ax b3 aj)) rfl rfl) rfl)))))))⟩
  | bi k a b=>
   have hz':a.size+b.size+1<=200:=hz
   have hd':max a.dep b.dep+1<=n+1:=h
   have hv':lv+(max a.dep b.dep+1)<=25:=hv
   have hd1:=a.dep_pos
   have e0:x.cps.toList=P++k.w.t.cps.toList++([40]++(cv a).cps.toList++[44,32]++(cv b).cps.toList++[41]++R):=by
    rw [e];show P++(k.w.t ++ "("++(cv a ++ ", "++cv b) ++ ")").cps.toList++R=_
    rw [zj,zj,zj,zj,zj,wx,GJ,GI];simp only [append_assoc]
   have lp:(P++k.w.t.cps.toList).length=P.length+k.w.t.length:=by rw [length_append,mI]
   obtain ⟨sh,v1,q1⟩:=Gm n a hs.1 (by omega) (by omega) x (P++k.w.t.cps.toList++("(":Str).cps.toList) ([44,32]++(cv b).cps.toList++[41]++R) (lv+1) (by rw [e0,wx];simp only [append_assoc]) (.inr ⟨44,_,rfl,rfl,by omega⟩) hl (by omega)
   obtain ⟨sh2,v2,q2⟩:=Gm n b hs.2 (by omega) (by omega) x (P++k.w.t.cps.toList++("(":Str).cps.toList++(cv a).cps.toList++(", ":Str).cps.toList) ([41]++R) (lv+1) (by rw [e0,wx,GI];simp only [append_assoc]) (.inr ⟨41,R,rfl,rfl,by omega⟩) hl (by omega)
   rw [length_append,mI] at q1 q2
   obtain ⟨fd,t1⟩:=tZ (n:=n) (i:=P.length) (lv:=lv) (k:=0) (wd:=lS k.w.t) (fd:=none) (by omega) (y := "(") rfl (Pp:=P++k.w.t.cps.toList) (R:=[44,32]++(cv b).cps.toList++[41]++R) (a:=a) (xs:=[.str k.w.t]) (by rw [e0,wx];simp only [append_assoc]) hl v1 q1 rfl (by simp)
   obtain ⟨fd2,t2⟩:=tZ (n:=n) (i:=P.length) (lv:=lv) (k:=1) (wd:=lS k.w.t) (fd:=fd) (by omega) (y := ", ") rfl (Pp:=P++k.w.t.cps.toList++("(":Str).cps.toList++(cv a).cps.toList) (R:=[41]++R) (a:=b) (xs:=[.str k.w.t]++[a.enc]) (by rw [e0,wx,GI];simp only [append_assoc]) hl v2 q2 rfl (by simp)
   have e3:x.cps.toList=(P++k.w.t.cps.toList++("(":Str).cps.toList++(cv a).cps.toList++(", ":Str).cps.toList++(cv b).cps.toList)++(")":Str).cps.toList++R:=by rw [e0,wx,GJ,GI];simp only [append_assoc]
   have b3:=bh (wd:=lS k.w.t) (told:=lT ([.str k.w.t]++[a.enc]++[b.enc])) (kk:=lI 1) (fd:=fd2) e3
   have l2':(P++k.w.t.cps.toList++("(":Str).cps.toList++(cv a).cps.toList).length=(P++k.w.t.cps.toList).length+("(":Str).length+(cv a).length:=by rw [length_append,length_append,mI,mI]
   have l3':(P++k.w.t.cps.toList++("(":Str).cps.toList++(cv a).cps.toList++(", ":Str).cps.toList++(cv b).cps.toList).length=(P++k.w.t.cps.toList).length+("(":Str).length+(cv a).length+(", ":Str).length+(cv b).length:=by rw [length_append,length_append,l2',mI,mI]
   rw [l3'] at b3;rw [l2'] at t2;rw [lp] at t1 t2 b3
   have fin:((P.length+k.w.t.length+("(":Str).length+(cv a).length+(", ":Str).length+(cv b).length+(")":Str).length:Nat):Int)=((P.length+(cv (.bi k a b)).length:Nat):Int):=by
    show _=((P.length+(k.w.t ++ "("++(cv a ++ ", "++cv b) ++ ")").length:Nat):Int)
    rw [iY,iY,iY,iY,iY];omega
   rw [fin] at b3;exact ⟨_,rfl,aD (go (t:=k.w.t) e0 (Cj _) (.inr ⟨40,_,rfl,rfl,by omega⟩) (by have:=zc k.w;omega) (no (hw k.w) (no ((hy k.w).trans (by cases k<;>rfl)) (no (hp k.w 2 (by cases k<;>rfl) (by omega))
    (av (dU (bD (ax (ay rfl) aj) rfl rfl) rfl (by simp)) (av (fV (hr k.w 2 (by cases k<;>rfl) (by omega)) (Ah (by simp) t1 (Ah (by simp) t2 rfl))) (aH (bD (ax (ay rfl) (ax b3 aj)) rfl rfl) rfl)))))))⟩
theorem sM {s:Sn} (h:s.ok) (h1:s.size<=200) (h2:s.dep<=20):gO [s.enc]=.ok ⟨.leaf,.str (cv s)⟩:=by
 have c:=Ak h h1 (by omega)
 exact aD (av (zg (bY (ax (ay rfl) aj) c rfl rfl)) (aH (bY (ax (ay rfl) aj) (iG 20 s h h2 h1) rfl rfl) rfl))
theorem vE {s:Sn} (h:s.ok) (h1:s.size<=200) (h2:s.dep<=20):jn [.str (cv s)]=.ok ⟨.leaf,s.enc⟩:=by
 have hl:=Ae h
 obtain ⟨sh,v,q⟩:=Gm 30 s h (by omega) h1 (cv s) [] [] 1 (by simp) (.inl rfl) (by omega) (by omega)
 rw [show (([]:List Nat).length+(cv s).length:Nat)=(cv s).length by simp] at q
 let Γ:Ev:=[KZ (.str (cv s)),KZ (.tuple [s.enc,.int ((cv s).length:Int)])]
 have i0:ao (ae 1) (eK (.int 0)) Γ=.ok ⟨.leaf,s.enc⟩ Γ:=jU (j:=0) (s2:=.leaf) (ds:=[s.enc,.int ((cv s).length:Int)]) (ay rfl) aS rfl rfl rfl
 have i1:ao (ae 1) (eK (.int 1)) Γ=.ok ⟨.leaf,.int ((cv s).length:Int)⟩ Γ:=jU (j:=1) (s2:=.leaf) (ds:=[s.enc,.int ((cv s).length:Int)]) (ay rfl) aS rfl rfl rfl
 have c1:aL ai (az jT (ao (ae 1) (eK (.int 1))) (bJ bg (ab (ae 0) af))) Γ=.ok false Γ:=dA (aI i1 (Hi rfl (by omega)) (by rw [ne_int];simp))
 have c2:ff (aL bX (ag 1 cB (ab (ao (ae 1) (eK (.int 0))) af))) Γ=.ok false Γ:=lB (b:=true) (iI (bY (ax i0 aj) (fw h h1 (by omega)) rfl rfl))
 refine aD (av (dU (bY (ax (ay rfl) (ax aS (ax aS aj))) q rfl rfl) (tM v) (by simp [ah])) (av (bu (eZ c1 c2) nofun (fun _=>rfl)) (aH i0 rfl)))
theorem nX {s:Sn} (h:s.ok) (hs:s.size<=200) (hd:s.dep<=20):∃sh:Sh,sh.isView=false/\cM [s.enc]=.ok ⟨sh,(aO s).enc⟩:=by
 have c:=Ak h hs (by omega)
 obtain ⟨sh,h1,h2⟩:=Iz 20 s h hd (by omega)
 exact ⟨sh,h1,aD (av (zg (bY (ax (ay rfl) aj) c rfl rfl)) (aH (bY (ax (ay rfl) aj) h2 rfl rfl) h1))⟩
noncomputable def iC:Sn->List Str
 | .yes=>[] | .mk c=>[c] | .un _ a=>iC a | .bi _ a b=>iC a++iC b
theorem mrk_args {a:Sn} {c:Str}:c∈iC a↔Sn.mk c=a\/∃t∈a.args,c∈iC t:=by
 cases a<;>simp [iC,Sn.args]
structure LM (s:Sn) (b:LS):Prop extends LI s b where
 mkk:∀c,c∈iC s↔Sn.mk c∈b.ls.flatten\/∃a∈b.l,c∈iC a
 okl:∀l∈b.ls,∀a∈l,a.ok
theorem u0 {ls:List (List Sn)} {l:List Sn} {c:Str}:(Sn.mk c∈ls.flatten\/∃a∈l,c∈iC a)↔(Sn.mk c∈(ls++[l]).flatten\/∃a∈l.flatMap Sn.args,c∈iC a):=by
 rw [List.flatten_append,List.mem_append];constructor
 ·rintro (h | ⟨a,ha,hc⟩)
  ·exact .inl (.inl h)
  ·rcases mrk_args.mp hc with z | ⟨t,ht,z⟩
   ·exact .inl (.inr (by simpa [z] using ha))
   ·exact .inr ⟨t,List.mem_flatMap.mpr ⟨a,ha,ht⟩,z⟩
 ·rintro ((h | h) | ⟨t,ht,hc⟩)
  ·exact .inl h
  ·exact .inr ⟨.mk c,by simpa using h,by simp [iC]⟩
  ·obtain ⟨a,ha,z⟩:=List.mem_flatMap.mp ht
   exact .inr ⟨a,ha,mrk_args.mpr (.inr ⟨t,z,hc⟩)⟩
theorem nY {s:Sn} (h:s.ok) (hs:s.size<=200) (hd:s.dep<=24):∃L:List (List Sn),dj [s.enc]=.ok ⟨.lst .leaf,.list (L.map dy)⟩/\L.length=s.dep/\(L.map List.length).sum=s.size/\(∀c,c∈iC s↔Sn.mk c∈L.flatten)/\∀l∈L,∀a∈l,a.ok:=by
 obtain ⟨b',e,I,ht⟩:=Gf (c:=aL bX (ae 2)) (G:=zU s) (test:=fun b=>!b.l.isEmpty) (step:=fun b=>⟨b.ls++[b.l],b.l.flatMap Sn.args,b.many+b.l.length⟩) (Inv:=LM s) (meas:=fun b=>hE b.l)
  (g:=(aq (fm 3 (bJ bg (ab (ae 2) af)))
  (aq (bW (fD (aL ai (az pI (ae 3) (eK cn))) (fD (aL ai (az bj (bJ bg (ab (ae 1) af)) (eK bG))) (ff (aL bX (bJ (cW false) (ab (aA .leaf 4 (bf (ae 2)) aK (ag 1 bA (ab (ae 4) af))) af)))))) (aF (eK .none)) aJ)
  (aq (aG 1 (ae 2))
  (aB false 2 (ag 1 ck (ab (ae 2) af))))))) (fun b I=>by simp [zU,dy]) (fun b I ht=>by
   have hne:b.l≠[]:=by intro z;rw [z] at ht;simp at ht
   have t0:=I.mkk
   have t1:=I.tot
   have t2:=I.mny
   have t3:=I.dep
   have t4:=qG b.l
   have t5:=nV hne
   have t6:=mK b.l
   have t7:=HU b.l hne
   have t8:0<b.l.length:=List.length_pos_iff.mpr hne
   refine ⟨?_,⟨⟨?_,?_,?_,?_⟩,?_,?_⟩,?_⟩
   ·have c1:aA .leaf 4 (bf (ae 2)) aK (ag 1 bA (ab (ae 4) af)) [KZ s.enc,some ⟨.lst .leaf,.list (b.ls.map dy)⟩,KZ (dy b.l),KZ (.int ((b.many:Int)+b.l.length)),none]=.ok ⟨.lst .leaf,.list (b.l.map fun _=>.bool true)⟩ [KZ s.enc,some ⟨.lst .leaf,.list (b.ls.map dy)⟩,KZ (dy b.l),KZ (.int ((b.many:Int)+b.l.length)),none]:=by
     refine mw Sn.enc b.l (fun _=>⟨.leaf,.bool true⟩) (st:=true) (by simp [dy]) (by simp) rfl (by omega) fun a ha=>?_
     simp [jD (I.ok a ha)]
    have c2:cW false [.list (b.l.map fun _=>.bool true)]=some (.bool true):=by
     rw [zd (f:=fun _=>true)]
     simp
    have n1:¬((200:Int)<(b.many:Int)+b.l.length):=by omega
    have n2:¬((b.ls.length:Int)=24):=by omega
    have lb:b.ls.length<=24:=by omega
    have pa:=gc (l:=b.l) (by omega)
    have ap:aG 1 (ae 2) [KZ s.enc,some ⟨.lst .leaf,.list (b.ls.map dy)⟩,KZ (dy b.l),KZ (.int ((b.many:Int)+b.l.length)),none]=.nx [KZ s.enc,some ⟨.lst .leaf,.list (b.ls.map dy++[dy b.l])⟩,KZ (dy b.l),KZ (.int ((b.many:Int)+b.l.length)),none]:=
     FG rfl (ay rfl) rfl (by simp;omega)
    simp [zU,dy,cn,bG] at c1 ap pa ⊢
    simp [c1,c2,n1,n2,eq_int,ap,pa]
   ·simp only [map_append,map_cons,map_nil,sum_append,sum_cons,sum_nil]
    omega
   ·simp only [map_append,map_cons,map_nil,sum_append,sum_cons,sum_nil]
    omega
   ·simp only [length_append,length_cons,length_nil]
    omega
   ·intro a ha
    obtain ⟨c,hc,ha⟩:=List.mem_flatMap.mp ha;exact Sn.args_ok (I.ok c hc) a ha
   ·intro c
    rw [t0 c];exact u0
   ·intro l hl a ha
    rcases KJ hl with z | z
    ·exact I.okl l z a ha
    ·rw [List.mem_singleton.mp z] at ha
     exact I.ok a ha
   ·show hE (b.l.flatMap Sn.args)<hE b.l
    omega) 1000 ⟨[],[s],0⟩ ⟨⟨by simp [hE],by simp,by simp [eV],by simpa using h⟩,by simp,by simp⟩ (by simp [hE];omega)
 have hl:b'.l=[]:=by simpa using ht
 refine ⟨b'.ls,?_,?_,?_,?_,I.okl⟩
 ·refine aD ?_
  have e0:zU s ⟨[],[s],0⟩=[KZ s.enc,some ⟨.lst .leaf,.list []⟩,KZ (.list [s.enc]),KZ (.int 0),none]:=rfl
  rw [e0] at e;unfold fO;simp [ah]
  unfold fF;rw [e];simp
 ·have:=I.dep;rw [hl] at this;simpa [eV] using this
 ·have:=I.tot;rw [hl] at this;simpa [hE] using this
 ·intro c
  have:=I.mkk c
  rw [hl] at this;simpa using this
theorem Ba {Γ:Ev} {i:Nat} {f:F1} {p:PV} {ds es:List D} (h:Γ[i]?=some (some ⟨.lst .leaf,.list ds⟩)) (hf:f Γ=.ok p Γ) (hp:p.d=.list es) (ho:p.s.isView=false) (hn:ds.length+es.length<=10000):gK i f Γ=.nx (Γ.set i (some ⟨.lst .leaf,.list (ds++es)⟩)):=by
 have hb:(10000:Nat)<=sizeLine:=by decide
 obtain ⟨s,d⟩:=p;simp only at hp ho
 subst hp;unfold gK cI;rw [h];simp only [if_true,rT,hf]
 unfold yA aE;rw [h];have:ds.length+es.length<=sizeLine:=by omega
 simp only [ho,Bool.not_false,Bool.true_or,decide_eq_true this,Bool.and_self,if_true]
noncomputable def Jr:Sn->Str
 | .mk c=>c
 | _=>⟨#[]⟩
noncomputable def iR (l:List Sn):List Str:=(l.filter fun a=>decide (a.w=.mark)).map Jr
theorem mem_mkl {l:List Sn} {c:Str}:c∈iR l↔Sn.mk c∈l:=by
 unfold iR;rw [mem_map];constructor
 ·rintro ⟨a,ha,rfl⟩
  obtain ⟨h1,h2⟩:=List.mem_filter.mp ha
  cases a with
  | mk c=>exact h1
  | yes=>cases h2
  | un k a=>cases k<;>cases h2
  | bi k a b=>cases k<;>cases h2
 ·intro h
  exact ⟨_,List.mem_filter.mpr ⟨h,rfl⟩,rfl⟩
theorem qD (l:List Sn):(iR l).length<=l.length:=by
 unfold iR;rw [length_map];exact length_filter_le _ _
theorem kI:∀(ts:List Str),gF (ts.map .str)=some ts
 | []=>rfl
 | t::r=>by
  show gF (.str t::r.map .str)=_
  unfold gF;rw [kI r];rfl
theorem xq:rN letters=true:=by decide +kernel
noncomputable abbrev GM (s:Sn) (b:List Str) (x:Option PV):Ev:=[KZ s.enc,some ⟨.lst .leaf,.list (b.map .str)⟩,x,none]
theorem kY {s:Sn} (h:s.ok) (hs:s.size<=200) (hd:s.dep<=24):bT [s.enc]=.ok ⟨.lst .leaf,.list ((letters.filter fun c=>(iC s).contains c).map .str)⟩:=by
 obtain ⟨L,e,_,hz,hm,hk⟩:=nY h hs hd;have e2:bH [s.enc]=.ok ⟨.leaf,.list (L.map dy)⟩:=by
  refine aD ?_
  simp [cX,ah,e,cp]
 obtain ⟨y,e3,_⟩:=Dz dy (fun (b:List Str) l=>b++iR l) (Inv:=fun b r=>b.length+(r.map List.length).sum<=300) (i:=2) (body:=(gK 1 (aA .leaf 3 (bf (ae 2)) (aL ai (az bj (ao (ae 3) (eK (.int 0))) (eK (.str "mark")))) (ao (ae 3) (eK (.int 1)))))) (G:=fun b x=>GM s b x)
  (fun _ _=>by simp) (fun _ _ _=>by simp) (fun b l r hI=>by
   have h2:=qD l
   simp only [map_cons,sum_cons] at hI
   refine ⟨?_,by simp only [length_append];omega⟩
   have c:aA .leaf 3 (bf (ae 2)) (aL ai (az bj (ao (ae 3) (eK (.int 0))) (eK (.str "mark")))) (ao (ae 3) (eK (.int 1))) (GM s b (KZ (dy l)))=.ok ⟨.lst .leaf,.list ((iR l).map .str)⟩ (GM s b (KZ (dy l))):=by
    have q:=zh Sn.enc l (fun a=>decide (a.w=.mark)) (fun a=>⟨.leaf,.str (Jr a)⟩) (s:=.leaf) (i:=3) (fi:=bf (ae 2)) (fc:=aL ai (az bj (ao (ae 3) (eK (.int 0))) (eK (.str "mark")))) (fe:=ao (ae 3) (eK (.int 1))) (st:=true) (Γ:=GM s b (KZ (dy l))) (eC (ds:=l.map Sn.enc) (ay rfl) rfl) (by simp) rfl (by omega) (fun a _=>by
     have i0:ao (ae 3) (eK (.int 0)) [KZ s.enc,some ⟨.lst .leaf,.list (b.map .str)⟩,KZ (dy l),KZ a.enc]=.ok ⟨.leaf,.str a.w.t⟩ [KZ s.enc,some ⟨.lst .leaf,.list (b.map .str)⟩,KZ (dy l),KZ a.enc]:=by cases a<;>simp [Sn.enc,Sn.w]
     exact dA (aI i0 aS (pZ _))) (fun a _ ha=>by
     cases a with
     | mk c=>exact ⟨by simp [Sn.enc,Jr],rfl⟩
     | yes=>cases ha
     | un k a=>cases k<;>cases ha
     | bi k a b=>cases k<;>cases ha)
    rw [q];unfold iR;rw [map_map];rfl
   rw [Ba (ds:=b.map .str) (es:=(iR l).map .str) rfl c rfl rfl (by simp only [length_map];omega)]
   simp) L [] none (by simp;omega)
 have ef:∀(l:List (List Sn)) (b:List Str),l.foldl (fun (b:List Str) a=>b++iR a) b=b++l.flatMap iR:=by
  intro l;induction l with
  | nil=>intro b;simp
  | cons a r ih=>intro b;rw [List.foldl_cons,ih,flatMap_cons,append_assoc]
 rw [ef,nil_append] at e3;have hmem:∀c,c∈L.flatMap iR↔c∈iC s:=fun c=>by
  rw [hm c,List.mem_flatMap,List.mem_flatten];exact ⟨fun ⟨l,a,b⟩=>⟨l,a,mem_mkl.mp b⟩,fun ⟨l,a,b⟩=>⟨l,a,mem_mkl.mpr b⟩⟩
 have hlen:(L.flatMap iR).length<=300:=by
  have:∀l:List (List Sn),(l.flatMap iR).length<=(l.map List.length).sum:=by
   intro l;induction l with
   | nil=>simp
   | cons a r ih=>rw [flatMap_cons,length_append,map_cons,sum_cons];have:=qD a;omega
  have:=this L
  omega
 have okT:lO letters (L.flatMap iR)=true:=by
  unfold lO;rw [decide_eq_true (show (L.flatMap iR).length<4000 by omega),xq,Bool.and_true,Bool.and_eq_true,Bool.true_and]
  refine ⟨List.all_eq_true.mpr fun c hc=>?_,by decide⟩
  rw [hmem,hm c,List.mem_flatten] at hc;obtain ⟨l,h1,h2⟩:=hc;rw [contains_iff_mem];exact hk l h1 _ h2
 have e1:aB true 1 (cc .leaf af) (ah 4 [s.enc])=.nx (GM s [] none):=by simp [ah]
 have e4:fz 2 (bf (ag 1 bH (ab (ae 0) af))) (gK 1 (aA .leaf 3 (bf (ae 2)) (aL ai (az bj (ao (ae 3) (eK (.int 0))) (eK (.str "mark")))) (ao (ae 3) (eK (.int 1))))) (GM s [] none)=.nx (GM s (L.flatMap iR) y):=fV (eC (ds:=L.map dy) (bY (ax (ay rfl) aj) e2 rfl rfl) rfl) e3
 have e5:gr letters (ab (ae 1) af) (GM s (L.flatMap iR) y)=.ok ⟨.lst .leaf,.list ((iK letters (L.flatMap iR)).map .str)⟩ (GM s (L.flatMap iR) y):=by
  unfold gr;obtain ⟨sh,hv⟩:∃sh:Sh,ab (ae 1) af (GM s (L.flatMap iR) y)=.ok [⟨sh,.list ((L.flatMap iR).map .str)⟩] (GM s (L.flatMap iR) y):=⟨_,rfl⟩
  rw [hv];show (match gF ((L.flatMap iR).map .str) with | some ns=>if lO letters ns then Out.ok (⟨.lst .leaf,.list ((iK letters ns).map .str)⟩:PV) _ else .no | none=>.no)=_
  rw [kI];show (if lO letters (L.flatMap iR)=true then _ else _)=_
  rw [if_pos okT]
 have e6:iK letters (L.flatMap iR)=letters.filter fun c=>(iC s).contains c:=by
  unfold iK;refine List.filter_congr fun c _=>?_
  rw [Bool.eq_iff_iff,contains_iff_mem,contains_iff_mem];exact hmem c
 rw [<-e6];exact aD (av e1 (av e4 (aH e5 rfl)))
theorem qS {w:Wd} (ok:w.Ok) {s:Sn} {rk:List (Option Nat)} (h:(s.w=.su\/s.w=.au)\/(s.w=.sa\/s.w=.aa)) (hl:rk.length=w.n) (hr:jO w s (fq rk)):aQ [w.enc,s.enc,cZ (s.args.map (aV w)),fq rk]=.ok ⟨.leaf,.bool true⟩:=by
 obtain ⟨b,e,hb⟩:=vR ok h hl;rw [e,hb.mpr hr]
theorem yW {w:Wd} (ok:w.Ok) {s:Sn} {R:D} (h:jO w s R):aQ [w.enc,s.enc,cZ (s.args.map (aV w)),R]=.ok ⟨.leaf,.bool true⟩:=by
 cases s with
 | yes=>cases (show R=.none from h);exact y3 (by simp [Sn.w]) (by simp [Sn.w])
 | mk c=>cases (show R=.none from h);exact y3 (by simp [Sn.w]) (by simp [Sn.w])
 | un k a=>
  cases k with
  | not=>cases (show R=.none from h);exact y3 (by simp [Sn.w,U5.w]) (by simp [Sn.w,U5.w])
  | sn=>cases (show R=.none from h);exact y3 (by simp [Sn.w,U5.w]) (by simp [Sn.w,U5.w])
  | an=>cases (show R=.none from h);exact y3 (by simp [Sn.w,U5.w]) (by simp [Sn.w,U5.w])
  | sa=>obtain ⟨rk,rfl,hR⟩:=h;exact qS ok (.inr (.inl rfl)) hR.len ⟨rk,rfl,hR⟩
  | aa=>obtain ⟨rk,rfl,hR⟩:=h;exact qS ok (.inr (.inr rfl)) hR.len ⟨rk,rfl,hR⟩
 | bi k a b=>
  cases k with
  | and=>cases (show R=.none from h);exact y3 (by simp [Sn.w,B4.w]) (by simp [Sn.w,B4.w])
  | or=>cases (show R=.none from h);exact y3 (by simp [Sn.w,B4.w]) (by simp [Sn.w,B4.w])
  | su=>obtain ⟨rk,rfl,hR⟩:=h;exact qS ok (.inl (.inl rfl)) hR.len ⟨rk,rfl,hR⟩
  | au=>obtain ⟨rk,rfl,hR⟩:=h;exact qS ok (.inl (.inr rfl)) hR.len ⟨rk,rfl,hR⟩
theorem vG {w:Wd} (ok:w.Ok) {s:Sn} (hs:s.ok) (h1:s.size<=200) (h2:s.dep<=24):∃R bs,∃shR:Sh,i3 [w.enc,s.enc]=.ok ⟨.tup [.lst .leaf,shR,.leaf],.tuple [aT (aV w s),R,.list bs]⟩/\eO [w.enc,s.enc,.tuple [aT (aV w s),R,.list bs]]=.ok ⟨.leaf,.bool true⟩:=by
 obtain ⟨R,bs,shR,e,P,hh⟩:=gV ok 30 s hs (by omega)
 refine ⟨R,bs,shR,aD (av (zg (bY (ax (ay rfl) aj) ok.check rfl rfl)) (av (zg (bY (ax (ay rfl) aj) (Ak hs h1 h2) rfl rfl)) (aH (bY (ax (ay rfl) (ax (ay rfl) aj)) e rfl rfl) rfl))),?_⟩
 generalize ed:PyData.tuple [aT (aV w s),R,.list bs]=d at P
 cases P with
 | @mk s' R' bs' hR hl hp=>
  cases ed;have q:=gX ok 30 s hs (by omega) (aV w s) R bs true hl hp (yW ok hR) (fun _=>hR)
  rw [show (true&&decide (aV w s=aV w s))=true by simp] at q
  exact aD (av (zg (bY (ax (ay rfl) aj) ok.check rfl rfl)) (av (zg (bY (ax (ay rfl) aj) (Ak hs h1 h2) rfl rfl)) (aH (bY (ax (ay rfl) (ax (ay rfl) (ax (ay rfl) aj))) q rfl rfl) rfl)))
theorem FW {w:Wd} {s t:Sn} (h:∀r,r<w.n->(bN w s r↔bN w t r)):aV w s=aV w t:=
 kX fun r hr=>qY (by rw [satB_iff];exact h r hr)
theorem xm {w:Wd} (ok:w.Ok) {s:Sn}:aV w (bR (aO s) true)=aV w s:=FW fun r hr=>by
 rw [xf ok true r hr,if_pos rfl];exact ql ok r hr
theorem xk {w:Wd} (ok:w.Ok) {s:Sn}:aV w (aO s)=aV w s:=FW fun r hr=>ql ok r hr
theorem yh {s:Sn}:iC (eL s)=iC s:=by
 unfold eL;split<;>rfl
theorem nF {k:B4} {a b i r:Sn} {c:Str} (h:c∈iC (dZ k a b i r)):c∈iC a\/c∈iC b:=by
 unfold dZ at h;split at h
 ·exact .inl h
 ·split at h
  ·exact .inr h
  ·exact KJ h
theorem C3:∀{s:Sn} {c:Str},c∈iC (aO s)->c∈iC s
 | .yes,_,h=>h
 | .mk _,_,h=>h
 | .un k a,c,h=>by
  cases k with
  | not=>exact C3 (s:=a) (by rw [<-yh];exact h)
  | _=>
   unfold aO at h;split at h
   ·exact C3 (s:=a) h
   ·exact C3 (s:=a) h
 | .bi k a b,c,h=>by
  have go:c∈iC (aO a)\/c∈iC (aO b)->c∈iC (.bi k a b):=fun z=>List.mem_append.mpr (z.imp C3 C3)
  cases k with
  | and=>exact go (nF h)
  | or=>exact go (nF h)
  | _=>
   unfold aO at h;split at h
   ·exact go (.inr h)
   ·exact go (KJ h)
open PySem.SeqAt
noncomputable abbrev G8 (xs:List D) (w:Wd) (s:Sn) (f wo td:Option PV):Ev:=[KZ (.list xs),KZ w.enc,KZ s.enc,KZ (aT (aV w s)),f,wo,td,none,none]
noncomputable def lb:FS:=(aq (bW (aL ai (az jT (ag 2 eQ (ab (ae 1) (ab (ae 4) af))) (ae 3))) (aF (eK (.bool false))) aJ)
  (aq (aB false 6 (ag 2 i3 (ab (ae 1) (ab (ae 4) af))))
  (bW (fD (aL ai (az jT (ao (ae 6) (eK (.int 0))) (ae 3))) (aL ai (az (vq true) (ag 3 eO (ab (ae 1) (ab (ae 4) (ab (ae 6) af)))) (eK (.bool true))))) (aF (eK (.bool false))) aJ)))
theorem qb {xs:List D} {w:Wd} (ok:w.Ok) {s f:Sn} {td:Option PV} (h1:f.ok) (h2:f.size<=200) (h3:f.dep<=24) (hr:aV w f=aV w s):∃td',lb (G8 xs w s (KZ f.enc) none td)=.nx (G8 xs w s (KZ f.enc) none td'):=by
 obtain ⟨R,bs,shR,e1,e2⟩:=vG ok h1 h2 h3;rw [hr] at e1 e2
 have eh:=HS ok h1 h2 h3
 rw [hr] at eh;refine ⟨some ⟨.leaf,.tuple [aT (aV w s),R,.list bs]⟩,?_⟩
 have c1:aL ai (az jT (ag 2 eQ (ab (ae 1) (ab (ae 4) af))) (ae 3)) (G8 xs w s (KZ f.enc) none td)=.ok false (G8 xs w s (KZ f.enc) none td):=dA (aI (bY (ax (ay rfl) (ax (ay rfl) aj)) eh rfl rfl) (ay rfl) (F7 Hl))
 have i0:ao (ae 6) (eK (.int 0)) (G8 xs w s (KZ f.enc) none (KZ (.tuple [aT (aV w s),R,.list bs])))=.ok ⟨.leaf,aT (aV w s)⟩ (G8 xs w s (KZ f.enc) none (KZ (.tuple [aT (aV w s),R,.list bs]))):=jU (j:=0) (s2:=.leaf) (ds:=[aT (aV w s),R,.list bs]) (ay rfl) aS rfl rfl rfl
 exact av (bu c1 nofun (fun _=>rfl)) (av (dU (bY (ax (ay rfl) (ax (ay rfl) aj)) e1 rfl rfl) (tM rfl) (by simp)) (bu (eZ (a:=false) (b:=false) (dA (aI i0 (ay rfl) (F7 Hl))) (dA (aI (bY (ax (ay rfl) (ax (ay rfl) (ax (ay rfl) aj))) e2 rfl rfl) aS rfl))) nofun (fun _=>rfl)))
theorem xc {l:List Str} (h:∀x∈l,PyData.strOk x=true):shaped (wt l)=true:=qj fun d hd=>by
  obtain ⟨x,hx,rfl⟩:=List.mem_map.mp hd;exact ⟨x,rfl,h x hx⟩
theorem Av (s:Sn):s.size+1<=2 ^ s.dep:=by
 induction s with
 | yes=>simp [Sn.size,Sn.dep]
 | mk c=>simp [Sn.size,Sn.dep]
 | un k a ih=>simp only [Sn.size,Sn.dep];rw [Nat.pow_succ];omega
 | bi k a b h1 h2=>
  simp only [Sn.size,Sn.dep]
  rw [Nat.pow_succ];have:=Nat.pow_le_pow_right (n:=2) (by omega) (Nat.le_max_left a.dep b.dep)
  have:=Nat.pow_le_pow_right (n:=2) (by omega) (Nat.le_max_right a.dep b.dep)
  omega
theorem qz {s:Sn} (h:s.ok):(eL s).ok/\(eL s).size<=s.size+1/\(eL s).dep<=s.dep+1:=by
 rcases DE s with ⟨a,rfl,e2⟩ | ⟨_,e2⟩
 ·rw [e2]
  exact ⟨h,by simp only [Sn.size];omega,by simp only [Sn.dep];omega⟩
 ·rw [e2]
  exact ⟨h,by simp only [Sn.size];omega,by simp only [Sn.dep];omega⟩
noncomputable abbrev mm (s:Sn):List Str:=letters.filter fun c=>(iC s).contains c
theorem u3 {s:Sn}:∀x∈mm s,PyData.strOk x=true:=fun x hx=>(FP (List.mem_filter.mp hx).1).1
theorem BU {s:Sn}:(mm s).filter (fun c=>(mm (aO s)).contains c)=mm (aO s):=by
 unfold mm;rw [List.filter_filter];refine List.filter_congr fun c hc=>?_
 rw [Bool.eq_iff_iff,Bool.and_eq_true,contains_iff_mem,contains_iff_mem,contains_iff_mem,List.mem_filter,contains_iff_mem];exact ⟨fun h=>h.1.2,fun h=>⟨⟨hc,h⟩,C3 h⟩⟩
theorem yE {xs:List D} (hx:g0 xs):u6 [.list xs]=.ok ⟨.leaf,.bool true⟩:=by
 obtain ⟨c7,e2⟩:=Dy hx (k:=7) (by omega)
 have r7:0<=c7 % 7:=Int.emod_nonneg _ (by omega)
 have r7':c7 % 7<7:=Int.emod_lt_of_pos _ (by omega)
 obtain ⟨s,es,os,ds⟩:=ma hx (at':=8) (many:=1+c7 % 7) (by omega) (by omega) (by omega)
 have dp:s.dep<=7:=by omega
 have sz:s.size<=127:=by
  have h1:=Av s
  have h2:2 ^ s.dep<=2 ^ 7:=Nat.pow_le_pow_right (by omega) dp
  omega
 obtain ⟨n,oss,ms,ss,e1,hg,h1,hn⟩:=sL hx (at':=0) (lim:=6) (by omega) (by omega) (by omega)
 obtain ⟨w,ok,ew,en⟩:=DO hg h1 (by omega)
 rw [<-ew] at e1;have cs:dG [s.enc]=_:=kZ 20 s (by omega)
 have s1:aB false 1 (ag 3 dF (ab (ae 0) (ab (eK (.int 0)) (ab (eK (.int 6)) af)))) (ah 9 [.list xs])=.nx [KZ (.list xs),KZ w.enc,none,none,none,none,none,none,none]:=dU (bY (ax (ay rfl) (ax aS (ax aS aj))) e1 rfl rfl) rfl (by simp [ah])
 have s2:aB false 2 (ag 3 cG (ab (ae 0) (ab (eK (.int 8)) (ab (az bo (eK (.int 1)) (az dH (ag 2 aP (ab (ae 0) (ab (eK (.int 7)) af))) (eK (.int 7)))) af)))) [KZ (.list xs),KZ w.enc,none,none,none,none,none,none,none]=.nx [KZ (.list xs),KZ w.enc,KZ s.enc,none,none,none,none,none,none]:=
  dU (bY (ax (ay rfl) (ax aS (ax (aI aS (aI (bY (ax (ay rfl) (ax aS aj)) e2 rfl rfl) aS (fX (by omega))) oG) aj))) es rfl rfl) rfl (by simp)
 have t2:aL ai (az pI (ag 1 dG (ab (ae 2) af)) (eK (.int 7))) [KZ (.list xs),KZ w.enc,KZ s.enc,none,none,none,none,none,none]=.ok (decide ((7:Int)<s.size)) [KZ (.list xs),KZ w.enc,KZ s.enc,none,none,none,none,none,none]:=
  dA (aI (bY (ax (ay rfl) aj) cs rfl rfl) aS rfl)
 refine aD (av s1 (av s2 ?_))
 by_cases hz:(7:Int)<s.size
 ·rw [decide_eq_true hz] at t2
  exact oF (bu t2 (fun _=>aH aS rfl) nofun)
 rw [decide_eq_false hz] at t2;refine av (bu t2 nofun (fun _=>rfl)) ?_
 have z7:s.size<=7:=by omega
 have eh:=HS ok os (by omega) (by omega)
 refine av (dU (bY (ax (ay rfl) (ax (ay rfl) aj)) eh rfl rfl) rfl (by simp)) ?_
 have sh:=Hm os
 have sh1:(aO s).ok:=sh.ok
 have sh2:(aO s).size<=s.size:=sh.sz
 have sh3:(aO s).dep<=s.dep:=sh.dp
 have B:=HN sh1 (by omega) true
 have B7:=IJ (aO s).size (by omega)
 obtain ⟨fo,v1,q1⟩:=nX os (by omega) (by omega)
 obtain ⟨so,n1,d1⟩:=gW os (by omega) (by omega)
 have o1:=qz os
 obtain ⟨so2,n2,d2⟩:=gW o1.1 (by omega) (by omega)
 have o2:=qz o1.1
 have rd:∀{f wo td x7 x8:Option PV},ag 1 jn (ab (ag 1 gO (ab (ae 2) af)) af) [KZ (.list xs),KZ w.enc,KZ s.enc,KZ (aT (aV w s)),f,wo,td,x7,x8]=.ok ⟨.leaf,s.enc⟩ [KZ (.list xs),KZ w.enc,KZ s.enc,KZ (aT (aV w s)),f,wo,td,x7,x8]:=fun {f wo td x7 x8}=>
  bY (ax (bY (ax (ay rfl) aj) (sM os (by omega) (by omega)) rfl rfl) aj) (vE os (by omega) (by omega)) rfl rfl
 have op:∀{f wo td x7 x8:Option PV},ag 1 cU (ab (ae 2) af) [KZ (.list xs),KZ w.enc,KZ s.enc,KZ (aT (aV w s)),f,wo,td,x7,x8]=.ok ⟨so,(eL s).enc⟩ [KZ (.list xs),KZ w.enc,KZ s.enc,KZ (aT (aV w s)),f,wo,td,x7,x8]:=fun {f wo td x7 x8}=>bY (ax (ay rfl) aj) d1 rfl rfl
 have hop:∀{w:Wd} {s:Sn},aV w (eL s)=aV w (.un .not s):=fun {w s}=>FW fun r _=>by rw [C6];rfl
 have hoo:aV w (eL (eL s))=aV w s:=FW fun r _=>by rw [C6,C6];exact Classical.not_not
 obtain ⟨t1,b1⟩:=qb (xs:=xs) ok (s:=s) (f:=bR (aO s) true) (td:=none) B.ok (by have:=B.sz;omega) (by have:=B.dp;omega) (xm ok)
 obtain ⟨t2',b2⟩:=qb (xs:=xs) ok (s:=s) (f:=aO s) (td:=t1) sh1 (by omega) (by omega) (xk ok)
 obtain ⟨t3,b3⟩:=qb (xs:=xs) ok (s:=s) (f:=s) (td:=t2') os (by omega) (by omega) rfl
 obtain ⟨t4,b4⟩:=qb (xs:=xs) ok (s:=s) (f:=eL (eL s)) (td:=t3) o2.1 (by omega) (by omega) hoo
 have lp:cQ 4 lb [(bR (aO s) true).enc,(aO s).enc,s.enc,(eL (eL s)).enc] (G8 xs w s none none none)=.nx (G8 xs w s (KZ ((eL (eL s)).enc)) none t4):=Ah (by simp) b1 (Ah (by simp) b2 (Ah (by simp) b3 (Ah (by simp) b4 rfl)))
 refine av (fV (An (ps:=[⟨.leaf,(bR (aO s) true).enc⟩,⟨fo,(aO s).enc⟩,⟨.leaf,s.enc⟩,⟨so2,(eL (eL s)).enc⟩]) (ax (bY (ax (ay rfl) aj) (vH os z7 (by omega)) rfl rfl) (ax (bY (ax (ay rfl) aj) q1 rfl rfl) (ax rd (ax (bY (ax op aj) d2 rfl (by simp [tM n1])) aj)))) (by simp [tok,v1,n2]) rfl) lp) ?_
 have lo:=ok.g.lo
 have n24:=ok.h24
 have wo:aT ((List.range w.n).filter fun t=>!(aV w s).contains t)=aT (aV w (.un .not s)):=congrArg aT xl
 have c8:aA .leaf 7 (i4 (ab (bJ bg (ab (ao (ae 1) (eK (.int 0))) af)) af)) (aL ai (az (bQ true) (ae 7) (ae 3))) (ae 7) (G8 xs w s (KZ ((eL (eL s)).enc)) none t4)=.ok ⟨.lst .leaf,aT (aV w (.un .not s))⟩ (G8 xs w s (KZ ((eL (eL s)).enc)) none t4):=by
  rw [<-wo];refine zh rm (List.range w.n) (fun t=>!(aV w s).contains t) (fun t=>⟨.leaf,rm t⟩) (st:=true) ?_ (by simp) rfl (by simp;omega) (fun t ht=>?_) (fun t ht _=>?_)
  ·refine (lE (k:=(w.n:Int)) (ps:=[⟨.leaf,.int w.n⟩]) ?_ rfl (by omega) (by omega)).trans (by rw [<-Dw];rfl)
   simp [Wd.enc,lo]
  ·exact dA (aI (ay rfl) (ay rfl) HX)
  ·exact ⟨ay rfl,rfl⟩
 refine av (dU c8 rfl (by simp)) ?_
 have eo:=HS ok o1.1 (by omega) (by omega)
 rw [hop] at eo;refine av (bu (t:=false) (eZ (a:=false) (b:=false) (dA (aI (bY (ax (ay rfl) (ax op aj)) eo rfl (by simp [tM n1])) (ay rfl) (F7 Hl))) (dA (aI rd (ay rfl) (F7 (Hb os (by omega)))))) nofun (fun _=>rfl)) ?_
 have em:=kY os (by omega) (by omega)
 have em2:=kY sh1 (by omega) (by omega)
 have mk2:∀{f wo td x7 x8:Option PV},ag 1 bT (ab (ag 1 cM (ab (ae 2) af)) af) [KZ (.list xs),KZ w.enc,KZ s.enc,KZ (aT (aV w s)),f,wo,td,x7,x8]=.ok ⟨.lst .leaf,wt (mm (aO s))⟩ [KZ (.list xs),KZ w.enc,KZ s.enc,KZ (aT (aV w s)),f,wo,td,x7,x8]:=fun {f wo td x7 x8}=>bY (ax (bY (ax (ay rfl) aj) q1 rfl rfl) aj) em2 rfl (by simp [tM v1])
 have c9:aA .leaf 8 (bf (ag 1 bT (ab (ae 2) af))) (aL ai (az (bQ false) (ae 8) (ag 1 bT (ab (ag 1 cM (ab (ae 2) af)) af)))) (ae 8) (G8 xs w s (KZ ((eL (eL s)).enc)) (KZ (aT (aV w (.un .not s)))) t4)=.ok ⟨.lst .leaf,wt (mm (aO s))⟩ (G8 xs w s (KZ ((eL (eL s)).enc)) (KZ (aT (aV w (.un .not s)))) t4):=by
  have q:=zh PyData.str (mm s) (fun c=>(mm (aO s)).contains c) (fun c=>⟨.leaf,.str c⟩) (s:=.leaf) (i:=8) (fi:=bf (ag 1 bT (ab (ae 2) af))) (fc:=aL ai (az (bQ false) (ae 8) (ag 1 bT (ab (ag 1 cM (ab (ae 2) af)) af)))) (fe:=ae 8) (st:=true) (Γ:=G8 xs w s (KZ ((eL (eL s)).enc)) (KZ (aT (aV w (.un .not s)))) t4)
   (eC (ds:=(mm s).map .str) (bY (ax (ay rfl) aj) em rfl rfl) rfl) (by simp) rfl (Nat.le_trans (length_filter_le _ _) (by decide)) (fun c hc=>dA (aI (ay rfl) mk2 (vf (u3 c hc) u3))) (fun c _ _=>⟨ay rfl,rfl⟩)
  rw [q,BU];rfl
 exact aH (aI mk2 c9 (vy (xc u3))) rfl
theorem law_true (ns:List Int) (hl:ns.length<=63):u6 [.list (ns.map .int)]=.ok ⟨.leaf,.bool true⟩:=yE DB
end KC.Y
namespace KC.Y
open PySem PySem.Spec L2 T TQ
open PyProof.Rows hiding St
open KC
noncomputable def dw (n:Nat):Stmt:=(PySem.Challenge.pw_foreseehall_k83_whole_forms_and_texts_ar.main.body)[n]!
noncomputable def mU:Stmt:=dw 10
noncomputable def mY:Stmt:=dw 11
noncomputable def mX:Stmt:=dw 12
noncomputable def mW:Stmt:=dw 13
noncomputable def oZ:Stmt:=dw 14
noncomputable def kc:Stmt:=dw 15
noncomputable def oV:Stmt:=dw 20
noncomputable def mV:Stmt:=dw 21
noncomputable def ja:Stmt:=dw 22
noncomputable def mT:Stmt:=dw 23
noncomputable def j9:Stmt:=dw 24
noncomputable def hX:Stmt:=dw 25
noncomputable def ic:Stmt:=dw 26
noncomputable def oY:Stmt:=dw 27
noncomputable def j6:Stmt:=dw 33
noncomputable def oX:Stmt:=dw 34
noncomputable def d7:Stmt:=dw 35
noncomputable def iM:Stmt:=dw 36
noncomputable def rJ:Stmt:=dw 37
noncomputable def uj:Stmt:=dw 39
noncomputable def mS:Stmt:=dw 40
noncomputable def AD:Stmt:=dw 38
noncomputable def rH:Stmt:=dw 41
noncomputable def uk:Stmt:=dw 43
noncomputable def o8:Stmt:=dw 44
noncomputable def jZ:Stmt:=dw 45
noncomputable def oS:Stmt:=dw 46
noncomputable def j0:Stmt:=dw 51
noncomputable def gp:Stmt:=dw 52
noncomputable def oU:Stmt:=dw 53
noncomputable def o9:Stmt:=dw 54
noncomputable def oR:Stmt:=dw 55
noncomputable def ui:Stmt:=dw 56
noncomputable def xi:Stmt:=dw 57
noncomputable def oW:Stmt:=dw 59
noncomputable def xh:Stmt:=dw 60
noncomputable def iL:Stmt:=dw 61
noncomputable def gH:Stmt:=dw 62
noncomputable def o6:Stmt:=dw 63
noncomputable def o7:Stmt:=dw 64
noncomputable def rG:Stmt:=dw 67
noncomputable def xg:Stmt:=dw 68
noncomputable def rF:Stmt:=dw 69
noncomputable def um:Stmt:=dw 70
noncomputable def jY:Stmt:=dw 71
noncomputable def AC:Stmt:=dw 72
noncomputable def jb:Stmt:=dw 74
noncomputable def mZ:Stmt:=dw 75
noncomputable def lH:Stmt:=dw 76
noncomputable def iN:Stmt:=dw 77
noncomputable def lJ:Stmt:=dw 78
noncomputable def D5:Stmt:=dw 79
structure Gl (K:Fg) (mg:Str->Option Value):Prop where
 n0:mg "len"=none
 n1:mg "range"=none
 n2:mg "all"=none
 n3:mg "isinstance"=none
 n4:mg "tuple"=none
 n5:mg "str"=none
 n6:mg "sorted"=none
 n7:mg "set"=none
 n8:mg "any"=none
 n9:mg "list"=none
 n10:mg "zip"=none
 n11:mg "int"=none
 n12:mg "sum"=none
 h0:fh K mg "LETTERS" bI
 h1:fh K mg "MOST_ROOMS" eR
 h2:fh K mg "PLAYERS" cV
 h3:fh K mg "MOST_WORDS" cn
 h4:fh K mg "MOST_DEPTH" bG
 h5:fh K mg "NEVER" cH
 h6:fh K mg "YES" gQ
 h7:fh K mg "OF_OPPOSITES" bZ
 h8:fh K mg "TURNED" gR
 h9:fh K mg "UNTILS" cD
 h10:fh K mg "ALWAYS" dk
 h11:fh K mg "BY_SOME_STEP" bB
 h12:fh K mg "BEHIND_WORDS" b5
 t0:qW K mg "PARTS" cE
structure Al (K:Fg) (mg:Str->Option Value):Prop where
 g:Gl K mg
 f0:Ft K mg "is_rising" mU
 f1:Ft K mg "are_marks" mY
 f2:Ft K mg "are_rooms" mX
 f3:Ft K mg "are_steps" mW
 f4:Ft K mg "is_world" oZ
 f5:Ft K mg "check_world" kc
 f6:Ft K mg "parts_of" oV
 f7:Ft K mg "is_formed" mV
 f8:Ft K mg "parts_of_all" ja
 f9:Ft K mg "layers_of" mT
 f10:Ft K mg "is_sentence" j9
 f11:Ft K mg "checked_layers" hX
 f12:Ft K mg "check_sentence" ic
 f13:Ft K mg "marks_of" oY
 f14:Ft K mg "opposite_of" j6
 f15:Ft K mg "opposite" oX
 f16:Ft K mg "all_until_of_opposites" d7
 f17:Ft K mg "base_of_parts" iM
 f18:Ft K mg "base_of" rJ
 f19:Ft K mg "joined" uj
 f20:Ft K mg "shortened" mS
 f21:Ft K mg "base" AD
 f22:Ft K mg "shorter" rH
 f23:Ft K mg "is_led" uk
 f24:Ft K mg "is_lower" o8
 f25:Ft K mg "ranked_next" jZ
 f26:Ft K mg "ranks_to" oS
 f27:Ft K mg "other_rooms" j0
 f28:Ft K mg "through_and_goal" gp
 f29:Ft K mg "ranks_of" oU
 f30:Ft K mg "holds_at" o9
 f31:Ft K mg "rooms_by" oR
 f32:Ft K mg "judged" ui
 f33:Ft K mg "holds" xi
 f34:Ft K mg "paper_of" oW
 f35:Ft K mg "paper" xh
 f36:Ft K mg "is_rank_right" iL
 f37:Ft K mg "are_ranks_right" gH
 f38:Ft K mg "is_right" o6
 f39:Ft K mg "is_paper" o7
 f40:Ft K mg "text_of" rG
 f41:Ft K mg "shown" xg
 f42:Ft K mg "word_at" rF
 f43:Ft K mg "behind" um
 f44:Ft K mg "sentence_at" jY
 f45:Ft K mg "read" AC
 f46:Ft K mg "_law_cell_at" jb
 f47:Ft K mg "_law_draw" mZ
 f48:Ft K mg "_law_world" lH
 f49:Ft K mg "_law_sentence" iN
 f50:Ft K mg "_law_count" lJ
 f51:Ft K mg "law" D5
section
variable {P:Program} {w:World} {K:Fg} {mg:Str->Option Value} {base:Heap} (A:Al K mg)
include A
theorem iB:DefOk P w K mg base 1 "is_rising" 1 dW:=mk A.f0 A.g ["entries"] i5 ["k"] ["len", "range", "all"] [0] [0] [0,1,2] fun X S I hp=>
 (bM (tH S 2 rfl rfl I.e.n2 (aM (jX [0,1] [0] [] S 1 (zo S 1 rfl rfl I.e.n1 (aR aU (aM (hU S 0 I.e.n0 (aM (ak S 0))))) (mP rfl rfl) (gB rfl)) (fun _ _ _=>iZ) (fun Y1 S1 F1=>have I:=F1.i I;(fQ (rV I.r) (bF (ak S1 0) (mC (ak S1 1) aU)) (bF (ak S1 0) (ak S1 1)))))) (gA rfl) rfl))
theorem nB:DefOk P w K mg base 2 "are_marks" 1 dY:=mk A.f1 A.g ["entries"] i5 ["entry"] ["LETTERS", "all", "is_rising"] [0] [] [1,2] fun X S I hp=>
 (bM (tJ (tH S 1 rfl rfl I.e.n2 (aM (jX [1] [] [0] S 1 (jR (ak S 0)) (fun _ _ _=>iZ) (fun Y1 S1 F1=>have I:=F1.i I;(fQ (fA I.r) (ak S1 1) (cz S1 0 rfl rfl I.e.h0))))) (gA rfl) rfl) (tK (bw S 2 (I.c (iB A)) (aM (ak S 0))))))
theorem nA:DefOk P w K mg base 2 "are_rooms" 2 fH:=mk A.f2 A.g ["entries", "size"] oB ["entry"] ["all", "is_rising"] [0,1] [1] [0,1] fun X S I hp=>
 (bM (tJ (tH S 0 rfl rfl I.e.n2 (aM (jX [1,2] [1] [] S 2 (jR (ak S 0)) (fun _ _ _=>iZ) (fun Y1 S1 F1=>have I:=F1.i I;(DK (Jp I.r) (rV I.r) aU (ak S1 2) (ak S1 1) (by with_unfolding_all rfl))))) (gA rfl) rfl) (tK (bw S 1 (I.c (iB A)) (aM (ak S 0))))))
theorem ny:DefOk P w K mg base 3 "are_steps" 2 dX:=mk A.f3 A.g ["entries", "size"] oB [] ["len", "are_rooms"] [0,1] [] [0,1] fun X S I hp=>
 (bM (tJ (fQ (rX I.r) (hU S 0 I.e.n0 (aM (ak S 0))) aU) (tK (bw S 1 (I.c (nA A)) (aR (ak S 0) (aM (ak S 1)))))))
theorem pq:DefOk P w K mg base 4 "is_world" 3 eN:=mk A.f4 A.g ["owners", "marks", "steps"] tD ["size", "owner", "row"] ["len", "MOST_ROOMS", "PLAYERS", "all", "are_marks", "are_steps"] [0,1,2,3] [3] [0,1,3] fun X S I hp=>
 (aY (cN S false 3 (hU S 0 I.e.n0 (aM (ak S 0)))) (aY (dg (mz (mr (b8 (rV I.r) (ak S 3) aU) (mr (b8 (rX I.r) (ak S 3) (cz S 1 rfl rfl I.e.h1)) (mr (b8 (lL I.r) (hU S 0 I.e.n0 (aM (ak S 1))) (ak S 3)) (qZ (b8 (lL I.r) (hU S 0 I.e.n0 (aM (ak S 2))) (ak S 3))))))) (bM rf) dC) (aY (dg (wL (mB (tH S 3 rfl rfl I.e.n2 (aM (jX [4] [] [2] S 4 (jR (ak S 0)) (fun _ _ _=>iZ) (fun Y1 S1 F1=>have I:=F1.i I;(fQ (fA I.r) (ak S1 4) (cz S1 2 rfl rfl I.e.h2))))) (gA rfl) rfl) (fun _=>rfl))) (bM rf) dC) (bM (tJ (tH S 3 rfl rfl I.e.n2 (aM (jX [5] [] [4] S 5 (jR (ak S 1)) (fun _ _ _=>iZ) (fun Y2 S2 F2=>have I:=F2.i I;(bw S2 4 (I.c (nB A)) (aM (ak S2 5)))))) (gA rfl) rfl) (tK (tH S 3 rfl rfl I.e.n2 (aM (jX [3,5] [3] [5] S 5 (jR (ak S 2)) (fun _ _ _=>iZ) (fun Y3 S3 F3=>have I:=F3.i I;(bw S3 5 (I.c (ny A)) (aR (ak S3 5) (aM (ak S3 3))))))) (gA rfl) rfl)))))))
theorem IA:DefOk P w K mg base 5 "check_world" 1 cj:=mk A.f5 A.g ["world"] i5 [] ["is_world"] [0] [] [0] fun X S I hp=>
 (gC (dg (wL (mB (bw S 0 (I.c (pq A)) (aR (bF (ak S 0) aU) (aR (bF (ak S 0) aU) (aM (bF (ak S 0) aU))))) (fun _=>rfl))) (gC C7) dC))
theorem Dh:DefOk P w K mg base 1 "parts_of" 1 aN:=mk A.f6 A.g ["sentence"] i5 [] [] [0] [] [] fun X S I hp=>
 (bM (wJ (b8 (bE I.r) (bF (ak S 0) aU) cL) (fS wg) (Ih (ak S 0) aU)))
theorem nt:DefOk P w K mg base 1 "is_formed" 1 bA:=mk A.f7 A.g ["some"] i5 [] ["isinstance", "tuple", "len", "str", "LETTERS", "PARTS"] [0] [] [0,1,2,3,4,5] fun X S I hp=>
 (aY (dg (mz (mr (wL (mB (Ig S 0 1 rfl rfl rfl rfl rfl HM I.e.n3 I.e.n4 (ak S 0) (gA rfl) (gA rfl) rfl) (fun _=>rfl))) (mr (b8 (bE I.r) (hU S 2 I.e.n0 (aM (ak S 0))) aU) (qZ (wL (mB (Ig S 0 3 rfl rfl rfl rfl rfl Fi I.e.n3 I.e.n5 (bF (ak S 0) aU) (gA rfl) (gA rfl) rfl) (fun _=>rfl))))))) (bM rf) dC) (aY (dg (b8 (bE I.r) (bF (ak S 0) aU) cL) (bM (tJ (fQ (bE I.r) (hU S 2 I.e.n0 (aM (ak S 0))) aU) (tK (fQ (fA I.r) (bF (ak S 0) aU) (cz S 4 rfl rfl I.e.h0))))) dC) (bM (tJ (i6 S 5 rfl rfl I.e.t0 (bF (ak S 0) aU)) (tK (fQ (bE I.r) (hU S 2 I.e.n0 (aM (ak S 0))) (mx aU (kD S 5 rfl rfl I.e.t0 (bF (ak S 0) aU) (fun _ _=>rfl)))))))))
theorem jj:DefOk P w K mg base 2 "parts_of_all" 1 ck:=mk A.f8 A.g ["sentences"] i5 ["found", "sentence"] ["parts_of"] [0,1,2] [] [0] fun X S I hp=>
 (aY (cN S true 1 (rg .leaf wg)) (aY (wK S 2 rfl rfl hp (jR (ak S 0)) (gC (ip S 1 rfl rfl (bw S 0 (I.c (Dh A)) (aM (ak S 2))) (gB rfl) rfl rfl rfl rfl)) (fun _=>rfl)) (bM (mE S 1 rfl rfl))))
theorem iA:DefOk P w K mg base 3 "layers_of" 1 dj:=mk A.f9 A.g ["some"] i5 ["layers", "layer", "many", "each"] ["len", "MOST_WORDS", "MOST_DEPTH", "is_formed", "all", "parts_of_all"] [0,1,2,3] [] [0,1,2,4,5] fun X S I hp=>
 (aY (cN S true 1 (rg .leaf wg)) (aY (cN S false 2 (rg .leaf (aM (ak S 0)))) (aY (cN S false 3 aU) (aY (Ir 1000 hp (mB (ak S 2) (fun _=>rfl)) (aY (Ii S 3 rfl rfl (hU S 0 I.e.n0 (aM (ak S 2)))) (aY (dg (mz (mr (b8 (rX I.r) (ak S 3) (cz S 1 rfl rfl I.e.h3)) (mr (b8 (bE I.r) (hU S 0 I.e.n0 (aM (ak S 1))) (cz S 2 rfl rfl I.e.h4)) (qZ (wL (mB (tH S 4 rfl rfl I.e.n2 (aM (jX [4] [] [3] S 4 (jR (ak S 2)) (fun _ _ _=>iZ) (fun Y1 S1 F1=>have I:=F1.i I;(bw S1 3 (I.c (nt A)) (aM (ak S1 4)))))) (gA rfl) rfl) (fun _=>rfl))))))) (bM oJ) dC) (aY (wO S 1 rfl rfl (ak S 2) (gB rfl) rfl rfl rfl rfl) (gC (cN S false 2 (bw S 5 (I.c (jj A)) (aM (ak S 2))))))))) (bM (mE S 1 rfl rfl))))))
theorem fW:DefOk P w K mg base 4 "is_sentence" 1 cB:=mk A.f10 A.g ["some"] i5 [] ["layers_of"] [0] [] [0] fun X S I hp=>
 (bM (fQ (C4 I.r) (bw S 0 (I.c (iA A)) (aM (ak S 0))) oJ))
theorem eF:DefOk P w K mg base 4 "checked_layers" 1 bH:=mk A.f11 A.g ["sentence"] i5 ["layers"] ["layers_of"] [0,1] [] [0] fun X S I hp=>
 (aY (cN S false 1 (bw S 0 (I.c (iA A)) (aM (ak S 0)))) (aY (dg (b8 (rW I.r) (ak S 1) oJ) (gC C7) dC) (bM (ak S 1))))
theorem Aj:DefOk P w K mg base 5 "check_sentence" 1 aZ:=mk A.f12 A.g ["sentence"] i5 [] ["checked_layers"] [0] [] [0] fun X S I hp=>
 (gC (tL (bw S 0 (I.c (eF A)) (aM (ak S 0))) rfl))
theorem Io:DefOk P w K mg base 5 "marks_of" 1 bT:=mk A.f13 A.g ["sentence"] i5 ["letters", "layer", "each"] ["checked_layers", "sorted", "set"] [0,1,2] [] [0,1,2] fun X S I hp=>
 (aY (cN S true 1 (rg .leaf wg)) (aY (wK S 2 rfl rfl hp (jR (bw S 0 (I.c (eF A)) (aM (ak S 0)))) (gC (ip S 1 rfl rfl (jX [3] [] [] S 3 (jR (ak S 2)) (fun Y1 S1 F1=>have I:=F1.i I;zi (b8 (bE I.r) (bF (ak S1 3) aU) cL)) (fun Y1 S1 F1=>have I:=F1.i I;(bF (ak S1 3) aU))) (gB rfl) rfl rfl rfl rfl)) (fun _=>rfl)) (bM (jW letters S 1 2 rfl rfl I.e.n6 rfl rfl I.e.n7 (aM (ak S 1)) (gB rfl) (gB rfl)))))
theorem IB:DefOk P w K mg base 1 "opposite_of" 1 cg:=mk A.f14 A.g ["sentence"] i5 [] [] [0] [] [] fun X S I hp=>
 (bM (wJ (b8 (bE I.r) (bF (ak S 0) aU) cL) (bF (ak S 0) aU) (fS (aR cL (aM (ak S 0))))))
theorem Ip:DefOk P w K mg base 6 "opposite" 1 cU:=mk A.f15 A.g ["sentence"] i5 [] ["check_sentence", "opposite_of"] [0] [] [0,1] fun X S I hp=>
 (aY (tL (bw S 0 (I.c (Aj A)) (aM (ak S 0))) rfl) (bM (bw S 1 (I.c (IB A)) (aM (ak S 0)))))
theorem d8:DefOk P w K mg base 1 "all_until_of_opposites" 2 bU:=mk A.f16 A.g ["first", "second"] oB ["comes"] ["NEVER"] [0,1,2] [] [0] fun X S I hp=>
 (aY (cN S false 2 (fS (aR cL (aM (fS (aR cL (aM (ak S 1)))))))) (aY (dg (b8 (bE I.r) (ak S 0) (cz S 0 rfl rfl I.e.h5)) (bM (ak S 2)) dC) (bM (fS (aR cL (aR (ak S 2) (aM (fS (aR cL (aM (fS (aR cL (aR (ak S 1) (aM (fS (aR cL (aR (ak S 0) (aM (ak S 1)))))))))))))))))))
theorem iP:DefOk P w K mg base 2 "base_of_parts" 2 cb:=mk A.f17 A.g ["sentence", "parts"] oB ["word"] ["YES", "all_until_of_opposites", "tuple"] [0,1,2] [] [0,1,2] fun X S I hp=>
 (aY (cN S false 2 (bF (ak S 0) aU)) (aY (dg (b8 (bE I.r) (ak S 2) cL) (bM (fS (aR cL (aR (bF (ak S 1) aU) (aM (bF (ak S 1) aU)))))) dC) (aY (dg (b8 (bE I.r) (ak S 2) cL) (bM (fS (aR cL (aM (bF (ak S 1) aU))))) dC) (aY (dg (b8 (bE I.r) (ak S 2) cL) (bM (fS (aR cL (aR (cz S 0 rfl rfl I.e.h6) (aM (bF (ak S 1) aU)))))) dC) (aY (dg (b8 (bE I.r) (ak S 2) cL) (bM (bw S 1 (I.c (d8 A)) (aR (bF (ak S 1) aU) (aM (bF (ak S 1) aU))))) dC) (bM (wJ (b8 (bE I.r) (ak S 2) cL) (ak S 0) (kE (fS (aM (ak S 2))) (oK S 2 rfl rfl I.e.n4 (ak S 1) (gB rfl))))))))))
theorem ph (n:Nat):DefOk P w K mg base (2+n) "base_of" 2 (bO n):=by
 induction n with
 | zero=>exact zF A.f18 oB
 | succ n ih=>exact mk (k:=2+n) A.f18 A.g ["sentence", "is_so"] oB ["word", "told", "part"] ["base_of", "parts_of", "OF_OPPOSITES", "base_of_parts", "TURNED", "opposite_of"] [0,1,2,3] [2] [0,1,3,4,5] fun X S I hp=>
  (aY (cN S false 2 (bF (ak S 0) aU)) (aY (dg (b8 (bE I.r) (ak S 2) cL) (bM (bw S 0 (I.c ih) (aR (bF (ak S 0) aU) (aM (Ij (ak S 1)))))) dC) (aY (cN S false 3 (bw S 3 (I.c (iP A)) (aR (ak S 0) (aM (jX [2,4] [2] [0,2] S 4 (Ag (bw S 1 (I.c (Dh A)) (aM (ak S 0)))) (fun _ _ _=>iZ) (fun Y1 S1 F1=>have I:=F1.i I;(bw S1 0 (I.c ih) (aR (ak S1 4) (aM (fQ (wI I.r) (ak S1 2) (cz S1 2 rfl rfl I.e.h7))))))))))) (bM (wJ (b8 (bE I.r) (ak S 1) (fQ (fA I.r) (ak S 2) (cz S 4 rfl rfl I.e.h8))) (bw S 5 (I.c (IB A)) (aM (ak S 3))) (ak S 3))))))
theorem sr:DefOk P w K mg base 22 "base_of" 2 kP:=ph A 20
theorem nr:DefOk P w K mg base 1 "joined" 5 gP:=mk A.f19 A.g ["word", "one", "other", "idle", "ruling"] JB [] [] [0,1,2,3,4] [] [] fun X S I hp=>
 (aY (dg (mz (mr (b8 (bE I.r) (ak S 1) (ak S 4)) (mr (b8 (bE I.r) (ak S 2) (ak S 3)) (qZ (b8 (bE I.r) (ak S 1) (ak S 2)))))) (bM (ak S 1)) dC) (aY (dg (mz (mr (b8 (bE I.r) (ak S 2) (ak S 4)) (qZ (b8 (bE I.r) (ak S 1) (ak S 3))))) (bM (ak S 2)) dC) (bM (fS (aR (ak S 0) (aR (ak S 1) (aM (ak S 2))))))))
theorem lN (n:Nat):DefOk P w K mg base (1+n) "shortened" 1 (bb n):=by
 induction n with
 | zero=>exact zF A.f20 i5
 | succ n ih=>exact mk (k:=1+n) A.f20 A.g ["sentence"] i5 ["word", "parts", "is_settled", "part"] ["parts_of", "shortened", "opposite_of", "YES", "NEVER", "joined", "len"] [0,1,2,3] [] [0,2,3,4,5,6] fun X S I hp=>
  (aY (cN S false 1 (bF (ak S 0) aU)) (aY (wm (vs':=[4]) (cs':=[]) (lo':=[]) (gs':=[1]) S false 2 .leaf 4 rfl rfl rfl rfl (by kernel_rfl) (by kernel_rfl) (by kernel_rfl) (Ag (bw S 0 (I.c (Dh A)) (aM (ak S 0)))) (fun _ _ _=>iZ) (fun Y1 S1 F1=>have I:=F1.i I;(bw S1 1 (I.c ih) (aM (ak S1 4)))) (fun _=>rfl)) (aY (dg (mz (mr (b8 (bE I.r) (ak S 1) cL) (qZ (b8 (bE I.r) (ak S 1) cL)))) (bM (ak S 0)) dC) (aY (dg (b8 (bE I.r) (ak S 1) cL) (bM (bw S 2 (I.c (IB A)) (aM (bF (ak S 2) aU)))) dC) (aY (dg (b8 (bE I.r) (ak S 1) cL) (bM (bw S 5 (I.c (nr A)) (aR (ak S 1) (aR (bF (ak S 2) aU) (aR (bF (ak S 2) aU) (aR (cz S 3 rfl rfl I.e.h6) (aM (cz S 4 rfl rfl I.e.h5)))))))) dC) (aY (dg (b8 (bE I.r) (ak S 1) cL) (bM (bw S 5 (I.c (nr A)) (aR (ak S 1) (aR (bF (ak S 2) aU) (aR (bF (ak S 2) aU) (aR (cz S 4 rfl rfl I.e.h5) (aM (cz S 3 rfl rfl I.e.h6)))))))) dC) (aY (dg (b8 (bE I.r) (hU S 6 I.e.n0 (aM (ak S 2))) aU) (aY (cN S false 3 (HC (fQ (bE I.r) (bF (ak S 2) aU) (cz S 4 rfl rfl I.e.h5)) (HC (fQ (bE I.r) (bF (ak S 2) aU) (cz S 3 rfl rfl I.e.h6)) (tK (fQ (bE I.r) (bF (ak S 2) aU) (cz S 4 rfl rfl I.e.h5)))))) (bM (wJ (mB (ak S 3) (fun _=>rfl)) (bF (ak S 2) aU) (fS (aR (ak S 1) (aR (bF (ak S 2) aU) (aM (bF (ak S 2) aU)))))))) dC) (bM (wJ (mz (mr (b8 (bE I.r) (bF (ak S 2) aU) (cz S 3 rfl rfl I.e.h6)) (qZ (b8 (bE I.r) (bF (ak S 2) aU) (cz S 4 rfl rfl I.e.h5))))) (bF (ak S 2) aU) (fS (aR (ak S 1) (aM (bF (ak S 2) aU)))))))))))))
theorem iz:DefOk P w K mg base 21 "shortened" 1 fG:=lN A 20
theorem BR:DefOk P w K mg base 23 "base" 1 pD:=mk A.f21 A.g ["sentence"] i5 ["told"] ["check_sentence", "shortened", "base_of", "is_sentence"] [0,1] [] [0,1,2,3] fun X S I hp=>
 (aY (tL (bw S 0 (I.c (Aj A)) (aM (ak S 0))) rfl) (aY (cN S false 1 (bw S 2 (I.c (sr A)) (aR (bw S 1 (I.c (iz A)) (aM (ak S 0))) (aM rf)))) (aY (dg (wL (mB (bw S 3 (I.c (fW A)) (aM (ak S 1))) (fun _=>rfl))) (gC C7) dC) (bM (ak S 1)))))
theorem HY:DefOk P w K mg base 22 "shorter" 1 cM:=mk A.f22 A.g ["sentence"] i5 [] ["check_sentence", "shortened"] [0] [] [0,1] fun X S I hp=>
 (aY (tL (bw S 0 (I.c (Aj A)) (aM (ak S 0))) rfl) (bM (bw S 1 (I.c (iz A)) (aM (ak S 0)))))
theorem Gc:DefOk P w K mg base 1 "is_led" 2 b9:=mk A.f23 A.g ["is_chosen", "by_steps"] oB [] ["any", "all"] [0,1] [] [0,1] fun X S I hp=>
 (bM (wJ (mB (ak S 0) (fun _=>rfl)) (mG S 0 rfl rfl I.e.n8 (aM (ak S 1)) (gA rfl) rfl) (tH S 1 rfl rfl I.e.n2 (aM (ak S 1)) (gA rfl) rfl)))
theorem pA:DefOk P w K mg base 1 "is_lower" 2 dO:=mk A.f24 A.g ["rank", "other"] oB [] [] [0,1] [] [] fun X S I hp=>
 (bM (tJ (fQ (C4 I.r) (ak S 0) oJ) (tJ (fQ (C4 I.r) (ak S 1) oJ) (tK (fQ (rV I.r) (ak S 0) (ak S 1))))))
theorem kg:DefOk P w K mg base 2 "ranked_next" 4 cA:=mk A.f25 A.g ["world", "chosen", "through", "ranks"] GV ["found", "room", "there"] ["is_led"] [0,1,2,3,4,5] [3] [0] fun X S I hp=>
 (aY (cN S true 4 (rg .leaf wg)) (aY (wK S 5 rfl rfl hp (jR (ak S 2)) (gC (dg (mz (Ge (b8 (rW I.r) (bF (ak S 3) (ak S 5)) oJ) (Gb (mB (bw S 0 (I.c (Gc A)) (aR (bF (ak S 1) (ak S 5)) (aM (jX [3,6] [3] [] S 6 (jR (bF (bF (ak S 0) aU) (ak S 5))) (fun _ _ _=>iZ) (fun Y1 S1 F1=>have I:=F1.i I;(fQ (C4 I.r) (bF (ak S1 3) (ak S1 6)) oJ)))))) (fun _=>rfl))))) (gC (wO S 4 rfl rfl (ak S 5) (gB rfl) rfl rfl rfl rfl)) dC)) (fun _=>rfl)) (bM (mE S 4 rfl rfl))))
theorem pj:DefOk P w K mg base 3 "ranks_to" 4 gq:=mk A.f26 A.g ["world", "chosen", "through", "goal"] GV ["ranks", "rank", "fresh", "room", "owner"] ["ranked_next"] [0,1,2,3,4,5,6,7] [] [0] fun X S I hp=>
 (aY (wm (vs':=[8]) (cs':=[]) (lo':=[]) (gs':=[]) S true 4 .leaf 8 rfl rfl rfl rfl (by kernel_rfl) (by kernel_rfl) (by kernel_rfl) (jR (bF (ak S 0) aU)) (fun _ _ _=>iZ) (fun Y1 S1 F1=>oJ) (fun _=>rfl)) (aY (cN S false 5 aU) (aY (cN S false 6 (ak S 3)) (aY (Ir 1000 hp (mB (ak S 6) (fun _=>rfl)) (aY (wK S 7 rfl rfl hp (jR (ak S 6)) (gC (rh S 4 rfl rfl (ak S 5) (ak S 7) rfl rfl rfl (fun _=>rfl))) (fun _=>rfl)) (aY (Ii S 5 rfl rfl aU) (gC (cN S false 6 (tU S 0 rfl rfl (I.c (kg A)) (aR (ak S 0) (aR (ak S 1) (aR (ak S 2) (aM (ak S 4))))) (gA rfl) rfl)))))) (bM (mE S 4 rfl rfl))))))
theorem kh:DefOk P w K mg base 1 "other_rooms" 2 de:=mk A.f27 A.g ["world", "rooms"] oB ["room"] ["len", "range"] [0,1] [1] [0,1] fun X S I hp=>
 (bM (jX [1,2] [1] [] S 2 (gD S 1 rfl rfl I.e.n1 (aM (hU S 0 I.e.n0 (aM (bF (ak S 0) aU)))) (gB rfl)) (fun Y1 S1 F1=>have I:=F1.i I;zi (b8 (wI I.r) (ak S1 2) (ak S1 1))) (fun Y1 S1 F1=>have I:=F1.i I;(ak S1 2))))
theorem dM:DefOk P w K mg base 2 "through_and_goal" 3 aX:=mk A.f28 A.g ["world", "sentence", "parts"] tD [] ["UNTILS", "len", "list", "range", "other_rooms"] [0,1,2] [] [0,1,2,3,4] fun X S I hp=>
 (aY (dg (b8 (fA I.r) (bF (ak S 1) aU) (cz S 0 rfl rfl I.e.h9)) (bM (fS (aR (bF (ak S 2) aU) (aM (bF (ak S 2) aU))))) dC) (bM (fS (aR (i7 S 2 3 rfl rfl I.e.n9 rfl rfl I.e.n1 (aM (hU S 1 I.e.n0 (aM (bF (ak S 0) aU)))) (gB rfl) (gB rfl)) (aM (bw S 4 (I.c (kh A)) (aR (ak S 0) (aM (bF (ak S 2) aU)))))))))
theorem ji:DefOk P w K mg base 4 "ranks_of" 3 bK:=mk A.f29 A.g ["world", "sentence", "parts"] tD ["word", "both", "owner"] ["UNTILS", "ALWAYS", "through_and_goal", "BY_SOME_STEP", "ranks_to"] [0,1,2,3,4] [3] [0,1,2,4] fun X S I hp=>
 (aY (cN S false 3 (bF (ak S 1) aU)) (aY (dg (mz (Ge (b8 (wI I.r) (ak S 3) (cz S 0 rfl rfl I.e.h9)) (Gb (b8 (wI I.r) (ak S 3) (cz S 1 rfl rfl I.e.h10))))) (bM oJ) dC) (aY (cN S false 4 (bw S 2 (I.c (dM A)) (aR (ak S 0) (aR (ak S 1) (aM (ak S 2)))))) (bM (bw S 4 (I.c (pj A)) (aR (ak S 0) (aR (jX [3,5] [3] [3] S 5 (jR (bF (ak S 0) aU)) (fun _ _ _=>iZ) (fun Y1 S1 F1=>have I:=F1.i I;(fQ (fA I.r) (ak S1 3) (cz S1 3 rfl rfl I.e.h11)))) (aR (bF (ak S 4) aU) (aM (bF (ak S 4) aU))))))))))
theorem pB:DefOk P w K mg base 2 "holds_at" 5 eP:=mk A.f30 A.g ["world", "sentence", "parts", "ranks", "room"] JB ["word", "here", "rooms", "there"] ["UNTILS", "ALWAYS", "all", "any", "BY_SOME_STEP", "is_led"] [0,1,2,3,4,5,6] [2,4] [0,1,2,3,4,5] fun X S I hp=>
 (aY (cN S false 5 (bF (ak S 1) aU)) (aY (dg (b8 (bE I.r) (ak S 5) cL) (bM rf) dC) (aY (dg (b8 (bE I.r) (ak S 5) cL) (bM (fQ (fA I.r) (bF (ak S 1) aU) (bF (bF (ak S 0) aU) (ak S 4)))) dC) (aY (dg (b8 (fA I.r) (ak S 5) (cz S 0 rfl rfl I.e.h9)) (bM (fQ (C4 I.r) (bF (ak S 3) (ak S 4)) oJ)) dC) (aY (dg (b8 (fA I.r) (ak S 5) (cz S 1 rfl rfl I.e.h10)) (bM (fQ (rW I.r) (bF (ak S 3) (ak S 4)) oJ)) dC) (aY (wm (vs':=[4,7]) (cs':=[4]) (lo':=[]) (gs':=[]) S false 6 .leaf 7 rfl rfl rfl rfl (by kernel_rfl) (by kernel_rfl) (by kernel_rfl) (jR (ak S 2)) (fun _ _ _=>iZ) (fun Y1 S1 F1=>have I:=F1.i I;(fQ (fA I.r) (ak S1 4) (ak S1 7))) (fun _=>rfl)) (aY (dg (b8 (bE I.r) (ak S 5) cL) (bM (Ij (bF (ak S 6) aU))) dC) (aY (dg (mz (mr (b8 (bE I.r) (ak S 5) cL) (qZ (b8 (bE I.r) (ak S 5) cL)))) (bM (wJ (b8 (bE I.r) (ak S 5) cL) (tH S 2 rfl rfl I.e.n2 (aM (ak S 6)) (gA rfl) rfl) (mG S 3 rfl rfl I.e.n8 (aM (ak S 6)) (gA rfl) rfl))) dC) (bM (bw S 5 (I.c (Gc A)) (aR (fQ (fA I.r) (ak S 5) (cz S 4 rfl rfl I.e.h11)) (aM (jX [2,8] [2] [] S 8 (jR (bF (bF (ak S 0) aU) (ak S 4))) (fun _ _ _=>iZ) (fun Y2 S2 F2=>have I:=F2.i I;(fQ (fA I.r) (ak S2 8) (bF (ak S2 2) aU))))))))))))))))
theorem Iq:DefOk P w K mg base 3 "rooms_by" 4 b7:=mk A.f31 A.g ["world", "sentence", "parts", "ranks"] GV ["room"] ["len", "range", "holds_at"] [0,1,2,3] [0,1,2,3] [0,1] fun X S I hp=>
 (bM (jX [0,1,2,3,4] [0,1,2,3] [2] S 4 (gD S 1 rfl rfl I.e.n1 (aM (hU S 0 I.e.n0 (aM (bF (ak S 0) aU)))) (gB rfl)) (fun Y1 S1 F1=>have I:=F1.i I;zi (mB (bw S1 2 (I.c (pB A)) (aR (ak S1 0) (aR (ak S1 1) (aR (ak S1 2) (aR (ak S1 3) (aM (ak S1 4))))))) (fun _=>rfl))) (fun Y1 S1 F1=>have I:=F1.i I;(ak S1 4))))
theorem sg (n:Nat):DefOk P w K mg base (4+n) "judged" 2 (dN n):=by
 induction n with
 | zero=>exact zF A.f32 oB
 | succ n ih=>exact mk (k:=4+n) A.f32 A.g ["world", "sentence"] oB ["parts", "part"] ["parts_of", "judged", "ranks_of", "rooms_by"] [0,1,2] [0] [0,2,3] fun X S I hp=>
  (aY (wm (vs':=[0,3]) (cs':=[0]) (lo':=[]) (gs':=[1]) S false 2 .leaf 3 rfl rfl rfl rfl (by kernel_rfl) (by kernel_rfl) (by kernel_rfl) (Ag (bw S 0 (I.c (Dh A)) (aM (ak S 1)))) (fun _ _ _=>iZ) (fun Y1 S1 F1=>have I:=F1.i I;(bw S1 1 (I.c ih) (aR (ak S1 0) (aM (ak S1 3))))) (fun _=>rfl)) (bM (bw S 3 (I.c (Iq A)) (aR (ak S 0) (aR (ak S 1) (aR (ak S 2) (aM (bw S 2 (I.c (ji A)) (aR (ak S 0) (aR (ak S 1) (aM (ak S 2))))))))))))
theorem uT:DefOk P w K mg base 34 "judged" 2 jq:=sg A 30
theorem Hy:DefOk P w K mg base 35 "holds" 2 eQ:=mk A.f33 A.g ["world", "sentence"] oB [] ["check_world", "check_sentence", "judged"] [0,1] [] [0,1,2] fun X S I hp=>
 (aY (tL (bw S 0 (I.c (IA A)) (aM (ak S 0))) rfl) (aY (tL (bw S 1 (I.c (Aj A)) (aM (ak S 1))) rfl) (bM (bw S 2 (I.c (uT A)) (aR (ak S 0) (aM (ak S 1)))))))
theorem nk (n:Nat):DefOk P w K mg base (4+n) "paper_of" 2 (cJ n):=by
 induction n with
 | zero=>exact zF A.f34 oB
 | succ n ih=>exact mk (k:=4+n) A.f34 A.g ["world", "sentence"] oB ["below", "parts", "ranks", "part", "each"] ["parts_of", "paper_of", "ranks_of", "rooms_by"] [0,1,2,3,4] [0] [0,2,3] fun X S I hp=>
  (aY (wm (vs':=[0,5]) (cs':=[0]) (lo':=[]) (gs':=[1]) S false 2 .leaf 5 rfl rfl rfl rfl (by kernel_rfl) (by kernel_rfl) (by kernel_rfl) (Ag (bw S 0 (I.c (Dh A)) (aM (ak S 1)))) (fun _ _ _=>iZ) (fun Y1 S1 F1=>have I:=F1.i I;(bw S1 1 (I.c ih) (aR (ak S1 0) (aM (ak S1 5))))) (fun _=>rfl)) (aY (wm (vs':=[6]) (cs':=[]) (lo':=[]) (gs':=[]) S false 3 .leaf 6 rfl rfl rfl rfl (by kernel_rfl) (by kernel_rfl) (by kernel_rfl) (jR (ak S 2)) (fun _ _ _=>iZ) (fun Y2 S2 F2=>(bF (ak S2 6) aU)) (fun _=>rfl)) (aY (cN S true 4 (bw S 2 (I.c (ji A)) (aR (ak S 0) (aR (ak S 1) (aM (ak S 3)))))) (bM (fS (aR (tU S 3 rfl rfl (I.c (Iq A)) (aR (ak S 0) (aR (ak S 1) (aR (ak S 3) (aM (ak S 4))))) (gA rfl) rfl) (aR (mE S 4 rfl rfl) (aM (ak S 2)))))))))
theorem pk:DefOk P w K mg base 34 "paper_of" 2 jo:=nk A 30
theorem yd:DefOk P w K mg base 35 "paper" 2 i3:=mk A.f35 A.g ["world", "sentence"] oB [] ["check_world", "check_sentence", "paper_of"] [0,1] [] [0,1,2] fun X S I hp=>
 (aY (tL (bw S 0 (I.c (IA A)) (aM (ak S 0))) rfl) (aY (tL (bw S 1 (I.c (Aj A)) (aM (ak S 1))) rfl) (bM (bw S 2 (I.c (pk A)) (aR (ak S 0) (aM (ak S 1)))))))
theorem iO:DefOk P w K mg base 2 "is_rank_right" 5 cF:=mk A.f36 A.g ["world", "word", "ranks", "both", "room"] JB ["rank", "ahead", "is_by_some", "is_lessened", "there", "other"] ["BY_SOME_STEP", "is_led", "is_lower"] [0,1,2,3,4,5,6,7,8] [2,5] [0,1] fun X S I hp=>
 (aY (cN S false 5 (bF (ak S 2) (ak S 4))) (aY (wm (vs':=[2,9]) (cs':=[2]) (lo':=[]) (gs':=[]) S false 6 .leaf 9 rfl rfl rfl rfl (by kernel_rfl) (by kernel_rfl) (by kernel_rfl) (jR (bF (bF (ak S 0) aU) (ak S 4))) (fun _ _ _=>iZ) (fun Y1 S1 F1=>(bF (ak S1 2) (ak S1 9))) (fun _=>rfl)) (aY (cN S false 7 (fQ (fA I.r) (ak S 1) (cz S 0 rfl rfl I.e.h11))) (aY (dg (b8 (fA I.r) (ak S 4) (bF (ak S 3) aU)) (bM (fQ (bE I.r) (ak S 5) aU)) dC) (aY (dg (b8 (rW I.r) (ak S 5) oJ) (bM (HC (fQ (wI I.r) (ak S 4) (bF (ak S 3) aU)) (tK (Ij (bw S 1 (I.c (Gc A)) (aR (ak S 7) (aM (jX [10] [] [] S 10 (jR (ak S 6)) (fun _ _ _=>iZ) (fun Y2 S2 F2=>have I:=F2.i I;(fQ (C4 I.r) (ak S2 10) oJ)))))))))) dC) (aY (cN S false 8 (bw S 1 (I.c (Gc A)) (aR (ak S 7) (aM (jX [5,10] [5] [2] S 10 (jR (ak S 6)) (fun _ _ _=>iZ) (fun Y3 S3 F3=>have I:=F3.i I;(bw S3 2 (I.c (pA A)) (aR (ak S3 10) (aM (ak S3 5)))))))))) (bM (tJ (fQ (rX I.r) (ak S 5) aU) (tJ (fQ (fA I.r) (ak S 4) (bF (ak S 3) aU)) (tK (ak S 8)))))))))))
theorem gM:DefOk P w K mg base 3 "are_ranks_right" 4 aQ:=mk A.f37 A.g ["world", "sentence", "parts", "ranks"] GV ["word", "both", "room"] ["UNTILS", "ALWAYS", "len", "through_and_goal", "range", "is_rank_right", "all"] [0,1,2,3,4,5] [0,3,4,5] [0,1,2,3,4,6] fun X S I hp=>
 (aY (cN S false 4 (bF (ak S 1) aU)) (aY (dg (mz (Ge (b8 (wI I.r) (ak S 4) (cz S 0 rfl rfl I.e.h9)) (Gb (b8 (wI I.r) (ak S 4) (cz S 1 rfl rfl I.e.h10))))) (bM (fQ (rW I.r) (ak S 3) oJ)) dC) (aY (dg (mz (mr (b8 (rW I.r) (ak S 3) oJ) (qZ (b8 (lL I.r) (hU S 2 I.e.n0 (aM (ak S 3))) (hU S 2 I.e.n0 (aM (bF (ak S 0) aU))))))) (bM rf) dC) (aY (cN S false 5 (bw S 3 (I.c (dM A)) (aR (ak S 0) (aR (ak S 1) (aM (ak S 2)))))) (bM (tH S 6 rfl rfl I.e.n2 (aM (jX [0,3,4,5,6] [0,3,4,5] [5] S 6 (gD S 4 rfl rfl I.e.n1 (aM (hU S 2 I.e.n0 (aM (ak S 3)))) (gB rfl)) (fun _ _ _=>iZ) (fun Y1 S1 F1=>have I:=F1.i I;(bw S1 5 (I.c (iO A)) (aR (ak S1 0) (aR (ak S1 4) (aR (ak S1 3) (aR (ak S1 5) (aM (ak S1 6)))))))))) (gA rfl) rfl))))))
theorem nq (n:Nat):DefOk P w K mg base (3+n) "is_right" 3 (cK n):=by
 induction n with
 | zero=>exact zF A.f38 tD
 | succ n ih=>exact mk (k:=3+n) A.f38 A.g ["world", "sentence", "told"] tD ["within", "parts", "below", "part"] ["parts_of", "len", "zip", "is_right", "all", "are_ranks_right", "rooms_by"] [0,1,2,3,4] [0] [0,1,2,4,5,6] fun X S I hp=>
  (aY (cN S false 3 (bw S 0 (I.c (Dh A)) (aM (ak S 1)))) (aY (dg (b8 (lL I.r) (hU S 1 I.e.n0 (aM (bF (ak S 2) aU))) (hU S 1 I.e.n0 (aM (ak S 3)))) (bM rf) dC) (aY (dg (wL (mB (tH S 4 rfl rfl I.e.n2 (aM (DJ (vs':=[0,5,6]) (cs':=[0]) (lo':=[]) (gs':=[3]) S .leaf 6 5 2 rfl rfl rfl rfl rfl I.e.n10 (by kernel_rfl) (by kernel_rfl) (aR (ak S 3) (aM (bF (ak S 2) aU))) (gA rfl) rfl (fun _ _ _=>iZ) (fun Y1 S1 F1=>have I:=F1.i I;(bw S1 3 (I.c ih) (aR (ak S1 0) (aR (ak S1 6) (aM (ak S1 5)))))) (fun _=>rfl))) (gA rfl) rfl) (fun _=>rfl))) (bM rf) dC) (aY (wm (vs':=[5]) (cs':=[]) (lo':=[]) (gs':=[]) S false 4 .leaf 5 rfl rfl rfl rfl (by kernel_rfl) (by kernel_rfl) (by kernel_rfl) (jR (bF (ak S 2) aU)) (fun _ _ _=>iZ) (fun Y2 S2 F2=>(bF (ak S2 5) aU)) (fun _=>rfl)) (bM (tJ (bw S 5 (I.c (gM A)) (aR (ak S 0) (aR (ak S 1) (aR (ak S 4) (aM (bF (ak S 2) aU)))))) (tK (fQ (bE I.r) (bF (ak S 2) aU) (bw S 6 (I.c (Iq A)) (aR (ak S 0) (aR (ak S 1) (aR (ak S 4) (aM (bF (ak S 2) aU))))))))))))))
theorem pw:DefOk P w K mg base 33 "is_right" 3 jr:=nq A 30
theorem pz:DefOk P w K mg base 34 "is_paper" 3 eO:=mk A.f39 A.g ["world", "sentence", "told"] tD [] ["check_world", "check_sentence", "is_right"] [0,1,2] [] [0,1,2] fun X S I hp=>
 (aY (tL (bw S 0 (I.c (IA A)) (aM (ak S 0))) rfl) (aY (tL (bw S 1 (I.c (Aj A)) (aM (ak S 1))) rfl) (bM (bw S 2 (I.c (pw A)) (aR (ak S 0) (aR (ak S 1) (aM (ak S 2))))))))
theorem pf (n:Nat):DefOk P w K mg base (0+n) "text_of" 1 (cf n):=by
 induction n with
 | zero=>exact zF A.f40 i5
 | succ n ih=>exact mk (k:=0+n) A.f40 A.g ["sentence"] i5 ["word", "parts", "part"] ["text_of"] [0,1,2] [] [] fun X S I hp=>
  (aY (cN S false 1 (bF (ak S 0) aU)) (aY (dg (b8 (bE I.r) (ak S 1) cL) (bM (ak S 1)) dC) (aY (dg (b8 (bE I.r) (ak S 1) cL) (bM (bF (ak S 0) aU)) dC) (aY (cN S false 2 (rl (jX [3] [] [0] S 3 (Ag (Ih (ak S 0) aU)) (fun _ _ _=>iZ) (fun Y1 S1 F1=>have I:=F1.i I;(bw S1 0 (I.c ih) (aM (ak S1 3))))) (gB rfl) rfl)) (bM (wW S 1 2 rfl rfl rfl rfl))))))
theorem sq:DefOk P w K mg base 20 "text_of" 1 kO:=pf A 20
theorem qA:DefOk P w K mg base 21 "shown" 1 gO:=mk A.f41 A.g ["sentence"] i5 [] ["check_sentence", "text_of"] [0] [] [0,1] fun X S I hp=>
 (aY (tL (bw S 0 (I.c (Aj A)) (aM (ak S 0))) rfl) (bM (bw S 1 (I.c (sq A)) (aM (ak S 0)))))
theorem sm:DefOk P w K mg base 1 "word_at" 2 eH:=mk A.f42 A.g ["text", "start"] oB ["end"] ["len", "BEHIND_WORDS"] [0,1,2] [] [0,1] fun X S I hp=>
 (aY (cN S false 2 (ak S 1)) (aY (Ir 1000 hp (mz (Ge (b8 (rV I.r) (ak S 2) (hU S 0 I.e.n0 (aM (ak S 0)))) (Gb (b8 (wI I.r) (bF (ak S 0) (ak S 2)) (cz S 1 rfl rfl I.e.h12))))) (gC (Ii S 2 rfl rfl aU))) (bM (rj S 0 1 2 rfl rfl rfl rfl rfl rfl))))
theorem nu:DefOk P w K mg base 1 "behind" 3 cP:=mk A.f43 A.g ["text", "place", "sign"] tD [] ["len"] [0,1,2] [] [0] fun X S I hp=>
 (aY (dg (wL (mB (oM S 0 2 1 rfl rfl rfl rfl rfl rfl) (fun _=>rfl))) (gC C7) dC) (bM (mx (ak S 1) (hU S 0 I.e.n0 (aM (ak S 2))))))
theorem jh (n:Nat):DefOk P w K mg base (1+n) "sentence_at" 3 (bx n):=by
 induction n with
 | zero=>exact zF A.f44 tD
 | succ n ih=>exact mk (k:=1+n) A.f44 A.g ["text", "start", "level"] tD ["word", "place", "told", "k", "found"] ["word_at", "len", "LETTERS", "PARTS", "MOST_DEPTH", "range", "behind", "sentence_at"] [0,1,2,3,4,5,6,7] [] [0,1,2,3,4,5,6,7] fun X S I hp=>
  (aY (cN S false 3 (bw S 0 (I.c (sm A)) (aR (ak S 0) (aM (ak S 1))))) (aY (cN S false 4 (mx (ak S 1) (hU S 1 I.e.n0 (aM (ak S 3))))) (aY (dg (b8 (fA I.r) (ak S 3) (cz S 2 rfl rfl I.e.h0)) (bM (fS (aR (fS (aR cL (aM (ak S 3)))) (aM (ak S 4))))) dC) (aY (dg (b8 (bE I.r) (ak S 3) cL) (bM (fS (aR (fS (aM (ak S 3))) (aM (ak S 4))))) dC) (aY (dg (mz (mr (jV S 3 rfl rfl I.e.t0 (ak S 3)) (qZ (b8 (bE I.r) (ak S 2) (cz S 4 rfl rfl I.e.h4))))) (gC C7) dC) (aY (cN S false 5 (fS (aM (ak S 3)))) (aY (wK S 6 rfl rfl hp (gD S 5 rfl rfl I.e.n1 (aM (kD S 3 rfl rfl I.e.t0 (ak S 3) (fun _ _=>rfl))) (gB rfl)) (aY (cN S false 7 (bw S 7 (I.c ih) (aR (ak S 0) (aR (bw S 6 (I.c (nu A)) (aR (ak S 0) (aR (ak S 4) (aM (wJ (mB (ak S 6) (fun _=>rfl)) cL cL))))) (aM (mx (ak S 2) aU)))))) (aY (cN S false 5 (kE (ak S 5) (fS (aM (bF (ak S 7) aU))))) (gC (cN S false 4 (bF (ak S 7) aU))))) (fun _=>rfl)) (bM (fS (aR (ak S 5) (aM (bw S 6 (I.c (nu A)) (aR (ak S 0) (aR (ak S 4) (aM cL)))))))))))))))
theorem kf:DefOk P w K mg base 31 "sentence_at" 3 fY:=jh A 30
theorem uS:DefOk P w K mg base 32 "read" 1 jn:=mk A.f45 A.g ["text"] i5 ["found"] ["sentence_at", "len", "is_sentence"] [0,1] [] [0,1,2] fun X S I hp=>
 (aY (cN S false 1 (bw S 0 (I.c (kf A)) (aR (ak S 0) (aR aU (aM aU))))) (aY (dg (mz (mr (b8 (lL I.r) (bF (ak S 1) aU) (hU S 1 I.e.n0 (aM (ak S 0)))) (qZ (wL (mB (bw S 2 (I.c (fW A)) (aM (bF (ak S 1) aU))) (fun _=>rfl)))))) (gC C7) dC) (bM (bF (ak S 1) aU))))
theorem DH:DefOk P w K mg base 1 "_law_cell_at" 2 aP:=mk A.f46 A.g ["script", "k"] oB [] ["len"] [0,1] [] [0] fun X S I hp=>
 (aY (dg (b8 (rV I.r) (ak S 1) (hU S 0 I.e.n0 (aM (ak S 0)))) (bM (bF (ak S 0) (ak S 1))) dC) (bM aU))
theorem wN:DefOk P w K mg base 1 "_law_draw" 3 aw:=mk A.f47 A.g ["cell", "k", "bound"] tD ["stir", "left", "j"] ["range"] [0,1,2,3,4,5] [] [0] fun X S I hp=>
 (aY (dg (b8 (Jq I.r) (ak S 0) (tO aU aU)) (aY (cN S false 4 (ak S 0)) (aY (wK S 5 rfl rfl hp (gD S 0 rfl rfl I.e.n1 (aM (ak S 1)) (gB rfl)) (gC (cN S false 4 (mD (ak S 4) (ak S 2)))) (fun _=>rfl)) (bM (wj (ak S 4) (ak S 2))))) dC) (aY (cN S false 3 (wj (DC (mx (mx (wj (ak S 0) aU) (DC aU (ak S 1))) aU) aU) aU)) (aY (cN S false 3 (wj (mx (mx (DC (ak S 3) (ak S 3)) (DC aU (ak S 1))) aU) aU)) (bM (wj (mD (wj (DC (ak S 3) aU) aU) aU) (ak S 2))))))
theorem lP:DefOk P w K mg base 2 "_law_world" 3 dF:=mk A.f48 A.g ["script", "at", "limit"] tD ["many", "owners", "marks", "steps", "room", "cell", "row", "there", "k"] ["_law_cell_at", "range", "_law_draw", "int"] [0,1,2,3,4,5,6,7,8,9] [3,8] [0,1,2] fun X S I hp=>
 (aY (cN S false 3 (mx aU (wj (bw S 0 (I.c (DH A)) (aR (ak S 0) (aM (ak S 1)))) (ak S 2)))) (aY (cN S true 4 (rg .leaf wg)) (aY (cN S true 5 (rg .leaf wg)) (aY (cN S true 6 (rg .leaf wg)) (aY (wK S 7 rfl rfl hp (gD S 1 rfl rfl I.e.n1 (aM (ak S 3)) (gB rfl)) (aY (cN S false 8 (bw S 0 (I.c (DH A)) (aR (ak S 0) (aM (mx (mx (ak S 1) aU) (ak S 7)))))) (aY (wO S 4 rfl rfl (bw S 2 (I.c (wN A)) (aR (ak S 8) (aR aU (aM aU)))) (gB rfl) rfl rfl rfl rfl) (aY (wO S 5 rfl rfl (jX [8,11] [8] [2] S 11 (gD S 1 rfl rfl I.e.n1 (aM aU) (gB rfl)) (fun Y1 S1 F1=>have I:=F1.i I;zi (b8 (bE I.r) (bw S1 2 (I.c (wN A)) (aR (ak S1 8) (aR (mx aU (ak S1 11)) (aM aU)))) aU)) (fun Y1 S1 F1=>have I:=F1.i I;(bF cL (ak S1 11)))) (gB rfl) rfl rfl rfl rfl) (aY (wm (vs':=[3,8,10]) (cs':=[3,8]) (lo':=[]) (gs':=[2,3]) S false 9 .leaf 10 rfl rfl rfl rfl (by kernel_rfl) (by kernel_rfl) (by kernel_rfl) (gD S 1 rfl rfl I.e.n1 (aM (ak S 3)) (gB rfl)) (fun Y2 S2 F2=>have I:=F2.i I;zi (b8 (bE I.r) (bw S2 2 (I.c (wN A)) (aR (ak S2 8) (aR (mx aU (ak S2 10)) (aM (mx aU (tX S2 3 rfl rfl I.e.n11 (aM (fQ (rX I.r) (ak S2 3) aU)) (gA rfl) rfl)))))) aU)) (fun Y2 S2 F2=>have I:=F2.i I;(ak S2 10)) (fun _=>rfl)) (aY (dg (b8 (bE I.r) (ak S 9) (rg .leaf wg)) (gC (cN S false 9 (rg .leaf (aM (bw S 2 (I.c (wN A)) (aR (ak S 8) (aR (mx aU (ak S 3)) (aM (ak S 3))))))))) dC) (gC (wO S 6 rfl rfl (ak S 9) (gB rfl) rfl rfl rfl rfl))))))) (fun _=>rfl)) (bM (fS (aR (mE S 4 rfl rfl) (aR (mE S 5 rfl rfl) (aM (mE S 6 rfl rfl)))))))))))
theorem iQ:DefOk P w K mg base 2 "_law_sentence" 3 cG:=mk A.f49 A.g ["script", "at", "many"] tD ["kinds", "made", "k", "cell", "kind", "one", "other"] ["_law_cell_at", "_law_draw", "range", "len"] [0,1,2,3,4,5,6,7,8,9] [] [0,1,2,3] fun X S I hp=>
 (aY (cN S false 3 (rg .leaf (aR cL (aR cL (aR cL (aR cL (aR cL (aR cL (aR cL (aR cL (aM cL))))))))))) (aY (cN S false 3 (tR (ak S 3) (rg .leaf (aR cL (aR cL (aM cL)))))) (aY (cN S true 4 (rg .leaf (aM (fS (aR cL (aM (bF cL (bw S 1 (I.c (wN A)) (aR (bw S 0 (I.c (DH A)) (aR (ak S 0) (aM (ak S 1)))) (aR aU (aM aU))))))))))) (aY (wK S 5 rfl rfl hp (zo S 2 rfl rfl I.e.n1 (aR aU (aM (ak S 2))) (mP rfl rfl) (gB rfl)) (aY (cN S false 6 (bw S 0 (I.c (DH A)) (aR (ak S 0) (aM (mx (ak S 1) (ak S 5)))))) (aY (cN S false 7 (bF (ak S 3) (bw S 1 (I.c (wN A)) (aR (ak S 6) (aR aU (aM aU)))))) (aY (cN S false 8 (H0 S 4 rfl rfl (mC (mF aU) (wj (bw S 1 (I.c (wN A)) (aR (ak S 6) (aR aU (aM aU)))) (hU S 3 I.e.n0 (aM (ak S 4))))) (fun _ _=>rfl))) (aY (cN S false 9 (H0 S 4 rfl rfl (wj (bw S 1 (I.c (wN A)) (aR (ak S 6) (aR aU (aM aU)))) (hU S 3 I.e.n0 (aM (ak S 4)))) (fun _ _=>rfl))) (gC (dg (b8 (bE I.r) (ak S 7) cL) (gC (wO S 4 rfl rfl (fS (aM cL)) (gB rfl) rfl rfl rfl rfl)) (gC (dg (b8 (bE I.r) (ak S 7) cL) (gC (wO S 4 rfl rfl (fS (aR cL (aM (bF cL (bw S 1 (I.c (wN A)) (aR (ak S 6) (aR aU (aM aU)))))))) (gB rfl) rfl rfl rfl rfl)) (gC (dg (b8 (fA I.r) (ak S 7) (fS (aR cL (aR cL (aR cL (aM cL)))))) (gC (wO S 4 rfl rfl (fS (aR (ak S 7) (aR (ak S 9) (aM (ak S 8))))) (gB rfl) rfl rfl rfl rfl)) (gC (wO S 4 rfl rfl (fS (aR (ak S 7) (aM (ak S 8)))) (gB rfl) rfl rfl rfl rfl)))))))))))) (fun _=>rfl)) (bM (H0 S 4 rfl rfl (mF aU) (fun _ _=>rfl)))))))
theorem ke (n:Nat):DefOk P w K mg base (0+n) "_law_count" 1 (bz n):=by
 induction n with
 | zero=>exact zF A.f50 i5
 | succ n ih=>exact mk (k:=0+n) A.f50 A.g ["sentence"] i5 ["piece"] ["_law_count", "isinstance", "tuple", "sum"] [0] [] [3] fun X S I hp=>
  (bM (mx aU (tV S 3 rfl rfl I.e.n12 (aM (jX [1] [] [0,1,2] S 1 (Ag (Ih (ak S 0) aU)) (fun Y1 S1 F1=>have I:=F1.i I;zi (mB (Ig S1 1 2 rfl rfl rfl rfl rfl HM I.e.n3 I.e.n4 (ak S1 1) (gA rfl) (gA rfl) rfl) (fun _=>rfl))) (fun Y1 S1 F1=>have I:=F1.i I;(bw S1 0 (I.c ih) (aM (ak S1 1)))))) (gA rfl) rfl)))
theorem lQ:DefOk P w K mg base 20 "_law_count" 1 dG:=ke A 20
theorem o_law {fa:Addr} (hfa:mg "law"=some (.ref fa)):∃fd:FuncData,(∀(s:Shared) (v:Value),BindsTo s fd ⟨[v],[]⟩ [("script",v)])/\∀base:Heap,K.In base->base.Ns mainGlobals mg->gy P w K mg base pY 36 fa fd ["script"] (rB K 1 u6):=Kw A.f51 A.g "script" i5 hfa ["world", "some", "rooms", "form", "without", "told", "room", "mark"] ["_law_world", "_law_cell_at", "_law_sentence", "_law_count", "holds", "base", "shorter", "shown", "read", "opposite", "paper", "is_paper", "len", "range", "marks_of"] [0,1,2,3,4,5,6] [2,3] [0,1,2,3,4,5,6,7,8,9,10,11,12,13,14] fun base X S I hp=>
 (aY (cN S false 1 (bw S 0 (I.c (lP A)) (aR (ak S 0) (aR aU (aM aU))))) (aY (cN S false 2 (bw S 2 (I.c (iQ A)) (aR (ak S 0) (aR aU (aM (mx aU (wj (bw S 1 (I.c (DH A)) (aR (ak S 0) (aM aU))) aU))))))) (aY (dg (b8 (rX I.r) (bw S 3 (I.c (lQ A)) (aM (ak S 2))) aU) (bM rf) dC) (aY (cN S false 3 (bw S 4 (I.c (Hy A)) (aR (ak S 1) (aM (ak S 2))))) (aY (wK S 4 rfl rfl hp (Ag (fS (aR (bw S 5 (I.c (BR A)) (aM (ak S 2))) (aR (bw S 6 (I.c (HY A)) (aM (ak S 2))) (aR (bw S 8 (I.c (uS A)) (aM (bw S 7 (I.c (qA A)) (aM (ak S 2))))) (aM (bw S 9 (I.c (Ip A)) (aM (bw S 9 (I.c (Ip A)) (aM (ak S 2))))))))))) (aY (dg (b8 (lL I.r) (bw S 4 (I.c (Hy A)) (aR (ak S 1) (aM (ak S 4)))) (ak S 3)) (bM rf) dC) (aY (cN S false 6 (bw S 10 (I.c (yd A)) (aR (ak S 1) (aM (ak S 4))))) (gC (dg (mz (mr (b8 (lL I.r) (bF (ak S 6) aU) (ak S 3)) (qZ (b8 (Bj I.r) (bw S 11 (I.c (pz A)) (aR (ak S 1) (aR (ak S 4) (aM (ak S 6))))) rf)))) (bM rf) dC)))) (fun _=>rfl)) (aY (wm (vs':=[3,7]) (cs':=[3]) (lo':=[]) (gs':=[]) S false 5 .leaf 7 rfl rfl rfl rfl (by kernel_rfl) (by kernel_rfl) (by kernel_rfl) (gD S 13 rfl rfl I.e.n1 (aM (hU S 12 I.e.n0 (aM (bF (ak S 1) aU)))) (gB rfl)) (fun Y1 S1 F1=>have I:=F1.i I;zi (b8 (wI I.r) (ak S1 7) (ak S1 3))) (fun Y1 S1 F1=>have I:=F1.i I;(ak S1 7)) (fun _=>rfl)) (aY (dg (mz (mr (b8 (lL I.r) (bw S 4 (I.c (Hy A)) (aR (ak S 1) (aM (bw S 9 (I.c (Ip A)) (aM (ak S 2)))))) (ak S 5)) (qZ (b8 (lL I.r) (bw S 8 (I.c (uS A)) (aM (bw S 7 (I.c (qA A)) (aM (ak S 2))))) (ak S 2))))) (bM rf) dC) (bM (fQ (bE I.r) (bw S 14 (I.c (Io A)) (aM (bw S 6 (I.c (HY A)) (aM (ak S 2))))) (jX [2,8] [2] [6,14] S 8 (jR (bw S 14 (I.c (Io A)) (aM (ak S 2)))) (fun Y2 S2 F2=>have I:=F2.i I;zi (b8 (fA I.r) (ak S2 8) (bw S2 14 (I.c (Io A)) (aM (bw S2 6 (I.c (HY A)) (aM (ak S2 2))))))) (fun Y2 S2 F2=>have I:=F2.i I;(ak S2 8))))))))))))
end
end KC.Y
open PySem PySem.W PyProof.Rows
def PySem.W.Fast.tw15452276308844315840:=0
def PySem.W.Fast.tw847126790382536609:=0
def PySem.W.Fast.tw14557125442007913668:=0
def PySem.W.Fast.tw2764275848302117701:=0
def PySem.W.Fast.tw55212349691121679:=0
def PySem.W.Fast.tw453317924454758544:=0
def PySem.W.Fast.tw16097427743951249265:=0
def PySem.W.Fast.tw6686751028058661176:=0
def PySem.W.Fast.tw4951348525742013722:=0
def PySem.W.Fast.tw9001133685740755962:=0
def PySem.W.Fast.tw7882394980290129275:=0
def PySem.W.Fast.tw17748277221980209692:=0
def PySem.W.Fast.tw5766910693031612957:=0
def PySem.W.Fast.tw1025117341331127133:=0
def PySem.W.Fast.tw2074045170924810430:=0
set_option maxRecDepth 100000 in
set_option maxHeartbeats 0 in
theorem PySem.Challenge.cw_foreseehall_k83_whole_forms_and_texts_ar_holds : PySem.Challenge.rw_foreseehall_k83_whole_forms_and_texts_ar.Holds := by
 w_on;o_law;k_head;(case hw=>w_witness2)
 k_fill
 refine T.walkG (j:=36) (l:=PySem.Challenge.rw_foreseehall_k83_whole_forms_and_texts_ar) KC.Y.law_true ⟨rfl,by decide,by decide,rfl⟩ rfl rfl (fun w h Y=>PySem.W.kIn_of Y) ?F
 case F=>
  intro w mg fa h KX G hmg;refine' KC.Y.o_law (.mk (.mk (T.gn KX G ?z0) (T.gn KX G ?z1) (T.gn KX G ?z2) (T.gn KX G ?z3) (T.gn KX G ?z4) (T.gn KX G ?z5) (T.gn KX G ?z6) (T.gn KX G ?z7) (T.gn KX G ?z8) (T.gn KX G ?z9) (T.gn KX G ?z10) (T.gn KX G ?z11) (T.gn KX G ?z12) (T.gt KX G ?e0 ?q0 ?v0) (T.gi KX G ?e1) (T.gt KX G ?e2 ?q2 ?v2) (T.gi KX G ?e3) (T.gi KX G ?e4) (T.g2 KX G ?e5 ?q5 ?u5 ?r5 ?v5) (T.gt KX G ?e6 ?q6 ?v6) (T.gt KX G ?e7 ?q7 ?v7) (T.gt KX G ?e8 ?q8 ?v8) (T.gt KX G ?e9 ?q9 ?v9) (T.gt KX G ?e10 ?q10 ?v10) (T.gt KX G ?e11 ?q11 ?v11) (T.gt KX G ?e12 ?q12 ?v12) (T.gd KX G ?x0 ?y0 ?w0)) (T.ft KX G ?a0 ?l0 ?c0 ?k0) (T.ft KX G ?a1 ?l1 ?c1 ?k1) (T.ft KX G ?a2 ?l2 ?c2 ?k2) (T.ft KX G ?a3 ?l3 ?c3 ?k3) (T.ft KX G ?a4 ?l4 ?c4 ?k4) (T.ft KX G ?a5 ?l5 ?c5 ?k5) (T.ft KX G ?a6 ?l6 ?c6 ?k6) (T.ft KX G ?a7 ?l7 ?c7 ?k7) (T.ft KX G ?a8 ?l8 ?c8 ?k8) (T.ft KX G ?a9 ?l9 ?c9 ?k9) (T.ft KX G ?a10 ?l10 ?c10 ?k10) (T.ft KX G ?a11 ?l11 ?c11 ?k11) (T.ft KX G ?a12 ?l12 ?c12 ?k12) (T.ft KX G ?a13 ?l13 ?c13 ?k13) (T.ft KX G ?a14 ?l14 ?c14 ?k14) (T.ft KX G ?a15 ?l15 ?c15 ?k15) (T.ft KX G ?a16 ?l16 ?c16 ?k16) (T.ft KX G ?a17 ?l17 ?c17 ?k17) (T.ft KX G ?a18 ?l18 ?c18 ?k18) (T.ft KX G ?a19 ?l19 ?c19 ?k19) (T.ft KX G ?a20 ?l20 ?c20 ?k20) (T.ft KX G ?a21 ?l21 ?c21 ?k21) (T.ft KX G ?a22 ?l22 ?c22 ?k22) (T.ft KX G ?a23 ?l23 ?c23 ?k23) (T.ft KX G ?a24 ?l24 ?c24 ?k24) (T.ft KX G ?a25 ?l25 ?c25 ?k25) (T.ft KX G ?a26 ?l26 ?c26 ?k26) (T.ft KX G ?a27 ?l27 ?c27 ?k27) (T.ft KX G ?a28 ?l28 ?c28 ?k28) (T.ft KX G ?a29 ?l29 ?c29 ?k29) (T.ft KX G ?a30 ?l30 ?c30 ?k30) (T.ft KX G ?a31 ?l31 ?c31 ?k31) (T.ft KX G ?a32 ?l32 ?c32 ?k32) (T.ft KX G ?a33 ?l33 ?c33 ?k33) (T.ft KX G ?a34 ?l34 ?c34 ?k34) (T.ft KX G ?a35 ?l35 ?c35 ?k35) (T.ft KX G ?a36 ?l36 ?c36 ?k36) (T.ft KX G ?a37 ?l37 ?c37 ?k37) (T.ft KX G ?a38 ?l38 ?c38 ?k38) (T.ft KX G ?a39 ?l39 ?c39 ?k39) (T.ft KX G ?a40 ?l40 ?c40 ?k40) (T.ft KX G ?a41 ?l41 ?c41 ?k41) (T.ft KX G ?a42 ?l42 ?c42 ?k42) (T.ft KX G ?a43 ?l43 ?c43 ?k43) (T.ft KX G ?a44 ?l44 ?c44 ?k44) (T.ft KX G ?a45 ?l45 ?c45 ?k45) (T.ft KX G ?a46 ?l46 ?c46 ?k46) (T.ft KX G ?a47 ?l47 ?c47 ?k47) (T.ft KX G ?a48 ?l48 ?c48 ?k48) (T.ft KX G ?a49 ?l49 ?c49 ?k49) (T.ft KX G ?a50 ?l50 ?c50 ?k50) (T.ft KX G ?a51 ?l51 ?c51 ?k51)) hmg
  case a0|l0|c0|k0|a1|l1|c1|k1|a2|l2|c2|k2|a3|l3|c3|k3|a4|l4|c4|k4|a5|l5|c5|k5|a6|l6|c6|k6|a7|l7|c7|k7|a8|l8|c8|k8|a9|l9|c9|k9|a10|l10|c10|k10|a11|l11|c11|k11|a12|l12|c12|k12|a13|l13|c13|k13|a14|l14|c14|k14|a15|l15|c15|k15|a16|l16|c16|k16|a17|l17|c17|k17|a18|l18|c18|k18|a19|l19|c19|k19|a20|l20|c20|k20|a21|l21|c21|k21|a22|l22|c22|k22|a23|l23|c23|k23|a24|l24|c24|k24|a25|l25|c25|k25|a26|l26|c26|k26|a27|l27|c27|k27|a28|l28|c28|k28|a29|l29|c29|k29|a30|l30|c30|k30|a31|l31|c31|k31|a32|l32|c32|k32|a33|l33|c33|k33|a34|l34|c34|k34|a35|l35|c35|k35|a36|l36|c36|k36|a37|l37|c37|k37|a38|l38|c38|k38|a39|l39|c39|k39|a40|l40|c40|k40|a41|l41|c41|k41|a42|l42|c42|k42|a43|l43|c43|k43|a44|l44|c44|k44|a45|l45|c45|k45|a46|l46|c46|k46|a47|l47|c47|k47|a48|l48|c48|k48|a49|l49|c49|k49|a50|l50|c50|k50|a51|l51|c51|k51|z0|z1|z2|z3|z4|z5|z6|z7|z8|z9|z10|z11|z12|e0|q0=>k_is
  case v0=>kernel_rfl
  case e1|e2|q2=>k_is
  case v2=>kernel_rfl
  case e3|e4|e5|q5=>k_is
  case u5=>rfl
  case r5=>k_is
  case v5=>kernel_rfl
  case e6|q6=>k_is
  case v6=>kernel_rfl
  case e7|q7=>k_is
  case v7=>kernel_rfl
  case e8|q8=>k_is
  case v8=>kernel_rfl
  case e9|q9=>k_is
  case v9=>kernel_rfl
  case e10|q10=>k_is
  case v10=>kernel_rfl
  case e11|q11=>k_is
  case v11=>kernel_rfl
  case e12|q12=>k_is
  case v12=>kernel_rfl
  case x0|y0=>k_is
  case w0=>kernel_rfl
