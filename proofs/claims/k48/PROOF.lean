import PyProof.Rows.All
import Wide.All
import OpenK.AllK
import Wide.FinOn
import PyProof.EqAt
import PyProof.EqKinds
import PyProof.TupleCall
import PyProof.StrBlockH
import PyProof.StrWalks
import PyProof.StrCalls
import PyProof.SetRoads
import PyProof.DictRoadsH
import Lean
import PySem.Challenge.RW_foreseehall_k48_whole_least_worlds_are_l
open List (mem_append_right getElem?_eq_getElem mem_append_left getD_eq_getElem?_getD length_map getElem?_map mem_cons_of_mem mem_cons_self append_assoc length_set map_map map_cons mem_of_getElem? getElem?_append_right getElem?_append_left getElem?_set_ne length_append getElem_mem getElem?_eq_none size_toArray set_set getElem?_set_self length_cons pairwise_map length_take nodup_nil lookup_cons mem_cons not_mem_nil take_of_length_le all_eq_true nil_append flatten_cons length_range append_nil mem_map map_congr_left mem_range getElem_of_mem ext_getElem? find?_cons length_singleton getElem?_range getElem_map map_inj_right perm_append_comm any_eq_true length_filter_le map_append nodup_range getElem?_replicate getElem?_toArray length_erase_of_mem pairwise_lt_range ext_getElem take_succ contains_iff_mem getElem_range getElem_take drop_eq_nil_of_le drop_eq_getElem_cons take_append_drop mem_erase_of_ne perm_ext_iff_of_nodup foldl_cons cons_append mem_filter)
set_option Elab.async false
set_option linter.all false
set_option maxRecDepth 100000
set_option maxHeartbeats 4000000
set_option maxRecDepth 10000
abbrev Fg:=PySem.W.Frag
abbrev sTm (i:Nat):PySem.Stmt:=(PySem.Challenge.pw_foreseehall_k48_whole_least_worlds_are_l.main.body)[i]!
namespace L2
open PySem PySem.Spec PyProof.Rows
variable {us its:List Value} {a b it:Addr} {o:Obj} {u:Value} {α:Type} {h base:Heap} {g':Array GenState} {t' n:Nat} {d':Drawn} {ch fp:List Addr} {x qual:Str} {e c tg:Expr} {N ps:List Str} {M:Model} {A:Around} {s':Shared} {X:Cx} {t te:TE} {pos:Pos} {pins:List (Addr×Obj)} {σ:St} {K:Fg} {tc:TT} {es:List Expr} {g:Int->Int->Int} {tb:TS} {vs:List V} {ta:TA} {mg:Str->Option Value} {scope:Scope}
abbrev Key:=Sum Int Str
def keyIs:Key->Value->Bool
 | .inl k,v=>Value.isInt k v
 | .inr x,v=>Value.isStrOf x v
def keyH (w:World):Key->Int
 | .inl k=>hashInt k
 | .inr x=>hashStr w x
theorem keyIs_shape:∀{k:Key} {v:Value},keyIs k v=true->(∃i t,k=Sum.inl i/\v=Value.int i t)\/(∃x t,k=Sum.inr x/\v=Value.str x t)
 | .inl i,v,h=>by
  obtain ⟨t,e⟩:=Value.isInt_shape (k:=i) (v:=v) h
  exact .inl ⟨i,t,rfl,e⟩
 | .inr x,v,h=>by
  obtain ⟨t,e⟩:=Value.isStrOf_shape (x:=x) (v:=v) h
  exact .inr ⟨x,t,rfl,e⟩
theorem keyIs_int (i:Int) (t:Tok):keyIs (.inl i) (.int i t)=true:=by simp [keyIs,Value.isInt]
theorem keyIs_str (x:Str) (t:Tok):keyIs (.inr x) (.str x t)=true:=by simp [keyIs,Value.isStrOf]
theorem key_ll (a b:Int):decide ((Sum.inl a:Key)=Sum.inl b)=(a==b):=by
 by_cases e:a=b
 ·subst e;simp
 ·have h:¬(Sum.inl a:Key)=Sum.inl b:=fun q=>e (Sum.inl.inj q)
  rw [decide_eq_false h]
  exact (beq_eq_false_iff_ne.mpr e).symm
theorem key_rr (a b:Str):decide ((Sum.inr a:Key)=Sum.inr b)=decide (a=b):=by
 by_cases e:a=b
 ·subst e;simp
 ·have h:¬(Sum.inr a:Key)=Sum.inr b:=fun q=>e (Sum.inr.inj q)
  rw [decide_eq_false h,decide_eq_false e]
theorem key_lr (a:Int) (b:Str):decide ((Sum.inl a:Key)=Sum.inr b)=false:=decide_eq_false (fun q=>nomatch q)
theorem key_rl (a:Str) (b:Int):decide ((Sum.inr a:Key)=Sum.inl b)=false:=decide_eq_false (fun q=>nomatch q)
def mixKind (prog:Program) (w:World):PySem.KeyKind prog w Key where
 is:=keyIs
 hash:=keyH w
 inj:=fun v a b ha hb=>by
  rcases keyIs_shape ha with ⟨i,t,rfl,rfl⟩ | ⟨x,t,rfl,rfl⟩
  ·rcases keyIs_shape hb with ⟨j,u,rfl,e⟩ | ⟨y,u,rfl,e⟩
   ·injection e with e1 _;rw [e1]
   ·exact nomatch e
  ·rcases keyIs_shape hb with ⟨j,u,rfl,e⟩ | ⟨y,u,rfl,e⟩
   ·exact nomatch e
   ·injection e with e1 _;rw [e1]
 byValue:=fun k v h=>by
  rcases keyIs_shape h with ⟨i,t,rfl,rfl⟩ | ⟨x,t,rfl,rfl⟩<;>rfl
 pyHash:=fun hv h=>by
  rcases keyIs_shape hv with ⟨i,t,rfl,rfl⟩ | ⟨x,t,rfl,rfl⟩
  ·exact wpAny_pyHash_int h
  ·exact wpAny_pyHash_str h
 eqBool:=fun hu hv h=>by
  rcases keyIs_shape hu with ⟨i,t,rfl,rfl⟩ | ⟨x,t,rfl,rfl⟩
  ·rcases keyIs_shape hv with ⟨j,u,rfl,rfl⟩ | ⟨y,u,rfl,rfl⟩
   ·rw [key_ll] at h;exact wpAny_eqBool_int h
   ·rw [key_lr] at h;exact SeqAt.EqAt.int_str i t y u _ _ _ _ h
  ·rcases keyIs_shape hv with ⟨j,u,rfl,rfl⟩ | ⟨y,u,rfl,rfl⟩
   ·rw [key_rl] at h;exact SeqAt.EqAt.str_int x t j u _ _ _ _ h
   ·rw [key_rr] at h;exact wpAny_eqBool_str h
 «strs»:=fun k x t v h=>by
  rcases keyIs_shape h with ⟨i,u,rfl,e⟩ | ⟨y,u,rfl,e⟩
  ·exact nomatch e
  ·injection e with e1 _
   subst e1
   cases v<;>rfl
theorem mixKind_int (prog:Program) (w:World) (i:Int) (t:Tok):(mixKind prog w).is (.inl i) (.int i t)=true:=keyIs_int i t
theorem mixKind_str (prog:Program) (w:World) (x:Str) (t:Tok):(mixKind prog w).is (.inr x) (.str x t)=true:=keyIs_str x t
inductive V where
 | non | bl (b:Bool) | int (i:Int) | str (x:Str) | byt (b:Array UInt8) | flt (b:UInt64) | ref (a:Addr) | ty (n:String)
 deriving DecidableEq
def RelV:V->Value->Prop
 | .non,u=>u=Value.none
 | .bl b,u=>u=Value.bool b
 | .int i,u=>∃t,u=Value.int i t
 | .str x,u=>∃t,u=Value.str x t
 | .byt b,u=>∃t,u=Value.bytes b t
 | .flt b,u=>∃t,u=Value.float b t
 | .ref a,u=>u=Value.ref a
 | .ty n,u=>u=Value.type n
abbrev Vals:List V->List Value->Prop:=Paired RelV
theorem Vals.length {xs:List V} (r:Vals xs us):xs.length=us.length:=Paired.length r
theorem Vals.get:∀{xs:List V} {us:List Value} {i:Nat} {x:V},Vals xs us->xs[i]?=some x->∃u,us[i]?=some u/\RelV x u
 | _,_,_,_,.nil,e=>by simp at e
 | _,_,0,_,.cons r _,e=>by simp at e;subst e;exact ⟨_,rfl,r⟩
 | _,_,i+1,x,.cons _ t,e=>by
  obtain ⟨u,h1,h2⟩:=Vals.get (i:=i) (x:=x) t (by simpa using e)
  exact ⟨u,by simpa using h1,h2⟩
theorem Vals.append:∀{xs ys:List V} {us ws:List Value},Vals xs us->Vals ys ws->Vals (xs++ys) (us++ws)
 | _,_,_,_,.nil,s=>s
 | _,_,_,_,.cons r t,s=>.cons r (Vals.append t s)
theorem Vals.take:∀{xs:List V} {us:List Value} (n:Nat),Vals xs us->Vals (xs.take n) (us.take n)
 | _,_,0,_=>.nil
 | _,_,_+1,.nil=>.nil
 | _,_,n+1,.cons r t=>.cons r (Vals.take n t)
theorem Vals.drop:∀{xs:List V} {us:List Value} (n:Nat),Vals xs us->Vals (xs.drop n) (us.drop n)
 | _,_,0,r=>r
 | _,_,_+1,.nil=>.nil
 | _,_,n+1,.cons _ t=>Vals.drop n t
def RelO:Option V->Option Value->Prop
 | some v,some u=>RelV v u
 | none,none=>True
 | _,_=>False
def KV {κ:Type}:List (κ×V)->List (κ×Value)->Prop:=Paired fun (p:κ×V) (q:κ×Value)=>p.1=q.1/\RelV p.2 q.2
def kV:Key->V
 | .inl i=>.int i
 | .inr x=>.str x
inductive HO where
 | lst (xs:List V)
 | tup (xs:List V)
 | dK (kvs:List (Key×V)) | dT (kvs:List (List Key×V))
 | set (S:Int->Bool) (n:Nat)
 | ins (C dx:Addr) (fs:List (Str×V))
 | own (x:Addr)
 | xd (fs:List (Str×V))
 | met (f x:Addr)
 | rng (lo hi:Int)
 | frz (o:Obj) (u:HO)
 | tbl (ps:Array Value)
 | ext (φ:Heap->Prop)
abbrev Hp:=Addr->Option HO
def upd (H:Hp) (a:Addr) (o:HO):Hp:=fun b=>if b=a then some o else H b
theorem upd_same {H:Hp} {o:HO}:upd H a o a=some o:=by unfold upd;rw [if_pos rfl]
theorem upd_ne {H:Hp} {o:HO} (h:b≠a):upd H a o b=H b:=by unfold upd;rw [if_neg h]
theorem ne_of {H:Hp} {o u:HO} (h:H a=some o) (h':H b=some u) (d:o≠u):a≠b:=by
 intro e;subst e;rw [h] at h';exact d (Option.some.inj h')
theorem ne_of_none {H:Hp} {o:HO} (h:H a=some o) (h':H b=none):a≠b:=by
 intro e;subst e;rw [h] at h';cases h'
section
variable (P:Program) (w:World)
def ObjOk (H:Hp) (h:Heap) (a:Addr):HO->Prop
 | .lst xs=>xs.length<=sizeLine/\∃(its:List Value) (n:Nat),Vals xs its/\h.get? a=some { cls:=.type "list",data:=.seq its.toArray n }
 | .tup xs=>xs.length<=sizeLine/\∃its:List Value,Vals xs its/\IsTup h a its.toArray
 | .dK kvs=>kvs.length<=sizeLine/\(a==sysModules)=false/\∃vs,KV kvs vs/\h.DictOf (mixKind P w) a vs
 | .dT kvs=>kvs.length<=sizeLine/\(a==sysModules)=false/\∃xs:List (List Key×Addr×Value),
   Paired (fun (p:List Key×V) (q:List Key×Addr×Value)=>p.1=q.1/\H q.2.1=some (.tup (p.1.map kV))/\RelV p.2 q.2.2) kvs xs /\
   ∃o es ep,h.get? a=some o/\o.ExactDict/\o.data=.dict es ep/\es.toList=xs.map (entryOfKey (tupleKind (mixKind P w)))/\(xs.map (·.1)).Nodup
 | .set S n=>h.SetOf (intKind P w) a S n
 | .ins C dx fs=>H dx=some (.own a)/\fs.length<=1000/\dx≠a/\h.get? a=some (PySem.W.instObj C dx) /\
   ∃mA,h.Ns1 dx mA/\(∀f,RelO (fs.lookup f) (mA f))/\PySem.Within mA (fs.map (·.1))
 | .own _=>∃o,h.get? a=some o
 | .xd fs=>∃mA,h.Ns1 a mA/\∀f,RelO (fs.lookup f) (mA f)
 | .rng lo hi=>∃t u v,h.get? a=some { cls:=.type "range",data:=.fields #[.int lo t,.int hi u,.int 1 v] }
 | .frz o u=>h.get? a=some o/\ObjOk H h a u
 | .tbl ps=>h.get? a=some { cls:=.none,data:=.fields ps }
 | .met f x=>h.get? a=some (PySem.W.methodObj (.ref f) (.ref x))
 | .ext φ=>φ h/\(∃o,h.get? a=some o)/\∀h1 h2:Heap,φ h1->(∀o,h1.get? a=some o->h2.get? a=some o)->φ h2
def HOk (H:Hp) (h:Heap):Prop:=∀a o,H a=some o->ObjOk P w H h a o
end
section
variable {P:Program} {w:World} {H H':Hp} {h h':Heap} {a:Addr} {o:HO}
theorem ObjOk.lt (x:ObjOk P w H h a o):a<h.objs.size:=by
 cases o with
 | lst xs=>obtain ⟨_,_,_,_,e⟩:=x;exact Heap.lt_size e
 | tup xs=>obtain ⟨_,_,_,p⟩:=x;exact p.lt
 | dK kvs=>obtain ⟨_,_,_,_,o,_,_,e,_⟩:=x;exact Heap.lt_size e
 | dT kvs=>obtain ⟨_,_,_,_,o,_,_,e,_⟩:=x;exact Heap.lt_size e
 | set S n=>obtain ⟨o,_,_,_,e,_⟩:=x;exact Heap.lt_size e
 | ins C dx fs=>obtain ⟨_,_,_,e,_⟩:=x;exact Heap.lt_size e
 | own y=>obtain ⟨_,e⟩:=x;exact Heap.lt_size e
 | xd fs=>obtain ⟨_,⟨_,_,_,e,_⟩,_⟩:=x;exact Heap.lt_size e
 | rng lo hi=>obtain ⟨_,_,_,e⟩:=x;exact Heap.lt_size e
 | frz ob u=>obtain ⟨e,_⟩:=x;exact Heap.lt_size e
 | tbl ps=>exact Heap.lt_size (show h.get? a=some _ from x)
 | met f y=>exact Heap.lt_size (show h.get? a=some _ from x)
 | ext φ=>obtain ⟨_,⟨_,e⟩,_⟩:=x;exact Heap.lt_size e
theorem Paired.mapP {β:Type} {F G:α->β->Prop}:∀{l₁:List α} {l₂:List β},Paired F l₁ l₂->(∀a b,F a b->G a b)->Paired G l₁ l₂
 | _,_,.nil,_=>.nil
 | _,_,.cons r t,f=>.cons (f _ _ r) (Paired.mapP t f)
theorem ObjOk.stay (x:ObjOk P w H h a o) (k:∀b u,(b=a\/H b=some (.own a))->h.get? b=some u->h'.get? b=some u)
  (ho:∀b,H b=some (.own a)->H' b=some (.own a)) (ht:∀b xs,H b=some (.tup xs)->H' b=some (.tup xs)):ObjOk P w H' h' a o:=by
 induction o with
 | lst xs=>obtain ⟨z,its,n,r,e⟩:=x;exact ⟨z,its,n,r,k _ _ (.inl rfl) e⟩
 | tup xs=>obtain ⟨z,its,r,ob,e,c⟩:=x;exact ⟨z,its,r,ob,k _ _ (.inl rfl) e,c⟩
 | dK kvs=>obtain ⟨z,y,vs,r,ob,es,ep,e,c⟩:=x;exact ⟨z,y,vs,r,ob,es,ep,k _ _ (.inl rfl) e,c⟩
 | dT kvs=>
  obtain ⟨z,y,xs,r,ob,es,ep,e,c⟩:=x
  exact ⟨z,y,xs,Paired.mapP r fun p q z=>⟨z.1,ht _ _ z.2.1,z.2.2⟩,ob,es,ep,k _ _ (.inl rfl) e,c⟩
 | set S n=>obtain ⟨ob,es,ep,t,e,c⟩:=x;exact ⟨ob,es,ep,t,k _ _ (.inl rfl) e,c⟩
 | ins C dx fs=>
  obtain ⟨d,z,ne,e,mA,⟨od,es,ep,e2,c⟩,r⟩:=x
  exact ⟨ho _ d,z,ne,k _ _ (.inl rfl) e,mA,⟨od,es,ep,k _ _ (.inr d) e2,c⟩,r⟩
 | own y=>obtain ⟨ob,e⟩:=x;exact ⟨ob,k _ _ (.inl rfl) e⟩
 | xd fs=>obtain ⟨mA,⟨od,es,ep,e,c⟩,r⟩:=x;exact ⟨mA,⟨od,es,ep,k _ _ (.inl rfl) e,c⟩,r⟩
 | rng lo hi=>obtain ⟨t,u,v,e⟩:=x;exact ⟨t,u,v,k _ _ (.inl rfl) e⟩
 | frz ob u ih=>obtain ⟨e,q⟩:=x;exact ⟨k _ _ (.inl rfl) e,ih q⟩
 | tbl ps=>
  have e:h.get? a=some { cls:=.none,data:=.fields ps }:=x
  show h'.get? a=some { cls:=.none,data:=.fields ps }
  exact k a _ (.inl rfl) e
 | met f y=>
  have e:h.get? a=some (PySem.W.methodObj (.ref f) (.ref y)):=x
  show h'.get? a=some (PySem.W.methodObj (.ref f) (.ref y))
  exact k a _ (.inl rfl) e
 | ext φ=>obtain ⟨p,⟨o,e⟩,st⟩:=x;exact ⟨st _ _ p fun o q=>k _ _ (.inl rfl) q,⟨o,k _ _ (.inl rfl) e⟩,st⟩
theorem HOk.lt (x:HOk P w H h) (e:H a=some o):a<h.objs.size:=(x a o e).lt
theorem HOk.fresh (x:HOk P w H h) (e:h.objs.size<=a):H a=none:=by
 cases q:H a with
 | none=>rfl
 | some u=>exact absurd (Nat.lt_of_lt_of_le (x.lt q) e) (Nat.lt_irrefl _)
theorem HOk.kept (x:HOk P w H h) (k:∀b u,h.get? b=some u->h'.get? b=some u):HOk P w H h':=fun a o e=>
 (x a o e).stay (fun b u _ q=>k b u q) (fun _ q=>q) fun _ _ q=>q
theorem HOk.laid (x:HOk P w H h) (k:∀b u,h.get? b=some u->h'.get? b=some u) (hp:h.objs.size<=a) (new:ObjOk P w (upd H a o) h' a o):HOk P w (upd H a o) h':=fun b u e=>by
 have hn:=x.fresh hp
 by_cases hb:b=a
 ·subst hb;rw [upd_same] at e;cases e;exact new
 ·rw [upd_ne hb] at e
  exact (x b u e).stay (fun c v _ q=>k c v q) (fun c q=>by rw [upd_ne (ne_of_none q hn)];exact q) fun c xs q=>by rw [upd_ne (ne_of_none q hn)];exact q
end
def Rd (H:Hp) (a:Addr) (u:HO):Prop:=H a=some u\/∃o,H a=some (.frz o u)
theorem Rd.ok {P:Program} {w:World} {H:Hp} {u:HO} (r:Rd H a u) (x:HOk P w H h):ObjOk P w H h a u:=by
 rcases r with r | ⟨o,r⟩
 ·exact x a u r
 ·obtain ⟨_,q⟩:=x a _ r
  exact q
def Mut:Option HO->Prop
 | some (.lst _)=>True
 | some (.dK _)=>True
 | some (.dT _)=>True
 | some (.set _ _)=>True
 | some (.ins _ _ _)=>True
 | some (.ext _)=>True
 | _=>False
section
variable {P:Program} {w:World} {H:Hp} {h h':Heap} {x e:Addr} {o':HO}
theorem HOk.write (ok:HOk P w H h) (mu:Mut (H x)) (he:e=x\/H e=some (.own x)) (k:∀b u,b≠e->h.get? b=some u->h'.get? b=some u) (heo:∃u,h'.get? e=some u)
  (new:ObjOk P w (upd H x o') h' x o'):HOk P w (upd H x o') h':=fun b u q=>by
 have nown:∀c y,H c=some (.own y)->c≠x:=fun c y r z=>by subst z;rw [r] at mu;exact mu
 have ntup:∀c xs,H c=some (.tup xs)->c≠x:=fun c xs r z=>by subst z;rw [r] at mu;exact mu
 by_cases hb:b=x
 ·subst hb;rw [upd_same] at q;cases q;exact new
 ·rw [upd_ne hb] at q
  by_cases hbe:b=e
  ·have q':H b=some (.own x):=by
    rcases he with z | z
    ·exact absurd (hbe.trans z) hb
    ·rw [hbe];exact z
   rw [q] at q';cases q'
   obtain ⟨v,hv⟩:=heo
   exact ⟨v,by rw [hbe];exact hv⟩
  ·refine (ok b u q).stay (fun c v hc r=>k c v ?_ r) (fun c r=>by rw [upd_ne (nown c b r)];exact r) fun c xs r=>by rw [upd_ne (ntup c xs r)];exact r
   rcases hc with rfl | hc
   ·exact hbe
   ·rintro rfl
    rcases he with z | z
    ·exact nown c b hc z
    ·rw [hc] at z;cases z;exact hb rfl
end
structure Un (fs ex:List Addr) (H H':Hp) (h h':Heap):Prop where
 keep:∀b o,h.get? b=some o->H b=none->b∉fs->b∉ex->h'.get? b=some o
 slot:∀b o,h.get? b=some o->H b=none->b∈fs->b∉ex->∃sl,h'.get? b=some { o with slots:=sl }
 free:∀b o,h.get? b=some o->H b=none->b∉ex->H' b=none
 there:∀b o,h.get? b=some o->b∉ex->∃o',h'.get? b=some o'
 tups:∀b xs,H b=some (.tup xs)->H' b=some (.tup xs)
 frzs:∀b o u,H b=some (.frz o u)->H' b=some (.frz o u)
 tbls:∀b ps,H b=some (.tbl ps)->∃more,H' b=some (.tbl (ps++more))
section
variable {fs fs' ex ex':List Addr} {H H1 H2:Hp} {h h1 h2 h':Heap} {a x e:Addr} {o:HO}
theorem Un.any (u:Un fs ex H H1 h h1) {ob:Obj} (q:h.get? b=some ob) (n:H b=none) (hx:b∉ex):∃sl,h1.get? b=some { ob with slots:=sl }:=by
 by_cases hb:b∈fs
 ·exact u.slot b ob q n hb hx
 ·exact ⟨ob.slots,u.keep b ob q n hb hx⟩
theorem Un.kept (k:∀b u,h.get? b=some u->h'.get? b=some u):Un fs ex H H h h':=
 ⟨fun b ob q _ _ _=>k b ob q,fun b ob q _ _ _=>⟨ob.slots,k b ob q⟩,fun _ _ _ n _=>n,fun b ob q _=>⟨ob,k b ob q⟩,fun _ _ q=>q,fun _ _ _ q=>q,fun _ ps q=>⟨#[],by rw [q];simp⟩⟩
theorem Un.refl:Un fs ex H H h h:=Un.kept fun _ _ q=>q
theorem Un.laid (k:∀b u,h.get? b=some u->h'.get? b=some u) (hp:h.objs.size<=a) (hn:H a=none):Un fs ex H (upd H a o) h h' where
 keep:=fun b u q _ _ _=>k b u q
 slot:=fun b u q _ _ _=>⟨u.slots,k b u q⟩
 free:=fun b u q n _=>by rw [upd_ne (Nat.ne_of_lt (Nat.lt_of_lt_of_le (Heap.lt_size q) hp))];exact n
 there:=fun b u q _=>⟨u,k b u q⟩
 tups:=fun b xs q=>by rw [upd_ne (ne_of_none q hn)];exact q
 frzs:=fun b u xs q=>by rw [upd_ne (ne_of_none q hn)];exact q
 tbls:=fun b ps q=>⟨#[],by rw [upd_ne (ne_of_none q hn),q];simp⟩
theorem Un.write (mu:Mut (H x)) (he:e=x\/H e=some (.own x)) (k:∀b u,b≠e->h.get? b=some u->h'.get? b=some u) (heo:∃u,h'.get? e=some u):Un fs ex H (upd H x o) h h':=by
 have hx:∀b,H b=none->b≠x:=fun b n z=>by subst z;rw [n] at mu;exact mu
 have hb:∀b,H b=none->b≠e:=fun b n z=>by
  subst z
  rcases he with r | r
  ·exact hx b n r
  ·rw [n] at r;cases r
 have hm:∀b u,H b=some u->¬Mut (some u)->b≠x:=fun b u q nm z=>by subst z;rw [q] at mu;exact nm mu
 refine ⟨fun b u q n _ _=>k b u (hb b n) q,fun b u q n _ _=>⟨u.slots,k b u (hb b n) q⟩,fun b u q n _=>by rw [upd_ne (hx b n)];exact n,fun b u q _=>?_,
  fun b xs q=>by rw [upd_ne (hm b _ q fun z=>z)];exact q,fun b u xs q=>by rw [upd_ne (hm b _ q fun z=>z)];exact q,fun b ps q=>⟨#[],by rw [upd_ne (hm b _ q fun z=>z),q];simp⟩⟩
 by_cases hbe:b=e
 ·subst hbe;exact heo
 ·exact ⟨u,k b u hbe q⟩
end
def trk (h:Heap) (H:Hp):List Addr:=(List.range h.objs.size).filter fun a=>(H a).isSome
def hidT (h:Heap) (H:Hp):Heap:=PySem.W.hideAll h (trk h H)
theorem hidT_size (h:Heap) (H:Hp):(hidT h H).objs.size=h.objs.size:=PySem.W.hideAll_size _ _
theorem hidT_get {H:Hp} (e:h.get? b=some o) (n:H b=none):(hidT h H).get? b=some o:=
 PySem.W.hideAll_get _ e fun hm=>by
  have q:(H b).isSome=true:=(List.mem_filter.mp hm).2
  rw [n] at q;simp at q
theorem of_hidT {H:Hp} (e:(hidT h H).get? b=some o):h.get? b=some o/\H b=none:=by
 have e':h.get? b=some o:=PySem.W.of_hideAll (trk h H) e
 refine ⟨e',?_⟩
 cases q:H b with
 | none=>rfl
 | some x=>
  have hm:b∈trk h H:=List.mem_filter.mpr ⟨List.mem_range.mpr (Heap.lt_size e'),by simp [q]⟩
  have z:(hidT h H).get? b=none:=PySem.W.hideAll_none (trk h H) hm
  rw [z] at e;cases e
structure Mod (K:Fg) (mg:Str->Option Value) (base:Heap):Prop where
 kin:K.In base
 glob:base.Ns mainGlobals mg
 blt:∃mb,base.Ns builtinsNs mb/\∀x:Str,x ≠ "__name__"->mb x=bootBuiltins x
 nolimit:base.NoLimit
structure Cx where
 prog:Program
 w:World
 K:Fg
 mg:Str->Option Value
 base:Heap
 A:Around
 N:List Str
 s₀:Shared
 H₀:Hp
 env:Env
 outer:List Env
 stack:List Env
 ex:List Addr
 fn:Str->Bool
 calm:Bool
 pn:List (Addr×Obj)
 xe:Value->Shared->Prop
def frs (l:List Env):List Addr:=l.filterMap (·.frame)
abbrev Cx.fs (X:Cx):List Addr:=frs X.outer
def Vis (sc:Scope) (x:Str):Prop:=sc.names.lookup x=some .local\/sc.names.lookup x=some .cell\/sc.names.lookup x=some .free
def Loc (sc:Scope) (x:Str):Prop:=sc.names.lookup x=some .local\/sc.names.lookup x=some .cell
def Look (env:Env) (h:Heap) (m:Str->Option Value) (x:Str) (u:Value):Prop:=
 (env.kindOf x=some .local/\m x=some u)\/((env.kindOf x=some .cell\/env.kindOf x=some .free)/\∃c,env.cells.lookup x=some c/\h.IsCell c (some u))
structure Cx.Ok (X:Cx):Prop where
 mod:Mod X.K X.mg X.base
 kind:X.env.scope.kind=.function
 glob:X.env.globals=mainGlobals
 blt:X.env.builtins=builtinsNs
 above:X.s₀.heap.objs.size<=X.env.locals
 inj:∀x y c,X.env.cells.lookup x=some c->X.env.cells.lookup y=some c->x=y
 has:∀x,(X.env.kindOf x=some .cell\/X.env.kindOf x=some .free)->∃c,X.env.cells.lookup x=some c
 cab:∀x c,X.fn x=true->X.env.cells.lookup x=some c->X.s₀.heap.objs.size<=c
 hd:X.calm=true->X.A.handled=none
 frames:X.A.frames=some X.stack
 stk:X.stack=X.outer\/(X.stack=X.env::X.outer/\X.env.frame=some X.env.locals)
 exf:∀b∈X.ex,b≠X.env.locals/\∀x c,X.env.cells.lookup x=some c->c≠b
 bs:∀b o,X.base.get? b=some o->X.s₀.heap.get? b=some o/\X.H₀ b=none
 bsz:X.base.objs.size<=X.s₀.heap.objs.size
 noex:∀b o,X.base.get? b=some o->b∉X.ex
 exfs:∀b∈X.ex,b∉X.fs
 funs:X.s₀.heap.FunFrames X.base X.outer
 frf:∀b∈X.fs,X.H₀ b=none
structure Inv (X:Cx) (pins:List (Addr×Obj)) (σ:List (Option V)) (H:Hp) (s:Shared):Prop where
 ok:X.Ok
 os:s.os=X.s₀.os
 bare:AllBare s.gens
 base:Un X.fs X.ex X.H₀ H X.s₀.heap s.heap
 loc:∃m,s.heap.Ns X.env.locals m/\∀(i:Nat) (x:Str) (v:V),X.N[i]?=some x->σ[i]?=some (some v)->Vis X.env.scope x->∃u,RelV v u/\Look X.env s.heap m x u
 cell:∀x c,X.env.cells.lookup x=some c->∃v,s.heap.IsCell c v
 free:H X.env.locals=none
 freeC:∀x c,X.env.cells.lookup x=some c->H c=none
 pin:∀p∈X.pn++pins,s.heap.get? p.1=some p.2/\H p.1=none/\p.1≠X.env.locals/\p.1∉X.fs/\∀v,p.2.data≠.cell v
 hok:HOk X.prog X.w H s.heap
 len:σ.length=X.N.length
section
variable {X:Cx} {pins:List (Addr×Obj)} {σ:List (Option V)} {H H':Hp} {s:Shared} {h':Heap}
theorem Cx.Ok.nofr (ok:X.Ok) (e:X.base.get? b=some o):b∉X.fs:=fun hb=>by
 have:=(ok.funs.mem hb).1
 rw [e] at this;cases this
theorem Inv.bs (I:Inv X pins σ H s):∀b o,X.base.get? b=some o->s.heap.get? b=some o/\H b=none:=fun b o e=>
 ⟨I.base.keep b o (I.ok.bs b o e).1 (I.ok.bs b o e).2 (I.ok.nofr e) (I.ok.noex b o e),I.base.free b o (I.ok.bs b o e).1 (I.ok.bs b o e).2 (I.ok.noex b o e)⟩
theorem Inv.bk (I:Inv X pins σ H s):∀b o,X.base.get? b=some o->s.heap.get? b=some o:=fun b o e=>(I.bs b o e).1
theorem Inv.mod (I:Inv X pins σ H s):Mod X.K X.mg X.base:=I.ok.mod
theorem Inv.kIn (I:Inv X pins σ H s):X.K.In s.heap:=I.ok.mod.kin.keeps I.bk
theorem Inv.lt (I:Inv X pins σ H s):X.env.locals<s.heap.objs.size:=let ⟨_,hn,_⟩:=I.loc;hn.lt
theorem Inv.sz (I:Inv X pins σ H s):X.s₀.heap.objs.size<=s.heap.objs.size:=Nat.le_trans I.ok.above (Nat.le_of_lt I.lt)
theorem Inv.nofs (I:Inv X pins σ H s) (h:s.heap.objs.size<=a):a∉X.fs:=fun hb=>by
 obtain ⟨_,o,ho,_⟩:=I.ok.funs.mem hb
 exact absurd (Nat.lt_of_lt_of_le (Heap.lt_size ho) (Nat.le_trans I.sz h)) (Nat.lt_irrefl _)
theorem Inv.cne (I:Inv X pins σ H s):∀x c,X.env.cells.lookup x=some c->c≠X.env.locals:=fun x c e z=>by
 obtain ⟨v,o,ho,hd⟩:=I.cell x c e
 obtain ⟨m,⟨o',es,ep,ho',hd',_⟩,_⟩:=I.loc
 rw [z,ho'] at ho;cases ho;rw [hd'] at hd;cases hd
theorem Inv.funs (I:Inv X pins σ H s):s.heap.FunFrames X.base X.outer:=by
 have all:∀(l:List Env),(∀b∈frs l,b∈X.fs)->X.s₀.heap.FunFrames X.base l->s.heap.FunFrames X.base l:=by
  intro l
  induction l with
  | nil=>intro _ _;trivial
  | cons env r ih=>
   intro hs hl
   obtain ⟨hk,⟨L,o,hf,hn,ho,hd⟩,hr⟩:=hl
   have hL:L∈X.fs:=hs L (by unfold frs;rw [List.filterMap_cons,hf];exact mem_cons_self)
   obtain ⟨sl,e⟩:=I.base.slot L o ho (I.ok.frf L hL) hL fun z=>I.ok.exfs L z hL
   exact ⟨hk,⟨L,_,hf,hn,e,hd⟩,ih (fun b hb=>hs b (by unfold frs;rw [List.filterMap_cons,hf];exact mem_cons_of_mem _ hb)) hr⟩
 exact all X.outer (fun _ hb=>hb) I.ok.funs
theorem Inv.stack (I:Inv X pins σ H s):s.heap.FunFrames X.base X.stack:=by
 rcases I.ok.stk with e | ⟨e,hf⟩
 ·rw [e];exact I.funs
 ·rw [e]
  obtain ⟨m,hn,_⟩:=I.loc
  refine .cons (by rw [I.ok.kind];decide) hf hn ?_ I.funs
  exact Heap.get?_none_of_le (Nat.le_trans I.ok.bsz I.ok.above)
theorem Inv.stkSub (I:Inv X pins σ H s):∀b∈frs X.stack,b∈X.env.locals::X.fs:=fun b hb=>by
 rcases I.ok.stk with e | ⟨e,hf⟩
 ·rw [e] at hb;exact mem_cons_of_mem _ hb
 ·rw [e] at hb
  unfold frs at hb
  rw [List.filterMap_cons,hf] at hb
  exact hb
theorem Inv.stkFree (I:Inv X pins σ H s):∀b∈frs X.stack,H b=none:=fun b hb=>by
 rcases List.mem_cons.mp (I.stkSub b hb) with e | hb
 ·rw [e];exact I.free
 ·obtain ⟨_,o,ho,_⟩:=I.ok.funs.mem hb
  exact I.base.free b o ho (I.ok.frf b hb) fun z=>I.ok.exfs b z hb
theorem Inv.step (I:Inv X pins σ H s)
  (hch:∀b∈ch,(b∈X.ex\/X.s₀.heap.objs.size<=b)/\b≠X.env.locals/\(∀x c,X.env.cells.lookup x=some c->c≠b)/\∀p∈X.pn++pins,p.1≠b)
  (keep:∀b o,b≠X.env.locals->b∉X.fs->b∉ch->s.heap.get? b=some o->H b=none->h'.get? b=some o)
  (slot:∀b o,b≠X.env.locals->b∈X.fs->b∉ch->s.heap.get? b=some o->H b=none->∃sl,h'.get? b=some { o with slots:=sl }) (free:∀b o,b∉ch->s.heap.get? b=some o->H b=none->H' b=none)
  (there:∀b o,b∉ch->s.heap.get? b=some o->∃o',h'.get? b=some o')
  (tups:∀b xs,H b=some (.tup xs)->H' b=some (.tup xs)) (frzs:∀b o u,H b=some (.frz o u)->H' b=some (.frz o u)) (tbls:∀b ps,H b=some (.tbl ps)->∃more,H' b=some (.tbl (ps++more)))
  (ns:∀m,s.heap.Ns X.env.locals m->h'.Ns X.env.locals m) (hok:HOk X.prog X.w H' h') (hg:AllBare g') :
  Inv X pins σ H' { s with heap:=h',gens:=g',drawn:=d',toks:=t' }:=by
 have neL:∀b o,X.s₀.heap.get? b=some o->b≠X.env.locals:=fun b o e=>Nat.ne_of_lt (Nat.lt_of_lt_of_le (Heap.lt_size e) I.ok.above)
 have neC:∀b o,X.s₀.heap.get? b=some o->b∉X.ex->b∉ch:=fun b o e hx hb=>by
  rcases (hch b hb).1 with z | z
  ·exact hx z
  ·exact absurd (Nat.lt_of_lt_of_le (Heap.lt_size e) z) (Nat.lt_irrefl _)
 have cellK:∀x c,X.env.cells.lookup x=some c->∀v,s.heap.IsCell c v->h'.IsCell c v:=fun x c e v ⟨o,ho,hd⟩=>by
  have nch:c∉ch:=fun z=>(hch c z).2.2.1 x c e rfl
  by_cases hc:c∈X.fs
  ·obtain ⟨sl,q⟩:=slot c o (I.cne x c e) hc nch ho (I.freeC x c e)
   exact ⟨_,q,hd⟩
  ·exact ⟨o,keep c o (I.cne x c e) hc nch ho (I.freeC x c e),hd⟩
 refine ⟨I.ok,I.os,hg,⟨fun b o e n hb hx=>?_,fun b o e n hb hx=>?_,fun b o e n hx=>?_,fun b o e hx=>?_,fun b xs e=>tups b xs (I.base.tups b xs e),fun b o xs e=>frzs b o xs (I.base.frzs b o xs e),fun b ps e=>?_⟩,?_,fun x c e=>?_,?_,fun x c e=>?_,fun p hp=>?_,hok,I.len⟩
 ·exact keep b o (neL b o e) hb (neC b o e hx) (I.base.keep b o e n hb hx) (I.base.free b o e n hx)
 ·obtain ⟨sl,e1⟩:=I.base.slot b o e n hb hx
  obtain ⟨sl',e2⟩:=slot b _ (neL b o e) hb (neC b o e hx) e1 (I.base.free b o e n hx)
  exact ⟨sl',e2⟩
 ·obtain ⟨o',e1⟩:=I.base.there b o e hx
  exact free b o' (neC b o e hx) e1 (I.base.free b o e n hx)
 ·obtain ⟨o',e1⟩:=I.base.there b o e hx
  exact there b o' (neC b o e hx) e1
 ·obtain ⟨m1,e1⟩:=I.base.tbls b ps e
  obtain ⟨m2,e2⟩:=tbls b _ e1
  exact ⟨m1++m2,by rw [e2,Array.append_assoc]⟩
 ·obtain ⟨m,hn,hl⟩:=I.loc
  refine ⟨m,ns m hn,fun i x v e1 e2 e3=>?_⟩
  obtain ⟨u,r,l⟩:=hl i x v e1 e2 e3
  refine ⟨u,r,?_⟩
  rcases l with l | ⟨k,c,e,z⟩
  ·exact .inl l
  ·exact .inr ⟨k,c,e,cellK x c e _ z⟩
 ·obtain ⟨v,z⟩:=I.cell x c e
  exact ⟨v,cellK x c e v z⟩
 ·obtain ⟨m,⟨o,_,_,ho,_⟩,_⟩:=I.loc
  exact free _ o (fun z=>(hch _ z).2.1 rfl) ho I.free
 ·obtain ⟨v,o,ho,hd⟩:=I.cell x c e
  exact free c o (fun z=>(hch c z).2.2.1 x c e rfl) ho (I.freeC x c e)
 ·obtain ⟨e,n,ne,nf,d⟩:=I.pin p hp
  have nch:p.1∉ch:=fun z=>(hch p.1 z).2.2.2 p hp rfl
  exact ⟨keep p.1 p.2 ne nf nch e n,free p.1 p.2 nch e n,ne,nf,d⟩
theorem Inv.un (I:Inv X pins σ H s) (u:Un X.fs [] H H' s.heap h') (hok:HOk X.prog X.w H' h'):Inv X pins σ H' { s with heap:=h',toks:=t' }:=by
 obtain ⟨m,⟨o,es,ep,ho,r⟩,_⟩:=id I.loc
 obtain ⟨sl,hL⟩:=u.any ho I.free (by simp)
 exact I.step (g':=s.gens) (d':=s.drawn) (ch:=[]) (fun _ z=>nomatch z) (fun b o _ hb _ e n=>u.keep b o e n hb (by simp)) (fun b o _ hb _ e n=>u.slot b o e n hb (by simp)) (fun b o _ e n=>u.free b o e n (by simp)) (fun b o _ e=>u.there b o e (by simp)) u.tups u.frzs u.tbls (fun m' hm=>by
  obtain ⟨o',es',ep',ho',r'⟩:=hm
  rw [ho] at ho';cases ho'
  exact ⟨_,es',ep',hL,r'⟩) hok I.bare
theorem Inv.call (I:Inv X pins σ H s) (u:Un (frs X.stack) ch H H' s.heap h') (hok:HOk X.prog X.w H' h') (hg:AllBare g')
  (hch:∀b∈ch,(b∈X.ex\/X.s₀.heap.objs.size<=b)/\b≠X.env.locals/\(∀x c,X.env.cells.lookup x=some c->c≠b)/\∀p∈X.pn++pins,p.1≠b) :
  Inv X pins σ H' { s with heap:=h',gens:=g',drawn:=d',toks:=t' }:=by
 obtain ⟨m,⟨o,es,ep,ho,r⟩,_⟩:=id I.loc
 obtain ⟨sl,hL⟩:=u.any ho I.free fun z=>(hch _ z).2.1 rfl
 exact I.step (ch:=ch) hch (fun b o hL hb hc e n=>u.keep b o e n (fun z=>(List.mem_cons.mp (I.stkSub b z)).elim hL hb) hc) (fun b o _ _ hc e n=>u.any e n hc) (fun b o hc e n=>u.free b o e n hc) (fun b o hc e=>u.there b o e hc) u.tups u.frzs u.tbls (fun m' hm=>by
  obtain ⟨o',es',ep',ho',r'⟩:=hm
  rw [ho] at ho';cases ho'
  exact ⟨_,es',ep',hL,r'⟩) hok hg
theorem Inv.turned (I:Inv X pins σ H s) (k:∀b o,b≠it->s.heap.get? b=some o->h'.get? b=some o) (hn:H it=none) (hL:it≠X.env.locals)
  (h1:it∈X.ex\/X.s₀.heap.objs.size<=it) (h2:∀x c,X.env.cells.lookup x=some c->c≠it) (h3:∀p∈X.pn++pins,p.1≠it):Inv X pins σ H { s with heap:=h',toks:=t' }:=by
 have nit:∀b u,H b=some u->b≠it:=fun b u e z=>by rw [z,hn] at e;cases e
 refine I.step (g':=s.gens) (d':=s.drawn) (ch:=[it]) (fun b hb=>?_) (fun b o _ _ hc e _=>k b o (fun z=>hc (by simp [z])) e) (fun b o _ _ hc e _=>⟨o.slots,k b o (fun z=>hc (by simp [z])) e⟩) (fun _ _ _ _ n=>n)
  (fun b o hc e=>⟨o,k b o (fun z=>hc (by simp [z])) e⟩) (fun _ _ e=>e) (fun _ _ _ e=>e) (fun b ps e=>⟨#[],by rw [e];simp⟩) (fun m hm=>?_) (fun b u e=>?_) I.bare
 ·have e:b=it:=by simpa using hb
  subst e
  exact ⟨h1,hL,h2,h3⟩
 ·obtain ⟨o,es,ep,ho,r⟩:=hm
  exact ⟨o,es,ep,k _ o (Ne.symm hL) ho,r⟩
 ·refine (I.hok b u e).stay (fun c v hc q=>k c v ?_ q) (fun _ q=>q) fun _ _ q=>q
  rcases hc with z | z
  ·rw [z];exact nit b u e
  ·exact nit c _ z
theorem Inv.tok (I:Inv X pins σ H s) (t:Nat):Inv X pins σ H { s with toks:=t }:=I.un (h':=s.heap) (t':=t) Un.refl I.hok
theorem Inv.kept (I:Inv X pins σ H s) (k:∀b u,s.heap.get? b=some u->h'.get? b=some u):Inv X pins σ H { s with heap:=h',toks:=t' }:=I.un (Un.kept k) (I.hok.kept k)
theorem Inv.laid {o:HO} (I:Inv X pins σ H s) (k:∀b u,s.heap.get? b=some u->h'.get? b=some u) (hp:s.heap.objs.size<=a) (new:ObjOk X.prog X.w (upd H a o) h' a o) :
  Inv X pins σ (upd H a o) { s with heap:=h',toks:=t' }:=I.un (Un.laid k hp (I.hok.fresh hp)) (I.hok.laid k hp new)
theorem Inv.write {x e:Addr} {o:HO} (I:Inv X pins σ H s) (mu:Mut (H x)) (he:e=x\/H e=some (.own x)) (k:∀b u,b≠e->s.heap.get? b=some u->h'.get? b=some u) (heo:∃u,h'.get? e=some u)
  (new:ObjOk X.prog X.w (upd H x o) h' x o):Inv X pins σ (upd H x o) { s with heap:=h',toks:=t' }:=I.un (Un.write mu he k heo) (I.hok.write mu he k heo new)
theorem Inv.weak {σ':List (Option V)} (I:Inv X pins σ H s) (hl:σ'.length=σ.length) (w:∀(i:Nat) v,σ'[i]?=some (some v)->σ[i]?=some (some v)):Inv X pins σ' H s:=
 ⟨I.ok,I.os,I.bare,I.base,let ⟨m,hn,hl'⟩:=I.loc;⟨m,hn,fun i x v e1 e2 e3=>hl' i x v e1 (w i v e2) e3⟩,I.cell,I.free,I.freeC,I.pin,I.hok,hl.trans I.len⟩
theorem Inv.pins_of {pins':List (Addr×Obj)} (I:Inv X pins σ H s) (h:∀p∈pins',s.heap.get? p.1=some p.2/\H p.1=none/\p.1≠X.env.locals/\p.1∉X.fs/\∀v,p.2.data≠.cell v):Inv X pins' σ H s:=
 ⟨I.ok,I.os,I.bare,I.base,I.loc,I.cell,I.free,I.freeC,fun p hp=>(List.mem_append.mp hp).elim (fun z=>I.pin p (mem_append_left _ z)) (h p),I.hok,I.len⟩
theorem nodup_ix (hN:N.Nodup) {i j:Nat} (a:N[i]?=some x) (b:N[j]?=some x):i=j:=by
 obtain ⟨h1,e1⟩:=List.getElem?_eq_some_iff.mp a
 obtain ⟨h2,e2⟩:=List.getElem?_eq_some_iff.mp b
 exact (List.getElem_inj hN).mp (e1.trans e2.symm)
theorem store_ok2 {E:Value->Shared->Prop} {i:Nat} {v:V} {Q:Unit->Shared->Prop} (I:Inv X pins σ H s) (hN:X.N.Nodup) (hi:X.N[i]?=some x) (hx:Loc X.env.scope x) (r:RelV v u)
  (h:∀s',Inv X pins (σ.set i (some v)) H s'->(∃a,Heap.SameBut a s.heap s'.heap/\(a=X.env.locals\/X.env.cells.lookup x=some a))->Q () s') (hf:X.fn x=true\/X.env.scope.names.lookup x=some .local:=by first | exact .inl rfl | exact .inr rfl | assumption):wpAny M A (storeName X.env x u) Q E s:=by
 obtain ⟨m,hn,hl⟩:=id I.loc
 have hcls:(X.env.scope.kind==.class||(X.env.scope.kind==.module&&X.env.locals != X.env.globals))=false:=by rw [I.ok.kind];rfl
 have hiσ:i<σ.length:=by rw [I.len];exact (List.getElem?_eq_some_iff.mp hi).1
 have cne:=I.cne
 have tracked:∀{a:Addr} {h':Heap},(∃o,s.heap.get? a=some o/\H a=none)->Heap.SameBut a s.heap h'->HOk X.prog X.w H h':=fun {a h'} ha hs b ob e=>by
  obtain ⟨_,_,hfree⟩:=ha
  refine (I.hok b ob e).stay (fun c w' hc q=>(hs.2 c ?_).trans q) (fun _ q=>q) fun _ _ q=>q
  rintro rfl
  rcases hc with rfl | hc
  ·rw [hfree] at e;cases e
  ·rw [hfree] at hc;cases hc
 rcases hx with hk | hk
 ·refine wpAny_storeName_local hk hn (fun h' hn' hs=>?_) hcls
  obtain ⟨oL,_,_,hoL,_⟩:=id hn
  refine h _ ⟨I.ok,I.os,I.bare,⟨fun b o e n hb hx=>?_,fun b o e n hb hx=>?_,I.base.free,fun b o e hx=>?_,I.base.tups,I.base.frzs,I.base.tbls⟩,⟨_,hn',fun j y v' e1 e2 e3=>?_⟩,fun y c e=>?_,I.free,I.freeC,fun p hp=>?_,tracked ⟨oL,hoL,I.free⟩ hs,by simpa using I.len⟩ ⟨_,hs,.inl rfl⟩
  ·exact (hs.2 b (Nat.ne_of_lt (Nat.lt_of_lt_of_le (Heap.lt_size e) I.ok.above))).trans (I.base.keep b o e n hb hx)
  ·obtain ⟨sl,e1⟩:=I.base.slot b o e n hb hx
   exact ⟨sl,(hs.2 b (Nat.ne_of_lt (Nat.lt_of_lt_of_le (Heap.lt_size e) I.ok.above))).trans e1⟩
  ·obtain ⟨o',e1⟩:=I.base.there b o e hx
   exact ⟨o',(hs.2 b (Nat.ne_of_lt (Nat.lt_of_lt_of_le (Heap.lt_size e) I.ok.above))).trans e1⟩
  ·by_cases hj:j=i
   ·subst hj
    rw [hi] at e1;cases e1
    rw [getElem?_set_self hiσ] at e2
    cases e2
    exact ⟨u,r,.inl ⟨hk,by simp⟩⟩
   ·rw [getElem?_set_ne (Ne.symm hj)] at e2
    obtain ⟨u',r',q⟩:=hl j y v' e1 e2 e3
    refine ⟨u',r',?_⟩
    rcases q with ⟨k,e⟩ | ⟨k,c,e,z⟩
    ·refine .inl ⟨k,?_⟩
     have:y≠x:=fun e=>hj (nodup_ix hN e1 (e▸hi))
     simp [this,e]
    ·exact .inr ⟨k,c,e,z.sameBut hs (cne y c e)⟩
  ·obtain ⟨w',z⟩:=I.cell y c e
   exact ⟨w',z.sameBut hs (cne y c e)⟩
  ·obtain ⟨e,n,ne,nf,d⟩:=I.pin p hp
   exact ⟨(hs.2 p.1 ne).trans e,n,ne,nf,d⟩
 ·have hfn:X.fn x=true:=by
   rcases hf with z | z
   ·exact z
   ·rw [z] at hk;cases hk
  obtain ⟨c,hc⟩:=I.ok.has x (.inl hk)
  obtain ⟨w',z⟩:=I.cell x c hc
  refine wpAny_storeName_cell I.ok.kind hk hc z (fun h' hc' hs=>?_)
  obtain ⟨oc,hoc,hocd⟩:=id z
  refine h { s with heap:=h' } ⟨I.ok,I.os,I.bare,⟨fun b o e n hb hx=>?_,fun b o e n hb hx=>?_,I.base.free,fun b o e hx=>?_,I.base.tups,I.base.frzs,I.base.tbls⟩,⟨m,hn.sameBut hs (Ne.symm (cne x c hc)),fun j y v' e1 e2 e3=>?_⟩,fun y c' e=>?_,I.free,I.freeC,fun p hp=>?_,tracked ⟨oc,hoc,I.freeC x c hc⟩ hs,by simpa using I.len⟩ ⟨c,hs,.inr hc⟩
  ·exact (hs.2 b (Nat.ne_of_lt (Nat.lt_of_lt_of_le (Heap.lt_size e) (I.ok.cab x c hfn hc)))).trans (I.base.keep b o e n hb hx)
  ·obtain ⟨sl,e1⟩:=I.base.slot b o e n hb hx
   exact ⟨sl,(hs.2 b (Nat.ne_of_lt (Nat.lt_of_lt_of_le (Heap.lt_size e) (I.ok.cab x c hfn hc)))).trans e1⟩
  ·obtain ⟨o',e1⟩:=I.base.there b o e hx
   exact ⟨o',(hs.2 b (Nat.ne_of_lt (Nat.lt_of_lt_of_le (Heap.lt_size e) (I.ok.cab x c hfn hc)))).trans e1⟩
  ·by_cases hj:j=i
   ·subst hj
    rw [hi] at e1;cases e1
    rw [getElem?_set_self hiσ] at e2
    cases e2
    exact ⟨u,r,.inr ⟨.inl hk,c,hc,hc'⟩⟩
   ·rw [getElem?_set_ne (Ne.symm hj)] at e2
    obtain ⟨u',r',q⟩:=hl j y v' e1 e2 e3
    refine ⟨u',r',?_⟩
    rcases q with q | ⟨k,c',e,z'⟩
    ·exact .inl q
    ·refine .inr ⟨k,c',e,z'.sameBut hs ?_⟩
     rintro rfl
     exact hj (nodup_ix hN e1 (I.ok.inj _ _ _ e hc▸hi))
  ·by_cases hcc:c'=c
   ·subst hcc;exact ⟨_,hc'⟩
   ·obtain ⟨w2,z2⟩:=I.cell y c' e
    exact ⟨w2,z2.sameBut hs hcc⟩
  ·obtain ⟨e,n,ne,nf,d⟩:=I.pin p hp
   refine ⟨(hs.2 p.1 ?_).trans e,n,ne,nf,d⟩
   intro q
   rw [q,hoc] at e
   have q':oc=p.2:=Option.some.inj e
   exact d w' (by rw [<-q'];exact hocd)
theorem store_ok {E:Value->Shared->Prop} {i:Nat} {v:V} {Q:Unit->Shared->Prop} (I:Inv X pins σ H s) (hN:X.N.Nodup) (hi:X.N[i]?=some x) (hx:Loc X.env.scope x) (r:RelV v u)
  (h:∀s',Inv X pins (σ.set i (some v)) H s'->Q () s') (hf:X.fn x=true\/X.env.scope.names.lookup x=some .local:=by first | exact .inl rfl | exact .inr rfl | assumption):wpAny M A (storeName X.env x u) Q E s:=
 store_ok2 I hN hi hx r (fun s' I' _=>h s' I') hf
theorem Inv.call' (I:Inv X pins σ H s) (ho:s'.os=s.os) (u:Un (frs X.stack) ch H H' s.heap s'.heap) (hok:HOk X.prog X.w H' s'.heap) (hg:AllBare s'.gens)
  (hch:∀b∈ch,(b∈X.ex\/X.s₀.heap.objs.size<=b)/\b≠X.env.locals/\(∀x c,X.env.cells.lookup x=some c->c≠b)/\∀p∈X.pn++pins,p.1≠b):Inv X pins σ H' s':=by
 obtain ⟨h',g',d',t',o'⟩:=s'
 have e:o'=s.os:=ho
 subst e
 exact I.call (g':=g') (t':=t') (d':=d') u hok hg hch
end
abbrev XK:=Value->Option Addr->Hp->Prop
abbrev St:=List (Option V)
abbrev VK:=V->Hp->Prop
abbrev TE:=St->Hp->VK->Prop
abbrev TT:=St->Hp->(Bool->Hp->Prop)->Prop
abbrev TA:=St->Hp->(List V->Hp->Prop)->Prop
structure Ends where
 nx:St->Hp->Prop
 rt:VK
 bk:St->Hp->Prop:=fun _ _=>False
 ct:St->Hp->Prop:=fun _ _=>False
abbrev TS:=Ends->St->Hp->Prop
def EP (X:Cx) (pins:List (Addr×Obj)) (σ:St) (Q:VK) (u:Value) (s':Shared):Prop:=∃v H',Inv X pins σ H' s'/\RelV v u/\Q v H'
def TP (X:Cx) (pins:List (Addr×Obj)) (σ:St) (Q:Bool->Hp->Prop) (b:Bool) (s':Shared):Prop:=∃H',Inv X pins σ H' s'/\Q b H'
def AP (X:Cx) (pins:List (Addr×Obj)) (σ:St) (Q:List V->Hp->Prop) (us:List Value) (s':Shared):Prop:=∃vs H',Inv X pins σ H' s'/\Vals vs us/\Q vs H'
def SP (X:Cx) (pins:List (Addr×Obj)) (D:Ends) (f:Flow) (s':Shared):Prop:=
 match f with
 | .next=>∃σ' H',Inv X pins σ' H' s'/\D.nx σ' H'
 | .brk=>∃σ' H',Inv X pins σ' H' s'/\D.bk σ' H'
 | .cont=>∃σ' H',Inv X pins σ' H' s'/\D.ct σ' H'
 | .ret u=>∃v σ' H',Inv X pins σ' H' s'/\RelV v u/\D.rt v H'
def PE (X:Cx) (e:Expr) (t:TE):Prop:=
 ∀(pins:List (Addr×Obj)) (s:Shared) (σ:St) (H:Hp) (Q:VK),Inv X pins σ H s->t σ H Q->wpAny (model X.prog X.w) X.A (eval e X.env) (EP X pins σ Q) X.xe s
def PT (X:Cx) (e:Expr) (t:TT):Prop:=
 ∀(pins:List (Addr×Obj)) (s:Shared) (σ:St) (H:Hp) (Q:Bool->Hp->Prop),Inv X pins σ H s->t σ H Q->wpAny (model X.prog X.w) X.A (isTrue e X.env (eval e X.env)) (TP X pins σ Q) X.xe s
def PW (X:Cx) (e:Expr) (t:TT):Prop:=
 ∀(whole:Sem Value) (pins:List (Addr×Obj)) (s:Shared) (σ:St) (H:Hp) (Q:Bool->Hp->Prop),Inv X pins σ H s->t σ H Q->wpAny (model X.prog X.w) X.A (isTrue e X.env whole) (TP X pins σ Q) X.xe s
theorem PW.pt {t:TT} (h:PW X e t):PT X e t:=h _
def PA (X:Cx) (es:List Expr) (t:TA):Prop:=
 ∀(pos:Pos) (pins:List (Addr×Obj)) (s:Shared) (σ:St) (H:Hp) (Q:List V->Hp->Prop),Inv X pins σ H s->t σ H Q->wpAny (model X.prog X.w) X.A (spliced (backTo pos (starEach es X.env))) (AP X pins σ Q) X.xe s
def PS (X:Cx) (st:Stmt) (t:TS):Prop:=
 ∀(pins:List (Addr×Obj)) (s:Shared) (σ:St) (H:Hp) (D:Ends),Inv X pins σ H s->t D σ H->wpAny (model X.prog X.w) X.A (exec st X.env) (SP X pins D) X.xe s
def PSs (X:Cx) (st:List Stmt) (t:TS):Prop:=
 ∀(pins:List (Addr×Obj)) (s:Shared) (σ:St) (H:Hp) (D:Ends),Inv X pins σ H s->t D σ H->wpAny (model X.prog X.w) X.A (execs st X.env) (SP X pins D) X.xe s
theorem thn {t:Sem α} {Q Q':α->Shared->Prop} {E:Value->Shared->Prop} {s:Shared} (h:wpAny M A t Q E s) (hQ:∀a s,Q a s->Q' a s):wpAny M A t Q' E s:=wpAny_mono h hQ fun _ _ x=>x
section
variable {X:Cx}
def tVar (i:Nat):TE:=fun σ H Q=>∃v,σ[i]?=some (some v)/\Q v H
def tC (v:V):TE:=fun _ H Q=>Q v H
theorem pe_var {i:Nat} (hN:X.N[i]?=some x) (hv:Vis X.env.scope x) (hd:(x==("__debug__":Str))=false:=by decide) (hcd:(x==("__classdict__":Str))=false:=by decide):PE X (.Name x pos) (tVar i):=by
 intro pins s σ H Q I h
 obtain ⟨v,e,h⟩:=h
 obtain ⟨m,hn,hl⟩:=I.loc
 obtain ⟨u,r,l⟩:=hl i x v hN e hv
 have fin:EP X pins σ Q u s:=⟨v,H,I,r,h⟩
 rcases l with ⟨hk,hm⟩ | ⟨hk,c,hc,hcell⟩
 ·exact wpAny_Name (wpAny_loadName_local I.ok.kind hk hn hm fin) hd
 ·rcases hk with hk | hk
  ·exact wpAny_Name (wpAny_loadName_cell I.ok.kind hk hc hcell fin) hd
  ·exact wpAny_Name (wpAny_loadName_free I.ok.kind hk hc hcell fin hcd) hd
theorem pe_int {i j pos}:PE X (.Constant (.int i) j pos) (tC (.int i)):=fun _ _ _ H _ I h=>wpAny_Constant_int ⟨.int i,H,I.tok _,⟨_,rfl⟩,h⟩
theorem pe_bl {b j pos}:PE X (.Constant (.bool b) j pos) (tC (.bl b)):=fun _ _ _ H _ I h=>Constant_bool ⟨.bl b,H,I,rfl,h⟩
theorem pe_str {x j pos}:PE X (.Constant (.str x) j pos) (tC (.str x)):=fun _ _ _ H _ I h=>Calls.Constant_str ⟨.str x,H,I.tok _,⟨_,rfl⟩,h⟩
def Gl (X:Cx) (x:Str):Prop:=X.env.kindOf x=some .globalImplicit
theorem ld_glob {E:Value->Shared->Prop} {s:Shared} {H:Hp} {Q:Value->Shared->Prop} (I:Inv X pins σ H s) (hg:Gl X x) (hm:X.mg x=some u) (h:Q u s)
  (hd:(x==("__debug__":Str))=false:=by decide):wpAny (model X.prog X.w) X.A (eval (.Name x pos) X.env) Q E s:=
 Calls.Name_function_global I.ok.kind hg (Calls.loadGlobal_global (by rw [I.ok.glob];exact I.mod.glob.keeps I.bk) hm h) hd
theorem ld_blt {E:Value->Shared->Prop} {s:Shared} {H:Hp} {Q:Value->Shared->Prop} (I:Inv X pins σ H s) (hg:Gl X x) (hm:X.mg x=none) (hv:bootBuiltins x=some u) (h:Q u s)
  (hn:x ≠ "__name__":=by decide) (hd:(x==("__debug__":Str))=false:=by decide):wpAny (model X.prog X.w) X.A (eval (.Name x pos) X.env) Q E s:=by
 obtain ⟨mb,h1,h2⟩:=I.mod.blt
 exact Calls.Name_function_global I.ok.kind hg (Calls.loadGlobal_builtin (by rw [I.ok.glob];exact I.mod.glob.keeps I.bk) hm (by rw [I.ok.blt];exact h1.keeps I.bk) ((h2 x hn).trans hv) h) hd
theorem pe_glob {v:V} (hg:Gl X x) (hm:X.mg x=some u) (r:RelV v u) (hd:(x==("__debug__":Str))=false:=by decide):PE X (.Name x pos) (tC v):=
 fun _ _ _ H _ I h=>ld_glob I hg hm ⟨v,H,I,r,h⟩ hd
variable {a b:Expr} {ta tb:TE} {pos:Pos}
def PC (X:Cx) (op:CmpOp) (a b:Expr) (t:TE):Prop:=
 ∀(pins:List (Addr×Obj)) (s:Shared) (σ:St) (H:Hp) (Q:VK),Inv X pins σ H s->t σ H Q ->
  wpAny (model X.prog X.w) X.A (eval a X.env) (fun v s₁=>wpAny (model X.prog X.w) X.A (eval b X.env) (fun u s₂=>wpAny (model X.prog X.w) X.A (compareOp op v u) (EP X pins σ Q) X.xe s₂) X.xe s₁) X.xe s
def tB (t:TE):TT:=fun σ H Q=>t σ H fun x H1=>∃c,x=.bl c/\Q c H1
theorem pt_cmp {op:CmpOp} (h:PC X op a b t) (h1:behindInMarks op b=false:=by first | exact nobehind _ (by decide) (by decide) | rfl):PT X (.Compare a [op] [b] pos) (tB t):=by
 intro pins s σ H Q I hw
 refine wpAny_isTrue_Compare1 (thn (h pins s σ H _ I hw) fun v s1 h1=>thn h1 fun u s2 h2=>thn h2 fun c s3 ⟨x,H1,I1,r1,q1⟩=>?_) h1
 obtain ⟨d,rfl,q⟩:=q1
 cases r1
 exact wpAny_truthy_bool ⟨H1,I1,q⟩
variable {tA tB':TT} {rest:List Expr}
def tOr (t u:TT):TT:=fun σ H Q=>t σ H fun c H1=>if c=true then Q true H1 else u σ H1 Q
def tNot (t:TT):TT:=fun σ H Q=>t σ H fun c H1=>Q (!c) H1
theorem pw_or1 (ha:PT X a tA):PW X (.BoolOp .Or [a] pos) tA:=by
 intro wh pins s σ H Q I h
 refine isTrue_or (thn (ha pins s σ H Q I h) fun c s1 e=>?_)
 cases c with
 | false=>exact isTrue_or_nil e
 | true=>exact e
theorem pw_or (ha:PT X a tA) (hb:PW X (.BoolOp .Or (b::rest) pos) tB'):PW X (.BoolOp .Or (a::b::rest) pos) (tOr tA tB'):=by
 intro wh pins s σ H Q I h
 refine isTrue_or (thn (ha pins s σ H _ I h) fun c s1 ⟨H1,I1,q1⟩=>?_)
 cases c with
 | true=>exact ⟨H1,I1,q1⟩
 | false=>exact hb wh pins s1 σ H1 Q I1 q1
theorem pt_not (ha:PT X a tA):PT X (.UnaryOp .Not a pos) (tNot tA):=by
 intro pins s σ H Q I h
 exact isTrue_not (ha pins s σ H (fun c H1=>Q (!c) H1) I h)
def tAndV (ta tb:TE):TE:=fun σ H Q=>ta σ H fun x H1=>∃c,x=.bl c/\if c=true then tb σ H1 Q else Q (.bl false) H1
theorem pe_one {op} (h:PE X a t):PE X (.BoolOp op [a] pos) t:=fun pins s σ H Q I hw=>BoolOp_one (h pins s σ H Q I hw)
theorem pe_and (ha:PE X a ta) (hb:PE X (.BoolOp .And (b::rest) pos) tb):PE X (.BoolOp .And (a::b::rest) pos) (tAndV ta tb):=by
 intro pins s σ H Q I h
 refine BoolOp_and (thn (ha pins s σ H _ I h) fun v s1 ⟨x,H1,I1,r1,q1⟩=>?_)
 obtain ⟨c,rfl,q1⟩:=q1
 cases r1
 refine wpAny_truthy_bool ?_
 cases c with
 | true=>exact hb pins s1 σ H1 Q I1 q1
 | false=>exact ⟨.bl false,H1,I1,rfl,q1⟩
def tIf (t:TT) (ta tb:TE):TE:=fun σ H Q=>t σ H fun c H1=>if c=true then ta σ H1 Q else tb σ H1 Q
theorem pe_ifExp (hc:PT X c tA) (ha:PE X a ta) (hb:PE X b tb):PE X (.IfExp c a b pos) (tIf tA ta tb):=by
 intro pins s σ H Q I h
 refine wpAny_IfExp (thn (hc pins s σ H _ I h) fun d s1 ⟨H1,I1,q1⟩=>?_)
 cases d with
 | true=>exact ha pins s1 σ H1 Q I1 q1
 | false=>exact hb pins s1 σ H1 Q I1 q1
end
def SqL (K:Fg) (H:Hp) (a:Addr) (xs:List V):Prop:=
 Rd H a (.lst xs) \/
  ∃(o:Obj) (its:Array Value) (n:Nat),K.lookup a=some o/\o.cls=.type "list"/\o.dict=none/\o.data=.seq its n/\its.size<=sizeLine/\Vals xs its.toList
def SqT (K:Fg) (H:Hp) (a:Addr) (xs:List V):Prop:=
 Rd H a (.tup xs) \/
  ∃(o:Obj) (its:Array Value) (n:Nat),K.lookup a=some o/\o.cls=.type "tuple"/\o.data=.seq its n/\its.size<=sizeLine/\Vals xs its.toList
def absV:Value->Option V
 | .none=>some .non
 | .bool b=>some (.bl b)
 | .int i _=>some (.int i)
 | .str x _=>some (.str x)
 | .bytes b _=>some (.byt b)
 | .float b _=>some (.flt b)
 | .ref a=>some (.ref a)
 | .type n=>some (.ty n)
 | _=>none
theorem RelV.abs {x:V} (r:RelV x u):absV u=some x:=by
 cases x with
 | non=>cases r;rfl
 | bl _=>cases r;rfl
 | int _=>obtain ⟨t,rfl⟩:=r;rfl
 | str _=>obtain ⟨t,rfl⟩:=r;rfl
 | byt _=>obtain ⟨t,rfl⟩:=r;rfl
 | flt _=>obtain ⟨t,rfl⟩:=r;rfl
 | ref _=>cases r;rfl
 | ty _=>cases r;rfl
theorem RelV.inj {x y:V} (r:RelV x u) (q:RelV y u):x=y:=Option.some.inj (r.abs.symm.trans q.abs)
theorem Vals.inj:∀{xs ys:List V} {us:List Value},Vals xs us->Vals ys us->xs=ys
 | _,_,_,.nil,.nil=>rfl
 | _,_,_,.cons r t,.cons r' t'=>by rw [r.inj r',Vals.inj t t']
section
variable {X:Cx} {pins:List (Addr×Obj)} {σ:St} {H:Hp} {s:Shared} {a:Addr} {xs ys:List V}
theorem SqL.of (h:H a=some (.lst xs)):SqL K H a xs:=.inl (.inl h)
theorem SqT.of (h:H a=some (.tup xs)):SqT K H a xs:=.inl (.inl h)
theorem Inv.list (I:Inv X pins σ H s) (h:SqL X.K H a xs):∃its:List Value,Vals xs its/\PlainL s.heap a its.toArray/\xs.length<=sizeLine:=by
 rcases h with h | ⟨o,its,n,hk,hc,hd,hs,hz,r⟩
 ·obtain ⟨z,its,n,r,e⟩:=h.ok I.hok
  exact ⟨its,r,⟨_,n,e,rfl,rfl,rfl⟩,z⟩
 ·refine ⟨its.toList,r,⟨o,n,I.kIn a o hk,hc,hd,by simpa using hs⟩,?_⟩
  have e:=r.length
  simp only [Array.length_toList] at e
  omega
theorem Inv.tuple (I:Inv X pins σ H s) (h:SqT X.K H a xs):∃its:List Value,Vals xs its/\IsTup s.heap a its.toArray/\xs.length<=sizeLine:=by
 rcases h with h | ⟨o,its,n,hk,hc,hs,hz,r⟩
 ·obtain ⟨z,its,r,p⟩:=h.ok I.hok
  exact ⟨its,r,p,z⟩
 ·refine ⟨its.toList,r,⟨o,I.kIn a o hk,hc,n,by simpa using hs⟩,?_⟩
  have e:=r.length
  simp only [Array.length_toList] at e
  omega
theorem Inv.list_inj (I:Inv X pins σ H s) (h:SqL X.K H a xs) (h':SqL X.K H a ys):xs=ys:=by
 obtain ⟨its,r,⟨o,n,e,_,_,d⟩,_⟩:=I.list h
 obtain ⟨its',r',⟨o',n',e',_,_,d'⟩,_⟩:=I.list h'
 rw [e] at e';cases e'
 rw [d] at d'
 injection d' with d1 _
 have:its=its':=by simpa using congrArg Array.toList d1
 subst this
 exact r.inj r'
end
abbrev Cx.wish (X:Cx) (E:Value->Shared->Prop):Cx:={ X with xe:=E }
abbrev Cx.nox (X:Cx):Cx:=X.wish fun _ _=>False
theorem Cx.Ok.wish (ok:X.Ok) (E:Value->Shared->Prop):(X.wish E).Ok:=
 ⟨ok.mod,ok.kind,ok.glob,ok.blt,ok.above,ok.inj,ok.has,ok.cab,ok.hd,ok.frames,ok.stk,ok.exf,ok.bs,ok.bsz,ok.noex,ok.exfs,ok.funs,ok.frf⟩
theorem Cx.Ok.unwish {E:Value->Shared->Prop} (ok:(X.wish E).Ok):X.Ok:=
 ⟨ok.mod,ok.kind,ok.glob,ok.blt,ok.above,ok.inj,ok.has,ok.cab,ok.hd,ok.frames,ok.stk,ok.exf,ok.bs,ok.bsz,ok.noex,ok.exfs,ok.funs,ok.frf⟩
section
variable {X:Cx} {pins:List (Addr×Obj)} {σ:St} {H:Hp} {s:Shared} {E:Value->Shared->Prop}
theorem Inv.wish (I:Inv X pins σ H s) (E:Value->Shared->Prop):Inv (X.wish E) pins σ H s:=⟨I.ok.wish E,I.os,I.bare,I.base,I.loc,I.cell,I.free,I.freeC,I.pin,I.hok,I.len⟩
theorem Inv.unwish (I:Inv (X.wish E) pins σ H s):Inv X pins σ H s:=⟨I.ok.unwish,I.os,I.bare,I.base,I.loc,I.cell,I.free,I.freeC,I.pin,I.hok,I.len⟩
theorem SP.unwish {D:Ends} {f:Flow} (h:SP (X.wish E) pins D f s'):SP X pins D f s':=by
 cases f with
 | next=>obtain ⟨σ',H',I,q⟩:=h;exact ⟨σ',H',I.unwish,q⟩
 | brk=>obtain ⟨σ',H',I,q⟩:=h;exact ⟨σ',H',I.unwish,q⟩
 | cont=>obtain ⟨σ',H',I,q⟩:=h;exact ⟨σ',H',I.unwish,q⟩
 | ret u=>obtain ⟨v,σ',H',I,r,q⟩:=h;exact ⟨v,σ',H',I.unwish,r,q⟩
theorem PSs.nox {st:List Stmt} {t:TS} (h:PSs X.nox st t):PSs X st t:=fun pins s σ H D I hw=>
 wpAny_mono (h pins s σ H D (I.wish _) hw) (fun _ _ q=>q.unwish) fun _ _ z=>False.elim z
end
section
variable {X:Cx} {st:Stmt} {rest:List Stmt} {t u:TS} {e:Expr} {te:TE} {pos:Pos}
def tNext:TS:=fun D σ H=>D.nx σ H
def tSeq (t u:TS):TS:=fun D σ H=>t { D with nx:=u D } σ H
theorem pss_nil:PSs X [] tNext:=fun _ _ σ H _ I h=>wpAny_execs_nil ⟨σ,H,I,h⟩
theorem pss_cons (h1:PS X st t) (h2:PSs X rest u):PSs X (st::rest) (tSeq t u):=by
 intro pins s σ H D I h
 refine wpAny_execs_cons (thn (h1 pins s σ H { D with nx:=u D } I h) fun f s1 q=>?_)
 cases f with
 | next=>
  obtain ⟨σ',H',I',q⟩:=q
  exact h2 pins s1 σ' H' D I' q
 | ret v=>exact q
 | brk=>exact q
 | cont=>exact q
theorem pss_one (h1:PS X st t):PSs X [st] t:=by
 intro pins s σ H D I h
 refine wpAny_execs_cons (thn (h1 pins s σ H D I h) fun f s1 q=>?_)
 cases f with
 | next=>exact wpAny_execs_nil q
 | ret v=>exact q
 | brk=>exact q
 | cont=>exact q
theorem Inv.quiet {H:Hp} {s:Shared} (I:Inv X pins σ H s):interactive X.env=false:=by simp [interactive,I.ok.kind]
def tDrop (te:TE):TS:=fun D σ H=>te σ H fun _ H1=>D.nx σ H1
theorem ps_expr (he:PE X e te) (hs:swapsWith e none pos.line X.env=pure false:=by rfl):PS X (.Expr e pos) (tDrop te):=by
 intro pins s σ H D I h
 exact wpAny_Expr_any (thn (he pins s σ H _ I h) fun v s1 ⟨x,H1,I1,r1,q1⟩=>⟨σ,H1,I1,q1⟩) I.quiet hs
def tRet (te:TE):TS:=fun D σ H=>te σ H D.rt
theorem ps_ret (he:PE X e te):PS X (.Return (some e) pos) (tRet te):=by
 intro pins s σ H D I h
 exact wpAny_Return_some (thn (he pins s σ H _ I h) fun v s1 ⟨x,H1,I1,r1,q1⟩=>⟨x,σ,H1,I1,r1,q1⟩)
def tIfS (c:TT) (t u:TS):TS:=fun D σ H=>c σ H fun b H1=>if b=true then t D σ H1 else u D σ H1
theorem ps_if {a b:List Stmt} (hc:PT X c tc) (ha:PSs X a t) (hb:PSs X b u):PS X (.If c a b pos) (tIfS tc t u):=by
 intro pins s σ H D I h
 refine wpAny_If (thn (hc pins s σ H _ I h) fun d s1 ⟨H1,I1,q1⟩=>?_)
 cases d with
 | true=>exact ha pins s1 σ H1 D I1 q1
 | false=>exact hb pins s1 σ H1 D I1 q1
end
abbrev TG:=V->St->Hp->(St->Hp->Prop)->Prop
abbrev TGs:=List V->St->Hp->(St->Hp->Prop)->Prop
def PG (X:Cx) (target:Expr) (t:TG):Prop:=
 ∀(pins:List (Addr×Obj)) (s:Shared) (σ:St) (H:Hp) (v:V) (u:Value) (Q:St->Hp->Prop),Inv X pins σ H s->RelV v u->t v σ H Q ->
  wpAny (model X.prog X.w) X.A (assign target X.env u) (fun _ s'=>∃σ' H',Inv X pins σ' H' s'/\Q σ' H') X.xe s
def PGs (X:Cx) (ts:List Expr) (t:TGs):Prop:=
 ∀(pins:List (Addr×Obj)) (s:Shared) (σ:St) (H:Hp) (vs:List V) (us:List Value) (Q:St->Hp->Prop),Inv X pins σ H s->Vals vs us->t vs σ H Q ->
  wpAny (model X.prog X.w) X.A (assignInOrder ((assignEach ts X.env).map (·.2)) us) (fun _ s'=>∃σ' H',Inv X pins σ' H' s'/\Q σ' H') X.xe s
section
variable {X:Cx} {pos:Pos}
def gName (i:Nat):TG:=fun v σ H Q=>Q (σ.set i (some v)) H
theorem pg_name {i:Nat} (hN:X.N.Nodup) (hi:X.N[i]?=some x) (hx:Loc X.env.scope x) (hf:X.fn x=true\/X.env.scope.names.lookup x=some .local:=by first | exact .inl rfl | exact .inr rfl | assumption):PG X (.Name x pos) (gName i):=by
 intro pins s σ H v u Q I r h
 exact wpAny_assign_Name (store_ok I hN hi hx r (fun s' I'=>⟨_,H,I',h⟩) hf)
def gNil:TGs:=fun vs σ H Q=>vs=[]/\Q σ H
def gCons (t:TG) (u:TGs):TGs:=fun vs σ H Q=>∃v r,vs=v::r/\t v σ H fun σ' H'=>u r σ' H' Q
theorem pgs_nil:PGs X [] gNil:=by
 intro pins s σ H vs us Q I r h
 obtain ⟨e,h⟩:=h
 subst e
 cases r
 exact assignInOrder_nil ⟨σ,H,I,h⟩
theorem pgs_cons {t:TG} {u:TGs} (h1:PG X e t) (h2:PGs X es u)
  (hs:(assignEach (e::es) X.env).map (·.2)=assign e X.env::(assignEach es X.env).map (·.2):=by rfl):PGs X (e::es) (gCons t u):=by
 intro pins s σ H vs us Q I r h
 obtain ⟨v,vr,e1,h⟩:=h
 subst e1
 cases r with
 | cons r rr=>
  rw [hs]
  refine assignInOrder_cons (thn (h1 pins s σ H _ _ _ I r h) fun _ s1 ⟨σ1,H1,I1,q1⟩=>?_)
  exact h2 pins s1 σ1 H1 _ _ Q I1 rr q1
def gTup (K:Fg) (n:Nat) (t:TGs):TG:=fun v σ H Q=>∃a xs,v=.ref a/\SqT K H a xs/\xs.length=n/\t xs σ H Q
theorem pg_tup {k:Nat} {t:TGs} (hc:X.calm=true) (h:PGs X es t)
  (hn:(assignEach es X.env).length=n:=by rfl) (hst:(assignEach es X.env).findIdx? (·.1)=none:=by rfl):PG X (.Tuple es k pos) (gTup X.K n t):=by
 intro pins s σ H v u Q I r hw
 obtain ⟨a,xs,e1,hq,hl,hw⟩:=hw
 subst e1
 cases r
 obtain ⟨its,rv,ht,hz⟩:=I.tuple hq
 refine assign_Tuple_tuple (I.ok.hd hc) ht (by simp [hn,<-hl,rv.length]) hst fun h' hx=>?_
 have I1:Inv X pins σ H { s with heap:=h' }:=I.kept (t':=s.toks) fun b o e=>hx b o (Nat.ne_of_lt (Heap.lt_size e)) e
 exact h pins _ σ H xs _ Q I1 (by simpa using rv) hw
def tAsg (te:TE) (g:TG):TS:=fun D σ H=>te σ H fun x H1=>g x σ H1 D.nx
theorem ps_asg {g:TG} (he:PE X e te) (hg:PG X tg g) (hs:swapsWithSole [tg] e pos.line X.env=pure false:=by rfl) (hw:swappedStores [tg] e X.env=pure none:=by rfl)
  (h1:(assignEach [tg] X.env).map (·.2)=[assign tg X.env]:=by rfl):PS X (.Assign [tg] e pos) (tAsg te g):=by
 intro pins s σ H D I h
 refine wpAny_Assign_stores (thn (he pins s σ H _ I h) fun v s1 ⟨x,H1,I1,r1,q1⟩=>?_) hs hw
 rw [h1]
 exact thn (hg pins s1 σ H1 x v _ I1 r1 q1) fun _ s2 q=>q
theorem ps_set {i:Nat} {pos':Pos} (hN:X.N.Nodup) (hi:X.N[i]?=some x) (hx:Loc X.env.scope x) (he:PE X e te) (hs:swapsWith e (some (.Name x pos')) pos.line X.env=pure false:=by rfl) (hf:X.fn x=true\/X.env.scope.names.lookup x=some .local:=by first | exact .inl rfl | exact .inr rfl | assumption) :
  PS X (.Assign [.Name x pos'] e pos) (tAsg te (gName i)):=by
 intro pins s σ H D I h
 refine wpAny_Assign_Name (thn (he pins s σ H _ I h) fun v s1 ⟨y,H1,I1,r1,q1⟩=>?_) hs
 exact store_ok I1 hN hi hx r1 (fun s2 I2=>⟨_,H1,I2,q1⟩) hf
end
section
variable {X:Cx} {pos:Pos}
def tWhile (c:TT) (tb:TS):TS:=fun D σ H=>∃W:Nat->St->Hp->Prop,(∃m,W m σ H)/\∀m σ H,W m σ H ->
 c σ H fun b H1=>if b=true then ∃N:St->Hp->Prop,(∀σ' H',N σ' H'->∃m',m'<m/\W m' σ' H')/\tb { D with nx:=N,ct:=N,bk:=D.nx } σ H1 else D.nx σ H1
theorem ps_while {body:List Stmt} (hp:PassesOwn (model X.prog X.w) X.A X.env X.xe) (hc:PT X c tc) (hb:PSs X body tb):PS X (.While c body [] pos) (tWhile tc tb):=by
 intro pins s σ H D I h
 obtain ⟨W,⟨m0,w0⟩,turn⟩:=h
 refine wpAny_While (codeAny_whileLoop (fun n s'=>∃σ' H',Inv X pins σ' H' s'/\W n σ' H') ?_ m0 ⟨σ,H,I,w0⟩)
 rintro n s1 ⟨σ1,H1,I1,w1⟩
 refine wpAny_passesOwn hp (thn (hc pins s1 σ1 H1 _ I1 (turn n σ1 H1 w1)) fun b s2 ⟨H2,I2,q2⟩=>?_)
 cases b with
 | true=>
  obtain ⟨N,hN,q2⟩:=q2
  rw [if_pos rfl]
  refine wpAny_passesOwn hp (thn (hb pins s2 σ1 H2 _ I2 q2) fun f s3 q3=>?_)
  cases f with
  | next=>
   obtain ⟨σ3,H3,I3,n3⟩:=q3
   obtain ⟨m',hm,w3⟩:=hN σ3 H3 n3
   exact ⟨m',hm,σ3,H3,I3,w3⟩
  | cont=>
   obtain ⟨σ3,H3,I3,n3⟩:=q3
   obtain ⟨m',hm,w3⟩:=hN σ3 H3 n3
   exact ⟨m',hm,σ3,H3,I3,w3⟩
  | brk=>exact q3
  | ret v=>exact q3
 | false=>
  rw [if_neg Bool.false_ne_true]
  exact wpAny_execs_nil ⟨σ1,H2,I2,q2⟩
end
structure It where
 go:Nat->Hp->Prop
 yld:Nat->Hp->V->Hp->Prop
 stop:Nat->Hp->Prop
def FpOk (X:Cx) (pins:List (Addr×Obj)) (H:Hp) (b:Addr):Prop:=
 H b=none/\b≠X.env.locals/\b∉X.fs/\(b∈X.ex\/X.s₀.heap.objs.size<=b)/\(∀x c,X.env.cells.lookup x=some c->c≠b)/\∀p∈X.pn++pins,p.1≠b
theorem Inv.fpOk {H H':Hp} {s:Shared} (I:Inv X pins σ H s) (hb:s.heap.objs.size<=b) (hn:H' b=none):FpOk X pins H' b:=by
 refine ⟨hn,Nat.ne_of_gt (Nat.lt_of_lt_of_le I.lt hb),I.nofs hb,.inr (Nat.le_trans I.sz hb),fun x c e z=>?_,fun p hp z=>?_⟩
 ·obtain ⟨v,q⟩:=I.cell x c e
  exact absurd (Nat.lt_of_lt_of_le q.lt (by rw [z];exact hb)) (Nat.lt_irrefl _)
 ·exact absurd (Nat.lt_of_lt_of_le (Heap.lt_size (I.pin p hp).1) (by rw [z];exact hb)) (Nat.lt_irrefl _)
structure Turn (P:Program) (w:World) (K:Fg) (tg:Expr) (J:It) (fp:List Addr) (it:Addr) (tn:Nat->Heap->Prop):Prop where
 mem:it∈fp
 obj:∀i h,tn i h->∀b∈fp,∃o,h.get? b=some o/\∀v,o.data≠.cell v
 keep:∀i h h',tn i h->(∀b∈fp,∀o,h.get? b=some o->h'.get? b=some o)->tn i h'
 item:∀(X:Cx),X.prog=P->X.w=w->X.K=K->X.calm=true->∀(i:Nat) (pins:List (Addr×Obj)) (s:Shared) (σ:St) (H:Hp) (E:Value->Shared->Prop),Inv X pins σ H s->(∀b∈fp,FpOk X pins H b)->tn i s.heap->J.go i H ->
  wpAny (model P w) X.A (pyNext (.ref it)) (fun r s1=>∃u,r=some u /\
   wpAny (model P w) X.A (letOwnedTupleGo tg (.ref it) u) (fun _ s2=>∃x H',Inv X pins σ H' s2/\RelV x u/\J.yld i H x H'/\tn (i+1) s2.heap/\∀b∈fp,H' b=none) E s1) E s
 done:∀(X:Cx),X.prog=P->X.w=w->X.K=K->X.calm=true->∀(i:Nat) (pins:List (Addr×Obj)) (s:Shared) (σ:St) (H:Hp) (E:Value->Shared->Prop),Inv X pins σ H s->(∀b∈fp,FpOk X pins H b)->tn i s.heap->J.stop i H ->
  wpAny (model P w) X.A (pyNext (.ref it)) (fun r s1=>r=none/\Inv X pins σ H s1) E s
 self:∀(A:Around) (i:Nat) (s:Shared) (Q:Value->Shared->Prop) (E:Value->Shared->Prop),tn i s.heap->Q (.ref it) s->wpAny (model P w) A (pyIter (.ref it)) Q E s
abbrev TI:=St->Hp->(It->Hp->Prop)->Prop
def PIE (X:Cx) (pins:List (Addr×Obj)) (σ:St) (tg:Expr) (R:It->Hp->Prop) (itv:Value) (s2:Shared):Prop:=
 ∃(it:Addr) (fp:List Addr) (tn:Nat->Heap->Prop) (J:It) (H':Hp),itv=.ref it/\Inv X pins σ H' s2/\Turn X.prog X.w X.K tg J fp it tn/\tn 0 s2.heap/\(∀b∈fp,FpOk X pins H' b)/\R J H'
def PI (X:Cx) (tg iter:Expr) (wi:TI):Prop:=
 ∀(pins:List (Addr×Obj)) (s:Shared) (σ:St) (H:Hp) (R:It->Hp->Prop),Inv X pins σ H s->wi σ H R ->
  wpAny (model X.prog X.w) X.A (eval iter X.env) (fun v s1=>wpAny (model X.prog X.w) X.A (pyIter v) (PIE X pins σ tg R) X.xe s1) X.xe s
theorem go_of {E:Value->Shared->Prop} {s:Shared} {n:String} {vs:Array Value} {Q:Unit->Shared->Prop} (ho:s.heap.get? it=some o) (hc:o.cls=.type n) (hd:o.data=.fields vs)
  (hn:["enumerate", "zip", "dict_itemiterator", "dict_reverseitemiterator", "odict_iterator", "itertools.zip_longest", "itertools.pairwise"].contains n=false) (hQ:Q () s):wpAny M A (letOwnedTupleGo tg (.ref it) u) Q E s:=by
 unfold letOwnedTupleGo
 cases tg<;>first
  | exact wpAny_pure hQ
  | (cases u<;>first
      | exact wpAny_pure hQ
      | (refine wpAny_bind (wpAny_load ho ?_)
         rw [hc,hd]
         show wpAny M A (if (["enumerate", "zip", "dict_itemiterator", "dict_reverseitemiterator", "odict_iterator", "itertools.zip_longest", "itertools.pairwise"].contains n&&vs[0]?==some (rawInt _))=true then _ else _) Q E s
         rw [if_neg (by intro h;rw [hn,Bool.false_and] at h;cases h)]
         exact wpAny_pure hQ))
def Itl (K:Fg) (a:Addr):It:=
 ⟨fun i H=>∃xs x,SqL K H a xs/\xs[i]?=some x,fun i H x H'=>H'=H/\∀xs,SqL K H a xs->xs[i]?=some x,fun i H=>∃xs,SqL K H a xs/\xs.length<=i⟩
def Itr (lo:Int) (n:Nat):It:=⟨fun i _=>i<n,fun i H x H'=>H'=H/\x=.int (lo+i),fun i _=>n<=i⟩
theorem turn_list {P:Program} {w:World} (a it:Addr):Turn P w K tg (Itl K a) [it] it (fun i h=>h.IsListIter it a i) where
 mem:=by simp
 obj:=fun i h st b hb=>by
  have e:b=it:=by simpa using hb
  subst e
  obtain ⟨o,e,c,d⟩:=st
  exact ⟨o,e,fun v z=>by rw [d] at z;cases z⟩
 keep:=fun i h h' st k=>st.at fun o e=>k it (by simp) o e
 item:=by
  intro X hP hw hK hc i pins s σ H E I hf st hg
  subst hP hw hK
  obtain ⟨xs,x,hq,hx⟩:=hg
  obtain ⟨its,rv,p,hz⟩:=I.list hq
  obtain ⟨u,hu,ru⟩:=rv.get hx
  obtain ⟨f0,f1,f2,f3,f4,f5⟩:=hf it (by simp)
  refine wpAny_pyNext_list_item st p.isList (x:=u) (by simpa using hu) fun h' st' sb=>?_
  have I1:Inv X pins σ H { s with heap:=h' }:=I.turned (t':=s.toks) (fun b o hb e=>(sb.2 b hb).trans e) f0 f1 f3 f4 f5
  obtain ⟨o,e,c,d⟩:=id st'
  exact ⟨u,rfl,go_of (s:={ s with heap:=h' }) e c d (by decide) ⟨x,H,I1,ru,⟨rfl,fun ys hy=>by rw [I.list_inj hy hq];exact hx⟩,st',fun b hb=>(hf b hb).1⟩⟩
 done:=by
  intro X hP hw hK hc i pins s σ H E I hf st hg
  subst hP hw hK
  obtain ⟨xs,hq,hx⟩:=hg
  obtain ⟨its,rv,p,hz⟩:=I.list hq
  obtain ⟨f0,f1,f2,f3,f4,f5⟩:=hf it (by simp)
  have hl:=rv.length
  exact wpAny_pyNext_list_end (I.ok.hd hc) st p.isList (by simp;omega) fun h' eb=>⟨rfl,I.turned (t':=s.toks) (fun b o hb e=>eb b o hb e) f0 f1 f3 f4 f5⟩
 self:=fun _ _ _ _ _ st h=>wpAny_pyIter_listiter st h
theorem turn_range {P:Program} {w:World} (it:Addr) (lo:Int) (n:Nat):Turn P w K tg (Itr lo n) [it] it (fun i h=>IsRangeIter h it (lo+(i:Nat)*1) ((n:Int)-(i:Nat)) 1) where
 mem:=by simp
 obj:=fun i h st b hb=>by
  have e:b=it:=by simpa using hb
  subst e
  exact ⟨_,st,fun v z=>by
   have z':Data.fields _=Data.cell v:=z
   cases z'⟩
 keep:=fun i h h' st k=>k it (by simp) _ st
 item:=by
  intro X hP hw hK hc i pins s σ H E I hf st hg
  subst hP hw hK
  obtain ⟨f0,f1,f2,f3,f4,f5⟩:=hf it (by simp)
  have W:=Walks.range (prog:=X.prog) (w:=X.w) (I.ok.hd hc) it lo 1 n
  refine W.item i s _ _ hg st fun v h' tk hv st' kk=>?_
  obtain ⟨t,rfl⟩:=hv
  have I1:Inv X pins σ H { s with heap:=h',toks:=tk }:=I.turned (fun b o hb e=>kk b o (by simpa using hb) e) f0 f1 f3 f4 f5
  refine ⟨_,rfl,go_of (s:={ s with heap:=h',toks:=tk }) (n := "range_iterator") st' rfl rfl (by decide) ⟨.int (lo+i),H,I1,⟨t,?_⟩,⟨rfl,rfl⟩,st',fun b hb=>(hf b hb).1⟩⟩
  rw [Int.mul_one]
 done:=by
  intro X hP hw hK hc i pins s σ H E I hf st hg
  subst hP hw hK
  obtain ⟨f0,f1,f2,f3,f4,f5⟩:=hf it (by simp)
  exact wpAny_pyNext_range_end (I.ok.hd hc) st (by have:n<=i:=hg;omega) fun h' eb=>⟨rfl,I.turned (t':=s.toks) (fun b o hb e=>eb b o hb e) f0 f1 f3 f4 f5⟩
 self:=fun _ _ _ _ _ st h=>wpAny_pyIter_rangeiter st h
section
variable {X:Cx} {tg:Expr}
def iList (K:Fg) (tl:TE):TI:=fun σ H R=>tl σ H fun x H1=>∃a,x=.ref a/\(∃xs,SqL K H1 a xs)/\R (Itl K a) H1
theorem pi_list {l:Expr} {tl:TE} (hl:PE X l tl):PI X tg l (iList X.K tl):=by
 intro pins s σ H R I h
 refine thn (hl pins s σ H _ I h) fun v s1 ⟨x,H1,I1,r1,q1⟩=>?_
 obtain ⟨a,e,⟨xs,hq⟩,q⟩:=q1
 subst e
 cases r1
 obtain ⟨its,rv,p,hz⟩:=I1.list hq
 refine wpAny_pyIter_list p.isList ?_
 refine ⟨s1.heap.objs.size,[s1.heap.objs.size],_,_,H1,rfl,I1.kept (t':=s1.toks) fun b o e=>Heap.get?_push_of_some _ e,turn_list a _,⟨_,Heap.get?_push_size _ rfl,rfl,rfl⟩,fun b hb=>?_,q⟩
 have e:b=s1.heap.objs.size:=by simpa using hb
 subst e
 exact I1.fpOk (Nat.le_refl _) (I1.hok.fresh (Nat.le_refl _))
theorem range_it {H:Hp} {s:Shared} {R:It->Hp->Prop} {E:Value->Shared->Prop} {lo hi:Int} {t u v:Tok} {tk:Nat} (I:Inv X pins σ H s) (h1:-(2 ^ 62)<=lo) (h2:lo<2 ^ 62) (h3:-(2 ^ 62)<=hi) (h4:hi<2 ^ 62)
  (q:R (Itr lo (hi-lo).toNat) H):wpAny (model X.prog X.w) X.A (pyIter (.ref s.heap.objs.size)) (PIE X pins σ tg R) E { s with heap:=s.heap.push { cls:=.type "range",data:=.fields #[.int lo t,.int hi u,.int 1 v] },toks:=tk }:=by
 refine wpAny_pyIter_range (IsRange.new ..) (small_one h1 h2 h3 h4) ?_
 have I1:Inv X pins σ H { s with heap:=s.heap.push { cls:=.type "range",data:=.fields #[.int lo t,.int hi u,.int 1 v] },toks:=tk }:=I.kept fun b o e=>Heap.get?_push_of_some _ e
 refine ⟨(s.heap.push { cls:=.type "range",data:=.fields #[.int lo t,.int hi u,.int 1 v] }).objs.size,[(s.heap.push { cls:=.type "range",data:=.fields #[.int lo t,.int hi u,.int 1 v] }).objs.size],_,_,H,rfl,
  I1.kept (t':=tk) fun b o e=>Heap.get?_push_of_some _ e,turn_range _ lo (hi-lo).toNat,?_,fun b hb=>?_,q⟩
 ·have e1:lo+((0:Nat):Int)*1=lo:=by simp
  have e2:(((hi-lo).toNat:Nat):Int)-((0:Nat):Int)=Builtin.Range.rangeSize lo hi 1:=by rw [rangeSize_one];split<;>omega
  show IsRangeIter _ _ (lo+((0:Nat):Int)*1) ((((hi-lo).toNat:Nat):Int)-((0:Nat):Int)) 1
  rw [e1,e2]
  exact Heap.get?_push_size _ rfl
 ·have e:b=(s.heap.push { cls:=.type "range",data:=.fields #[.int lo t,.int hi u,.int 1 v] }).objs.size:=by simpa using hb
  subst e
  exact I1.fpOk (Nat.le_refl _) (I1.hok.fresh (Nat.le_refl _))
def iRng1 (ta:TA):TI:=fun σ H R=>ta σ H fun vs H1=>∃j:Int,vs=[.int j]/\-(2 ^ 62)<=j/\j<2 ^ 62/\R (Itr 0 j.toNat) H1
def iRng2 (ta:TA):TI:=fun σ H R=>ta σ H fun vs H1=>∃i j:Int,vs=[.int i,.int j]/\(-(2 ^ 62)<=i/\i<2 ^ 62/\-(2 ^ 62)<=j/\j<2 ^ 62)/\R (Itr i (j-i).toNat) H1
theorem pi_range1 {a:Expr} {p:Pos} (hg:Gl X "range") (hm:X.mg "range"=none) (ha:PA X [a] ta) (hs:starEach [a] X.env=[(false,eval a X.env)]:=by rfl):PI X tg (.Call (.Name "range" p) [a] [] pos) (iRng1 ta):=by
 intro pins s σ H R I h
 refine Call_ (ld_blt I hg hm boot_range (PyProof.Rows.callWith_type1 (thn (ha pos pins s σ H _ I h) fun us s1 ⟨vs,H1,I1,r1,q1⟩=>?_) hs rfl))
 obtain ⟨j,e,q1,q2,q⟩:=q1
 subst e
 cases r1 with
 | cons r rr=>
  cases rr
  obtain ⟨t,rfl⟩:=r
  exact call_range_1 (range_it I1 (by omega) (by omega) q1 q2 (by simpa using q))
theorem pi_range2 {a b:Expr} {p:Pos} (hg:Gl X "range") (hm:X.mg "range"=none) (ha:PA X [a,b] ta) (hs:starEach [a,b] X.env=[(false,eval a X.env),(false,eval b X.env)]:=by rfl) (hs2:starEach [b] X.env=[(false,eval b X.env)]:=by rfl) :
  PI X tg (.Call (.Name "range" p) [a,b] [] pos) (iRng2 ta):=by
 intro pins s σ H R I h
 refine Call_ (ld_blt I hg hm boot_range (PyProof.Rows.callWith_type1 (thn (ha pos pins s σ H _ I h) fun us s1 ⟨vs,H1,I1,r1,q1⟩=>?_) (by rw [hs,hs2]) (by rw [hs2];rfl)))
 obtain ⟨i,j,e,⟨q1,q2,q3,q4⟩,q⟩:=q1
 subst e
 cases r1 with
 | cons r rr=>
  cases rr with
  | cons r' rr=>
   cases rr
   obtain ⟨t,rfl⟩:=r
   obtain ⟨t',rfl⟩:=r'
   exact call_range_2 (range_it I1 q1 q2 q3 q4 q)
def tFor (wi:TI) (g:TG) (tb:TS):TS:=fun D σ H=>wi σ H fun J H1=>∃W:Nat->Nat->St->Hp->Prop,(∃m,W 0 m σ H1)/\∀i m σ H,W i m σ H ->
 (J.stop i H/\D.nx σ H)\/(J.go i H/\∃N:St->Hp->Prop,(∀σ' H',N σ' H'->∃m',m'<m/\W (i+1) m' σ' H')/\∀x H',J.yld i H x H'->g x σ H' fun σ2 H2=>tb { D with nx:=N,ct:=N,bk:=D.nx } σ2 H2)
def pinsAt (fp:List Addr) (h:Heap):List (Addr×Obj):=fp.filterMap fun b=>(h.get? b).map fun o=>(b,o)
theorem mem_pinsAt (hb:b∈fp) (e:h.get? b=some o):(b,o)∈pinsAt fp h:=List.mem_filterMap.mpr ⟨b,hb,by rw [e];rfl⟩
theorem of_pinsAt {p:Addr×Obj} (hp:p∈pinsAt fp h):p.1∈fp/\h.get? p.1=some p.2:=by
 obtain ⟨b,hb,e⟩:=List.mem_filterMap.mp hp
 cases q:h.get? b with
 | none=>rw [q] at e;cases e
 | some o=>
  rw [q] at e
  have e':(b,o)=p:=Option.some.inj e
  subst e'
  exact ⟨hb,q⟩
theorem Inv.pinned {H:Hp} {s:Shared} (I:Inv X pins σ H s) (hf:∀b∈fp,FpOk X pins H b) (ho:∀b∈fp,∃o,s.heap.get? b=some o/\∀v,o.data≠.cell v):Inv X (pins++pinsAt fp s.heap) σ H s:=
 I.pins_of fun p hp=>(List.mem_append.mp hp).elim (fun z=>I.pin p (mem_append_right _ z)) fun z=>by
  obtain ⟨hb,e⟩:=of_pinsAt z
  obtain ⟨f0,f1,f2,_⟩:=hf p.1 hb
  obtain ⟨o,e',d⟩:=ho p.1 hb
  rw [e] at e';cases e'
  exact ⟨e,f0,f1,f2,d⟩
theorem Inv.unpinned {pl:List (Addr×Obj)} {H:Hp} {s:Shared} (I:Inv X (pins++pl) σ H s):Inv X pins σ H s:=I.pins_of fun p hp=>I.pin p (mem_append_right _ (mem_append_left _ hp))
theorem ps_for {iter:Expr} {body:List Stmt} {wi:TI} {g:TG} (hp:PassesOwn (model X.prog X.w) X.A X.env X.xe) (hc:X.calm=true) (hi:PI X tg iter wi) (hg:PG X tg g) (hb:PSs X body tb)
  (hs:∀x,foldedSetIterable iter X.env x=pure x:=by intro _;rfl):PS X (.For tg iter body [] pos) (tFor wi g tb):=by
 intro pins s σ H D I h
 refine wpAny_For (thn (hi pins s σ H _ I h) fun v s1 h1=>thn h1 fun itv s2 h2=>?_) hs
 obtain ⟨it,fp,tn,J,H2,e,I2,T,st2,f2,W,⟨m0,w0⟩,turn⟩:=h2
 subst e
 have stat:∀{H':Hp},(∀b∈fp,H' b=none)->∀b∈fp,FpOk X pins H' b:=fun hn b hb=>⟨hn b hb,(f2 b hb).2⟩
 refine codeAny_forLoop_any (fun n s'=>∃i σ' H',Inv X pins σ' H' s'/\tn i s'.heap/\(∀b∈fp,H' b=none)/\W i n σ' H') ?_ m0 ⟨0,σ,H2,I2,st2,fun b hb=>(f2 b hb).1,w0⟩
 rintro n s3 ⟨i,σ3,H3,I3,st3,fr3,w3⟩
 rcases turn i n σ3 H3 w3 with ⟨stop,qn⟩ | ⟨go,N,hN,step⟩
 ·refine wpAny_passesOwn hp (thn (T.done X rfl rfl rfl hc i pins s3 σ3 H3 X.xe I3 (stat fr3) st3 stop) fun r s4 ⟨hr,I4⟩=>?_)
  subst hr
  exact wpAny_execs_nil ⟨σ3,H3,I4,qn⟩
 ·refine wpAny_passesOwn hp (thn (T.item X rfl rfl rfl hc i pins s3 σ3 H3 X.xe I3 (stat fr3) st3 go) fun r s4 ⟨u,hr,h4⟩=>?_)
  subst hr
  refine wpAny_passesOwn hp (thn h4 fun _ s5 ⟨x,H5,I5,r5,y5,st5,fr5⟩=>?_)
  have I5':=I5.pinned (stat fr5) (T.obj _ _ st5)
  refine wpAny_passesOwn hp (thn (hg _ s5 σ3 H5 x u _ I5' r5 (step x H5 y5)) fun _ s6 ⟨σ6,H6,I6,q6⟩=>?_)
  refine wpAny_passesOwn hp (thn (hb _ s6 σ6 H6 _ I6 q6) fun f s7 q7=>?_)
  have again:∀{σ7:St} {H7:Hp},Inv X (pins++pinsAt fp s5.heap) σ7 H7 s7->N σ7 H7->∃m,m<n/\∃i σ' H',Inv X pins σ' H' s7/\tn i s7.heap/\(∀b∈fp,H' b=none)/\W i m σ' H':=fun {σ7 H7} I7 n7=>by
   obtain ⟨m',hm,w7⟩:=hN σ7 H7 n7
   refine ⟨m',hm,i+1,σ7,H7,I7.unpinned,T.keep _ _ _ st5 fun b hb o e=>(I7.pin (b,o) (mem_append_right _ (mem_append_right _ (mem_pinsAt hb e)))).1,fun b hb=>?_,w7⟩
   obtain ⟨o,e,d⟩:=T.obj _ _ st5 b hb
   exact (I7.pin (b,o) (mem_append_right _ (mem_append_right _ (mem_pinsAt hb e)))).2.1
  cases f with
  | next=>obtain ⟨σ7,H7,I7,n7⟩:=q7;exact again I7 n7
  | cont=>obtain ⟨σ7,H7,I7,n7⟩:=q7;exact again I7 n7
  | brk=>obtain ⟨σ7,H7,I7,q7⟩:=q7;exact ⟨σ7,H7,I7.unpinned,q7⟩
  | ret v=>obtain ⟨x7,σ7,H7,I7,r7,q7⟩:=q7;exact ⟨x7,σ7,H7,I7.unpinned,r7,q7⟩
end
abbrev R2:=V->V->Hp->VK->Prop
def OpR (X:Cx) (f:Value->Value->Sem Value) (r:R2):Prop:=
 ∀(pins:List (Addr×Obj)) (s:Shared) (σ:St) (H:Hp) (x y:V) (v u:Value) (Q:VK),Inv X pins σ H s->RelV x v->RelV y u->r x y H Q ->
  wpAny (model X.prog X.w) X.A (f v u) (EP X pins σ Q) X.xe s
def CallR (X:Cx) (f:Value) (r:List V->Hp->VK->Prop):Prop:=
 ∀(pins:List (Addr×Obj)) (s:Shared) (σ:St) (H:Hp) (xs:List V) (us:List Value) (Q:VK),Inv X pins σ H s->Vals xs us->r xs H Q ->
  wpAny (model X.prog X.w) X.A (call f us) (EP X pins σ Q) X.xe s
def TruR (X:Cx) (r:V->Hp->(Bool->Hp->Prop)->Prop):Prop:=
 ∀(pins:List (Addr×Obj)) (s:Shared) (σ:St) (H:Hp) (x:V) (v:Value) (Q:Bool->Hp->Prop),Inv X pins σ H s->RelV x v->r x H Q ->
  wpAny (model X.prog X.w) X.A (truthy v) (TP X pins σ Q) X.xe s
def tOp (r:R2) (ta tb:TE):TE:=fun σ H Q=>ta σ H fun x H1=>tb σ H1 fun y H2=>r x y H2 Q
def rI (C:Int->Int->Prop) (g:Int->Int->V):R2:=fun x y H Q=>∃i j,x=.int i/\y=.int j/\C i j/\Q (g i j) H
def rI0 (g:Int->Int->V):R2:=fun x y H Q=>∃i j,x=.int i/\y=.int j/\Q (g i j) H
section
variable {X:Cx} {a b c:Expr} {ta tb tc:TE} {pos:Pos}
theorem binT (ha:PE X a ta) (hb:PE X b tb) {s:Shared} {H:Hp} {R:V->V->Hp->Prop} (I:Inv X pins σ H s)
  (h:ta σ H fun x H1=>tb σ H1 fun y H2=>R x y H2) {Q:Value->Shared->Prop} {f:Value->Value->Sem Value}
  (hf:∀v u s2 x y H2,Inv X pins σ H2 s2->RelV x v->RelV y u->R x y H2->wpAny (model X.prog X.w) X.A (f v u) Q X.xe s2) :
  wpAny (model X.prog X.w) X.A (eval a X.env) (fun v s₁=>wpAny (model X.prog X.w) X.A (eval b X.env) (fun u s₂=>wpAny (model X.prog X.w) X.A (f v u) Q X.xe s₂) X.xe s₁) X.xe s:=by
 refine thn (ha pins s σ H _ I h) fun v s1 ⟨x,H1,I1,r1,q1⟩=>?_
 refine thn (hb pins s1 σ H1 _ I1 q1) fun u s2 ⟨y,H2,I2,r2,q2⟩=>?_
 exact hf v u s2 x y H2 I2 r1 r2 q2
theorem pe_op {op:Operator} {r:R2} (ho:OpR X (binaryOp op) r) (ha:PE X a ta) (hb:PE X b tb):PE X (.BinOp a op b pos) (tOp r ta tb):=by
 intro pins s σ H Q I h
 exact wpAny_BinOp (binT ha hb I h fun v u s2 x y H2 I2 rx ry q=>ho pins s2 σ H2 x y v u Q I2 rx ry q)
theorem opI {f:Value->Value->Sem Value} {C:Int->Int->Prop}
  (rule:∀(i j:Int) (t u:Tok) (s:Shared) (Q:Value->Shared->Prop) (E:Value->Shared->Prop),C i j->Q (.int (g i j) s.toks) { s with toks:=s.toks+1 }->wpAny (model X.prog X.w) X.A (f (.int i t) (.int j u)) Q E s) :
  OpR X f (rI C fun i j=>.int (g i j)):=by
 intro pins s σ H x y v u Q I rx ry h
 obtain ⟨i,j,rfl,rfl,hc,q⟩:=h
 obtain ⟨t,rfl⟩:=rx
 obtain ⟨t',rfl⟩:=ry
 exact rule i j t t' s _ _ hc ⟨.int (g i j),H,I.tok _,⟨_,rfl⟩,q⟩
theorem opI0 {f:Value->Value->Sem Value}
  (rule:∀(i j:Int) (t u:Tok) (s:Shared) (Q:Value->Shared->Prop) (E:Value->Shared->Prop),Q (.int (g i j) s.toks) { s with toks:=s.toks+1 }->wpAny (model X.prog X.w) X.A (f (.int i t) (.int j u)) Q E s) :
  OpR X f (rI0 fun i j=>.int (g i j)):=by
 intro pins s σ H x y v u Q I rx ry h
 obtain ⟨i,j,rfl,rfl,q⟩:=h
 obtain ⟨t,rfl⟩:=rx
 obtain ⟨t',rfl⟩:=ry
 exact rule i j t t' s _ _ ⟨.int (g i j),H,I.tok _,⟨_,rfl⟩,q⟩
theorem opB0 {f:Value->Value->Sem Value} {g:Int->Int->Bool}
  (rule:∀(i j:Int) (t u:Tok) (s:Shared) (Q:Value->Shared->Prop) (E:Value->Shared->Prop),Q (.bool (g i j)) s->wpAny (model X.prog X.w) X.A (f (.int i t) (.int j u)) Q E s) :
  OpR X f (rI0 fun i j=>.bl (g i j)):=by
 intro pins s σ H x y v u Q I rx ry h
 obtain ⟨i,j,rfl,rfl,q⟩:=h
 obtain ⟨t,rfl⟩:=rx
 obtain ⟨t',rfl⟩:=ry
 exact rule i j t t' s _ _ ⟨.bl (g i j),H,I,rfl,q⟩
def CDiv (i j:Int):Prop:=0<j/\j<1073741824
def CPow (i j:Int):Prop:=0<=j/\j<=1000000/\i.natAbs<2 ^ 64
def CMul (i j:Int):Prop:=(-(2 ^ 64)<i/\i<2 ^ 64)\/(-(2 ^ 64)<j/\j<2 ^ 64)
theorem CMul.ok {i j:Int} (h:CMul i j):IntMulOk i j:=by
 rcases h with ⟨h1,h2⟩ | ⟨h1,h2⟩
 ·exact .of_left (intBits_le_64 h1 h2)
 ·exact .of_right (intBits_le_64 h1 h2)
theorem op_add:OpR X (binaryOp .Add) (rI0 fun i j=>.int (i+j)):=opI0 fun _ _ _ _ _ _ _ q=>add_int q
theorem op_sub:OpR X (binaryOp .Sub) (rI0 fun i j=>.int (i-j)):=opI0 fun _ _ _ _ _ _ _ q=>sub_int q
theorem op_mul:OpR X (binaryOp .Mult) (rI CMul fun i j=>.int (i*j)):=opI fun _ _ _ _ _ _ _ hc q=>mul_int q hc.ok
theorem op_fdiv:OpR X (binaryOp .FloorDiv) (rI CDiv fun i j=>.int (i / j)):=opI fun i j _ _ _ _ _ hc q=>by
 have h1:(0:Int)<j:=hc.1
 have h2:j<1073741824:=hc.2
 exact floordiv_int (by omega) (by rw [Int.fdiv_eq_ediv_of_nonneg i (by omega)];exact q) (.inl (PyProof.noPylong_small (by omega)))
theorem op_mod:OpR X (binaryOp .Mod) (rI (fun _ j=>0<j) fun i j=>.int (i % j)):=opI fun i j _ _ _ _ _ hc q=>by
 have h1:(0:Int)<j:=hc
 exact mod_int' (by omega) (by rw [Int.fmod_eq_emod_of_nonneg i (by omega)];exact q)
theorem op_pow:OpR X (binaryOp .Pow) (rI CPow fun i j=>.int (i ^ j.toNat)):=opI fun _ _ _ _ _ _ _ hc q=>pow_int_small hc.1 hc.2.1 hc.2.2 q
end
section
variable {X:Cx} {a b c:Expr} {ta tb tc:TE} {pos:Pos}
theorem fin_bl {H:Hp} {s:Shared} {Q:VK} {k k':Bool} (I:Inv X pins σ H s) (q:Q (.bl k) H) (e:k=k'):EP X pins σ Q (.bool k') s:=by
 subst e
 exact ⟨.bl k,H,I,rfl,q⟩
theorem op_lt:OpR X (compareOp .Lt) (rI0 fun i j=>.bl (decide (i<j))):=opB0 fun _ _ _ _ _ _ _ q=>lt_int q
theorem op_le:OpR X (compareOp .LtE) (rI0 fun i j=>.bl (decide (i<=j))):=opB0 fun _ _ _ _ _ _ _ q=>le_int q
theorem op_gt:OpR X (compareOp .Gt) (rI0 fun i j=>.bl (decide (j<i))):=opB0 fun _ _ _ _ _ _ _ q=>gt_int q
theorem op_ge:OpR X (compareOp .GtE) (rI0 fun i j=>.bl (decide (j<=i))):=opB0 fun _ _ _ _ _ _ _ q=>ge_int q
theorem op_lt_str:OpR X (compareOp .Lt) (fun x y H Q=>∃i j,x=.str i/\y=.str j/\Q (.bl (decide (i.cps.toList<j.cps.toList))) H):=by
 intro pins s σ H x y v u Q I rx ry h
 obtain ⟨i,j,rfl,rfl,q⟩:=h
 obtain ⟨t,rfl⟩:=rx
 obtain ⟨t',rfl⟩:=ry
 exact lt_str (fin_bl I q rfl)
theorem OpR.or {f:Value->Value->Sem Value} {r r':R2} (h:OpR X f r) (h':OpR X f r'):OpR X f (fun x y H Q=>r x y H Q\/r' x y H Q):=by
 intro pins s σ H x y v u Q I rx ry q
 rcases q with q | q
 ·exact h pins s σ H x y v u Q I rx ry q
 ·exact h' pins s σ H x y v u Q I rx ry q
theorem pe_cmpR {op:CmpOp} {r:R2} (ho:OpR X (compareOp op) r) (ha:PE X a ta) (hb:PE X b tb) (hm:behindInMarks op b=false):PE X (.Compare a [op] [b] pos) (tOp r ta tb):=by
 intro pins s σ H Q I h
 exact wpAny_Compare1 (binT ha hb I h fun v u s2 x y H2 I2 rx ry q=>ho pins s2 σ H2 x y v u Q I2 rx ry q) hm
def tTest (t:TE):TT:=fun σ H Q=>t σ H fun x H'=>∃k,x=.bl k/\Q k H'
theorem pt_cmpR {op:CmpOp} {r:R2} (ho:OpR X (compareOp op) r) (ha:PE X a ta) (hb:PE X b tb) (hm:behindInMarks op b=false):PT X (.Compare a [op] [b] pos) (tTest (tOp r ta tb)):=by
 intro pins s σ H Q I h
 refine wpAny_isTrue_Compare1 (thn (ha pins s σ H _ I h) fun v s1 ⟨x,H1,I1,r1,q1⟩=>thn (hb pins s1 σ H1 _ I1 q1) fun u s2 ⟨y,H2,I2,r2,q2⟩=>
  thn (ho pins s2 σ H2 x y v u _ I2 r1 r2 q2) fun c s3 ⟨z,H3,I3,r3,k,e,q3⟩=>?_) hm
 subst e
 cases r3
 exact wpAny_truthy_bool ⟨H3,I3,q3⟩
def tChain (r r':R2) (ta tb tc:TE):TE:=fun σ H Q=>ta σ H fun x H1=>tb σ H1 fun y H2=>r x y H2 fun z H3=>∃k,z=.bl k /\
 (if k=true then tc σ H3 fun w' H4=>r' y w' H4 Q else Q (.bl false) H3)
theorem pe_chain {op op':CmpOp} {r r':R2} (ho:OpR X (compareOp op) r) (ho':OpR X (compareOp op') r') (ha:PE X a ta) (hb:PE X b tb) (hc:PE X c tc)
  (hm:lastMarks [op,op'] [b,c]=false:=by with_unfolding_all rfl):PE X (.Compare a [op,op'] [b,c] pos) (tChain r r' ta tb tc):=by
 intro pins s σ H Q I h
 refine Compare_chain (thn (ha pins s σ H _ I h) fun v s1 ⟨x,H1,I1,r1,q1⟩=>chain_link (thn (hb pins s1 σ H1 _ I1 q1) fun u s2 ⟨y,H2,I2,r2,q2⟩=>
  thn (ho pins s2 σ H2 x y v u _ I2 r1 r2 q2) fun d s3 ⟨z,H3,I3,r3,k,e,q3⟩=>?_)) hm
 subst e
 cases r3
 refine wpAny_truthy_bool ?_
 cases k with
 | false=>exact ite_ff ⟨.bl false,H3,I3,rfl,q3⟩
 | true=>exact ite_tt (chain_last (thn (hc pins s3 σ H3 _ I3 q3) fun w' s4 ⟨z',H4,I4,r4,q4⟩=>ho' pins s4 σ H4 y z' u w' Q I4 r2 r4 q4))
def TruV (K:Fg) (x:V) (H:Hp) (k:Bool):Prop:=
 match x with
 | .non=>k=false
 | .bl b=>k=b
 | .int i=>k=(i != 0)
 | .str y=>y.length<=sizeLine/\k=((y.length:Int) != 0)
 | .byt y=>y.size<=sizeLine/\k=((y.size:Int) != 0)
 | .ref p=>(∃xs,SqL K H p xs/\k=!xs.isEmpty)\/(∃xs,SqT K H p xs/\k=!xs.isEmpty)\/∃kvs,H p=some (.dK kvs)/\k=!kvs.isEmpty
 | _=>False
theorem isEmpty_kv {κ:Type} {kvs:List (κ×V)} {vs:List (κ×Value)} (r:KV kvs vs):(!vs.isEmpty)=!kvs.isEmpty:=by
 cases r<;>rfl
theorem isEmpty_of {xs:List V} (r:Vals xs its):(!its.toArray.isEmpty)=!xs.isEmpty:=by
 cases r<;>simp
theorem line63:(sizeLine:Nat)<2 ^ 63:=by rw [sizeLine_eq];decide
theorem tru_ok:TruR X (fun x H Q=>∃k,TruV X.K x H k/\Q k H):=by
 intro pins s σ H x v Q I rx h
 obtain ⟨k,e,q⟩:=h
 have hl:=line63
 have hs:sizeLine=16777216:=sizeLine_eq
 cases x with
 | non=>
  cases rx
  have e':k=false:=e
  subst e'
  exact truthy_none ⟨H,I,q⟩
 | bl b=>
  cases rx
  have e':k=b:=e
  subst e'
  exact wpAny_truthy_bool ⟨H,I,q⟩
 | int i=>
  obtain ⟨t,rfl⟩:=rx
  have e':k=(i != 0):=e
  subst e'
  exact PySem.P.truthy_int ⟨H,I,q⟩
 | str y=>
  obtain ⟨t,rfl⟩:=rx
  obtain ⟨hy,e'⟩:y.length<=sizeLine/\k=((y.length:Int) != 0):=e
  subst e'
  exact PySem.P.truthy_str (by omega) ⟨H,I.tok _,q⟩
 | byt y=>
  obtain ⟨t,rfl⟩:=rx
  obtain ⟨hy,e'⟩:y.size<=sizeLine/\k=((y.size:Int) != 0):=e
  subst e'
  exact PySem.W.truthy_bytes (by omega) ⟨H,I.tok _,q⟩
 | ref p=>
  cases rx
  have e':(∃xs,SqL X.K H p xs/\k=!xs.isEmpty)\/(∃xs,SqT X.K H p xs/\k=!xs.isEmpty)\/∃kvs,H p=some (.dK kvs)/\k=!kvs.isEmpty:=e
  rcases e' with ⟨xs,hx,e'⟩ | ⟨xs,hx,e'⟩ | ⟨kvs,hx,e'⟩
  ·subst e'
   obtain ⟨its,r,pl,hz⟩:=I.list hx
   have hlen:=r.length
   exact wpAny_truthy_list pl.isList (by simp only [size_toArray];omega) ⟨H,I.tok _,by rw [isEmpty_of r];exact q⟩
  ·subst e'
   obtain ⟨its,r,pl,hz⟩:=I.tuple hx
   have hlen:=r.length
   exact truthy_tuple pl (by simp only [size_toArray];omega) ⟨H,I.tok _,by rw [isEmpty_of r];exact q⟩
  ·subst e'
   obtain ⟨hz,hS,vs,r,m⟩:kvs.length<=sizeLine/\(p==sysModules)=false/\∃vs,KV kvs vs/\s.heap.DictOf (mixKind X.prog X.w) p vs:=I.hok p _ hx
   have hlen:kvs.length=vs.length:=Paired.length r
   exact wpAny_truthy_dict hS m (by omega) ⟨H,I.tok _,by rw [isEmpty_kv r];exact q⟩
 | _=>exact (show False from e).elim
theorem pt_truth (ha:PE X a ta) (he:∀whole,isTrue a X.env whole=(do let v <-whole;standAt a.pos;holding [v] (truthy v))) :
  PT X a (fun σ H Q=>ta σ H fun x H'=>∃k,TruV X.K x H' k/\Q k H'):=by
 intro pins s σ H Q I h
 exact isTrue_plain (thn (ha pins s σ H _ I h) fun v s1 ⟨x,H1,I1,r1,q1⟩=>tru_ok pins s1 σ H1 x v Q I1 r1 q1) (he _)
theorem vals1 {x:V} (r:Vals [x] us):∃u,us=[u]/\RelV x u:=by
 cases r with
 | cons r1 r2=>cases r2;exact ⟨_,rfl,r1⟩
theorem call_int1:CallR X (.type "int") (fun xs H Q=>(∃i,xs=[.int i]/\Q (.int i) H)\/∃k,xs=[.bl k]/\Q (.int (if k then 1 else 0)) H):=by
 intro pins s σ H xs us Q I r h
 rcases h with ⟨i,rfl,q⟩ | ⟨k,rfl,q⟩
 ·obtain ⟨u,rfl,t,rfl⟩:=vals1 r
  exact call_int_int ⟨.int i,H,I,⟨_,rfl⟩,q⟩
 ·obtain ⟨u,rfl,r1⟩:=vals1 r
  cases r1
  exact call_int_bool ⟨.int (if k then 1 else 0),H,I.tok _,⟨_,rfl⟩,q⟩
end
theorem RelO.some_of {v:V} {o:Option Value} (r:RelO (some v) o):∃u,o=some u/\RelV v u:=by
 cases o with
 | none=>exact (show False from r).elim
 | some u=>exact ⟨u,rfl,r⟩
structure Room (k:Nat) (A:Around):Prop where
 hd:A.handled=none
 dp:A.depth+3*k+5<recursionLimit
 un:A.units+16*k+200<cLine
 gd:A.guards=some []
theorem Room.mono {j k:Nat} (r:Room k A) (h:j<=k):Room j A:=⟨r.hd,by have:=r.dp;omega,by have:=r.un;omega,r.gd⟩
theorem Room.deeper {k:Nat} (r:Room (k+1) A) (env:Env):Room k (A.deeper env):=
 ⟨r.hd,by have:=r.dp;show A.depth+1+3*k+5<_;omega,by have:=r.un;show A.units+3+16*k+200<_;omega,r.gd⟩
theorem Room.depth {k:Nat} (r:Room k A):A.depth<recursionLimit:=by have:=r.dp;omega
theorem Room.units {k:Nat} (r:Room k A):A.units+64<cLine:=by have:=r.un;omega
def tNil:TA:=fun _ H Q=>Q [] H
def tCons (ta:TE) (tr:TA):TA:=fun σ H Q=>ta σ H fun x H1=>tr σ H1 fun xs H2=>Q (x::xs) H2
section
variable {X:Cx} {e:Expr} {es:List Expr} {te:TE} {t:TA} {pos:Pos}
theorem pa_nil:PA X [] tNil:=fun _ _ _ _ H Q I h=>Calls.spliced_nil ⟨[],H,I,.nil,h⟩
theorem pa_cons (ha:PE X e te) (hr:PA X es t) (hs:starEach (e::es) X.env=(false,eval e X.env)::starEach es X.env:=by rfl):PA X (e::es) (tCons te t):=by
 intro pos pins s σ H Q I h
 rw [hs]
 show wpAny _ _ (spliced ((false,eval e X.env)::backTo pos (starEach es X.env))) _ _ s
 refine Calls.spliced_cons (thn (ha pins s σ H _ I h) fun u s1 ⟨x,H1,I1,r1,q1⟩=>?_)
 exact thn (hr pos pins s1 σ H1 _ I1 q1) fun us s2 ⟨xs,H2,I2,r2,q2⟩=>⟨x::xs,H2,I2,.cons r1 r2,q2⟩
def tTup (t:TA):TE:=fun σ H Q=>t σ H fun xs H1=>xs.length<=sizeLine/\∀p,H1 p=none->Q (.ref p) (upd H1 p (.tup xs))
def tLst (t:TA):TE:=fun σ H Q=>t σ H fun xs H1=>xs.length<=sizeLine/\∀p,H1 p=none->Q (.ref p) (upd H1 p (.lst xs))
theorem pe_tup {x1} (h:PA X es t):PE X (.Tuple es x1 pos) (tTup t):=by
 intro pins s σ H Q I hq
 refine wpAny_Tuple_spliced (thn (h pos pins s σ H _ I hq) fun us s1 ⟨xs,H1,I1,r,z,q⟩=>⟨by rw [<-r.length];exact z,?_⟩)
 have hf:H1 s1.heap.objs.size=none:=I1.hok.fresh (Nat.le_refl _)
 refine ⟨.ref s1.heap.objs.size,upd H1 s1.heap.objs.size (.tup xs),I1.laid (t':=s1.toks) (fun b u e=>Heap.get?_push_of_some _ e) (Nat.le_refl _) ?_,rfl,q _ hf⟩
 exact ⟨z,us,r,⟨_,Heap.get?_push_size _ rfl,rfl,_,rfl⟩⟩
theorem pe_lst (h:PA X es t):PE X (.List es pos) (tLst t):=by
 intro pins s σ H Q I hq
 refine wpAny_List_spliced (thn (h pos pins s σ H _ I hq) fun us s1 ⟨xs,H1,I1,r,z,q⟩=>⟨by rw [<-r.length];exact z,?_⟩)
 have hf:H1 s1.heap.objs.size=none:=I1.hok.fresh (Nat.le_refl _)
 refine ⟨.ref s1.heap.objs.size,upd H1 s1.heap.objs.size (.lst xs),I1.laid (t':=s1.toks) (fun b u e=>Heap.get?_push_of_some _ e) (Nat.le_refl _) ?_,rfl,q _ hf⟩
 exact ⟨z,us,0,r,Heap.get?_push_size _ rfl⟩
end
abbrev Sp:=List V->Hp->VK->XK->Prop
abbrev CXT:=List Env->Hp->Shared->XK->Value->Shared->Prop
structure Env0 (P:Program) (w:World) (K:Fg) (mg:Str->Option Value) (base:Heap) (A:Around) (outer:List Env) (s:Shared) (H:Hp):Prop where
 frames:A.frames=some outer
 mod:Mod K mg base
 bs:∀b o,base.get? b=some o->s.heap.get? b=some o/\H b=none
 bsz:base.objs.size<=s.heap.objs.size
 funs:s.heap.FunFrames base outer
 frf:∀b∈frs outer,H b=none
 hok:HOk P w H s.heap
 bare:AllBare s.gens
def CE (outer:List Env) (P:Program) (w:World) (H:Hp) (s:Shared) (Q:VK) (u:Value) (s':Shared):Prop:=
 ∃v H',s'.os=s.os/\AllBare s'.gens/\Un (frs outer) [] H H' s.heap s'.heap/\HOk P w H' s'.heap/\RelV v u/\Q v H'
def CR (CX:CXT) (outer:List Env) (P:Program) (w:World) (H:Hp) (s:Shared) (Q:VK) (E:XK) (r:Result) (s':Shared):Prop:=
 match r with
 | .ok (.ret u)=>CE outer P w H s Q u s'
 | .ok _=>False
 | .error e=>CX outer H s E e s'
structure FnOk (P:Program) (w:World) (K:Fg) (mg:Str->Option Value) (base:Heap) (CX:CXT) (k:Nat) (f:Addr) (fd:FuncData) (ps:List Str) (sp:Sp):Prop where
 len:∀vs H Q E,sp vs H Q E->vs.length=ps.length
 run:∀(A:Around) (outer:List Env) (s:Shared) (H:Hp) (args:Args) (us:List Value) (vs:List V) (Q:VK) (E:XK),Room k A->Env0 P w K mg base A outer s H->BindsTo s fd args (ps.zip us)->Vals vs us->sp vs H Q E ->
  codeAny (model P w) A (.call (.ref f) args) (CR CX outer P w H s Q E) s
section
variable {X:Cx} {pins:List (Addr×Obj)} {σ:St} {H:Hp} {s s':Shared}
theorem Inv.env0 (I:Inv X pins σ H s):Env0 X.prog X.w X.K X.mg X.base X.A X.stack s H:=
 ⟨I.ok.frames,I.ok.mod,I.bs,Nat.le_trans I.ok.bsz I.sz,I.stack,I.stkFree,I.hok,I.bare⟩
theorem Inv.after {Q:VK} (I:Inv X pins σ H s) (h:CE X.stack X.prog X.w H s Q u s'):EP X pins σ Q u s':=by
 obtain ⟨v,H',os,bare,un,hok,r,q⟩:=h
 obtain ⟨hh,g,d,t,os'⟩:=s'
 obtain rfl:os'=s.os:=os
 exact ⟨v,H',I.call (h':=hh) (g':=g) (d':=d) (t':=t) (ch:=[]) un hok bare (fun b z=>absurd z (by simp)),r,q⟩
end
def tCall (sp:Sp) (dvs:List V) (E:XK) (t:TA):TE:=fun σ H Q=>t σ H fun vs H1=>sp (vs++dvs) H1 Q E
def Binds (K:Fg) (fd:FuncData) (ps:List Str) (ds:List Value):Prop:=
 ∀(s:Shared) (us:List Value),K.In s.heap->(us++ds).length=ps.length->BindsTo s fd ⟨us,[]⟩ (ps.zip (us++ds))
theorem Binds.all {fd:FuncData} (h:∀us:List Value,us.length=ps.length->bindArgs fd ⟨us,[]⟩=pure (ps.zip us)):Binds K fd ps []:=fun s us _ hl=>by
 rw [append_nil] at hl ⊢
 exact .of_eq (h us hl)
def Passes (CX:CXT) (X:Cx) (E:XK):Prop:=∀(pins:List (Addr×Obj)) (σ:St) (H:Hp) (s:Shared) (e:Value) (s':Shared),Inv X pins σ H s->CX X.stack H s E e s'->X.xe e s'
section
variable {X:Cx} {CX:CXT} {k:Nat} {f C:Addr} {fd:FuncData} {ps:List Str} {sp:Sp} {dvs:List V} {ds:List Value} {E:XK} {x m:Str} {p pos apos:Pos} {e o:Expr} {es:List Expr} {ta:TE} {t:TA}
theorem run_fn {H:Hp} {s:Shared} {Q:VK} (F:FnOk X.prog X.w X.K X.mg X.base CX k f fd ps sp) (hr:Room k X.A) (hb:Binds X.K fd ps ds) (hd:Vals dvs ds) (hx:Passes CX X E)
  (I:Inv X pins σ H s) (r:Vals vs us) (h:sp (vs++dvs) H Q E):wpAny (model X.prog X.w) X.A (call (.ref f) us) (EP X pins σ Q) X.xe s:=by
 have r2:Vals (vs++dvs) (us++ds):=r.append hd
 have hl:(us++ds).length=ps.length:=by rw [<-r2.length];exact F.len _ _ _ _ h
 refine wpAny_call (codeAny_mono (F.run X.A X.stack s H ⟨us,[]⟩ (us++ds) (vs++dvs) Q E hr I.env0 (hb s us I.kIn hl) r2 h) fun r s' hq=>?_)
 cases r with
 | error e=>exact hx pins σ H s e s' I hq
 | ok fl=>
  cases fl with
  | ret u=>exact I.after hq
  | next=>exact False.elim hq
  | brk=>exact False.elim hq
  | cont=>exact False.elim hq
theorem pe_call (F:FnOk X.prog X.w X.K X.mg X.base CX k f fd ps sp) (hr:Room k X.A) (hg:Gl X x) (hm:X.mg x=some (.ref f)) (hk:PySem.W.keepIn X.K (.ref f)=true) (hb:Binds X.K fd ps ds) (hd:Vals dvs ds) (hx:Passes CX X E)
  (ha:PA X (e::es) t) (hdb:(x==("__debug__":Str))=false:=by decide) (he:starEach (e::es) X.env=(false,eval e X.env)::starEach es X.env:=by rfl) (hpl:(backTo pos (starEach es X.env)).any (·.1)=false:=by rfl) :
  PE X (.Call (.Name x p) (e::es) [] pos) (tCall sp dvs E t):=by
 intro pins s σ H Q I h
 refine wpAny_Call_Name_kw (ld_glob I hg hm ?_ hdb)
 refine PySem.W.callWith_K (h₀:=X.base) I.ok.mod.kin hk (thn (ha pos pins s σ H _ I h) fun us s1 ⟨vs,H1,I1,r,q⟩=>⟨I1.kIn,?_⟩) he hpl
 exact run_fn F hr hb hd hx I1 r q
end
structure FnScope (N P:List Str) (sc:Scope):Prop where
 kind:sc.kind=.function
 co:sc.isCoroutine=false
 gen:sc.isGenerator=false
 nd:N.Nodup
 pre:N.take P.length=P
 par:∀x∈P,sc.names.lookup x=some .local\/sc.names.lookup x=some .cell
 nofree:∀y∈sc.names,y.2≠.free
theorem bindL_out {kindOf:Str->Option NameKind} {x:Str}:∀{binds:List (Str×Value)} {m:Str->Option Value},(∀v,(x,v)∉binds)->bindL kindOf binds m x=m x
 | [],_,_=>rfl
 | (n,v)::r,m,h=>by
  unfold bindL
  rw [bindL_out fun w hw=>h w (mem_cons_of_mem _ hw)]
  split
  ·have:x≠n:=by rintro rfl;exact h v mem_cons_self
   simp [this]
  ·rfl
theorem bindC_out {kindOf:Str->Option NameKind} {x:Str}:∀{binds:List (Str×Value)} {m:Str->Option Value},(∀v,(x,v)∉binds)->bindC kindOf binds m x=m x
 | [],_,_=>rfl
 | (n,v)::r,m,h=>by
  unfold bindC
  rw [bindC_out fun w hw=>h w (mem_cons_of_mem _ hw)]
  split
  ·rfl
  ·have:x≠n:=by rintro rfl;exact h v mem_cons_self
   simp [this]
theorem bindL_get {kindOf:Str->Option NameKind} {x:Str} {v:Value}:∀{P:List Str} {vs:List Value} {i:Nat} {m:Str->Option Value},P.Nodup->P[i]?=some x->vs[i]?=some v->kindOf x=some .local ->
  bindL kindOf (P.zip vs) m x=some v
 | [],_,_,_,_,h,_,_=>by simp at h
 | _::_,[],_,_,_,_,h,_=>by simp at h
 | p::P,w::vs,0,m,nd,h1,h2,hk=>by
  simp at h1 h2;subst h1;subst h2
  show bindL kindOf ((p,w)::P.zip vs) m p=_
  unfold bindL
  rw [bindL_out fun v hv=>(List.nodup_cons.mp nd).1 (List.of_mem_zip hv).1,if_pos hk]
  simp
 | p::P,w::vs,i+1,m,nd,h1,h2,hk=>by
  show bindL kindOf ((p,w)::P.zip vs) m x=_
  unfold bindL
  exact bindL_get (i:=i) (List.nodup_cons.mp nd).2 (by simpa using h1) (by simpa using h2) hk
theorem bindC_get {kindOf:Str->Option NameKind} {x:Str} {v:Value}:∀{P:List Str} {vs:List Value} {i:Nat} {m:Str->Option Value},P.Nodup->P[i]?=some x->vs[i]?=some v->kindOf x≠some .local ->
  bindC kindOf (P.zip vs) m x=some v
 | [],_,_,_,_,h,_,_=>by simp at h
 | _::_,[],_,_,_,_,h,_=>by simp at h
 | p::P,w::vs,0,m,nd,h1,h2,hk=>by
  simp at h1 h2;subst h1;subst h2
  show bindC kindOf ((p,w)::P.zip vs) m p=_
  unfold bindC
  rw [bindC_out fun v hv=>(List.nodup_cons.mp nd).1 (List.of_mem_zip hv).1,if_neg hk]
  simp
 | p::P,w::vs,i+1,m,nd,h1,h2,hk=>by
  show bindC kindOf ((p,w)::P.zip vs) m x=_
  unfold bindC
  exact bindC_get (i:=i) (List.nodup_cons.mp nd).2 (by simpa using h1) (by simpa using h2) hk
def start (N:List Str) (vs:List V):St:=vs.map some++List.replicate (N.length-vs.length) none
def cxOf (CX:CXT) (P:Program) (w:World) (K:Fg) (mg:Str->Option Value) (base:Heap) (N:List Str) (qual:Str) (scope:Scope) (f:Addr) (cd:Value) (A:Around) (outer:List Env) (s:Shared) (H:Hp) (E:XK):Cx where
 prog:=P
 w:=w
 K:=K
 mg:=mg
 base:=base
 A:=A.deeper (envOfC qual scope s.heap.objs.size f cd)
 N:=N
 s₀:=s
 H₀:=H
 env:=envOfC qual scope s.heap.objs.size f cd
 outer:=outer
 stack:=envOfC qual scope s.heap.objs.size f cd::outer
 ex:=[]
 calm:=true
 fn:=fun _=>true
 pn:=[]
 xe:=fun e s'=>wpAny (model P w) (A.deeper (envOfC qual scope s.heap.objs.size f cd)) (leaving (envOfC qual scope s.heap.objs.size f cd) e) (fun _ s''=>CX outer H s E e s'') (fun e' s''=>CX outer H s E e' s'') s'
theorem cell_has {sc:Scope} (h:sc.names.lookup x=some .cell):∃c,(cellsFrom n sc.names []).lookup x=some c:=by
 have q:=PySem.W.cellsFrom_some sc.names n [] (.inl h)
 exact Option.isSome_iff_exists.mp q
theorem inv_start {CX:CXT} {P:Program} {w:World} {f:Addr} {cd:Value} {outer:List Env} {s s1:Shared} {H:Hp} {E:XK}
  (S:FnScope N ps scope) (hd:A.handled=none) (e0:Env0 P w K mg base A outer s H) (hl:vs.length=ps.length) (r:Vals vs us)
  (x:InCallC s s.heap.objs.size (bindL (envOfC qual scope s.heap.objs.size f cd).kindOf (ps.zip us) fun _=>none) (cellsFrom (s.heap.objs.size+1) scope.names []) (bindC (envOfC qual scope s.heap.objs.size f cd).kindOf (ps.zip us) fun _=>none) s1) :
  Inv (cxOf CX P w K mg base N qual scope f cd A outer s H E) [] (start N vs) H s1:=by
 have hpl:ps.length<=N.length:=by have:=congrArg List.length S.pre;rw [length_take] at this;omega
 obtain ⟨h1,tk,rfl,hk⟩:=x.done
 have noA:∀b:Addr,b∉(cxOf CX P w K mg base N qual scope f cd A outer s H E).ex:=fun b z=>absurd (show b∈([]:List Addr) from z) (by simp)
 refine ⟨⟨e0.mod,S.kind,rfl,rfl,Nat.le_refl _,fun y z c h1 h2=>?_,fun y hy=>?_,fun y c _ h=>?_,fun _=>hd,Around.frames_deeper e0.frames,.inr ⟨rfl,rfl⟩,fun b z=>absurd z (noA b),e0.bs,e0.bsz,fun b _ _=>noA b,fun b z=>absurd z (noA b),e0.funs,e0.frf⟩,
  rfl,e0.bare,Un.kept hk,⟨_,x.toInCall.ns,fun i y v h1 h2 h3=>?_⟩,fun y c h=>⟨_,x.cell y c h⟩,e0.hok.fresh (Nat.le_refl _),fun y c h=>?_,fun p hp=>absurd (show p∈([]:List (Addr×Obj)) from hp) (by simp),e0.hok.kept hk,?_⟩
 ·exact name_of_addr x.apart (PySem.mem_of_lookup h1) (PySem.mem_of_lookup h2)
 ·have hy:scope.names.lookup y=some .cell\/scope.names.lookup y=some .free:=hy
  rcases hy with hy | hy
  ·exact cell_has hy
  ·exact absurd rfl (S.nofree _ (PySem.mem_of_lookup hy))
 ·exact Nat.le_of_lt (x.above y c (PySem.mem_of_lookup h))
 ·have hi:i<vs.length:=by
   unfold start at h2
   by_cases hi:i<vs.length
   ·exact hi
   ·rw [getElem?_append_right (by simpa using hi)] at h2
    rw [getElem?_replicate] at h2
    split at h2<;>cases h2
  have ha:vs[i]?=some v:=by
   unfold start at h2
   rw [getElem?_append_left (by simpa using hi),getElem?_map] at h2
   cases e:vs[i]? with
   | none=>rw [e] at h2;cases h2
   | some a=>rw [e] at h2;cases h2;rfl
  obtain ⟨u,hu,rv⟩:=r.get ha
  have hp:ps[i]?=some y:=by
   rw [<-S.pre,List.getElem?_take_of_lt (by omega)];exact h1
  have ndP:ps.Nodup:=by rw [<-S.pre];exact S.nd.sublist (List.take_sublist _ _)
  refine ⟨u,rv,?_⟩
  rcases S.par y (mem_of_getElem? hp) with k | k
  ·exact .inl ⟨k,bindL_get ndP hp hu k⟩
  ·obtain ⟨c,e⟩:=cell_has (n:=s.heap.objs.size+1) k
   refine .inr ⟨.inl k,c,e,?_⟩
   have q:=x.cell y c e
   rw [bindC_get ndP hp hu (by show scope.names.lookup y≠_;rw [k];decide)] at q
   exact q
 ·exact e0.hok.fresh (Nat.le_of_lt (x.above y c (PySem.mem_of_lookup h)))
 ·unfold start
  show _=N.length
  rw [length_append,length_map,List.length_replicate]
  omega
theorem fn_of {CX:CXT} {P:Program} {w:World} {k:Nat} {f:Addr} {name:Str} {params:Arguments} {body:List Stmt} {dV kV doc pm cdv ct oc:Value} {an od:Option Addr}
  {osl:Array (Option Value)} {sp:Sp} (lk:K.lookup f=some ⟨oc,od,.func (PySem.W.fnOf name qual params body scope dV kV doc pm an cdv ct),osl⟩) (hcd:PySem.W.codeIn K cdv qual=true) (S:FnScope N ps scope)
  (len:∀vs H Q E,sp vs H Q E->vs.length=ps.length)
  (hbody:∀(A:Around) (outer:List Env) (s:Shared) (H:Hp) (vs:List V) (Q:VK) (E:XK),Room k (A.deeper (envOfC qual scope s.heap.objs.size f cdv))->sp vs H Q E ->
   ∃t,PSs (cxOf CX P w K mg base N qual scope f cdv A outer s H E) body t/\t { nx:=fun _ H'=>Q .non H',rt:=Q } (start N vs) H) :
  FnOk P w K mg base CX (k+1) f (PySem.W.fnOf name qual params body scope dV kV doc pm an cdv ct) ps sp:=by
 refine ⟨len,fun A outer s H args us vs Q E hr e0 hb r hsp=>?_⟩
 have hl:=len _ _ _ _ hsp
 have KX:K.In s.heap:=e0.mod.kin.keeps fun b o e=>(e0.bs b o e).1
 have lim:s.heap.NoLimit:=e0.mod.nolimit.keeps fun b o e=>(e0.bs b o e).1
 have hkind:∀y∈ps.zip us,scope.names.lookup y.1=some .local\/(scope.names.lookup y.1=some .cell/\((cellsFrom (s.heap.objs.size+1) scope.names []).lookup y.1).isSome=true):=fun ⟨n,v⟩ hy=>by
  rcases S.par n (List.of_mem_zip hy).1 with q | q
  ·exact .inl q
  ·exact .inr ⟨q,PySem.W.cellsFrom_some _ _ _ (.inl q)⟩
 refine codeAny_call_function hr.depth (KX _ _ lk) rfl S.co S.gen rfl (PySem.W.codeRec_of KX hcd) (hb _ _ _ _ ?_)
 refine wpAny_newFunctionEnv_cells S.kind hkind fun env he s1 x=>?_
 subst he
 refine ⟨lim.keeps x.toInCall.keep,codeAny_func ?_⟩
 obtain ⟨t,ht,hq⟩:=hbody A outer s H vs Q E (hr.deeper _) hsp
 have I:Inv (cxOf CX P w K mg base N qual scope f cdv A outer s H E) [] (start N vs) H s1:=inv_start S hr.hd e0 hl r x
 refine wpAny_mono (ht [] s1 (start N vs) H _ I hq) (fun fl s' hs=>?_) fun e s' hs=>hs
 have fin:∀{σ':St} {H':Hp} {v:V} {u:Value},Inv (cxOf CX P w K mg base N qual scope f cdv A outer s H E) [] σ' H' s'->RelV v u->Q v H'->CE outer P w H s Q u s':=
  fun {σ' H' v u} J rv q=>⟨v,H',J.os,J.bare,J.base,J.hok,rv,q⟩
 cases fl with
 | ret u=>
  obtain ⟨v,σ',H',J,rv,q⟩:=hs
  exact fin J rv q
 | next=>
  obtain ⟨σ',H',J,q⟩:=hs
  exact fin (v:=V.non) (u:=Value.none) J rfl q
 | brk=>
  obtain ⟨_,_,_,q⟩:=hs
  exact False.elim q
 | cont=>
  obtain ⟨_,_,_,q⟩:=hs
  exact False.elim q
section
variable {X:Cx} {x:Str} {p pos:Pos} {e:Expr} {es:List Expr} {t:TA} {id T:String} {r:List V->Hp->VK->Prop}
def tCB (r:List V->Hp->VK->Prop) (t:TA):TE:=fun σ H Q=>t σ H fun vs H1=>r vs H1 Q
theorem pe_callB (hc:CallR X (.builtin id) r) (hg:Gl X x) (hm:X.mg x=none) (hv:bootBuiltins x=some (.builtin id)) (ha:PA X (e::es) t) (hn:x ≠ "__name__":=by decide) (hdb:(x==("__debug__":Str))=false:=by decide)
  (he:starEach (e::es) X.env=(false,eval e X.env)::starEach es X.env:=by rfl) (hpl:(backTo pos (starEach es X.env)).any (·.1)=false:=by rfl):PE X (.Call (.Name x p) (e::es) [] pos) (tCB r t):=by
 intro pins s σ H Q I h
 refine wpAny_Call_Name_kw (ld_blt I hg hm hv ?_ hn hdb)
 exact PyProof.Rows.callWith_builtin1 (thn (ha pos pins s σ H _ I h) fun us s1 ⟨vs,H1,I1,r1,q1⟩=>hc pins s1 σ H1 vs us Q I1 r1 q1) he hpl
theorem pe_callTy (hc:CallR X (.type T) r) (hg:Gl X x) (hm:X.mg x=none) (hv:bootBuiltins x=some (.type T)) (ha:PA X (e::es) t) (hn:x ≠ "__name__":=by decide) (hdb:(x==("__debug__":Str))=false:=by decide)
  (he:starEach (e::es) X.env=(false,eval e X.env)::starEach es X.env:=by rfl) (hpl:(backTo pos (starEach es X.env)).any (·.1)=false:=by rfl):PE X (.Call (.Name x p) (e::es) [] pos) (tCB r t):=by
 intro pins s σ H Q I h
 refine wpAny_Call_Name_kw (ld_blt I hg hm hv ?_ hn hdb)
 exact PyProof.Rows.callWith_type1 (thn (ha pos pins s σ H _ I h) fun us s1 ⟨vs,H1,I1,r1,q1⟩=>hc pins s1 σ H1 vs us Q I1 r1 q1) he hpl
end
def ixN (n:Nat) (i:Int):Option Nat:=if 0<=i then (if i<n then some i.toNat else none) else if -(n:Int)<=i then some (i+n).toNat else none
def atI {α:Type} (xs:List α) (i:Int):Option α:=(ixN xs.length i).bind fun j=>xs[j]?
theorem ixN_seq {i:Int} {j:Nat} (h:ixN n i=some j):seqIndex? i n=some j/\j<n/\-(n:Int)<=i/\i<n:=by
 unfold ixN at h
 by_cases h0:0<=i
 ·rw [if_pos h0] at h
  by_cases h1:i<n
  ·rw [if_pos h1] at h
   have e:i.toNat=j:=Option.some.inj h
   exact ⟨by rw [seqIndex_of h0 h1,e],by omega,by omega,h1⟩
  ·rw [if_neg h1] at h;cases h
 ·rw [if_neg h0] at h
  by_cases h1:-(n:Int)<=i
  ·rw [if_pos h1] at h
   have e:(i+n).toNat=j:=Option.some.inj h
   exact ⟨by rw [seqIndex_neg (by omega) h1,e],by omega,h1,by omega⟩
  ·rw [if_neg h1] at h;cases h
theorem atI_get {xs:List α} {i:Int} {v:α} (h:atI xs i=some v):∃j,seqIndex? i xs.length=some j/\xs[j]?=some v/\j<xs.length/\-(xs.length:Int)<=i/\i<xs.length:=by
 unfold atI at h
 cases e:ixN xs.length i with
 | none=>rw [e] at h;cases h
 | some j=>
  rw [e] at h
  obtain ⟨h1,h2,h3,h4⟩:=ixN_seq e
  exact ⟨j,h1,h,h2,h3,h4⟩
def PlainIx (b:Expr):Prop:=∀o i,subscripted b false o i=operate [o,i] (getItem o i)
def IxR (X:Cx) (r:R2):Prop:=
 ∀(value slice:Expr) (pins:List (Addr×Obj)) (s:Shared) (σ:St) (H:Hp) (x y:V) (v u:Value) (Q:VK),Inv X pins σ H s->RelV x v->RelV y u->r x y H Q ->
  subscripted slice false v u=operate [v,u] (getItem v u)->wpAny (model X.prog X.w) X.A (subscriptTail value slice v u) (EP X pins σ Q) X.xe s
def MtR (X:Cx) (id:String) (r:V->List V->Hp->VK->Prop):Prop:=
 ∀(pins:List (Addr×Obj)) (s:Shared) (σ:St) (H:Hp) (x:V) (xs:List V) (v:Value) (us:List Value) (Q:VK),Inv X pins σ H s->RelV x v->Vals xs us->r x xs H Q ->
  wpAny (model X.prog X.w) X.A (call (.builtin id) (v::us)) (EP X pins σ Q) X.xe s
section
variable {X:Cx} {a b:Expr} {ta tb:TE} {pos:Pos}
theorem IxR.or {r r':R2} (h:IxR X r) (h':IxR X r'):IxR X (fun x y H Q=>r x y H Q\/r' x y H Q):=by
 intro value slice pins s σ H x y v u Q I rx ry q hs
 rcases q with q | q
 ·exact h value slice pins s σ H x y v u Q I rx ry q hs
 ·exact h' value slice pins s σ H x y v u Q I rx ry q hs
theorem pe_ix {r:R2} (hr:IxR X r) (ha:PE X a ta) (hb:PE X b tb) (hs:PlainIx b):PE X (.Subscript a b pos) (tOp r ta tb):=by
 intro pins s σ H Q I h
 exact Subscript_ (binT ha hb I h fun v u s2 x y H2 I2 rx ry q=>hr a b pins s2 σ H2 x y v u Q I2 rx ry q (hs _ _))
def rIxL (K:Fg):R2:=fun x y H Q=>∃p xs i v,x=.ref p/\y=.int i/\SqL K H p xs/\atI xs i=some v/\Q v H
def rIxT (K:Fg):R2:=fun x y H Q=>∃p xs i v,x=.ref p/\y=.int i/\SqT K H p xs/\atI xs i=some v/\Q v H
def rIxS:R2:=fun x y H Q=>∃z i c,x=.str z/\y=.int i/\z.length<=sizeLine/\atI z.cps.toList i=some c/\Q (.str ⟨#[c]⟩) H
theorem ix_list:IxR X (rIxL X.K):=by
 intro value slice pins s σ H x y v u Q I rx ry h hs
 obtain ⟨p,xs,i,z,rfl,rfl,hq,he,q⟩:=h
 cases rx
 obtain ⟨t,rfl⟩:=ry
 obtain ⟨its,r,pl,hz⟩:=I.list hq
 obtain ⟨j,h1,h2,h3,h4,h5⟩:=atI_get he
 obtain ⟨w,ew,rw'⟩:=r.get h2
 have hl:=r.length
 have hn:=line63
 have fin:EP X pins σ Q w s:=⟨z,H,I,rw',q⟩
 by_cases h0:0<=i
 ·have hj:i.toNat=j:=by
   rw [seqIndex_of h0 h5] at h1
   exact Option.some.inj h1
  exact item_listR pl.isList h0 (by omega) (by rw [hj];simpa using ew) fin hs
 ·have hj:(i+(its.toArray.size:Int)).toNat=j:=by
   rw [seqIndex_neg (by omega) h4] at h1
   rw [size_toArray,<-hl]
   exact Option.some.inj h1
  exact subscriptTail_builtinR (x:=w) pl.isList.typeIs slot_list_getitem.lookup
   (wpAny_getItem_list_neg (Q:=fun r s'=>r=w/\EP X pins σ Q r s') pl.isList (by omega) (by rw [size_toArray]<;>omega) (by omega) (by rw [hj];simpa using ew) ⟨rfl,fin⟩) hs
theorem ix_tup:IxR X (rIxT X.K):=by
 intro value slice pins s σ H x y v u Q I rx ry h hs
 obtain ⟨p,xs,i,z,rfl,rfl,hq,he,q⟩:=h
 cases rx
 obtain ⟨t,rfl⟩:=ry
 obtain ⟨its,r,pl,hz⟩:=I.tuple hq
 obtain ⟨j,h1,h2,h3,h4,h5⟩:=atI_get he
 obtain ⟨w,ew,rw'⟩:=r.get h2
 have hl:=r.length
 have hn:=line63
 have fin:EP X pins σ Q w s:=⟨z,H,I,rw',q⟩
 exact subscriptTail_builtinR (x:=w) pl.typeIs slot_tuple_getitem.lookup
  (getItem_tuple (j:=j) (Q:=fun r s'=>r=w/\EP X pins σ Q r s') pl (by omega) (by omega) (by rw [size_toArray,<-hl];exact h1) (by simpa using ew) ⟨rfl,fin⟩) hs
theorem ix_str:IxR X rIxS:=by
 intro value slice pins s σ H x y v u Q I rx ry h hs
 obtain ⟨z,i,c,rfl,rfl,hz,he,q⟩:=h
 obtain ⟨t,rfl⟩:=rx
 obtain ⟨t',rfl⟩:=ry
 obtain ⟨j,h1,h2,h3,h4,h5⟩:=atI_get he
 have hl:z.cps.toList.length=z.length:=by simp [Str.length]
 rw [hl] at h1 h4 h5
 have hn:=line63
 exact tail_any (typeIs_str s z t) slot_str_getitem.lookup (getItem_str (c:=c) (by
  have e1:decide (i < -(2 ^ 63:Int))=false:=decide_eq_false (by omega)
  have e2:decide (i≥2 ^ 63)=false:=decide_eq_false (by omega)
  rw [e1,e2,Bool.or_false]) (by rw [h1];simpa using h2) ⟨.str ⟨#[c]⟩,H,I.tok _,⟨_,rfl⟩,q⟩) hs
def rIx (K:Fg):R2:=fun x y H Q=>rIxL K x y H Q\/rIxT K x y H Q\/rIxS x y H Q
theorem ix_seq:IxR X (rIx X.K):=ix_list.or (ix_tup.or ix_str)
theorem call_len_seq:CallR X (.builtin "len") (fun xs H Q=>∃p ys,xs=[.ref p]/\(SqL X.K H p ys\/SqT X.K H p ys)/\Q (.int ys.length) H):=by
 intro pins s σ H xs us Q I r h
 obtain ⟨p,ys,rfl,hq,q⟩:=h
 obtain ⟨u,rfl,rx⟩:=vals1 r
 cases rx
 have hn:=line63
 rcases hq with hq | hq
 ·obtain ⟨its,r',pl,hz⟩:=I.list hq
  have hlen:=r'.length
  exact Calls.call_len_list pl.isList (by simp only [size_toArray]<;>omega) ⟨.int ys.length,H,I.tok _,⟨s.toks+1,by rw [size_toArray,hlen]⟩,q⟩
 ·obtain ⟨its,r',pl,hz⟩:=I.tuple hq
  have hlen:=r'.length
  exact len_tuple pl (by simp only [size_toArray]<;>omega) ⟨.int ys.length,H,I.tok _,⟨s.toks+1,by rw [size_toArray,hlen]⟩,q⟩
theorem call_len_str:CallR X (.builtin "len") (fun xs H Q=>∃z,xs=[.str z]/\z.length<=sizeLine/\Q (.int z.length) H):=by
 intro pins s σ H xs us Q I r h
 obtain ⟨z,rfl,hz,q⟩:=h
 obtain ⟨u,rfl,t,rfl⟩:=vals1 r
 have hn:=line63
 exact len_str (by omega) ⟨.int z.length,H,I.tok _,⟨_,rfl⟩,q⟩
theorem CallR.or {f:Value} {r r':List V->Hp->VK->Prop} (h:CallR X f r) (h':CallR X f r'):CallR X f (fun xs H Q=>r xs H Q\/r' xs H Q):=by
 intro pins s σ H xs us Q I rs q
 rcases q with q | q
 ·exact h pins s σ H xs us Q I rs q
 ·exact h' pins s σ H xs us Q I rs q
theorem call_list_of:CallR X (.type "list") (fun xs H Q=>∃p ys,xs=[.ref p]/\(SqL X.K H p ys\/SqT X.K H p ys)/\∀l,H l=none->Q (.ref l) (upd H l (.lst ys))):=by
 intro pins s σ H xs us Q I r h
 obtain ⟨p,ys,rfl,hq,q⟩:=h
 obtain ⟨u,rfl,rx⟩:=vals1 r
 cases rx
 have fin:∀(its:List Value),Vals ys its->ys.length<=sizeLine->∀(h':Heap) (c':Nat),(∀b o',s.heap.get? b=some o'->h'.get? b=some o') ->
   h'.get? s.heap.objs.size=some { cls:=.type "list",dict:=none,data:=.seq its.toArray c',slots:=#[] }->EP X pins σ Q (.ref s.heap.objs.size) { s with heap:=h' }:=fun its r' hz h' c' kp e=>
  ⟨.ref s.heap.objs.size,_,I.laid (t':=s.toks) kp (Nat.le_refl _) (show ObjOk X.prog X.w _ h' _ (.lst ys) from ⟨hz,its,c',r',e⟩),rfl,q _ (I.hok.fresh (Nat.le_refl _))⟩
 rcases hq with hq | hq
 ·obtain ⟨its,r',pl,hz⟩:=I.list hq
  have hlen:=r'.length
  obtain ⟨o,ho,hc,n,hd⟩:=pl.isList
  exact call_list_seq p (.inl rfl) ho hc hd (fun h' c' kp e=>fin its r' hz h' c' kp e) (by simp only [size_toArray]<;>omega)
 ·obtain ⟨its,r',pl,hz⟩:=I.tuple hq
  have hlen:=r'.length
  obtain ⟨o,ho,hc,n,hd⟩:=pl
  exact call_list_seq p (.inr rfl) ho hc hd (fun h' c' kp e=>fin its r' hz h' c' kp e) (by simp only [size_toArray]<;>omega)
theorem call_tuple_of:CallR X (.type "tuple") (fun xs H Q=>∃p ys,xs=[.ref p]/\((SqL X.K H p ys/\∀l,H l=none->Q (.ref l) (upd H l (.tup ys)))\/(SqT X.K H p ys/\Q (.ref p) H))):=by
 intro pins s σ H xs us Q I r h
 obtain ⟨p,ys,rfl,h⟩:=h
 obtain ⟨u,rfl,rx⟩:=vals1 r
 cases rx
 rcases h with ⟨hq,q⟩ | ⟨hq,q⟩
 ·obtain ⟨its,r',pl,hz⟩:=I.list hq
  have hlen:=r'.length
  refine call_tuple_list pl.isList (fun h' kp=>?_) (by simp only [size_toArray]<;>omega)
  have I1:Inv X pins σ H { s with heap:=h' }:=I.kept (t':=s.toks) kp
  have I2:Inv X pins σ (upd H h'.objs.size (.tup ys)) { s with heap:=h'.push { cls:=.type "tuple",data:=.seq its.toArray } }:=
   I1.laid (t':=s.toks) (fun b o e=>Heap.get?_push_of_some _ e) (Nat.le_refl _) (show ObjOk X.prog X.w _ _ _ (.tup ys) from ⟨hz,its,r',IsTup.new _ _⟩)
  exact ⟨.ref h'.objs.size,_,I2,rfl,q _ (I1.hok.fresh (Nat.le_refl _))⟩
 ·obtain ⟨its,r',pl,hz⟩:=I.tuple hq
  exact call_tuple_same pl ⟨.ref p,H,I,rfl,q⟩
def tyV (K:Fg) (T:String) (x:V) (H:Hp):Prop:=match x with
 | .str _=>T = "str"
 | .int _=>T = "int"
 | .ref p=>(T = "list"/\∃xs,SqL K H p xs)\/(T = "tuple"/\∃o,K.lookup p=some o/\o.cls=.type "tuple"/\o.dict=none) \/
   (T = "dict"/\((∃kvs,H p=some (.dK kvs))\/∃kvs,H p=some (.dT kvs)))\/(T = "set"/\∃S n,H p=some (.set S n))
 | _=>False
theorem tyV_is {H:Hp} {s:Shared} {T:String} {x:V} {v:Value} (I:Inv X pins σ H s) (r:RelV x v) (ty:tyV X.K T x H) :
  s.TypeIs v T/\∀a,v=.ref a->∃ob,s.heap.get? a=some ob/\ob.dict=none:=by
 cases x with
 | str z=>
  obtain ⟨t,rfl⟩:=r
  cases (show T = "str" from ty)
  exact ⟨typeIs_str s z t,fun _ e=>nomatch e⟩
 | int i=>
  obtain ⟨t,rfl⟩:=r
  cases (show T = "int" from ty)
  exact ⟨typeIs_int s i t,fun _ e=>nomatch e⟩
 | ref p=>
  cases r
  rcases ty with ⟨rfl,xs,hq⟩ | ⟨rfl,o,hk,hc,hd⟩ | ⟨rfl,hk⟩ | ⟨rfl,S,n,hk⟩
  ·obtain ⟨its,_,pl,_⟩:=I.list hq
   refine ⟨pl.isList.typeIs,fun a e=>?_⟩
   cases e
   obtain ⟨o,n,e,c,hd,_⟩:=pl
   exact ⟨o,e,hd⟩
  ·refine ⟨⟨o,I.kIn p o hk,hc⟩,fun a e=>?_⟩
   cases e
   exact ⟨o,I.kIn _ o hk,hd⟩
  ·have z:∃o,s.heap.get? p=some o/\o.ExactDict:=by
    rcases hk with ⟨kvs,hk⟩ | ⟨kvs,hk⟩
    ·obtain ⟨_,_,_,_,o,_,_,e,ex,_⟩:=I.hok p _ hk
     exact ⟨o,e,ex⟩
    ·obtain ⟨_,_,_,_,o,_,_,e,ex,_⟩:=I.hok p _ hk
     exact ⟨o,e,ex⟩
   obtain ⟨o,e,ex⟩:=z
   refine ⟨⟨o,e,ex.1⟩,fun a e2=>?_⟩
   cases e2
   exact ⟨o,e,ex.2.1⟩
  ·obtain ⟨o,_,_,_,e,ex,_⟩:=I.hok p _ hk
   refine ⟨⟨o,e,ex.1⟩,fun a e2=>?_⟩
   cases e2
   exact ⟨o,e,ex.2.1⟩
 | _=>exact False.elim ty
def tBM (K:Fg) (T:String) (r:V->List V->Hp->VK->Prop) (to:TE) (t:TA):TE:=fun σ H Q=>to σ H fun x H1=>tyV K T x H1/\t σ H1 fun xs H2=>r x xs H2 Q
variable {o e:Expr} {es:List Expr} {to:TE} {t:TA} {name:Str} {apos cpos:Pos} {T id:String} {r:V->List V->Hp->VK->Prop}
theorem pe_bm (pa:PlainAttrs T) (slot:Slot T name id) (hty:typeOf (.builtin id)=pure (.type "method_descriptor")) (hm:MtR X id r) (ho:PE X o to) (ha:PA X (e::es) t)
  (hbase:attributeBase o name X.env (eval o X.env)=eval o X.env:=by rfl)
  (hfew:((backTo cpos (starEach (e::es) X.env)).all (fun x=>!x.1)&&(backToKw cpos (keywordEach [] X.env)).all (fun x=>x.1.isSome)
   && decide ((e::es).length+([]:List Keyword).length+(if ([]:List Keyword).isEmpty then 0 else 1)<30))=true:=by rfl)
  (hline:(apos.endLine==cpos.line)=true:=by rfl) (hs:starEach (e::es) X.env=(false,eval e X.env)::starEach es X.env:=by rfl) (hplain:(backTo cpos (starEach es X.env)).any (·.1)=false:=by rfl) :
  PE X (.Call (.Attribute o name apos) (e::es) [] cpos) (tBM X.K T r to t):=by
 intro pins s σ H Q I h
 refine wpAny_Call_method_late hbase hfew hline rfl (thn (ho pins s σ H _ I h) fun v s1 ⟨x,H1,I1,r1,ty,q1⟩=>?_)
 obtain ⟨h1,h2⟩:=tyV_is I1 r1 ty
 refine ⟨T,id,pa,slot,hty,h1,h2,?_⟩
 have hA:=ha cpos pins s1 σ H1 _ I1 q1
 rw [hs] at hA ⊢
 refine Calls.callWith_builtin (by show (false||(backTo cpos (starEach es X.env)).any (·.1))=false;rw [hplain]<;>rfl) (Calls.evalArgs_plain ?_)
 exact thn hA fun us s2 ⟨vs,H2,I2,r2,q2⟩=>hm pins s2 σ H2 x vs v us Q I2 r1 r2 q2
end
def MtM (X:Cx) (id:String) (r:V->List V->Hp->VK->Prop):Prop:=
 ∀(pins:List (Addr×Obj)) (s:Shared) (σ:St) (H:Hp) (x:V) (xs:List V) (v:Value) (us:List Value) (Q:VK),Inv X pins σ H s->RelV x v->Vals xs us->r x xs H Q ->
  wpAny (model X.prog X.w) X.A (call (.builtin id) (v::us)) (EP X pins σ Q) X.xe s
theorem Vals.one:∀{x:V} {us:List Value},Vals [x] us->∃u,us=[u]/\RelV x u
 | _,_,.cons r .nil=>⟨_,rfl,r⟩
section
variable {X:Cx} {pins:List (Addr×Obj)} {σ:St} {H:Hp} {s:Shared} {l b:Addr} {xs ys zs:List V}
theorem Inv.lset {its':List Value} {f:Array Value->Array Value} (I:Inv X pins σ H s) (hH:H l=some (.lst xs))
  (e:s.heap.get? l=some { cls:=.type "list",data:=.seq its.toArray n }) (hf:f its.toArray=its'.toArray) (hv:Vals ys its') (hz:ys.length<=sizeLine) :
  Inv X pins σ (upd H l (.lst ys)) { s with heap:=s.heap.update l (Obj.mapSeq f),toks:=t' }:=by
 have q:=PySem.IsL.update e f
 rw [hf] at q
 refine I.write (x:=l) (e:=l) (by rw [hH];exact trivial) (.inl rfl) (fun b' u hb hu=>(Heap.get?_update_other s.heap (Obj.mapSeq f) (Ne.symm hb)).trans hu) ⟨_,q⟩ ?_
 exact ⟨hz,its',_,hv,q⟩
theorem Inv.lnew (I:Inv X pins σ H s) (hv:Vals ys its) (hz:ys.length<=sizeLine) :
  Inv X pins σ (upd H s.heap.objs.size (.lst ys)) { s with heap:=s.heap.push { cls:=.type "list",data:=.seq its.toArray },toks:=t' }:=
 I.laid (fun _ _ q=>Heap.get?_push_of_some _ q) (Nat.le_refl _) ⟨hz,its,0,hv,Heap.get?_push_size _ rfl⟩
theorem Inv.fresh (I:Inv X pins σ H s):H s.heap.objs.size=none:=I.hok.fresh (Nat.le_refl _)
theorem Inv.lstM (I:Inv X pins σ H s) (hH:H l=some (.lst xs)):xs.length<=sizeLine/\∃(its:List Value) (n:Nat),Vals xs its/\xs.length=its.length/\s.heap.get? l=some { cls:=.type "list",data:=.seq its.toArray n }:=by
 obtain ⟨z,its,n,r,e⟩:=I.hok l _ hH
 exact ⟨z,its,n,r,r.length,e⟩
end
section
variable {X:Cx}
def rAppend:V->List V->Hp->VK->Prop:=fun x vs H Q=>∃l xs y,x=.ref l/\vs=[y]/\H l=some (.lst xs)/\xs.length<sizeLine/\Q .non (upd H l (.lst (xs++[y])))
theorem mt_append:MtM X "list.append" rAppend:=by
 intro pins s σ H x vs v us Q I rx rv h
 obtain ⟨l,xs,y,rfl,rfl,hH,hz,q⟩:=h
 cases rx
 obtain ⟨u,rfl,ru⟩:=rv.one
 obtain ⟨z,its,n,r,hl,e⟩:=I.lstM hH
 refine call_meets F.slot_list_append ⟨_,e,rfl⟩ F.entry_list_append (F.args_list_append_2 _ _) (PySem.list_append l its.toArray n u (by rw [size_toArray];omega)) ⟨e,?_⟩
 refine ⟨.non,_,I.lset (its':=its++[u]) hH e (by simp) (r.append (.cons ru .nil)) ?_,rfl,q⟩
 rw [length_append,length_singleton]
 omega
end
section
variable {prog:Program} {w:World} {A:Around} {E:Value->Shared->Prop} {s:Shared}
set_option maxRecDepth 100000 in
end
end L2
namespace Att
open PySem PySem.W PySem.Calls PyProof.Rows
variable {h:Heap} {l:OpenLaw} {n:Nat}
theorem ints_of_wellAll {P:Params}:∀(ns:List Int) (vs:List Value),WellAll P h vs (ns.map WData.int)->IntsAre vs ns:=by
 intro ns
 induction ns with
 | nil=>
  intro vs w
  rw [List.map_nil] at w
  cases w
  exact .nil
 | cons n ns ih=>
  intro vs w
  rw [map_cons] at w
  cases w with
  | cons a b=>
   cases a
   exact .cons _ _ (ih _ b)
theorem script_of (hn:l.most=some n) {P:Params} {args:List WData} {vals:List Value}
  (hpre:l.row.toRowW.claim.pre args=true) (hwl:WellAll P h vals args) :
  ∃a vs ns,vals=[Value.ref a]/\args=[WData.list (ns.map WData.int)]/\h.get? a=some { cls:=.type "list",data:=.seq vs.toArray }/\IntsAre vs ns/\ns.length<=n:=by
 have hsh:WShape.hasAll [] args [.list .int]=true:=(pre_splitW hpre).1
 have hc:l.pre.holds [] { args:=args }=true:=(pre_splitW hpre).2
 obtain ⟨d,r,rfl,h1,h2⟩:=hasAllW_cons hsh
 obtain rfl:=hasAllW_nil h2
 obtain ⟨xs,rfl,h3⟩:=hasW_list h1
 obtain ⟨ns,rfl⟩:=items_int h3
 have hlen:ns.length<=n:=by
  unfold OpenLaw.pre at hc
  have h4:(WTm.not (.lt (.lit (.int (n:Int))) (.len (.arg 0)))).holds [] { args:=[.list (ns.map .int)] }=true:=by
   have h4:=(holds_andW hc).1
   rw [hn] at h4
   exact h4
  have h5:=condW_of h4 (w_not (w_lt w_lit (w_len_list (w_arg rfl))))
  rw [length_map] at h5
  refine Nat.le_of_not_lt fun q=>?_
  have q':(n:Int)<((ns.length:Nat):Int):=by omega
  first
   | (rw [decide_eq_true q'] at h5;exact absurd h5 (by decide))
   | (simp at h5;omega)
 cases hwl with
 | cons w1 w2=>
  cases w2
  cases w1 with
  | list ho hall=>exact ⟨_,_,ns,rfl,rfl,ho,ints_of_wellAll ns _ hall,hlen⟩
theorem post_true (l:OpenLaw) (args:List WData):l.row.toRowW.claim.post args (.bool true) args=true:=
 postW_of (r:=l.row.toRowW) (X:=(true==true))
  (show WShape.has [] (.bool true) .bool=true by first | rfl | decide | simp [WShape.has,WShape.arms,WShape.armsAll])
  (show (WTm.eq .res (.lit (.bool true))).value [] { args:=args,res:=some (.bool true),after:=args }=some (.bool (true==true)) from w_eq_bool (w_res rfl) w_lit) rfl
theorem attach_call {q:Program} {loose:List Str} {XP:(Str->Option Value)->Heap->Prop} {YP:World->Heap->Prop} {d:DefRec}
  (hn:l.most=some n) (hdf:d.params.defaults=[])
  (call:∀(w:World) (s₀ s₁:Shared) (mg mb:Str->Option Value) (fa:Addr) (o:Obj) (pm cd doc:Value) (a:Addr) (vs:List Value) (ns:List Int),
   Ground q loose [] XP w s₀ mg mb s₁.heap->YP w s₁.heap ->
   s₁.heap.get? fa=some o->o.data=.func (docDef d.name d.params d.body d.scope pm cd doc)->s₁.heap.CodeRec cd d.name->mg d.name=some (.ref fa) ->
   s₁.heap.get? a=some { cls:=.type "list",data:=.seq vs.toArray }->IntsAre vs ns->ns.length<=n->s₁.gens=#[] ->
   codeAny (model l.prog w) callerA (.call (.ref fa) ⟨[.ref a],[]⟩) (fun r s'=>r=.ok (.ret (.bool true))/\OldK s₁.heap s'.heap/\s'.os=s₁.os/\AllBare s'.gens) s₁) :
  WalkO q loose XP YP l.row.toRowW d [] (fun f vs=>PySem.call f vs):=by
 intro w s₀ s₁ mg mb G Y fa o pm cd doc dV kV ho hd hcd hD hmg hg args vals as hpre hlay hrd hwl hlo
 obtain rfl:dV=.none:=Dflts.none hD hdf
 obtain rfl:kV=.none:=Dflts.noKw hD
 obtain ⟨a,vs,ns,rfl,rfl,hobj,hints,hlen⟩:=script_of hn hpre hwl
 refine enter_call (codeAny_mono (call w s₀ s₁ mg mb fa o pm cd doc a vs ns G Y ho (fd_plain hd) hcd hmg hobj hints hlen hg) fun r s' hq=>?_)
 obtain ⟨rfl,h2,h3,h4⟩:=hq
 exact ⟨.inl ⟨.bool true,.bool true,[],rfl,fun _=>rfl,.bool true,post_true l _,fun _=>⟨List.Pairwise.nil,fun _ hm=>(nomatch hm)⟩⟩,h2,h3,h4⟩
end Att
namespace L2
open PySem PySem.Spec PyProof.Rows
variable {a:Addr} {fd:FuncData} {x qual:Str} {n:Nat} {X:Cx} {ps:List Str} {A B:Prop} {H':Hp} {scope:Scope} {env:Env} {σ:St}
theorem vals_ints:∀{vs:List Value} {ns:List Int},IntsAre vs ns->Vals (ns.map V.int) vs
 | _,_,.nil=>.nil
 | _,_,.cons n t h=>.cons ⟨t,rfl⟩ (vals_ints h)
def Only (H:Hp):Prop:=∀b,H b=none\/∃o xs,H b=some (.frz o (.lst xs))
theorem law_call {P:Program} {w:World} {K:Fg} {mg mb:Str->Option Value} {CX:CXT} {k:Nat} {fa:Addr} {sp:Sp} {s₁:Shared} {vs:List Value} {ns:List Int}
  (KX:K.In s₁.heap) (hns:s₁.heap.Ns mainGlobals mg) (hb:s₁.heap.Ns builtinsNs mb) (hbb:∀x:Str,x ≠ "__name__"->mb x=bootBuiltins x) (hlim:s₁.heap.NoLimit) (hg:s₁.gens=#[])
  (ha:s₁.heap.get? a=some { cls:=.type "list",data:=.seq vs.toArray }) (hi:IntsAre vs ns) (hl:ns.length<=sizeLine) (hr:Room k callerA)
  (F:∀base:Heap,K.In base->base.Ns mainGlobals mg->FnOk P w K mg base CX k fa fd [x] sp) (hbind:∀(s:Shared) (u:Value),BindsTo s fd ⟨[u],[]⟩ [(x,u)])
  (hsp:∀H:Hp,Only H->SqL K H a (ns.map V.int)->sp [.ref a] H (fun v _=>v=.bl true) fun _ _ _=>False)
  (hCX:∀H e s',CX [] H s₁ (fun _ _ _=>False) e s'->False) :
  codeAny (model P w) callerA (.call (.ref fa) ⟨[.ref a],[]⟩) (fun r s'=>r=.ok (.ret (.bool true))/\OldK s₁.heap s'.heap/\s'.os=s₁.os/\AllBare s'.gens) s₁:=by
 have rv:=vals_ints hi
 have lenV:=hi.length
 have core:∀H:Hp,Only H->SqL K H a (ns.map V.int)->HOk P w H s₁.heap->(∀b,H b≠none->b=a)->(H a≠none->K.lookup a=none) ->
   codeAny (model P w) callerA (.call (.ref fa) ⟨[.ref a],[]⟩) (fun r s'=>r=.ok (.ret (.bool true))/\OldK s₁.heap s'.heap/\s'.os=s₁.os/\AllBare s'.gens) s₁:=by
  intro H hO hS hok hA hK
  have base_of:∀{b:Addr} {o:Obj},s₁.heap.get? b=some o->H b=none->(hidT s₁.heap H).get? b=some o:=fun e n=>hidT_get e n
  have noA:∀{b:Addr} {o:Obj} {es:Array DictEntry} {ep:Nat},s₁.heap.get? b=some o->o.data=.dict es ep->H b=none:=fun {b o es ep} e d=>by
   cases q:H b with
   | none=>rfl
   | some u=>
    have e':b=a:=hA b (by rw [q];simp)
    subst e'
    rw [ha] at e;cases e
    have d':Data.seq vs.toArray _=Data.dict es ep:=d
    cases d'
  have nsK:∀{b:Addr} {m:Str->Option Value},s₁.heap.Ns b m->(hidT s₁.heap H).Ns b m:=fun {b m} ⟨o,es,ep,e,d,r⟩=>⟨o,es,ep,base_of e (noA e d),d,r⟩
  have hKb:K.In (hidT s₁.heap H):=fun b o e=>base_of (KX b o e) (by
   cases q:H b with
   | none=>rfl
   | some u=>
    have e':b=a:=hA b (by rw [q];simp)
    subst e'
    rw [hK (by rw [q];simp)] at e;cases e)
  have hM:Mod K mg (hidT s₁.heap H):=⟨hKb,nsK hns,⟨mb,nsK hb,hbb⟩,let ⟨mc,h1,h2⟩:=hlim;⟨mc,nsK h1,h2⟩⟩
  have e0:Env0 P w K mg (hidT s₁.heap H) callerA [] s₁ H:=⟨rfl,hM,fun b o e=>of_hidT e,Nat.le_of_eq (hidT_size _ _),trivial,fun b hb=>absurd (show b∈([]:List Addr) from hb) (by simp),hok,.of_eq hg⟩
  refine codeAny_mono ((F _ hKb (nsK hns)).run callerA [] s₁ H ⟨[.ref a],[]⟩ [.ref a] [.ref a] _ _ hr e0 (hbind s₁ (.ref a)) (.cons rfl .nil) (hsp H hO hS)) fun r s' h=>?_
  cases r with
  | error e=>exact (hCX H e s' h).elim
  | ok fl=>
   cases fl with
   | next=>exact False.elim h
   | brk=>exact False.elim h
   | cont=>exact False.elim h
   | ret u=>
    obtain ⟨v,H',os,bare,un,hok',r',q⟩:=h
    have q':v=.bl true:=q
    subst q'
    obtain rfl:u=Value.bool true:=r'
    refine ⟨rfl,OldK.of_keep fun b o e=>?_,os,bare⟩
    cases q:H b with
    | none=>exact un.keep b o e q (by intro z;exact absurd (show b∈([]:List Addr) from z) (by simp)) (by simp)
    | some u=>
     rcases hO b with z | ⟨ob,xs,z⟩
     ·rw [q] at z;cases z
     ·have z2:=un.frzs b ob _ z
      obtain ⟨e1,_⟩:=hok b _ z
      obtain ⟨e2,_⟩:=hok' b _ z2
      rw [e] at e1;cases e1
      exact e2
 cases hk:K.lookup a with
 | some o=>
  have e:=KX a o hk
  rw [ha] at e
  cases e
  refine core (fun _=>none) (fun _=>.inl rfl) (.inr ⟨_,vs.toArray,_,hk,rfl,rfl,rfl,by rw [size_toArray,lenV];exact hl,by simpa using rv⟩) (fun b u z=>by have z':(none:Option HO)=some u:=z;cases z') (fun b z=>absurd rfl z) fun z=>absurd rfl z
 | none=>
  refine core (fun b=>if b=a then some (.frz { cls:=.type "list",data:=.seq vs.toArray } (.lst (ns.map V.int))) else none) (fun b=>?_) (.inl (.inr ⟨{ cls:=.type "list",data:=.seq vs.toArray },if_pos rfl⟩)) (fun b u z=>?_) (fun b z=>?_) fun _=>hk
  ·by_cases hb:b=a
   ·exact .inr ⟨_,_,if_pos hb⟩
   ·exact .inl (if_neg hb)
  ·by_cases hb:b=a
   ·have z':=(if_pos hb).symm.trans z
    cases z'
    subst hb
    exact ⟨ha,by rw [length_map];exact hl,vs,_,rv,ha⟩
   ·have z':=(if_neg hb).symm.trans z
    cases z'
  ·by_cases hb:b=a
   ·exact hb
   ·exact absurd (if_neg hb) z
theorem walk_of {l:PySem.W.OpenLaw} {k:Nat} {q:Program} {loose:List Str} {XP:(Str->Option Value)->Heap->Prop} {YP:World->Heap->Prop} {d:DefRec} {K:Params->Fg} {CX:World->CXT} {sp:World->Sp}
  (hn:l.most=some n) (hn2:n<=sizeLine) (hdf:d.params.defaults=[]) (hr:Room k callerA)
  (hY:∀(w:World) (h:Heap),YP w h->(K w.params).In h)
  (F:∀(w:World) (mg:Str->Option Value) (fa:Addr) (h:Heap),(K w.params).In h->h.Ns mainGlobals mg->mg d.name=some (.ref fa) ->
   ∃fd:FuncData,(∀(s:Shared) (u:Value),BindsTo s fd ⟨[u],[]⟩ [(x,u)]) /\
    ∀base:Heap,(K w.params).In base->base.Ns mainGlobals mg->FnOk l.prog w (K w.params) mg base (CX w) k fa fd [x] (sp w))
  (hsp:∀(w:World) (H:Hp) (a:Addr) (ns:List Int),ns.length<=n->Only H->SqL (K w.params) H a (ns.map V.int)->sp w [.ref a] H (fun v _=>v=.bl true) fun _ _ _=>False)
  (hCX:∀(w:World) (H:Hp) (s:Shared) (e:Value) (s':Shared),CX w [] H s (fun _ _ _=>False) e s'->False) :
  PySem.W.WalkO q loose XP YP l.row.toRowW d [] (fun f vs=>PySem.call f vs):=by
 refine Att.attach_call hn hdf fun w s₀ s₁ mg mb fa o pm cd doc a vs ns G Y ho hd hcd hmg hobj hints hlen hg=>?_
 have KX:=hY w _ Y
 obtain ⟨fd,hb,hF⟩:=F w mg fa _ KX G.T.g hmg
 exact law_call KX G.T.g G.T.b G.T.builtins G.T.nolimit hg hobj hints (Nat.le_trans hlen hn2) hr hF hb (fun H hO hS=>hsp w H a ns hlen hO hS) fun H e s'=>hCX w H s₁ e s'
def defArgs (s:Stmt):Arguments:=match s with
 | .FunctionDef _ a _ _ _ _ _ _ _ _=>a
 | _=>{ posonlyargs:=[],args:=[],vararg:=none,kwonlyargs:=[],kw_defaults:=[],kwarg:=none,defaults:=[] }
def defBody (s:Stmt):List Stmt:=match s with
 | .FunctionDef _ _ b _ _ _ _ _ _ _=>b
 | _=>[]
def defScope (s:Stmt):Scope:=match s with
 | .FunctionDef _ _ _ _ _ _ sc _ _ _=>sc
 | _=>{ kind:=.function,names:=[],isGenerator:=false,isCoroutine:=false }
abbrev CX0:CXT:=fun _ _ _ _ _ _=>False
abbrev E0:XK:=fun _ _ _=>False
theorem pass0:Passes CX0 X E0:=fun _ _ _ _ _ _ _ h=>h.elim
structure Fun (K:Fg) (x qual:Str) (st:Stmt) (f:Addr) (fd:FuncData):Prop where
 ex:∃(oc:Value) (od:Option Addr) (kV doc pm:Value) (an:Option Addr) (cdv ct:Value) (osl:Array (Option Value)),
  fd=PySem.W.fnOf x qual (defArgs st) (defBody st) (defScope st) .none kV doc pm an cdv ct/\K.lookup f=some ⟨oc,od,.func fd,osl⟩/\PySem.W.codeIn K cdv qual=true
 kp:PySem.W.keepIn K (.ref f)=true
section
variable {P:Program} {w:World} {K:Fg} {mg:Str->Option Value} {base:Heap}
theorem Fun.ok {st:Stmt} {f:Addr} {N:List Str} {k:Nat} {sp:Sp} (F:Fun K x qual st f fd) (S:FnScope N ps (defScope st)) (len:∀vs H Q E,sp vs H Q E->vs.length=ps.length)
  (hbody:∀(cdv:Value) (A:Around) (outer:List Env) (s:Shared) (H:Hp) (vs:List V) (Q:VK) (E:XK),Room k (A.deeper (envOfC qual (defScope st) s.heap.objs.size f cdv))->sp vs H Q E ->
   ∃t,PSs (cxOf CX0 P w K mg base N qual (defScope st) f cdv A outer s H E).nox (defBody st) t/\t { nx:=fun _ H'=>Q .non H',rt:=Q } (start N vs) H):FnOk P w K mg base CX0 (k+1) f fd ps sp:=by
 obtain ⟨oc,od,kV,doc,pm,an,cdv,ct,osl,rfl,lk,hcd⟩:=F.ex
 refine fn_of lk hcd S len fun A outer s H vs Q E hr hsp=>?_
 obtain ⟨t,h,q⟩:=hbody cdv A outer s H vs Q E hr hsp
 exact ⟨t,h.nox,q⟩
theorem Fun.binds {st:Stmt} {f:Addr} (F:Fun K x qual st f fd)
  (h:∀(kV doc pm:Value) (an:Option Addr) (cdv ct:Value) (us:List Value),us.length=ps.length->bindArgs (PySem.W.fnOf x qual (defArgs st) (defBody st) (defScope st) .none kV doc pm an cdv ct) ⟨us,[]⟩=pure (ps.zip us)):Binds K fd ps []:=by
 obtain ⟨oc,od,kV,doc,pm,an,cdv,ct,osl,rfl,lk,hcd⟩:=F.ex
 exact .all (h kV doc pm an cdv ct)
theorem fun_mk {st:Stmt} {f:Addr} {oc:Value} {od an:Option Addr} {osl:Array (Option Value)} {kV doc pm cdv ct:Value} (l:K.lookup f=some ⟨oc,od,.func (PySem.W.fnOf x qual (defArgs st) (defBody st) (defScope st) .none kV doc pm an cdv ct),osl⟩)
  (c:PySem.W.codeIn K cdv qual=true) (k:PySem.W.keepIn K (.ref f)=true):Fun K x qual st f (PySem.W.fnOf x qual (defArgs st) (defBody st) (defScope st) .none kV doc pm an cdv ct):=⟨⟨oc,od,kV,doc,pm,an,cdv,ct,osl,rfl,l,c⟩,k⟩
end
theorem small1000 (h:n<=1000):n<sizeLine:=Nat.lt_of_le_of_lt h (by decide)
theorem iteF (h:B):if false=true then A else B:=by
 rw [if_neg Bool.false_ne_true]
 exact h
theorem iteT (h:A):if true=true then A else B:=by
 rw [if_pos rfl]
 exact h
def Same (H H':Hp):Prop:=∀b o,H b=some o->H' b=some o
theorem Same.refl (H:Hp):Same H H:=fun _ _ h=>h
theorem Same.trans {H H1 H2:Hp} (a:Same H H1) (b:Same H1 H2):Same H H2:=fun c o h=>b c o (a c o h)
theorem Same.free {H:Hp} (e:Same H H') {l:Addr} (h:H' l=Option.none):H l=Option.none:=by
 cases q:H l with
 | none=>rfl
 | some o=>
  rw [e l o q] at h
  cases h
theorem Same.seq {K:Fg} {H:Hp} {xs:List V} (e:Same H H') (h:SqL K H a xs):SqL K H' a xs:=by
 rcases h with (h | ⟨o,h⟩) | h
 ·exact .inl (.inl (e _ _ h))
 ·exact .inl (.inr ⟨o,e _ _ h⟩)
 ·exact .inr h
section
variable {prog:Program} {w:World} {A:Around} {R:Result->Shared->Prop} {s:Shared}
abbrev NoX:Value->Shared->Prop:=fun _ _=>False
theorem compLoop_any {elt target iter:Expr} {ifs:List Expr} {pos:Pos} {it acc:Value} (I:Nat->Shared->Prop)
  (turn:∀n s,I n s->wpAny (model prog w) A (pyNext it) (fun r s₁=>match r with
   | none=>R (.ok .next) s₁
   | some v=>wpAny (model prog w) A (letOwnedTupleGo target it v) (fun _ s₁'=>wpAny (model prog w) A (assign target env v) (fun _ s₂=>
     wpAny (model prog w) A (forIn ifs true fun c r=>if r=true then do let ok <-isTrue c env (eval c env);pure (ForInStep.yield ok) else pure (ForInStep.yield r)) (fun ok s₃=>
      if ok=true then wpAny (model prog w) A (eval elt env) (fun x s₄=>
       wpAny (model prog w) A (call (.builtin "list.append") [acc,x]) (fun _ s₅=>∃m,m<n/\I m s₅) NoX s₄) NoX s₃
      else ∃m,m<n/\I m s₃) NoX s₂) NoX s₁') NoX s₁) NoX s)
  (n:Nat) (h:I n s) :
  codeAny (model prog w) A (.compLoop (.ListComp elt [⟨target,iter,ifs,0⟩] scope pos) 0 it acc env) R s:=by
 refine codeAny_loop rfl I (fun n s hI=>?_) n h
 show wpAny _ A ((compTurn (.ListComp elt [⟨target,iter,ifs,0⟩] scope pos) 0 it acc env).onRaise (fun x=>do noteFrame x env;theTreesLotGoes x)) _ _ s
 refine wpAny_noted ?_
 rw [compTurn_list]
 have F:∀{Z:Value->Shared->Prop},∀(e:Value) (s:Shared),NoX e s->Z e s:=fun _ _ x=>x.elim
 refine wpAny_bind (wpAny_standAt (wpAny_bind (wpAny_mono (turn n s hI) (fun r s₁ h₁=>?_) F)))
 cases r with
 | none=>exact wpAny_pure h₁
 | some v=>
  refine wpAny_bind (wpAny_mono h₁ (fun _ s₁' h₁'=>?_) F)
  refine wpAny_bind (wpAny_mono h₁' (fun _ s₂ h₂=>wpAny_bind (wpAny_mono h₂ (fun ok s₃ h₃=>?_) F)) F)
  cases ok with
  | false=>exact wpAny_pure ⟨rfl,h₃⟩
  | true=>
   exact wpAny_bind (wpAny_bind (wpAny_mono h₃ (fun x s₄ h₄=>wpAny_bind (wpAny_mono h₄ (fun _ s₅ h₅=>wpAny_pure (wpAny_pure ⟨rfl,h₅⟩)) F)) F))
end
def closL (env:Env):List (Str×NameKind)->List (Str×Addr)->List (Str×Addr)
 | [],acc=>acc
 | (n,k)::r,acc=>if k==.free then closL env r ((n,(env.cells.lookup n).getD 0)::acc) else closL env r acc
theorem closL_for {env:Env}:∀(names:List (Str×NameKind)) (acc:List (Str×Addr)),(∀n,(n,NameKind.free)∈names->∃c,env.cells.lookup n=some c) ->
  (forIn names acc fun (x:Str×NameKind) (cs:List (Str×Addr))=>(match x with | (name,kind)=>if kind==.free then (do let a <-cellOf env name;pure (ForInStep.yield ((name,a)::cs))) else pure (ForInStep.yield cs):Sem (ForInStep (List (Str×Addr)))))=(pure (closL env names acc):Sem (List (Str×Addr)))
 | [],acc,_=>by rw [List.forIn_nil];rfl
 | (n,k)::r,acc,h=>by
  rw [List.forIn_cons]
  unfold closL
  by_cases hk:(k==.free)=true
  ·simp only [hk,if_true]
   have hk':k=.free:=by simpa using hk
   obtain ⟨c,hc⟩:=h n (by rw [hk'];exact mem_cons_self)
   have e:cellOf env n=pure c:=by unfold cellOf;rw [hc]
   rw [e,hc]
   exact closL_for r ((n,c)::acc) fun n' hn=>h n' (mem_cons_of_mem _ hn)
  ·rw [if_neg hk]
   simp only [hk]
   exact closL_for r acc fun n' hn=>h n' (mem_cons_of_mem _ hn)
theorem closureFor_L (h:∀n,(n,NameKind.free)∈scope.names->∃c,env.cells.lookup n=some c):closureFor scope env=pure (closL env scope.names []):=by
 have:=closL_for (env:=env) scope.names [] h
 unfold closureFor
 rw [show (pure (closL env scope.names []):Sem (List (Str×Addr)))=(pure (closL env scope.names []) >>= fun x=>pure x) from rfl,<-this]
theorem closL_look {env:Env} {x:Str} {c:Addr}:∀{names:List (Str×NameKind)} {acc:List (Str×Addr)},(∀n,(n,NameKind.free)∈names->∃c,env.cells.lookup n=some c)->(closL env names acc).lookup x=some c->env.cells.lookup x=some c\/acc.lookup x=some c
 | [],_,_,e=>.inr e
 | (n,k)::r,acc,h,e=>by
  unfold closL at e
  have h':∀n',(n',NameKind.free)∈r->∃c,env.cells.lookup n'=some c:=fun n' hn=>h n' (mem_cons_of_mem _ hn)
  by_cases hk:(k==.free)=true
  ·rw [if_pos hk] at e
   rcases closL_look h' e with q | q
   ·exact .inl q
   ·rw [lookup_cons] at q
    have hk':k=.free:=by simpa using hk
    obtain ⟨c',hc⟩:=h n (by rw [hk'];exact mem_cons_self)
    cases hx:x==n with
    | true=>
     rw [hx,hc] at q
     cases q
     rw [eq_of_beq hx]
     exact .inl hc
    | false=>
     rw [hx] at q
     exact .inr q
  ·rw [if_neg hk] at e
   exact closL_look h' e
theorem closL_some {env:Env} {x:Str}:∀{names:List (Str×NameKind)} {acc:List (Str×Addr)},(x,NameKind.free)∈names\/(acc.lookup x).isSome=true->((closL env names acc).lookup x).isSome=true
 | [],_,h=>h.elim nofun id
 | (n,k)::r,acc,h=>by
  unfold closL
  by_cases hk:(k==.free)=true
  ·rw [if_pos hk]
   refine closL_some (names:=r) ?_
   rcases h with h | h
   ·rcases List.mem_cons.mp h with e | h
    ·cases e
     exact .inr (by rw [lookup_cons];simp)
    ·exact .inl h
   ·right
    rw [lookup_cons]
    cases hx:x==n with
    | true=>rfl
    | false=>exact h
  ·rw [if_neg hk]
   refine closL_some (names:=r) ?_
   rcases h with h | h
   ·rcases List.mem_cons.mp h with e | h
    ·cases e
     exact absurd rfl hk
    ·exact .inl h
   ·exact .inr h
theorem cellsFrom_look {x:Str} {c:Addr}:∀{names:List (Str×NameKind)} {n:Nat} {acc:List (Str×Addr)},(cellsFrom n names acc).lookup x=some c->((x,NameKind.cell)∈names/\n<=c)\/acc.lookup x=some c
 | [],_,_,e=>.inr e
 | (y,k)::r,n,acc,e=>by
  unfold cellsFrom at e
  by_cases hk:(k==.cell)=true
  ·rw [if_pos hk] at e
   have hk':k=.cell:=by simpa using hk
   rcases cellsFrom_look e with ⟨q,l⟩ | q
   ·exact .inl ⟨mem_cons_of_mem _ q,by omega⟩
   ·rw [lookup_cons] at q
    cases hx:x==y with
    | true=>
     rw [hx] at q
     cases q
     exact .inl ⟨by rw [eq_of_beq hx,hk'];exact mem_cons_self,Nat.le_refl _⟩
    | false=>
     rw [hx] at q
     exact .inr q
  ·rw [if_neg hk] at e
   rcases cellsFrom_look e with ⟨q,l⟩ | q
   ·exact .inl ⟨mem_cons_of_mem _ q,l⟩
   ·exact .inr q
theorem cellsFrom_inj {x y:Str} {c:Addr}:∀{names:List (Str×NameKind)} {n:Nat} {acc:List (Str×Addr)},(∀z d,acc.lookup z=some d->d<n)->(∀x y d,acc.lookup x=some d->acc.lookup y=some d->x=y) ->
  (cellsFrom n names acc).lookup x=some c->(cellsFrom n names acc).lookup y=some c->x=y
 | [],_,_,_,hi,e,e'=>hi _ _ _ e e'
 | (z,k)::r,n,acc,hl,hi,e,e'=>by
  unfold cellsFrom at e e'
  by_cases hk:(k==.cell)=true
  ·rw [if_pos hk] at e e'
   refine cellsFrom_inj (names:=r) (n:=n+1) (acc:=(z,n)::acc) (fun a d q=>?_) (fun a b d q q'=>?_) e e'
   ·rw [lookup_cons] at q
    cases hx:a==z with
    | true=>rw [hx] at q;cases q;exact Nat.lt_succ_self _
    | false=>rw [hx] at q;exact Nat.lt_succ_of_lt (hl a d q)
   ·rw [lookup_cons] at q q'
    cases hx:a==z with
    | true=>
     rw [hx] at q
     cases q
     cases hy:b==z with
     | true=>rw [eq_of_beq hx,eq_of_beq hy]
     | false=>rw [hy] at q';exact absurd (hl b n q') (Nat.lt_irrefl _)
    | false=>
     rw [hx] at q
     cases hy:b==z with
     | true=>rw [hy] at q';cases q';exact absurd (hl a n q) (Nat.lt_irrefl _)
     | false=>rw [hy] at q';exact hi a b d q q'
  ·rw [if_neg hk] at e e'
   exact cellsFrom_inj hl hi e e'
theorem closL_mem {env:Env} {x:Str} {c:Addr}:∀{names:List (Str×NameKind)} {acc:List (Str×Addr)},(closL env names acc).lookup x=some c->(x,NameKind.free)∈names\/acc.lookup x=some c
 | [],_,e=>.inr e
 | (n,k)::r,acc,e=>by
  unfold closL at e
  by_cases hk:(k==.free)=true
  ·rw [if_pos hk] at e
   have hk':k=.free:=by simpa using hk
   rcases closL_mem e with q | q
   ·exact .inl (mem_cons_of_mem _ q)
   ·rw [lookup_cons] at q
    cases hx:x==n with
    | true=>rw [eq_of_beq hx,hk'];exact .inl mem_cons_self
    | false=>rw [hx] at q;exact .inr q
  ·rw [if_neg hk] at e
   rcases closL_mem e with q | q
   ·exact .inl (mem_cons_of_mem _ q)
   ·exact .inr q
theorem cellsFrom_mem {x:Str}:∀{names:List (Str×NameKind)} {n:Nat} {acc:List (Str×Addr)},(x,NameKind.cell)∈names\/(acc.lookup x).isSome=true->((cellsFrom n names acc).lookup x).isSome=true
 | [],_,_,h=>h.elim nofun id
 | (y,k)::r,n,acc,h=>by
  unfold cellsFrom
  by_cases hk:(k==.cell)=true
  ·rw [if_pos hk]
   refine cellsFrom_mem (names:=r) ?_
   rcases h with h | h
   ·rcases List.mem_cons.mp h with e | h
    ·cases e
     exact .inr (by rw [lookup_cons];simp)
    ·exact .inl h
   ·right
    rw [lookup_cons]
    cases hx:x==y with
    | true=>rfl
    | false=>exact h
  ·rw [if_neg hk]
   refine cellsFrom_mem (names:=r) ?_
   rcases h with h | h
   ·rcases List.mem_cons.mp h with e | h
    ·cases e
     exact absurd rfl hk
    ·exact .inl h
   ·exact .inr h
theorem cellsFrom_acc {x:Str}:∀{names:List (Str×NameKind)} {n:Nat} {acc:List (Str×Addr)},(x,NameKind.cell)∉names->(cellsFrom n names acc).lookup x=acc.lookup x
 | [],_,_,_=>rfl
 | (y,k)::r,n,acc,h=>by
  unfold cellsFrom
  have hr:(x,NameKind.cell)∉r:=fun z=>h (mem_cons_of_mem _ z)
  by_cases hk:(k==.cell)=true
  ·rw [if_pos hk,cellsFrom_acc hr,lookup_cons]
   have hk':k=.cell:=by simpa using hk
   cases hx:x==y with
   | true=>exact absurd (by rw [eq_of_beq hx,hk'];exact mem_cons_self) h
   | false=>rfl
  ·rw [if_neg hk]
   exact cellsFrom_acc hr
theorem cellsFrom_new {x:Str} {c:Addr}:∀{names:List (Str×NameKind)} {n:Nat} {acc:List (Str×Addr)},(x,NameKind.cell)∈names->(cellsFrom n names acc).lookup x=some c->(cellsFrom n names []).lookup x=some c
 | [],_,_,h,_=>nomatch h
 | (y,k)::r,n,acc,h,e=>by
  unfold cellsFrom at e ⊢
  by_cases hk:(k==.cell)=true
  ·rw [if_pos hk] at e ⊢
   by_cases hr:(x,NameKind.cell)∈r
   ·have:∀{acc acc':List (Str×Addr)},(cellsFrom (n+1) r acc).lookup x=some c->(cellsFrom (n+1) r acc').lookup x=some c:=fun {a a'} q=>by
     have q0:=cellsFrom_new hr q
     have hs:=cellsFrom_mem (n:=n+1) (acc:=a') (.inl hr)
     obtain ⟨c',hc'⟩:=Option.isSome_iff_exists.mp hs
     have q1:=cellsFrom_new hr hc'
     rw [q0] at q1
     cases q1
     exact hc'
    exact this e
   ·rw [cellsFrom_acc hr] at e ⊢
    rw [lookup_cons] at e ⊢
    cases hx:x==y with
    | true=>rw [hx] at e;exact e
    | false=>
     rcases List.mem_cons.mp h with z | z
     ·cases z
      simp at hx
     ·exact absurd z hr
  ·rw [if_neg hk] at e ⊢
   rcases List.mem_cons.mp h with z | z
   ·cases z
    exact absurd rfl hk
   ·exact cellsFrom_new z e
def blk (X:Cx) (scope:Scope) (cells:List (Str×Addr)) (C:Addr) (s₀:Shared) (H₀:Hp) (ex:List Addr):Cx where
 prog:=X.prog
 w:=X.w
 K:=X.K
 mg:=X.mg
 base:=X.base
 A:=X.A
 N:=X.N
 s₀:=s₀
 H₀:=H₀
 env:={ scope:=relabel scope X.env,locals:=C,globals:=X.env.globals,cells:=cells,qual:=X.env.qual,func:=none,code:=X.env.code,frame:=X.env.frame,builtins:=X.env.builtins }
 outer:=X.stack
 stack:=X.stack
 ex:=ex
 fn:=fun x=>scope.names.any fun y=>y.1==x&&y.2==.cell
 calm:=X.calm
 pn:=[]
 xe:=fun _ _=>False
structure CompSc (N:List Str) (is:List Nat) (osc scope:Scope):Prop where
 kind:scope.kind=.function
 free:∀n,(n,NameKind.free)∈scope.names->osc.names.lookup n=some .cell\/osc.names.lookup n=some .free
 own:∀(i:Nat) (x:Str),N[i]?=some x->(x,NameKind.local)∈scope.names\/(x,NameKind.cell)∈scope.names->i∈is
 loc:∀x∈scope.names,x.2=.local->scope.names.lookup x.1=some .local
 one:∀n,(n,NameKind.free)∈scope.names->(n,NameKind.cell)∉scope.names
def blank (is:List Nat) (σ:St):St:=σ.mapIdx fun i v=>if i∈is then none else v
theorem blank_len (is:List Nat) (σ:St):(blank is σ).length=σ.length:=by unfold blank;simp
theorem blank_get {is:List Nat} {i:Nat} {v:V} (h:(blank is σ)[i]?=some (some v)):i∉is/\σ[i]?=some (some v):=by
 unfold blank at h
 rw [List.getElem?_mapIdx] at h
 cases e:σ[i]? with
 | none=>rw [e] at h;cases h
 | some o=>
  rw [e] at h
  simp only [Option.map_some,Option.some.injEq] at h
  by_cases hi:i∈is
  ·rw [if_pos hi] at h;cases h
  ·rw [if_neg hi] at h;exact ⟨hi,by rw [h]⟩
def LeS (σ0 σ2:St):Prop:=σ2.length=σ0.length/\∀(i:Nat) v,σ0[i]?=some (some v)->σ2[i]?=some (some v)
theorem lookup_mem {k:NameKind} {l:List (Str×NameKind)} (h:l.lookup x=some k):(x,k)∈l:=PySem.mem_of_lookup h
theorem relabel_look {k:NameKind} (h:(relabel scope env).names.lookup x=some k) :
  (x,k)∈scope.names\/((x,NameKind.free)∈scope.names/\k=.cell):=by
 have h:=lookup_mem h
 unfold relabel at h
 obtain ⟨⟨n,k'⟩,hm,e⟩:=List.mem_map.mp h
 dsimp only at e
 by_cases hc:(k'==NameKind.free&&env.scope.kind==.function&&env.kindOf n==some .cell)=true
 ·rw [if_pos hc] at e
  cases e
  have:k'=.free:=by
   simp only [Bool.and_eq_true,beq_iff_eq] at hc
   exact hc.1.1
  exact .inr ⟨this▸hm,rfl⟩
 ·rw [if_neg hc] at e
  cases e
  exact .inl hm
def blkCells (X:Cx) (scope:Scope) (C:Addr):List (Str×Addr):=cellsFrom (C+1) scope.names (closL X.env scope.names [])
section
variable {X:Cx} {pins:List (Addr×Obj)} {σ:St} {H:Hp} {s:Shared} {scope:Scope} {is:List Nat}
theorem Inv.freeCells (I:Inv X pins σ H s) (S:CompSc X.N is X.env.scope scope):∀n,(n,NameKind.free)∈scope.names->∃c,X.env.cells.lookup n=some c:=fun n hn=>
 I.ok.has n (S.free n hn)
theorem Inv.blkOld (I:Inv X pins σ H s) (S:CompSc X.N is X.env.scope scope) {c:Addr} (h:(closL X.env scope.names []).lookup x=some c):X.env.cells.lookup x=some c:=by
 rcases closL_look (I.freeCells S) h with q | q
 ·exact q
 ·cases q
theorem Inv.block {fp:List Addr} {t':Nat} (I:Inv X pins σ H s) (S:CompSc X.N is X.env.scope scope) (hf:∀b∈fp,FpOk X pins H b) (hfs:∀b∈fp,b<s.heap.objs.size) :
  Inv (blk X scope (blkCells X scope (s.heap.objs.size+1)) (s.heap.objs.size+1) s H fp) [] (blank is σ) (upd H s.heap.objs.size (.lst []))
   { s with heap:=pushCells ((s.heap.push { cls:=.type "list",data:=.seq ([]:List Value).toArray }).push { cls:=.type "dict",data:=.dict #[] }) scope.names,toks:=t' }:=by
 generalize hC:s.heap.objs.size+1=C
 have hDn:H s.heap.objs.size=none:=I.hok.fresh (Nat.le_refl _)
 have s1:(s.heap.push { cls:=.type "list",data:=.seq ([]:List Value).toArray }).objs.size=C:=by rw [Heap.size_push,hC]
 have kept:∀b o,s.heap.get? b=some o->(pushCells ((s.heap.push { cls:=.type "list",data:=.seq ([]:List Value).toArray }).push { cls:=.type "dict",data:=.dict #[] }) scope.names).get? b=some o:=
  fun b o e=>pushCells_keeps _ _ b o (Heap.get?_push_of_some _ (Heap.get?_push_of_some _ e))
 have cellsL:∀x c,(blkCells X scope C).lookup x=some c->((x,NameKind.cell)∈scope.names/\C+1<=c)\/X.env.cells.lookup x=some c:=fun x c e=>by
  rcases cellsFrom_look e with q | q
  ·exact .inl q
  ·exact .inr (I.blkOld S q)
 have oldLt:∀x c,X.env.cells.lookup x=some c->c<s.heap.objs.size:=fun x c e=>by
  obtain ⟨v,q⟩:=I.cell x c e
  exact q.lt
 have cok:CellsOk (pushCells ((s.heap.push { cls:=.type "list",data:=.seq ([]:List Value).toArray }).push { cls:=.type "dict",data:=.dict #[] }) scope.names) (C+1)
   (cellsFrom (C+1) scope.names []):=by
  have:=cellsFrom_ok scope.names ((s.heap.push { cls:=.type "list",data:=.seq ([]:List Value).toArray }).push { cls:=.type "dict",data:=.dict #[] }) (C+1) [] ⟨fun _ _ hm=>(nomatch hm),List.Pairwise.nil⟩ (by rw [Heap.size_push,s1];exact Nat.le_refl _)
  rw [Heap.size_push,s1] at this
  exact this
 have lt1:∀{b:Nat},b<s.heap.objs.size->b≠C:=fun {b} h e=>by subst e;rw [<-hC] at h;exact absurd (Nat.lt_of_succ_lt h) (Nat.lt_irrefl _)
 have hDle:s.heap.objs.size<=C:=by rw [<-hC];exact Nat.le_succ _
 have cellAt:∀x c,(blkCells X scope C).lookup x=some c->(C<c/\(pushCells ((s.heap.push { cls:=.type "list",data:=.seq ([]:List Value).toArray }).push { cls:=.type "dict",data:=.dict #[] }) scope.names).IsCell c none)\/X.env.cells.lookup x=some c:=fun x c e=>by
  rcases cellsL x c e with ⟨q1,q2⟩ | q
  ·exact .inl ⟨q2,(cok.empty x c (PySem.mem_of_lookup (cellsFrom_new q1 e))).1⟩
  ·exact .inr q
 refine ⟨⟨I.ok.mod,S.kind,I.ok.glob,I.ok.blt,hDle,?_,?_,?_,I.ok.hd,I.ok.frames,.inl rfl,?_,I.bs,Nat.le_trans I.ok.bsz I.sz,?_,?_,I.stack,I.stkFree⟩,rfl,I.bare,?_,?_,?_,?_,?_,fun p hp=>absurd (show p∈([]:List (Addr×Obj)) from hp) (by simp),?_,(blank_len _ _).trans I.len⟩
 ·-- inj
  intro x y c hx hy
  refine cellsFrom_inj (fun z d q=>?_) (fun a b d q q'=>I.ok.inj a b d (I.blkOld S q) (I.blkOld S q')) hx hy
  exact Nat.lt_succ_of_lt (Nat.lt_of_lt_of_le (oldLt z d (I.blkOld S q)) hDle)
 ·-- has
  intro x hx
  have q:((blkCells X scope C).lookup x).isSome=true:=by
   refine cellsFrom_mem ?_
   have hx:(relabel scope X.env).names.lookup x=some .cell\/(relabel scope X.env).names.lookup x=some .free:=hx
   rcases hx with hx | hx
   ·rcases relabel_look hx with z | ⟨z,_⟩
    ·exact .inl z
    ·exact .inr (closL_some (.inl z))
   ·rcases relabel_look hx with z | ⟨z,_⟩
    ·exact .inr (closL_some (.inl z))
    ·exact .inr (closL_some (.inl z))
  exact Option.isSome_iff_exists.mp q
 ·-- cab
  intro x c hx e
  have hx:(scope.names.any fun y=>y.1==x&&y.2==NameKind.cell)=true:=hx
  obtain ⟨y,hy,hz⟩:=List.any_eq_true.mp hx
  simp only [Bool.and_eq_true,beq_iff_eq] at hz
  have hm:(x,NameKind.cell)∈scope.names:=by rw [<-hz.1,<-hz.2];exact hy
  rcases cellsFrom_look e with ⟨_,q⟩ | q
  ·exact Nat.le_trans hDle (Nat.le_of_succ_le q)
  ·rcases closL_mem q with z | z
   ·exact absurd hm (S.one x z)
   ·cases z
 ·-- exf
  intro b hb
  obtain ⟨f0,f1,f2,f3,f4,f5⟩:=hf b hb
  refine ⟨lt1 (hfs b hb),fun x c e z=>?_⟩
  rcases cellsL x c e with ⟨_,q⟩ | q
  ·subst z
   exact absurd (Nat.lt_of_lt_of_le (hfs _ hb) hDle) (Nat.not_lt.mpr (Nat.le_of_succ_le q))
  ·exact f4 x c q z
 ·-- noex
  intro b o e hb
  obtain ⟨f0,f1,f2,f3,f4,f5⟩:=hf b hb
  rcases f3 with z | z
  ·exact I.ok.noex b o e z
  ·exact absurd (Nat.lt_of_lt_of_le (Heap.lt_size e) (Nat.le_trans I.ok.bsz z)) (Nat.lt_irrefl _)
 ·-- exfs
  intro b hb z
  obtain ⟨f0,f1,f2,f3,f4,f5⟩:=hf b hb
  rcases List.mem_cons.mp (I.stkSub b z) with e | e
  ·exact f1 e
  ·exact f2 e
 ·-- base
  exact Un.laid kept (Nat.le_refl _) hDn
 ·-- loc
  refine ⟨fun _=>none,?_,fun i x v e1 e2 e3=>?_⟩
  ·have:=(Heap.Ns.new (s.heap.push { cls:=.type "list",data:=.seq ([]:List Value).toArray }) (.type "dict")).keeps (pushCells_keeps scope.names _)
   rw [s1] at this
   exact this
  ·obtain ⟨hni,e2'⟩:=blank_get e2
   obtain ⟨m,hn,hl⟩:=id I.loc
   have hfree:(x,NameKind.free)∈scope.names:=by
    have e3:(relabel scope X.env).names.lookup x=some .local\/(relabel scope X.env).names.lookup x=some .cell\/(relabel scope X.env).names.lookup x=some .free:=e3
    rcases e3 with z | z | z
    ·rcases relabel_look z with y | ⟨y,_⟩
     ·exact absurd (S.own i x e1 (.inl y)) hni
     ·exact y
    ·rcases relabel_look z with y | ⟨y,_⟩
     ·exact absurd (S.own i x e1 (.inr y)) hni
     ·exact y
    ·rcases relabel_look z with y | ⟨y,_⟩
     ·exact y
     ·exact y
   have hk:=S.free x hfree
   obtain ⟨u,r,l⟩:=hl i x v e1 e2' (.inr hk)
   refine ⟨u,r,?_⟩
   rcases l with ⟨k,_⟩ | ⟨k,c,e,z⟩
   ·have k:X.env.scope.names.lookup x=some .local:=k
    rcases hk with q | q<;>(rw [q] at k;cases k)
   ·refine .inr ⟨?_,c,?_,z.keeps kept⟩
    ·have e3:(relabel scope X.env).names.lookup x=some .local\/(relabel scope X.env).names.lookup x=some .cell\/(relabel scope X.env).names.lookup x=some .free:=e3
     rcases e3 with y | y | y
     ·rcases relabel_look y with y' | ⟨_,y'⟩
      ·exact absurd (S.own i x e1 (.inl y')) hni
      ·cases y'
     ·exact .inl y
     ·exact .inr y
    ·have q:=closL_some (env:=X.env) (acc:=[]) (.inl hfree)
     obtain ⟨c',hc'⟩:=Option.isSome_iff_exists.mp q
     have:=I.blkOld S hc'
     rw [e] at this
     cases this
     show (blkCells X scope C).lookup x=some c
     unfold blkCells
     rw [cellsFrom_acc (S.one x hfree)]
     exact hc'
 ·-- cell
  intro x c e
  rcases cellAt x c e with ⟨_,q⟩ | q
  ·exact ⟨_,q⟩
  ·obtain ⟨v,z⟩:=I.cell x c q
   exact ⟨v,z.keeps kept⟩
 ·-- free
  show upd H s.heap.objs.size (.lst []) C=none
  rw [upd_ne (by rw [<-hC];exact Nat.ne_of_gt (Nat.lt_succ_self _))]
  exact I.hok.fresh hDle
 ·-- freeC
  intro x c e
  show upd H s.heap.objs.size (.lst []) c=none
  rcases cellAt x c e with ⟨q,_⟩ | q
  ·have hc:s.heap.objs.size<c:=Nat.lt_of_le_of_lt hDle q
   rw [upd_ne (Nat.ne_of_gt hc)]
   exact I.hok.fresh (Nat.le_of_lt hc)
  ·rw [upd_ne (Nat.ne_of_lt (oldLt x c q))]
   exact I.freeC x c q
 ·-- hok
  exact I.hok.laid kept (Nat.le_refl _) ⟨Nat.zero_le _,[],0,.nil,pushCells_keeps _ _ _ _ (Heap.get?_push_of_some _ (Heap.get?_push_size _ rfl))⟩
end
section
variable {M:Model} {A:Around} {E:Value->Shared->Prop} {s:Shared}
theorem newEnv_around {globals:Addr} {cl:List (Str×Addr)} {Q:Env->Shared->Prop}
  (hQ:Q (newEnv scope s.heap.objs.size globals (cellsFrom (s.heap.objs.size+1) scope.names cl) qual none .none (some env) builtinsNs) { s with heap:=pushCells (s.heap.push { cls:=.type "dict",data:=.dict #[] }) scope.names }) :
  wpAny M A (newFunctionEnv scope globals cl [] qual none .none (some env)) Q E s:=by
 simp only [newFunctionEnv,Option.isSome_some,if_true]
 refine wpAny_bind (wpAny_alloc ?_)
 refine wpAny_bind (wpAny_layCells _ (fun name kind cells=>by cases hkc:kind==NameKind.cell<;>simp [hkc]) _ _ _ _ ?_)
 rw [show ({ s with heap:=s.heap.push { cls:=.type "dict",data:=.dict #[] } }:Shared).heap.objs.size=s.heap.objs.size+1 from Heap.size_push ..]
 rw [List.forIn_nil]
 exact wpAny_bind (wpAny_pure (wpAny_pure hQ))
end
def PF (X:Cx) (ifs:List Expr) (t:TT):Prop:=
 ∀(pins:List (Addr×Obj)) (s:Shared) (σ:St) (H:Hp) (Q:Bool->Hp->Prop),Inv X pins σ H s->t σ H Q ->
  wpAny (model X.prog X.w) X.A (forIn ifs true fun c r=>if r=true then do let ok <-isTrue c X.env (eval c X.env);pure (ForInStep.yield ok) else pure (ForInStep.yield r)) (TP X pins σ Q) X.xe s
def tTrue:TT:=fun _ H Q=>Q true H
theorem pf_nil:PF X [] tTrue:=fun pins s σ H Q I h=>wpAny_tests_nil ⟨H,I,h⟩
theorem pf_one {c:Expr} {t:TT} (h:PT X c t):PF X [c] t:=fun pins s σ H Q I q=>wpAny_tests_one (h pins s σ H Q I q)
def tComp (is:List Nat) (wi:TI) (g:TG) (tc:TT) (te:TE):TE:=fun σ H Q=>wi σ H fun J H1=>∀D,H1 D=none->∃W:Nat->Nat->List V->Hp->Prop,(∃m,W 0 m [] (upd H1 D (.lst [])))/\∀k m ys H,W k m ys H ->
 H D=some (.lst ys)/\((J.stop k H/\Q (.ref D) H)\/(J.go k H/\ys.length<sizeLine/\∀x H',J.yld k H x H'->g x (blank is σ) H' fun σ2 H2=>LeS (blank is σ) σ2/\tc σ2 H2 fun b H3=>
  if b=true then te σ2 H3 fun v H4=>H4 D=some (.lst ys)/\∃m',m'<m/\W (k+1) m' (ys++[v]) (upd H4 D (.lst (ys++[v]))) else ∃m',m'<m/\W (k+1) m' ys H3))
section
variable {X:Cx} {scope:Scope} {is:List Nat} {tg iter elt:Expr} {ifs:List Expr} {wi:TI} {g:TG} {tc:TT} {te:TE} {pos:Pos}
theorem comp_core {pins:List (Addr×Obj)} {s:Shared} {H:Hp} {Q:VK} {RR:Value->Addr->Result->Shared->Prop} (S:CompSc X.N is X.env.scope scope) (hcalm:X.calm=true) (hi:PI X tg iter wi)
  (hg:∀cells C s₀ H₀ ex,PG (blk X scope cells C s₀ H₀ ex) tg g) (hc:∀cells C s₀ H₀ ex,PF (blk X scope cells C s₀ H₀ ex) ifs tc) (he:∀cells C s₀ H₀ ex,PE (blk X scope cells C s₀ H₀ ex) elt te)
  (I:Inv X pins σ H s) (h:tComp is wi g tc te σ H Q)
  (hRR:∀D C s' H' m,Inv X pins σ H' s'->s'.heap.Ns C m->Q (.ref D) H'->H' C=none->C≠X.env.locals->X.s₀.heap.objs.size<=C->(∀x c,X.env.cells.lookup x=some c->c≠C)->(∀p∈X.pn++pins,p.1≠C)->RR (.ref D) C (.ok .next) s') :
  wpAny (model X.prog X.w) X.A (eval iter X.env) (fun x s₁=>wpAny (model X.prog X.w) X.A (pyIter x) (fun it s₂=>wpAny (model X.prog X.w) X.A (newList []) (fun acc s₃=>
   wpAny (model X.prog X.w) X.A (newFunctionEnv scope X.env.globals (closL X.env scope.names []) [] X.env.qual none .none (some X.env)) (fun cenv s₄=>
    codeAny (model X.prog X.w) X.A (.compStart (.ListComp elt [⟨tg,iter,ifs,0⟩] scope pos) 0 it acc { cenv with scope:=relabel scope X.env }) (RR acc cenv.locals) s₄) X.xe s₃) X.xe s₂) X.xe s₁) X.xe s:=by
 refine thn (hi pins s σ H _ I h) fun v s1 h1=>thn h1 fun itv s2 h2=>?_
 obtain ⟨it,fp,tn,J,H2,e,I2,T,st2,f2,hW⟩:=h2
 subst e
 obtain ⟨W,⟨m0,w0⟩,turn⟩:=hW s2.heap.objs.size (I2.hok.fresh (Nat.le_refl _))
 refine wpAny_newObj_type (newEnv_around ?_)
 have s1:(s2.heap.push { cls:=.type "list",dict:=none,data:=.seq ([]:List Value).toArray }).objs.size=s2.heap.objs.size+1:=by rw [Heap.size_push]
 dsimp only
 rw [s1]
 have hfs:∀b∈fp,b<s2.heap.objs.size:=fun b hb=>by
  obtain ⟨o,e,_⟩:=T.obj 0 _ st2 b hb
  exact Heap.lt_size e
 have I4:=I2.block (t':=s2.toks) S f2 hfs
 generalize hCC:s2.heap.objs.size+1=C at I4 ⊢
 have hDC:s2.heap.objs.size<C:=by rw [<-hCC];exact Nat.lt_succ_self _
 have Hg:=hg (blkCells X scope C) C s2 H2 fp
 have Hc:=hc (blkCells X scope C) C s2 H2 fp
 have He:=he (blkCells X scope C) C s2 H2 fp
 have Ha:=mt_append (X:=blk X scope (blkCells X scope C) C s2 H2 fp)
 have hYcell:∀x c,(blk X scope (blkCells X scope C) C s2 H2 fp).env.cells.lookup x=some c->s2.heap.objs.size<=c\/X.env.cells.lookup x=some c:=fun x c e=>by
  have e:(cellsFrom (C+1) scope.names (closL X.env scope.names [])).lookup x=some c:=e
  rcases cellsFrom_look e with ⟨_,q⟩ | q
  ·exact .inl (Nat.le_trans (Nat.le_of_lt hDC) (Nat.le_of_succ_le q))
  ·exact .inr (I2.blkOld S q)
 have FY:∀{H':Hp},(∀b∈fp,H' b=none)->∀b∈fp,FpOk (blk X scope (blkCells X scope C) C s2 H2 fp) [] H' b:=fun {H'} hn b hb=>by
  obtain ⟨f0,f1,f3,f4,f5,f6⟩:=f2 b hb
  refine ⟨hn b hb,Nat.ne_of_lt (Nat.lt_trans (hfs b hb) hDC),fun z=>?_,.inl hb,fun x c e z=>?_,fun p hp=>absurd (show p∈([]:List (Addr×Obj)) from hp) (by simp)⟩
  ·rcases List.mem_cons.mp (I2.stkSub b z) with e | e
   ·exact f1 e
   ·exact f3 e
  ·rcases hYcell x c e with q | q
   ·rw [z] at q
    exact absurd (Nat.lt_of_lt_of_le (hfs b hb) q) (Nat.lt_irrefl _)
   ·exact f5 x c q z
 have hCx:∀x c,X.env.cells.lookup x=some c->c≠C:=fun x c e z=>by
  obtain ⟨v,q⟩:=I2.cell x c e
  have:=q.lt
  rw [z] at this
  exact absurd (Nat.lt_trans this hDC) (Nat.lt_irrefl _)
 have hCp:∀p∈X.pn++pins,p.1≠C:=fun p hp z=>by
  have:=Heap.lt_size (I2.pin p hp).1
  rw [z] at this
  exact absurd (Nat.lt_trans this hDC) (Nat.lt_irrefl _)
 have out:∀{σ':St} {H':Hp} {s':Shared},Inv (blk X scope (blkCells X scope C) C s2 H2 fp) [] σ' H' s'->Inv X pins σ H' s':=fun {σ' H' s'} J=>
  I2.call' (ch:=fp) J.os J.base J.hok J.bare fun b hb=>by
   obtain ⟨f0,f1,f3,f4,f5,f6⟩:=f2 b hb
   exact ⟨f4,f1,f5,f6⟩
 have loop:∀s₃:Shared,s₃={ s2 with heap:=pushCells ((s2.heap.push { cls:=.type "list",data:=.seq ([]:List Value).toArray }).push { cls:=.type "dict",data:=.dict #[] }) scope.names } ->
   codeAny (model X.prog X.w) X.A (.compLoop (.ListComp elt [⟨tg,iter,ifs,0⟩] scope pos) 0 (.ref it) (.ref s2.heap.objs.size) (blk X scope (blkCells X scope C) C s2 H2 fp).env) (RR (.ref s2.heap.objs.size) C) s₃:=by
  rintro s₃ rfl
  refine compLoop_any (fun n s'=>∃k ys H',Inv (blk X scope (blkCells X scope C) C s2 H2 fp) [] (blank is σ) H' s'/\tn k s'.heap/\(∀b∈fp,H' b=none)/\W k n ys H') ?_ m0
   ⟨0,[],_,I4,T.keep 0 _ _ st2 fun b _ o e=>pushCells_keeps _ _ b o (Heap.get?_push_of_some _ (Heap.get?_push_of_some _ e)),fun b hb=>by rw [upd_ne (Nat.ne_of_lt (hfs b hb))];exact (f2 b hb).1,w0⟩
  rintro n s3 ⟨k,ys,H3,I3,st3,fr3,w3⟩
  obtain ⟨hD3,hcase⟩:=turn k n ys H3 w3
  rcases hcase with ⟨stop,qn⟩ | ⟨go,hlen,step⟩
  ·refine thn (T.done (blk X scope (blkCells X scope C) C s2 H2 fp) rfl rfl rfl hcalm k [] s3 (blank is σ) H3 NoX I3 (FY fr3) st3 stop) fun r s4 ⟨hr,I4⟩=>?_
   subst hr
   obtain ⟨m,hn,_⟩:=id I4.loc
   exact hRR _ C s4 H3 m (out I4) hn qn I4.free (fun z=>Nat.lt_irrefl _ (Nat.lt_trans (Nat.lt_of_lt_of_eq hDC z) I2.lt)) (Nat.le_trans I2.sz (Nat.le_of_lt hDC)) hCx hCp
  ·refine thn (T.item (blk X scope (blkCells X scope C) C s2 H2 fp) rfl rfl rfl hcalm k [] s3 (blank is σ) H3 NoX I3 (FY fr3) st3 go) fun r s4 ⟨u,hr,h4⟩=>?_
   subst hr
   refine thn h4 fun _ s5 ⟨x,H5,I5,r5,y5,st5,fr5⟩=>?_
   have I5':=I5.pinned (FY fr5) (T.obj _ _ st5)
   refine thn (Hg _ s5 (blank is σ) H5 x u _ I5' r5 (step x H5 y5)) fun _ s6 ⟨σ6,H6,I6,le6,q6⟩=>?_
   refine thn (Hc _ s6 σ6 H6 _ I6 q6) fun ok s7 ⟨H7,I7,q7⟩=>?_
   have again:∀{H8:Hp} {s8:Shared} {ys':List V},Inv (blk X scope (blkCells X scope C) C s2 H2 fp) ([]++pinsAt fp s5.heap) σ6 H8 s8->(∃m',m'<n/\W (k+1) m' ys' H8) ->
     ∃m,m<n/\∃k ys H',Inv (blk X scope (blkCells X scope C) C s2 H2 fp) [] (blank is σ) H' s8/\tn k s8.heap/\(∀b∈fp,H' b=none)/\W k m ys H':=fun {H8 s8 ys'} I8 ⟨m',hm,w8⟩=>by
    refine ⟨m',hm,k+1,ys',H8,(I8.weak le6.1.symm le6.2).unpinned,T.keep _ _ _ st5 fun b hb o e=>(I8.pin (b,o) (mem_append_right _ (mem_append_right _ (mem_pinsAt hb e)))).1,fun b hb=>?_,w8⟩
    obtain ⟨o,e,d⟩:=T.obj _ _ st5 b hb
    exact (I8.pin (b,o) (mem_append_right _ (mem_append_right _ (mem_pinsAt hb e)))).2.1
   cases ok with
   | false=>
    rw [if_neg Bool.false_ne_true] at q7
    exact again I7 q7
   | true=>
    rw [if_pos rfl] at q7
    refine thn (He _ s7 σ6 H7 _ I7 q7) fun y s8 ⟨v8,H8,I8,r8,q8⟩=>?_
    obtain ⟨hD8,q8⟩:=q8
    refine thn (Ha _ s8 σ6 H8 (.ref s2.heap.objs.size) [v8] (.ref s2.heap.objs.size) [y] (fun _ H9=>∃m',m'<n/\W (k+1) m' (ys++[v8]) H9) I8 rfl (.cons r8 .nil) ⟨_,ys,v8,rfl,rfl,hD8,hlen,q8⟩) fun _ s9 ⟨_,H9,I9,_,q9⟩=>?_
    exact again I9 q9
 exact codeAny_compStart_list (loop _ rfl) (T.self X.A 0 _ _ _ (T.keep 0 _ _ st2 fun b _ o e=>pushCells_keeps _ _ b o (Heap.get?_push_of_some _ (Heap.get?_push_of_some _ e))) (loop _ rfl))
theorem pe_comp (S:CompSc X.N is X.env.scope scope) (hcalm:X.calm=true) (hi:PI X tg iter wi)
  (hg:∀cells C s₀ H₀ ex,PG (blk X scope cells C s₀ H₀ ex) tg g) (hc:∀cells C s₀ H₀ ex,PF (blk X scope cells C s₀ H₀ ex) ifs tc) (he:∀cells C s₀ H₀ ex,PE (blk X scope cells C s₀ H₀ ex) elt te)
  (hs:∀x,foldedSetIterable iter X.env x=pure x:=by intro _;rfl):PE X (.ListComp elt [⟨tg,iter,ifs,0⟩] scope pos) (tComp is wi g tc te):=by
 intro pins s σ H Q I h
 rw [eval_ListComp]
 refine wpAny_comprehension_free (use:=none) rfl hs (closureFor_L (I.freeCells S)) S.kind S.loc (comp_core (RR:=fun acc C=>compPost (model X.prog X.w) X.A X.xe none (EP X pins σ Q) acc C) S hcalm hi hg hc he I h ?_)
 intro D C s' H' m I' hn q n1 n2 n3 n4 n5
 refine ⟨m,hn,fun h' hs'=>?_⟩
 exact ⟨.ref D,H',I'.turned (t':=s'.toks) (fun b o hb e=>(hs'.2 b hb).trans e) n1 n2 (.inr n3) n4 n5,rfl,q⟩
theorem ps_setComp {i:Nat} {y:Str} {pos' spos:Pos} (hN:X.N.Nodup) (hy:X.N[i]?=some y) (hl:X.env.scope.names.lookup y=some .local) (S:CompSc X.N is X.env.scope scope) (hcalm:X.calm=true) (hi:PI X tg iter wi)
  (hg:∀cells C s₀ H₀ ex,PG (blk X scope cells C s₀ H₀ ex) tg g) (hc:∀cells C s₀ H₀ ex,PF (blk X scope cells C s₀ H₀ ex) ifs tc) (he:∀cells C s₀ H₀ ex,PE (blk X scope cells C s₀ H₀ ex) elt te)
  (hsw:swapsWith (.ListComp elt [⟨tg,iter,ifs,0⟩] scope pos) (some (.Name y pos')) spos.line X.env=pure true)
  (hs:∀x,foldedSetIterable iter X.env x=pure x:=by intro _;rfl):PS X (.Assign [.Name y pos'] (.ListComp elt [⟨tg,iter,ifs,0⟩] scope pos) spos) (fun D σ H=>tComp is wi g tc te σ H fun v H'=>D.nx (σ.set i (some v)) H'):=by
 intro pins s σ H Ds I h
 rw [exec_Assign_Name_used _ _ _ _ hsw]
 refine wpAny_bind (wpAny_standAt (wpAny_bind ?_))
 show wpAny _ X.A (do let _ <-comprehension (.ListComp elt [⟨tg,iter,ifs,0⟩] scope pos) scope X.env _ (newList []) false (eval iter X.env) (some (assign (.Name y pos') X.env))) _ _ s
 refine wpAny_bind (wpAny_mono (wpAny_comprehension_free (use:=some (assign (.Name y pos') X.env)) (Q:=fun _ s'=>SP X pins Ds .next s') rfl hs (closureFor_L (I.freeCells S)) S.kind S.loc
  (comp_core (RR:=fun acc C=>compPost (model X.prog X.w) X.A X.xe (some (assign (.Name y pos') X.env)) (fun _ s'=>SP X pins Ds .next s') acc C) S hcalm hi hg hc he I h ?_)) (fun _ s' hq=>wpAny_pure (wpAny_pure hq)) fun _ _ e=>e)
 intro D C s' H' m I' hn q n1 n2 n3 n4 n5
 show wpAny _ X.A (assign (.Name y pos') X.env (.ref D)) _ _ _
 refine wpAny_assign_Name (store_ok2 (v:=.ref D) I' hN hy (.inl hl) rfl (fun s'' I'' hch=>?_) (.inr hl))
 obtain ⟨a,hsb,ha⟩:=hch
 have hCa:C≠a:=by
  rcases ha with e | e
  ·rw [e];exact n2
  ·exact (n4 y a e).symm
 refine ⟨m,hn.sameBut hsb hCa,fun h' hs'=>?_⟩
 exact ⟨_,H',I''.turned (t':=s''.toks) (fun b o hb e=>(hs'.2 b hb).trans e) n1 n2 (.inr n3) n4 n5,q⟩
end
end L2
namespace T
open PySem PySem.Spec L2
open PyProof.Rows hiding St
variable {K:Fg} {H' H2 He H1 He':Hp} {a:Addr} {o:Option (Option PV)} {O' G F:List Addr} {Fs Fs2 Fs' Fs1:List (List Addr)} {t t':TT} {es ifs:List Expr} {X:Cx} {σ:St} {x qual y:Str} {U' U U1:Ev} {α:Type} {ps N gl:List Str} {vs:List V} {bs:List Bool} {A:Around} {s':Sh} {fl:FL} {lo cs ls gs:List Nat} {tg iter elt:Expr} {fi:FI} {fd:FuncData} {den:List PySem.PyData->Res} {scope:Scope} {px pos' apos cpos:Pos} {fe:F1} {mg:Str->Option Value} {env:Env}
abbrev D:=PyData
inductive Rep (K:Fg) (H:Hp):V->D->Prop where
 | non:Rep K H .non .none
 | bl (b:Bool):Rep K H (.bl b) (.bool b)
 | int (i:Int):Rep K H (.int i) (.int i)
 | str (x:Str):Rep K H (.str x) (.str x)
 | lst {p:Addr} {vs:List V} {ds:List D}:SqL K H p vs->vs.length=ds.length->(∀(i:Nat) v d,vs[i]?=some v->ds[i]?=some d->Rep K H v d)->Rep K H (.ref p) (.list ds)
 | tup {p:Addr} {vs:List V} {ds:List D}:SqT K H p vs->vs.length=ds.length->(∀(i:Nat) v d,vs[i]?=some v->ds[i]?=some d->Rep K H v d)->Rep K H (.ref p) (.tuple ds)
theorem SameT {H:Hp} {xs:List V} (e:Same H H') (h:SqT K H a xs):SqT K H' a xs:=by
 rcases h with (h | ⟨o,h⟩) | h
 ·exact .inl (.inl (e _ _ h))
 ·exact .inl (.inr ⟨o,e _ _ h⟩)
 ·exact .inr h
theorem Rep.mono {H:Hp} {v:V} {d:D} (e:Same H H') (h:Rep K H v d):Rep K H' v d:=by
 induction h with
 | non=>exact .non
 | bl b=>exact .bl b
 | int i=>exact .int i
 | str x=>exact .str x
 | lst hs hl _ ih=>exact .lst (e.seq hs) hl ih
 | tup hs hl _ ih=>exact .tup (SameT e hs) hl ih
def Reps (K:Fg) (H:Hp) (vs:List V) (ds:List D):Prop:=vs.length=ds.length/\∀(i:Nat) v d,vs[i]?=some v->ds[i]?=some d->Rep K H v d
def hid (H:Hp) (O:List Addr):Hp:=fun a=>if a∈O then none else H a
theorem hid_le {H:Hp} {O:List Addr}:Same (hid H O) H:=fun b o h=>by
 unfold hid at h
 split at h
 ·cases h
 ·exact h
theorem hid_get {H:Hp} {O:List Addr} {o:HO} (h:H a=some o) (n:a∉O):hid H O a=some o:=by
 unfold hid;rw [if_neg n];exact h
theorem hid_mono {H:Hp} {O:List Addr} (e:Same H H') (h:∀a∈O',a∈O\/H a=none):Same (hid H O) (hid H' O'):=fun b o q=>by
 unfold hid at q ⊢
 split at q
 ·cases q
 ·rename_i hn
  have hb:b∉O':=fun z=>(h b z).elim hn fun z=>by rw [z] at q;cases q
  rw [if_neg hb]
  exact e b o q
theorem hid_upd {H:Hp} {O:List Addr} {p:Addr} {o:HO} (h:p∈O):hid (upd H p o) O=hid H O:=by
 funext b
 unfold hid
 split
 ·rfl
 ·rename_i hb
  exact upd_ne fun e=>hb (e▸h)
theorem hid_nil {H:Hp}:hid H []=H:=by
 funext b;unfold hid;simp
theorem same_upd {H:Hp} {p:Addr} {o:HO} (h:H p=none):Same H (upd H p o):=fun b u e=>by
 rw [upd_ne (ne_of_none e h)];exact e
inductive Sh where
 | view | leaf | lst (s:Sh) | tup (ss:List Sh)
def Sh.isView:Sh->Bool
 | .view=>true
 | _=>false
inductive Own (K:Fg) (O:List Addr) (H:Hp):Sh->List Addr->V->D->Prop where
 | view {v d}:Rep K H v d->Own K O H .view [] v d
 | leaf {v d}:Rep K (hid H O) v d->Own K O H .leaf [] v d
 | lst {s:Sh} {p:Addr} {vs:List V} {ds:List D} {Fs:List (List Addr)}:s.isView=false->H p=some (.lst vs)->vs.length=ds.length->Fs.length=ds.length->(p::Fs.flatten).Nodup ->
   (∀(i:Nat) v d F,vs[i]?=some v->ds[i]?=some d->Fs[i]?=some F->Own K O H s F v d)->Own K O H (.lst s) (p::Fs.flatten) (.ref p) (.list ds)
 | tup {ss:List Sh} {p:Addr} {vs:List V} {ds:List D} {Fs:List (List Addr)}:(∀s∈ss,s.isView=false)->H p=some (.tup vs)->p∉O->vs.length=ds.length->Fs.length=ds.length->ss.length=ds.length->Fs.flatten.Nodup ->
   (∀(i:Nat) v d F s,vs[i]?=some v->ds[i]?=some d->Fs[i]?=some F->ss[i]?=some s->Own K O H s F v d)->Own K O H (.tup ss) Fs.flatten (.ref p) (.tuple ds)
theorem Own.mono {O:List Addr} {H:Hp} {s:Sh} {v:V} {d:D} (h:Own K O H s G v d) (e:Same H H') (hO:∀a∈O',a∈O\/H a=none):Own K O' H' s G v d:=by
 induction h with
 | view r=>exact .view (r.mono e)
 | leaf r=>exact .leaf (r.mono (hid_mono e hO))
 | lst hv hp hl hf nd _ ih=>exact .lst hv (e _ _ hp) hl hf nd fun i v d F h1 h2 h3=>ih i v d F h1 h2 h3
 | tup hv hp hn hl hf hs nd _ ih=>exact .tup hv (e _ _ hp) (fun z=>(hO _ z).elim hn fun z=>by rw [z] at hp;cases hp) hl hf hs nd fun i v d F s h1 h2 h3 h4=>ih i v d F s h1 h2 h3 h4
theorem Own.rep {O:List Addr} {H:Hp} {s:Sh} {v:V} {d:D} (h:Own K O H s G v d):Rep K H v d:=by
 induction h with
 | view r=>exact r
 | leaf r=>exact r.mono hid_le
 | lst hv hp hl hf _ q ih=>
  refine .lst (.of hp) hl fun i v d h1 h2=>?_
  rename_i Fs _
  obtain ⟨F,hF⟩:∃F,Fs[i]?=some F:=by
   have:=(List.getElem?_eq_some_iff.mp h2).1
   exact ⟨Fs[i]'(by omega),getElem?_eq_getElem _⟩
  exact ih i v d F h1 h2 hF
 | tup hv hp hn hl hf hs _ q ih=>
  refine .tup (.of hp) hl fun i v d h1 h2=>?_
  rename_i ss _ _ _ Fs _
  have hi:=(List.getElem?_eq_some_iff.mp h2).1
  exact ih i v d (Fs[i]'(by omega)) (ss[i]'(by omega)) h1 h2 (getElem?_eq_getElem _) (getElem?_eq_getElem _)
theorem mem_flat {i:Nat} (h:Fs[i]?=some F) (ha:a∈F):a∈Fs.flatten:=List.mem_flatten.mpr ⟨F,mem_of_getElem? h,ha⟩
theorem Own.freeze {O:List Addr} {H:Hp} {s:Sh} {v:V} {d:D} (h:Own K O H s G v d) (hs:s.isView=false) (h1:∀a∈O',a∈O) (h2:∀a∈G,a∉O'):Rep K (hid H O') v d:=by
 induction h with
 | view r=>cases hs
 | leaf r=>exact r.mono (hid_mono (Same.refl _) fun a z=>.inl (h1 a z))
 | lst hv hp hl hf _ q ih=>
  refine .lst (.of (hid_get hp (h2 _ mem_cons_self))) hl fun i v d e1 e2=>?_
  rename_i Fs _
  obtain ⟨F,hF⟩:∃F,Fs[i]?=some F:=by
   have:=(List.getElem?_eq_some_iff.mp e2).1
   exact ⟨Fs[i]'(by omega),getElem?_eq_getElem _⟩
  exact ih i v d F e1 e2 hF hv fun a ha=>h2 a (mem_cons_of_mem _ (mem_flat hF ha))
 | tup hv hp hn hl hf hs' _ q ih=>
  refine .tup (.of (hid_get hp fun z=>hn (h1 _ z))) hl fun i v d e1 e2=>?_
  rename_i ss _ _ _ Fs _
  have hi:=(List.getElem?_eq_some_iff.mp e2).1
  have e3:Fs[i]?=some (Fs[i]'(by omega)):=getElem?_eq_getElem _
  exact ih i v d _ (ss[i]'(by omega)) e1 e2 e3 (getElem?_eq_getElem _) (hv _ (getElem_mem _)) fun a ha=>h2 a (mem_flat e3 ha)
theorem Own.mut {O:List Addr} {H:Hp} {s:Sh} {v:V} {d:D} {p:Addr} {o:HO} {xs:List V} (h:Own K O H s G v d) (hs:s.isView=false) (hp:p∈O) (hg:p∉G) (hl:H p=some (.lst xs)):Own K O (upd H p o) s G v d:=by
 induction h with
 | view r=>cases hs
 | leaf r=>refine .leaf ?_;rw [hid_upd hp];exact r
 | lst hv hq hl' hf nd q ih=>
  refine .lst hv ?_ hl' hf nd fun i v d F e1 e2 e3=>ih i v d F e1 e2 e3 hv fun z=>hg (mem_cons_of_mem _ (mem_flat e3 z))
  rw [upd_ne (fun z=>hg (by rw [<-z];exact mem_cons_self))]
  exact hq
 | tup hv hq hn hl' hf hs' nd q ih=>
  refine .tup hv ?_ hn hl' hf hs' nd fun i v d F s e1 e2 e3 e4=>ih i v d F s e1 e2 e3 e4 (hv _ (mem_of_getElem? e4)) fun z=>hg (mem_flat e3 z)
  rw [upd_ne (fun z=>by rw [z,hl] at hq;cases hq)]
  exact hq
inductive Sc:V->D->Prop where
 | non:Sc .non .none
 | bl (b:Bool):Sc (.bl b) (.bool b)
 | int (i:Int):Sc (.int i) (.int i)
 | str (x:Str):Sc (.str x) (.str x)
theorem Sc.rep {H:Hp} {v:V} {d:D} (h:Sc v d):Rep K H v d:=by cases h<;>constructor
def scalD:D->Bool
 | .list _=>false
 | .tuple _=>false
 | .dict _=>false
 | _=>true
theorem Rep.sc {H:Hp} {v:V} {d:D} (h:Rep K H v d) (s:scalD d=true):Sc v d:=by
 cases h with
 | non=>exact .non
 | bl b=>exact .bl b
 | int i=>exact .int i
 | str x=>exact .str x
 | lst _ _ _=>cases s
 | tup _ _ _=>cases s
structure PV where
 s:Sh
 d:D
abbrev Ev:=List (Option PV)
inductive Out (α:Type) where
 | ok (a:α) (e:Ev)
 | er (c:Str) (e:Ev)
 | no
def Out.bind {α β:Type} (x:Out α) (k:α->Ev->Out β):Out β:=match x with
 | .ok a e=>k a e
 | .er c e=>.er c e
 | .no=>.no
structure EnvOk (K:Fg) (He:Hp) (O:List Addr) (Fs:List (List Addr)) (H:Hp) (σ:St) (U:Ev):Prop where
 len1:σ.length=U.length
 len2:Fs.length=U.length
 same:Same He H
 nd:(O++Fs.flatten).Nodup
 inH:∀a∈O++Fs.flatten,H a≠none
 fresh:∀a∈Fs.flatten,He a=none
 slot:∀(i:Nat) (p:PV),U[i]?=some (some p)->p.s.isView=false/\∃v F,σ[i]?=some (some v)/\Fs[i]?=some F/\Own K (O++Fs.flatten) H p.s F v p.d
section
variable {K:Fg} {He H H':Hp} {O O' G:List Addr} {Fs:List (List Addr)} {σ:St} {U:Ev}
theorem EnvOk.grow (h:EnvOk K He O Fs H σ U) (e:Same H H'):EnvOk K He O Fs H' σ U:=
 ⟨h.len1,h.len2,h.same.trans e,h.nd,fun a ha z=>h.inH a ha (e.free z),h.fresh,fun i p q=>let ⟨a,v,F,b,c,d⟩:=h.slot i p q;⟨a,v,F,b,c,d.mono e fun _ z=>.inl z⟩⟩
theorem EnvOk.drop (h:EnvOk K He O Fs H σ U) (hs:∀a∈O',a∈O) (nd:O'.Nodup):EnvOk K He O' Fs H σ U:=by
 obtain ⟨n1,n2,n3⟩:=List.nodup_append.mp h.nd
 refine ⟨h.len1,h.len2,h.same,List.nodup_append.mpr ⟨nd,n2,fun a ha b hb=>n3 a (hs a ha) b hb⟩,fun a ha=>h.inH a ?_,h.fresh,fun i p q=>let ⟨a,v,F,b,c,d⟩:=h.slot i p q;⟨a,v,F,b,c,d.mono (Same.refl _) fun a z=>.inl ?_⟩⟩
 ·rcases List.mem_append.mp ha with z | z
  ·exact mem_append_left _ (hs a z)
  ·exact mem_append_right _ z
 ·rcases List.mem_append.mp z with z | z
  ·exact mem_append_left _ (hs a z)
  ·exact mem_append_right _ z
theorem EnvOk.dropL (h:EnvOk K He (G++O) Fs H σ U):EnvOk K He O Fs H σ U:=h.drop (fun a z=>mem_append_right _ z) (List.nodup_append.mp (List.nodup_append.mp h.nd).1).2.1
theorem EnvOk.hide (h:EnvOk K He O Fs H σ U) (e:Same H H') (nd:G.Nodup) (hn:∀a∈G,H a=none) (hi:∀a∈G,H' a≠none):EnvOk K He (G++O) Fs H' σ U:=by
 refine ⟨h.len1,h.len2,h.same.trans e,?_,fun a ha=>?_,h.fresh,fun i p q=>let ⟨a,v,F,b,c,d⟩:=h.slot i p q;⟨a,v,F,b,c,d.mono e fun a z=>?_⟩⟩
 ·rw [append_assoc]
  exact List.nodup_append.mpr ⟨nd,h.nd,fun a ha b hb z=>h.inH b hb (by rw [<-z];exact hn a ha)⟩
 ·rw [append_assoc] at ha
  rcases List.mem_append.mp ha with z | z
  ·exact hi a z
  ·exact fun q=>h.inH a z (e.free q)
 ·rw [append_assoc] at z
  rcases List.mem_append.mp z with z | z
  ·exact .inr (hn a z)
  ·exact .inl z
end
structure Aft (K:Fg) (He:Hp) (O:List Addr) (Fs:List (List Addr)) (H:Hp) (σ:St) (U':Ev) (p:PV) (v:V) (H':Hp) (G:List Addr) (Fs':List (List Addr)):Prop where
 same:Same H H'
 env:EnvOk K He (G++O) Fs' H' σ U'
 new:∀a∈G++Fs'.flatten,a∈Fs.flatten\/H a=none
 own:Own K (G++O++Fs'.flatten) H' p.s G v p.d
abbrev XW:=Str->St->Hp->Prop
abbrev F1:=Ev->Out PV
def tE (K:Fg) (W:XW) (f:F1):TE:=fun σ H Q=>∃He O Fs U,EnvOk K He O Fs H σ U/\match f U with
 | .ok p U'=>∀v H' G Fs',Aft K He O Fs H σ U' p v H' G Fs'->Q v H'
 | .er c U'=>∀H' Fs',Same H H'->EnvOk K He O Fs' H' σ U'->W c σ H'
 | .no=>False
def Wants (K:Fg) (W:XW) (He:Hp) (O:List Addr) (Fs:List (List Addr)) (H:Hp) (σ:St) (Q:VK) (o:Out PV):Prop:=match o with
 | .ok p U'=>∀v H' G Fs',Aft K He O Fs H σ U' p v H' G Fs'->Q v H'
 | .er c U'=>∀H' Fs',Same H H'->EnvOk K He O Fs' H' σ U'->W c σ H'
 | .no=>False
section
variable {K:Fg} {W:XW} {He H:Hp} {O:List Addr} {Fs:List (List Addr)} {σ:St} {U U':Ev} {Q:VK}
theorem Wants.scal {O2:List Addr} {v:V} {d:D} (h:Wants K W He O Fs H σ Q (.ok ⟨.leaf,d⟩ U')) (s:Sc v d) (e:Same H H2) (E:EnvOk K He O2 Fs2 H2 σ U')
  (hO:∀a∈O,a∈O2) (nd:O.Nodup) (new:∀a∈Fs2.flatten,a∈Fs.flatten\/H a=none):Q v H2:=
 h v H2 [] Fs2 ⟨e,by rw [nil_append];exact E.drop hO nd,by rw [nil_append];exact new,.leaf s.rep⟩
theorem EnvOk.ndO (E:EnvOk K He O Fs H σ U):O.Nodup:=(List.nodup_append.mp E.nd).1
end
def eBind {β:Type} (f:F1) (k:PV->Ev->Out β):Ev->Out β:=fun U=>(f U).bind k
section
variable {K:Fg} {W:XW} {σ:St} {H:Hp} {Q:VK} {fa fb:F1}
theorem tE_one {k:PV->F1} {R:VK} (h:tE K W (eBind fa k) σ H Q)
  (hk:∀He O Fs U1 p v H1 G Fs1,O.Nodup->Aft K He O Fs H σ U1 p v H1 G Fs1->Wants K W He O Fs H σ Q (k p U1)->R v H1):tE K W fa σ H R:=by
 obtain ⟨He,O,Fs,U,E,h⟩:=h
 refine ⟨He,O,Fs,U,E,?_⟩
 unfold eBind at h
 cases e:fa U with
 | ok p U1=>
  rw [e] at h
  exact fun v H' G Fs' A=>hk He O Fs U1 p v H' G Fs' E.ndO A h
 | er c U1=>
  rw [e] at h
  exact h
 | no=>
  rw [e] at h
  exact h
theorem tE_two {k:PV->PV->F1} {R:V->V->Hp->Prop} (h:tE K W (eBind fa fun p=>eBind fb fun q=>k p q) σ H Q)
  (hk:∀He O Fs U2 p q v u H1 H2 G1 G2 Fs2,O.Nodup->Same H H1->Same H1 H2->EnvOk K He (G2++(G1++O)) Fs2 H2 σ U2->(∀a∈G2++(G1++Fs2.flatten),a∈Fs.flatten\/H a=none) ->
   Own K (G2++(G1++O)++Fs2.flatten) H2 p.s G1 v p.d->Own K (G2++(G1++O)++Fs2.flatten) H2 q.s G2 u q.d->Wants K W He O Fs H σ Q (k p q U2)->R v u H2) :
  tE K W fa σ H fun v H1=>tE K W fb σ H1 fun u H2=>R v u H2:=by
 refine tE_one (k:=fun p=>eBind fb fun q=>k p q) h fun He O Fs U1 p v H1 G1 Fs1 nd A1 h1=>?_
 refine ⟨He,G1++O,Fs1,U1,A1.env,?_⟩
 unfold eBind at h1
 cases e:fb U1 with
 | ok q U2=>
  rw [e] at h1
  intro u H2 G2 Fs2 A2
  have new:∀a∈G2++(G1++Fs2.flatten),a∈Fs.flatten\/H a=none:=fun a ha=>by
   have up:a∈G1++Fs1.flatten->a∈Fs.flatten\/H a=none:=A1.new a
   rcases List.mem_append.mp ha with z | z
   ·rcases A2.new a (mem_append_left _ z) with y | y
    ·exact up (mem_append_right _ y)
    ·exact .inr (A1.same.free y)
   ·rcases List.mem_append.mp z with z | z
    ·exact up (mem_append_left _ z)
    ·rcases A2.new a (mem_append_right _ z) with y | y
     ·exact up (mem_append_right _ y)
     ·exact .inr (A1.same.free y)
  refine hk He O Fs U2 p q v u H1 H2 G1 G2 Fs2 nd A1.same A2.same A2.env new (A1.own.mono A2.same fun a ha=>?_) A2.own h1
  rcases List.mem_append.mp ha with z | z
  ·rcases List.mem_append.mp z with z | z
   ·rcases A2.new a (mem_append_left _ z) with y | y
    ·exact .inl (mem_append_right _ y)
    ·exact .inr y
   ·exact .inl (mem_append_left _ z)
  ·rcases A2.new a (mem_append_right _ z) with y | y
   ·exact .inl (mem_append_right _ y)
   ·exact .inr y
 | er c U2=>
  rw [e] at h1
  intro H2 Fs2 hs E2
  exact h1 H2 Fs2 (A1.same.trans hs) E2.dropL
 | no=>
  rw [e] at h1
  exact h1
end
section
variable {X:Cx} {e:Expr}
theorem PEimp {t t':TE} (h:PE X e t) (i:∀σ H Q,t' σ H Q->t σ H Q):PE X e t':=fun pins s σ H Q I q=>h pins s σ H Q I (i σ H Q q)
theorem PTimp (h:PT X e t) (i:∀σ H Q,t' σ H Q->t σ H Q):PT X e t':=fun pins s σ H Q I q=>h pins s σ H Q I (i σ H Q q)
theorem PWimp (h:PW X e t) (i:∀σ H Q,t' σ H Q->t σ H Q):PW X e t':=fun whole pins s σ H Q I q=>h whole pins s σ H Q I (i σ H Q q)
theorem PAimp {t t':TA} (h:PA X es t) (i:∀σ H Q,t' σ H Q->t σ H Q):PA X es t':=fun pos pins s σ H Q I q=>h pos pins s σ H Q I (i σ H Q q)
theorem PSimp {st:Stmt} {t t':TS} (h:PS X st t) (i:∀D σ H,t' D σ H->t D σ H):PS X st t':=fun pins s σ H D I q=>h pins s σ H D I (i D σ H q)
theorem PSsimp {st:List Stmt} {t t':TS} (h:PSs X st t) (i:∀D σ H,t' D σ H->t D σ H):PSs X st t':=fun pins s σ H D I q=>h pins s σ H D I (i D σ H q)
theorem PFimp (h:PF X es t) (i:∀σ H Q,t' σ H Q->t σ H Q):PF X es t':=fun pins s σ H Q I q=>h pins s σ H Q I (i σ H Q q)
end
theorem readsAll_of {h:Heap}:∀{vs:List V} {its:List Value} {ds:List D},Vals vs its->vs.length=ds.length->(∀(i:Nat) v d,vs[i]?=some v->ds[i]?=some d->∀u,RelV v u->∃as,Reads h u d as)->∃as,ReadsAll h its ds as
 | _,_,[],.nil,_,_=>⟨_,.nil⟩
 | _,_,d::ds,.cons (a:=v) (b:=u) r t,hl,h=>by
  obtain ⟨as,ra⟩:=h 0 v d rfl rfl u r
  obtain ⟨bs,rb⟩:=readsAll_of t (by simpa using hl) fun i v d h1 h2=>h (i+1) v d (by simpa using h1) (by simpa using h2)
  exact ⟨_,.cons ra rb⟩
 | _,_,[],.cons _ _,hl,_=>by simp at hl
 | _,_,_::_,.nil,hl,_=>by simp at hl
theorem Rep.reads {pins:List (Addr×Obj)} {H:Hp} {s:Shared} {x:V} {d:D} (I:Inv X pins σ H s) (r:Rep X.K H x d):∀u,RelV x u->∃as,Reads s.heap u d as:=by
 induction r with
 | non=>rintro u rfl;exact ⟨_,.none⟩
 | bl b=>rintro u rfl;exact ⟨_,.bool b⟩
 | int i=>rintro u ⟨t,rfl⟩;exact ⟨_,.int i t⟩
 | str x=>rintro u ⟨t,rfl⟩;exact ⟨_,.str x t⟩
 | lst hq hl _ ih=>
  rintro u rfl
  obtain ⟨its,rv,⟨o,n,e1,e2,e3,e4⟩,_⟩:=I.list hq
  obtain ⟨as,ra⟩:=readsAll_of rv hl ih
  exact ⟨_,.list e1 e2 e4 (by simpa using ra)⟩
 | tup hq hl _ ih=>
  rintro u rfl
  obtain ⟨its,rv,⟨o,e1,e2,n,e4⟩,_⟩:=I.tuple hq
  obtain ⟨as,ra⟩:=readsAll_of rv hl ih
  exact ⟨_,.tuple e1 e2 e4 (by simpa using ra)⟩
theorem flat_set {α:Type} {F G:List α}:∀{Fs:List (List α)} {i:Nat},Fs[i]?=some F->(F++(Fs.set i G).flatten).Perm (G++Fs.flatten)
 | [],_,h=>by simp at h
 | A::r,0,h=>by
  simp at h
  subst h
  simp only [List.set_cons_zero,flatten_cons]
  rw [<-append_assoc,<-append_assoc]
  exact List.Perm.append_right _ perm_append_comm
 | A::r,i+1,h=>by
  have ih:=flat_set (G:=G) (Fs:=r) (i:=i) (by simpa using h)
  simp only [List.set_cons_succ,flatten_cons]
  calc (F++(A++(r.set i G).flatten)).Perm (A++(F++(r.set i G).flatten)):=by
        rw [<-append_assoc,<-append_assoc];exact List.Perm.append_right _ perm_append_comm
    _ |>.Perm (A++(G++r.flatten)):=List.Perm.append_left _ ih
    _ |>.Perm (G++(A++r.flatten)):=by
        rw [<-append_assoc,<-append_assoc];exact List.Perm.append_right _ perm_append_comm
section
variable {K:Fg} {He H:Hp} {O G:List Addr} {Fs:List (List Addr)} {σ:St} {U:Ev}
theorem EnvOk.lt (E:EnvOk K He O Fs H σ U) {i:Nat} (h:i<U.length):∃F,Fs[i]?=some F:=⟨Fs[i]'(by rw [E.len2];exact h),getElem?_eq_getElem _⟩
theorem EnvOk.move {i:Nat} {p:PV} (E:EnvOk K He O Fs H σ U) (h:U[i]?=some (some p)) :
  p.s.isView=false/\∃v F,σ[i]?=some (some v)/\EnvOk K He (F++O) (Fs.set i []) H σ (U.set i none)/\Own K (F++O++(Fs.set i []).flatten) H p.s F v p.d/\(∀a∈F++(Fs.set i []).flatten,a∈Fs.flatten):=by
 obtain ⟨hv,v,F,h1,h2,h3⟩:=E.slot i p h
 have pm:(F++(Fs.set i []).flatten).Perm Fs.flatten:=by simpa using flat_set (G:=[]) h2
 have pm2:(F++O++(Fs.set i []).flatten).Perm (O++Fs.flatten):=by
  rw [append_assoc]
  calc (F++(O++(Fs.set i []).flatten)).Perm (O++(F++(Fs.set i []).flatten)):=by
        rw [<-append_assoc,<-append_assoc];exact List.Perm.append_right _ perm_append_comm
    _ |>.Perm (O++Fs.flatten):=List.Perm.append_left _ pm
 refine ⟨hv,v,F,h1,⟨by rw [length_set];exact E.len1,by rw [length_set,length_set];exact E.len2,E.same,pm2.nodup_iff.mpr E.nd,fun a ha=>E.inH a (pm2.mem_iff.mp ha),fun a ha=>E.fresh a (pm.mem_iff.mp (mem_append_right _ ha)),fun j q hq=>?_⟩,h3.mono (Same.refl _) fun a ha=>.inl (pm2.mem_iff.mp ha),fun a ha=>pm.mem_iff.mp ha⟩
 by_cases hj:j=i
 ·subst hj
  rw [List.getElem?_set] at hq
  split at hq
  ·split at hq<;>cases hq
  ·rename_i z
   exact absurd rfl z
 ·rw [getElem?_set_ne (Ne.symm hj)] at hq
  obtain ⟨w1,v',F',e1,e2,e3⟩:=E.slot j q hq
  exact ⟨w1,v',F',e1,by rw [getElem?_set_ne (Ne.symm hj)];exact e2,e3.mono (Same.refl _) fun a ha=>.inl (pm2.mem_iff.mp ha)⟩
theorem EnvOk.put {i:Nat} {p:PV} {v:V} (E:EnvOk K He (G++O) Fs H σ U) (ho:Own K (G++O++Fs.flatten) H p.s G v p.d) (hv:p.s.isView=false) (hn:∀a∈G,He a=none) (hi:i<U.length) :
  EnvOk K He O (Fs.set i G) H (σ.set i (some v)) (U.set i (some p)):=by
 obtain ⟨F,hF⟩:=E.lt hi
 have pm:=flat_set (G:=G) hF
 have nd:=E.nd
 rw [append_assoc] at nd
 have sub:∀a∈O++(Fs.set i G).flatten,a∈G++O++Fs.flatten:=fun a ha=>by
  rw [append_assoc]
  rcases List.mem_append.mp ha with z | z
  ·exact mem_append_right _ (mem_append_left _ z)
  ·rcases List.mem_append.mp (pm.mem_iff.mp (mem_append_right _ z)) with y | y
   ·exact mem_append_left _ y
   ·exact mem_append_right _ (mem_append_right _ y)
 refine ⟨by rw [length_set,length_set];exact E.len1,by rw [length_set,length_set];exact E.len2,E.same,?_,fun a ha=>E.inH a (sub a ha),fun a ha=>?_,fun j q hq=>?_⟩
 ·have p1:(O++(F++(Fs.set i G).flatten)).Perm (G++(O++Fs.flatten)):=by
   calc (O++(F++(Fs.set i G).flatten)).Perm (O++(G++Fs.flatten)):=List.Perm.append_left _ pm
     _ |>.Perm (G++(O++Fs.flatten)):=by
       rw [<-append_assoc,<-append_assoc];exact List.Perm.append_right _ perm_append_comm
  have p2:=p1.nodup_iff.mpr nd
  refine p2.sublist ?_
  exact List.Sublist.append_left (List.sublist_append_right _ _) _
 ·rcases List.mem_append.mp (pm.mem_iff.mp (mem_append_right _ ha)) with y | y
  ·exact hn a y
  ·exact E.fresh a y
 ·by_cases hj:j=i
  ·subst hj
   rw [getElem?_set_self hi] at hq
   cases hq
   refine ⟨hv,v,G,?_,?_,ho.mono (Same.refl _) fun a ha=>.inl (sub a ha)⟩
   ·rw [getElem?_set_self (by rw [E.len1];exact hi)]
   ·rw [getElem?_set_self (by rw [E.len2];exact hi)]
  ·rw [getElem?_set_ne (Ne.symm hj)] at hq
   obtain ⟨w1,v',F',e1,e2,e3⟩:=E.slot j q hq
   exact ⟨w1,v',F',by rw [getElem?_set_ne (Ne.symm hj)];exact e1,by rw [getElem?_set_ne (Ne.symm hj)];exact e2,e3.mono (Same.refl _) fun a ha=>.inl (sub a ha)⟩
theorem Aft.freshG {p:PV} {v:V} (E:EnvOk K He O Fs H σ U) (A:Aft K He O Fs H σ U' p v H' G Fs'):∀a∈G,He a=none:=fun a ha=>by
 rcases A.new a (mem_append_left _ ha) with z | z
 ·exact E.fresh a z
 ·exact E.same.free z
end
def eVar (i:Nat):F1:=fun U=>match U[i]? with
 | some (some p)=>(match p.s with
  | .leaf=>.ok ⟨.leaf,p.d⟩ U
  | _=>.ok ⟨.view,p.d⟩ U)
 | _=>.no
def eMove (i:Nat):F1:=fun U=>match U[i]? with
 | some (some p)=>.ok p (U.set i none)
 | _=>.no
def eK (d:D):F1:=fun U=>.ok ⟨.leaf,d⟩ U
section
variable {X:Cx} {W:XW} {i:Nat} {e:Expr} {pos:Pos}
theorem rd_var {H:Hp} {Q:VK} (h:tE K W (eVar i) σ H Q):tVar i σ H Q:=by
 obtain ⟨He,O,Fs,U,E,h⟩:=h
 unfold eVar at h
 cases e:U[i]? with
 | none=>rw [e] at h;exact h.elim
 | some o=>
  rw [e] at h
  cases o with
  | none=>exact h.elim
  | some p=>
   obtain ⟨hv,v,F,h1,h2,h3⟩:=E.slot i p e
   obtain ⟨s,d⟩:=p
   have new:∀a∈[]++Fs.flatten,a∈Fs.flatten\/H a=none:=fun a ha=>.inl (by simpa using ha)
   cases s with
   | leaf=>
    cases h3 with
    | leaf r=>exact ⟨v,h1,h v H [] Fs ⟨Same.refl _,by simpa using E,new,.leaf r⟩⟩
   | view=>cases hv
   | lst s=>exact ⟨v,h1,h v H [] Fs ⟨Same.refl _,by simpa using E,new,.view h3.rep⟩⟩
   | tup ss=>exact ⟨v,h1,h v H [] Fs ⟨Same.refl _,by simpa using E,new,.view h3.rep⟩⟩
theorem rd_move {H:Hp} {Q:VK} (h:tE K W (eMove i) σ H Q):tVar i σ H Q:=by
 obtain ⟨He,O,Fs,U,E,h⟩:=h
 unfold eMove at h
 cases e:U[i]? with
 | none=>rw [e] at h;exact h.elim
 | some o=>
  rw [e] at h
  cases o with
  | none=>exact h.elim
  | some p=>
   obtain ⟨hv,v,F,h1,E',o',sub⟩:=E.move e
   exact ⟨v,h1,h v H F (Fs.set i []) ⟨Same.refl _,E',fun a ha=>.inl (sub a ha),o'⟩⟩
theorem de_var (h:PE X e (tVar i)):PE X e (tE X.K W (eVar i)):=PEimp h fun _ _ _=>rd_var
theorem de_move (h:PE X e (tVar i)):PE X e (tE X.K W (eMove i)):=PEimp h fun _ _ _=>rd_move
theorem rd_k {H:Hp} {Q:VK} {v:V} {d:D} (hs:∀H,Rep K H v d) (h:tE K W (eK d) σ H Q):Q v H:=by
 obtain ⟨He,O,Fs,U,E,h⟩:=h
 exact h v H [] Fs ⟨Same.refl _,by simpa using E,fun a ha=>.inl (by simpa using ha),.leaf (hs _)⟩
theorem de_glob {v:V} {u:Value} {d:D} (hg:Gl X x) (hm:X.mg x=some u) (r:RelV v u) (hr:∀H,Rep X.K H v d) (hd:(x==("__debug__":Str))=false:=by decide):PE X (.Name x pos) (tE X.K W (eK d)):=
 PEimp (pe_glob hg hm r hd) fun _ _ _=>rd_k hr
end
def eOp (g:D->D->Option D) (fa fb:F1):F1:=eBind fa fun p=>eBind fb fun q=>fun U=>match g p.d q.d with
 | some d=>.ok ⟨.leaf,d⟩ U
 | none=>.no
def GOp (K:Fg) (r:R2) (g:D->D->Option D):Prop:=∀x y H Q a b d,Rep K H x a->Rep K H y b->g a b=some d->(∀v,Sc v d->Q v H)->r x y H Q
section
variable {K:Fg} {W:XW} {σ:St} {H:Hp} {Q:VK} {fa fb:F1} {r:R2} {g:D->D->Option D}
theorem rd_op (hg:GOp K r g) (h:tE K W (eOp g fa fb) σ H Q):tOp r (tE K W fa) (tE K W fb) σ H Q:=by
 refine tE_two h ?_
 intro He O Fs U2 p q v u H1 H2 G1 G2 Fs2 nd s1 s2 E new o1 o2 w
 cases e:g p.d q.d with
 | none=>rw [e] at w;exact w.elim
 | some d=>
  rw [e] at w
  exact hg v u H2 Q p.d q.d d o1.rep o2.rep e fun z s=>w.scal s (s1.trans s2) E (fun a ha=>mem_append_right _ (mem_append_right _ ha)) nd fun a ha=>new a (mem_append_right _ (mem_append_right _ ha))
end
theorem GOp.or {r r':R2} {g g':D->D->Option D} (h:GOp K r g) (h':GOp K r' g'):GOp K (fun x y H Q=>r x y H Q\/r' x y H Q) (fun a b=>(g a b).or (g' a b)):=by
 intro x y H Q a b d ra rb e k
 have e:(g a b).or (g' a b)=some d:=e
 cases e1:g a b with
 | some z=>rw [e1] at e;cases e;exact .inl (h x y H Q a b _ ra rb e1 k)
 | none=>rw [e1] at e;exact .inr (h' x y H Q a b d ra rb (by simpa using e) k)
def gI (C:Int->Int->Bool) (f:Int->Int->D):D->D->Option D
 | .int i,.int j=>if C i j then some (f i j) else none
 | _,_=>none
theorem gop_I {C:Int->Int->Prop} {C':Int->Int->Bool} {g:Int->Int->V} {f:Int->Int->D} (hC:∀i j,C' i j=true->C i j) (hs:∀i j,Sc (g i j) (f i j)):GOp K (rI C g) (gI C' f):=by
 intro x y H Q a b d ra rb e k
 cases ra<;>cases rb<;>simp only [gI] at e<;>try cases e
 rename_i i j
 split at e
 ·rename_i c
  cases e
  exact ⟨i,j,rfl,rfl,hC i j c,k _ (hs i j)⟩
 ·cases e
def gI0 (f:Int->Int->D):D->D->Option D
 | .int i,.int j=>some (f i j)
 | _,_=>none
theorem gop_I0 {g:Int->Int->V} {f:Int->Int->D} (hs:∀i j,Sc (g i j) (f i j)):GOp K (rI0 g) (gI0 f):=by
 intro x y H Q a b d ra rb e k
 cases ra<;>cases rb<;>simp only [gI0] at e<;>try cases e
 rename_i i j
 exact ⟨i,j,rfl,rfl,k _ (hs i j)⟩
abbrev gSub:=gI0 fun i j=>.int (i-j)
abbrev gAddI:=gI0 fun i j=>.int (i+j)
def cMul (i j:Int):Bool:=(decide (-(2 ^ 64)<i)&&decide (i<2 ^ 64))||(decide (-(2 ^ 64)<j)&&decide (j<2 ^ 64))
abbrev gMul:=gI cMul fun i j=>.int (i*j)
def cDiv (_ j:Int):Bool:=decide (0<j)&&decide (j<1073741824)
abbrev gDiv:=gI cDiv fun i j=>.int (i / j)
def cMod (_ j:Int):Bool:=decide (0<j)
abbrev gMod:=gI cMod fun i j=>.int (i % j)
def cPow (i j:Int):Bool:=decide (0<=j)&&decide (j<=1000000)&&decide (i.natAbs<2 ^ 64)
abbrev gPow:=gI cPow fun i j=>.int (i ^ j.toNat)
section
variable {X:Cx} {W:XW} {a b c:Expr} {pos:Pos} {fa fb fc:F1}
end
mutual
def Sh.same:Sh->Sh->Bool
 | .view,.view=>true
 | .leaf,.leaf=>true
 | .lst a,.lst b=>Sh.same a b
 | .tup as,.tup bs=>Sh.sameL as bs
 | _,_=>false
def Sh.sameL:List Sh->List Sh->Bool
 | [],[]=>true
 | a::as,b::bs=>Sh.same a b&&Sh.sameL as bs
 | _,_=>false
end
mutual
theorem Sh.same_eq:∀{a b:Sh},Sh.same a b=true->a=b
 | .view,.view,_=>rfl
 | .leaf,.leaf,_=>rfl
 | .lst a,.lst b,h=>by rw [Sh.same_eq (a:=a) (b:=b) (by simpa [Sh.same] using h)]
 | .tup as,.tup bs,h=>by rw [Sh.sameL_eq (as:=as) (bs:=bs) (by simpa [Sh.same] using h)]
 | .view,.leaf,h=>by simp [Sh.same] at h
 | .view,.lst _,h=>by simp [Sh.same] at h
 | .view,.tup _,h=>by simp [Sh.same] at h
 | .leaf,.view,h=>by simp [Sh.same] at h
 | .leaf,.lst _,h=>by simp [Sh.same] at h
 | .leaf,.tup _,h=>by simp [Sh.same] at h
 | .lst _,.view,h=>by simp [Sh.same] at h
 | .lst _,.leaf,h=>by simp [Sh.same] at h
 | .lst _,.tup _,h=>by simp [Sh.same] at h
 | .tup _,.view,h=>by simp [Sh.same] at h
 | .tup _,.leaf,h=>by simp [Sh.same] at h
 | .tup _,.lst _,h=>by simp [Sh.same] at h
theorem Sh.sameL_eq:∀{as bs:List Sh},Sh.sameL as bs=true->as=bs
 | [],[],_=>rfl
 | a::as,b::bs,h=>by
  have h:Sh.same a b=true/\Sh.sameL as bs=true:=by simpa [Sh.sameL] using h
  rw [Sh.same_eq h.1,Sh.sameL_eq h.2]
 | [],_::_,h=>by simp [Sh.sameL] at h
 | _::_,[],h=>by simp [Sh.sameL] at h
end
def coer (s:Sh) (p:PV):Bool:=match s with
 | .leaf=>!p.s.isView||scalD p.d
 | .view=>false
 | s=>Sh.same s p.s
def keepG (s:Sh) (G:List Addr):List Addr:=match s with
 | .leaf=>[]
 | _=>G
theorem keepG_sub {s:Sh} (h:a∈keepG s G):a∈G:=by
 unfold keepG at h
 split at h
 ·simp at h
 ·exact h
theorem Own.coer {K:Fg} {O O':List Addr} {H:Hp} {s:Sh} {p:PV} {G:List Addr} {v:V} (h:Own K O H p.s G v p.d) (c:coer s p=true) (h1:∀a∈O',a∈O) (h2:∀a∈G,a∈O'->a∈keepG s G):Own K O' H s (keepG s G) v p.d:=by
 cases s with
 | view=>simp [T.coer] at c
 | leaf=>
  show Own K O' H .leaf [] v p.d
  have c:(!p.s.isView||scalD p.d)=true:=c
  cases hv:p.s.isView with
  | false=>exact .leaf (h.freeze hv h1 fun a ha z=>by simpa [keepG] using h2 a ha z)
  | true=>
   rw [hv] at c
   exact .leaf (h.rep.sc (by simpa using c)).rep
 | lst s=>
  have e:Sh.lst s=p.s:=Sh.same_eq c
  show Own K O' H (.lst s) G v p.d
  rw [e]
  exact h.mono (Same.refl _) fun a ha=>.inl (h1 a ha)
 | tup ss=>
  have e:Sh.tup ss=p.s:=Sh.same_eq c
  show Own K O' H (.tup ss) G v p.d
  rw [e]
  exact h.mono (Same.refl _) fun a ha=>.inl (h1 a ha)
open PySem.SeqAt in
def gEq:D->D->Option D:=fun a b=>if shaped a&&shaped b then some (.bool (PyData.eqv a b)) else none
open PySem.SeqAt in
def gNe:D->D->Option D:=fun a b=>if shaped a&&shaped b then some (.bool (!PyData.eqv a b)) else none
open PySem.SeqAt in
def rEqD (K:Fg) (neg:Bool):R2:=fun x y H Q=>∃a b,Rep K H x a/\Rep K H y b/\shaped a=true/\shaped b=true/\Q (.bl (if neg then !PyData.eqv a b else PyData.eqv a b)) H
section
variable {X:Cx}
theorem op_eqD (hu:X.A.units+64<cLine):OpR X (compareOp .Eq) (rEqD X.K false):=by
 intro pins s σ H x y v u Q I rx ry h
 obtain ⟨a,b,ra,rb,sa,sb,q⟩:=h
 obtain ⟨as,r1⟩:=ra.reads I v rx
 obtain ⟨bs,r2⟩:=rb.reads I u ry
 exact SeqAt.compareEq_shaped r1 r2 sa sb hu ⟨.bl _,H,I,rfl,q⟩
theorem op_neD (hu:X.A.units+64<cLine):OpR X (compareOp .NotEq) (rEqD X.K true):=by
 intro pins s σ H x y v u Q I rx ry h
 obtain ⟨a,b,ra,rb,sa,sb,q⟩:=h
 obtain ⟨as,r1⟩:=ra.reads I v rx
 obtain ⟨bs,r2⟩:=rb.reads I u ry
 exact SeqAt.compareNe_shaped r1 r2 sa sb hu ⟨.bl _,H,I,rfl,q⟩
end
theorem gop_eq:GOp K (rEqD K false) gEq:=by
 intro x y H Q a b d ra rb e k
 unfold gEq at e
 split at e
 ·rename_i c
  cases e
  simp only [Bool.and_eq_true] at c
  exact ⟨a,b,ra,rb,c.1,c.2,k _ (.bl _)⟩
 ·cases e
theorem gop_ne:GOp K (rEqD K true) gNe:=by
 intro x y H Q a b d ra rb e k
 unfold gNe at e
 split at e
 ·rename_i c
  cases e
  simp only [Bool.and_eq_true] at c
  exact ⟨a,b,ra,rb,c.1,c.2,k _ (.bl _)⟩
 ·cases e
def gLtS:D->D->Option D
 | .str i,.str j=>some (.bool (decide (i.cps.toList<j.cps.toList)))
 | _,_=>none
abbrev gLtI:=gI0 fun i j=>.bool (decide (i<j))
abbrev gLt:D->D->Option D:=fun a b=>(gLtI a b).or (gLtS a b)
abbrev gLe:=gI0 fun i j=>.bool (decide (i<=j))
abbrev gGt:=gI0 fun i j=>.bool (decide (j<i))
abbrev gGe:=gI0 fun i j=>.bool (decide (j<=i))
theorem gop_ltS:GOp K (fun x y H Q=>∃i j,x=.str i/\y=.str j/\Q (.bl (decide (i.cps.toList<j.cps.toList))) H) gLtS:=by
 intro x y H Q a b d ra rb e k
 cases ra<;>cases rb<;>simp only [gLtS] at e<;>try cases e
 rename_i i j
 exact ⟨i,j,rfl,rfl,k _ (.bl _)⟩
theorem gop_lt:GOp K (fun x y H Q=>rI0 (fun i j=>.bl (decide (i<j))) x y H Q\/∃i j,x=.str i/\y=.str j/\Q (.bl (decide (i.cps.toList<j.cps.toList))) H) gLt:=
 (gop_I0 fun _ _=>.bl _).or gop_ltS
open PySem.SeqAt in
def gIn (neg:Bool):D->D->Option D
 | a,.list xs=>if shaped a&&shaped (.list xs) then some (.bool (if neg then !xs.any fun y=>PyData.eqv y a else xs.any fun y=>PyData.eqv y a)) else none
 | a,.tuple xs=>if shaped a&&shaped (.tuple xs) then some (.bool (if neg then !xs.any fun y=>PyData.eqv y a else xs.any fun y=>PyData.eqv y a)) else none
 | _,_=>none
def rInD (K:Fg) (neg:Bool):R2:=fun x y H Q=>∃a b d,Rep K H x a/\Rep K H y b/\gIn neg a b=some (.bool d)/\Q (.bl d) H
theorem gop_in {neg:Bool}:GOp K (rInD K neg) (gIn neg):=by
 intro x y H Q a b d ra rb e k
 have:∃c,d=.bool c:=by
  cases b<;>simp only [gIn] at e<;>(try cases e)<;>(split at e<;>cases e<;>exact ⟨_,rfl⟩)
 obtain ⟨c,rfl⟩:=this
 exact ⟨a,b,c,ra,rb,e,k _ (.bl c)⟩
theorem shaped_parts {d:D} {xs:List D} (h:SeqAt.shaped d=true) (e:d=.list xs\/d=.tuple xs):PyData.canLayAll0 xs=true/\PyData.depthAll xs+1<=64:=by
 have h1:=SeqAt.canLay_of_shaped h
 have h2:=SeqAt.depth_of_shaped h
 rcases e with e | e<;>subst e<;>exact ⟨by simpa [PyData.canLay0] using h1,by simpa [PyData.depth] using h2⟩
section
variable {X:Cx}
theorem op_inD (hu:X.A.units+64<cLine):OpR X (compareOp .In) (rInD X.K false):=by
 intro pins s σ H x y v u Q I rx ry h
 obtain ⟨a,b,d,ra,rb,e,q⟩:=h
 obtain ⟨as,r1⟩:=ra.reads I v rx
 obtain ⟨bs,r2⟩:=rb.reads I u ry
 cases b<;>simp only [gIn] at e<;>try cases e
 all_goals
  split at e
  ·rename_i c
   simp only [Bool.and_eq_true] at c
   simp only [Option.some.injEq,PyData.bool.injEq] at e
   subst e
   first
    | (obtain ⟨p1,p2⟩:=shaped_parts c.2 (.inl rfl)
       exact SeqAt.in_list_reads r2 r1 p1 (SeqAt.canLay_of_shaped c.1) (Nat.lt_of_le_of_lt (by have:=Nat.min_le_left (PyData.depthAll ‹_›) a.depth;omega) hu) ⟨.bl _,H,I,rfl,q⟩)
    | (obtain ⟨p1,p2⟩:=shaped_parts c.2 (.inr rfl)
       exact SeqAt.in_tuple_reads r2 r1 p1 (SeqAt.canLay_of_shaped c.1) (Nat.lt_of_le_of_lt (by have:=Nat.min_le_left (PyData.depthAll ‹_›) a.depth;omega) hu) ⟨.bl _,H,I,rfl,q⟩)
  ·cases e
end
def WantsB (K:Fg) (W:XW) (He:Hp) (O:List Addr) (Fs:List (List Addr)) (H:Hp) (σ:St) (Q:Bool->Hp->Prop) (o:Out Bool):Prop:=match o with
 | .ok b U'=>∀H' Fs',Same H H'->EnvOk K He O Fs' H' σ U'->(∀a∈Fs'.flatten,a∈Fs.flatten\/H a=none)->Q b H'
 | .er c U'=>∀H' Fs',Same H H'->EnvOk K He O Fs' H' σ U'->W c σ H'
 | .no=>False
abbrev FB:=Ev->Out Bool
def tT (K:Fg) (W:XW) (f:FB):TT:=fun σ H Q=>∃He O Fs U,EnvOk K He O Fs H σ U/\WantsB K W He O Fs H σ Q (f U)
section
variable {K:Fg} {W:XW} {He H H1:Hp} {O:List Addr} {Fs Fs1:List (List Addr)} {σ:St} {U U':Ev} {Q:VK} {QB:Bool->Hp->Prop}
theorem Wants.after {o:Out PV} (h:Wants K W He O Fs H σ Q o) (s:Same H H1) (n:∀a∈Fs1.flatten,a∈Fs.flatten\/H a=none):Wants K W He O Fs1 H1 σ Q o:=by
 cases o with
 | ok p U'=>exact fun v H' G Fs' A=>h v H' G Fs' ⟨s.trans A.same,A.env,fun a ha=>(A.new a ha).elim (n a) fun z=>.inr (s.free z),A.own⟩
 | er c U'=>exact fun H' Fs' e E=>h H' Fs' (s.trans e) E
 | no=>exact h
theorem WantsB.after {o:Out Bool} (h:WantsB K W He O Fs H σ QB o) (s:Same H H1) (n:∀a∈Fs1.flatten,a∈Fs.flatten\/H a=none):WantsB K W He O Fs1 H1 σ QB o:=by
 cases o with
 | ok p U'=>exact fun H' Fs' e E n'=>h H' Fs' (s.trans e) E fun a ha=>(n' a ha).elim (n a) fun z=>.inr (s.free z)
 | er c U'=>exact fun H' Fs' e E=>h H' Fs' (s.trans e) E
 | no=>exact h
theorem Aft.go {p:PV} {v:V} (A:Aft K He O Fs H σ U' p v H1 G Fs1):EnvOk K He O Fs1 H1 σ U':=A.env.dropL
theorem Aft.newF {p:PV} {v:V} (A:Aft K He O Fs H σ U' p v H1 G Fs1):∀a∈Fs1.flatten,a∈Fs.flatten\/H a=none:=fun a ha=>A.new a (mem_append_right _ ha)
end
section
variable {K:Fg} {W:XW} {σ:St} {H:Hp} {Q:VK} {QB:Bool->Hp->Prop} {fa fb fc:F1} {ga gb:FB}
def bOf (g:D->Option Bool) (f:F1):FB:=fun U=>(f U).bind fun p U'=>match g p.d with
 | some b=>.ok b U'
 | none=>.no
theorem tE_test {g:D->Option Bool} {R:VK} (h:tT K W (bOf g fa) σ H QB) (hR:∀v d b H1,Rep K H1 v d->g d=some b->QB b H1->R v H1):tE K W fa σ H R:=by
 obtain ⟨He,O,Fs,U,E,h⟩:=h
 refine ⟨He,O,Fs,U,E,?_⟩
 unfold bOf at h
 cases e:fa U with
 | ok p U'=>
  rw [e] at h
  intro v H' G Fs' A
  have h:WantsB K W He O Fs H σ QB (match g p.d with | some b=>.ok b U' | none=>.no):=h
  cases e2:g p.d with
  | some b=>
   rw [e2] at h
   exact hR v p.d b H' A.own.rep e2 (h H' Fs' A.same A.go A.newF)
  | none=>rw [e2] at h;exact h.elim
 | er c U'=>rw [e] at h;exact h
 | no=>rw [e] at h;exact h
def gBool:D->Option Bool
 | .bool b=>some b
 | _=>none
theorem rd_test {t:TE} (hi:∀Q,tE K W fa σ H Q->t σ H Q) (h:tT K W (bOf gBool fa) σ H QB):tTest t σ H QB:=by
 refine hi _ (tE_test h fun v d b H1 r e q=>?_)
 cases r<;>simp only [gBool] at e<;>try cases e
 exact ⟨_,rfl,q⟩
def gTru:D->Option Bool
 | .none=>some false
 | .bool b=>some b
 | .int i=>some (i != 0)
 | .str x=>if x.length<=sizeLine then some ((x.length:Int) != 0) else none
 | .list xs=>some (!xs.isEmpty)
 | .tuple xs=>some (!xs.isEmpty)
 | .dict _=>none
theorem rd_tru (h:tT K W (bOf gTru fa) σ H QB):tE K W fa σ H fun x H'=>∃k,TruV K x H' k/\QB k H':=by
 refine tE_test h fun v d b H1 r e q=>?_
 cases r with
 | non=>cases e;exact ⟨_,rfl,q⟩
 | bl c=>cases e;exact ⟨_,rfl,q⟩
 | int i=>cases e;exact ⟨_,rfl,q⟩
 | str x=>
  simp only [gTru] at e
  split at e
  ·rename_i z;cases e;exact ⟨_,⟨z,rfl⟩,q⟩
  ·cases e
 | @lst p vs ds hq hl _=>
  cases e
  exact ⟨_,.inl ⟨vs,hq,by cases vs<;>cases ds<;>simp_all⟩,q⟩
 | @tup p vs ds hq hl _=>
  cases e
  exact ⟨_,.inr (.inl ⟨vs,hq,by cases vs<;>cases ds<;>simp_all⟩),q⟩
def bOr (a b:FB):FB:=fun U=>(a U).bind fun c U'=>if c then .ok true U' else b U'
def bNot (a:FB):FB:=fun U=>(a U).bind fun c U'=>.ok (!c) U'
theorem tT_one {k:Bool->Ev->Out Bool} {R:Bool->Hp->Prop} (h:tT K W (fun U=>(ga U).bind k) σ H QB)
  (hk:∀(He:Hp) (O:List Addr) U1 b H1 Fs1,Same H H1->EnvOk K He O Fs1 H1 σ U1->WantsB K W He O Fs1 H1 σ QB (k b U1)->R b H1):tT K W ga σ H R:=by
 obtain ⟨He,O,Fs,U,E,h⟩:=h
 have h:WantsB K W He O Fs H σ QB ((ga U).bind k):=h
 refine ⟨He,O,Fs,U,E,?_⟩
 cases e:ga U with
 | ok b U1=>rw [e] at h;exact fun H' Fs' s E' n=>hk He O U1 b H' Fs' s E' (WantsB.after (o:=k b U1) h s n)
 | er c U1=>rw [e] at h;exact h
 | no=>rw [e] at h;exact h
theorem WantsB.now {O:List Addr} {b:Bool} (h:WantsB K W He O Fs H σ QB (.ok b U)) (E:EnvOk K He O Fs H σ U):QB b H:=h H Fs (Same.refl _) E fun _ z=>.inl z
theorem rd_bOr (h:tT K W (bOr ga gb) σ H QB):tOr (tT K W ga) (tT K W gb) σ H QB:=by
 refine tT_one h fun He O U1 b H1 Fs1 s E w=>?_
 cases b with
 | false=>exact iteF ⟨He,O,Fs1,U1,E,w⟩
 | true=>exact iteT (WantsB.now w E)
theorem rd_bNot (h:tT K W (bNot ga) σ H QB):tNot (tT K W ga) σ H QB:=tT_one h fun He O U1 b H1 Fs1 s E w=>WantsB.now w E
def eAnd (fa fb:F1):F1:=eBind fa fun p U=>match p.d with
 | .bool true=>fb U
 | .bool false=>.ok ⟨.leaf,.bool false⟩ U
 | _=>.no
theorem rd_and (h:tE K W (eAnd fa fb) σ H Q):tAndV (tE K W fa) (tE K W fb) σ H Q:=by
 refine tE_one h fun He O Fs U1 p v H1 G Fs1 nd A w=>?_
 have r:=A.own.rep
 obtain ⟨s,d⟩:=p
 cases r with
 | bl b=>
  cases b with
  | true=>exact ⟨true,rfl,iteT ⟨He,O,Fs1,U1,A.go,Wants.after w A.same A.newF⟩⟩
  | false=>exact ⟨false,rfl,iteF (Wants.scal w (.bl false) A.same A.env (fun a ha=>mem_append_right _ ha) nd A.newF)⟩
 | _=>exact w.elim
def eIf (c:FB) (fa fb:F1):F1:=fun U=>(c U).bind fun b U'=>if b then fa U' else fb U'
theorem rd_if (h:tE K W (eIf ga fa fb) σ H Q):tIf (tT K W ga) (tE K W fa) (tE K W fb) σ H Q:=by
 obtain ⟨He,O,Fs,U,E,h⟩:=h
 refine ⟨He,O,Fs,U,E,?_⟩
 unfold eIf at h
 cases e:ga U with
 | ok b U1=>
  rw [e] at h
  intro H' Fs' s E' n
  have h':=Wants.after (o:=if b then fa U1 else fb U1) h s n
  cases b with
  | true=>exact iteT ⟨He,O,Fs',U1,E',h'⟩
  | false=>exact iteF ⟨He,O,Fs',U1,E',h'⟩
 | er c U1=>rw [e] at h;exact h
 | no=>rw [e] at h;exact h
def eChain (g g':D->D->Option D) (fa fb fc:F1):F1:=eBind fa fun p=>eBind fb fun q=>fun U=>match g p.d q.d with
 | some (.bool true)=>if scalD q.d then (fc U).bind fun z U'=>(match g' q.d z.d with | some d=>.ok ⟨.leaf,d⟩ U' | none=>.no) else .no
 | some (.bool false)=>.ok ⟨.leaf,.bool false⟩ U
 | _=>.no
theorem rd_chain {r r':R2} {g g':D->D->Option D} (hg:GOp K r g) (hg':GOp K r' g') (h:tE K W (eChain g g' fa fb fc) σ H Q):tChain r r' (tE K W fa) (tE K W fb) (tE K W fc) σ H Q:=by
 refine tE_two h ?_
 intro He O Fs U2 p q v u H1 H2 G1 G2 Fs2 nd s1 s2 E new o1 o2 w
 have sub:∀a∈O,a∈G2++(G1++O):=fun a ha=>mem_append_right _ (mem_append_right _ ha)
 have newF:∀a∈Fs2.flatten,a∈Fs.flatten\/H a=none:=fun a ha=>new a (mem_append_right _ (mem_append_right _ ha))
 cases e:g p.d q.d with
 | none=>rw [e] at w;exact w.elim
 | some d=>
  rw [e] at w
  refine hg v u H2 _ p.d q.d d o1.rep o2.rep e fun z s=>?_
  cases s with
  | bl b=>
   cases b with
   | false=>exact ⟨false,rfl,iteF (Wants.scal w (.bl false) (s1.trans s2) E sub nd newF)⟩
   | true=>
    refine ⟨true,rfl,iteT ?_⟩
    have w:Wants K W He O Fs H σ Q (if scalD q.d then (fc U2).bind fun z U'=>(match g' q.d z.d with | some d=>.ok ⟨.leaf,d⟩ U' | none=>.no) else .no):=w
    cases hs:scalD q.d with
    | false=>rw [hs] at w;exact w.elim
    | true=>
     rw [hs] at w
     have w:Wants K W He O Fs H σ Q ((fc U2).bind fun z U'=>(match g' q.d z.d with | some d=>.ok ⟨.leaf,d⟩ U' | none=>.no)):=w
     have su:=o2.rep.sc hs
     refine ⟨He,O,Fs2,U2,E.drop sub nd,?_⟩
     cases e3:fc U2 with
     | ok p3 U3=>
      rw [e3] at w
      intro v3 H3 G3 Fs3 A3
      have w:Wants K W He O Fs H σ Q (match g' q.d p3.d with | some d=>.ok ⟨.leaf,d⟩ U3 | none=>.no):=w
      cases e4:g' q.d p3.d with
      | none=>rw [e4] at w;exact w.elim
      | some d4=>
       rw [e4] at w
       exact hg' u v3 H3 Q q.d p3.d d4 su.rep A3.own.rep e4 fun z s=>Wants.scal w s ((s1.trans s2).trans A3.same) A3.env (fun a ha=>mem_append_right _ ha) nd fun a ha=>(A3.new a (mem_append_right _ ha)).elim (newF a) fun z=>.inr ((s1.trans s2).free z)
     | er c U3=>
      rw [e3] at w
      exact fun H' Fs' s E'=>w H' Fs' ((s1.trans s2).trans s) E'
     | no=>rw [e3] at w;exact w
  | non=>exact w.elim
  | int i=>exact w.elim
  | str x=>exact w.elim
end
structure AftL (K:Fg) (He:Hp) (O:List Addr) (Fs:List (List Addr)) (H:Hp) (σ:St) (U':Ev) (ps:List PV) (vs:List V) (H':Hp) (Gs Fs':List (List Addr)):Prop where
 same:Same H H'
 len1:vs.length=ps.length
 len2:Gs.length=ps.length
 env:EnvOk K He (Gs.flatten++O) Fs' H' σ U'
 new:∀a∈Gs.flatten++Fs'.flatten,a∈Fs.flatten\/H a=none
 own:∀(i:Nat) v p G,vs[i]?=some v->ps[i]?=some p->Gs[i]?=some G->Own K (Gs.flatten++O++Fs'.flatten) H' p.s G v p.d
abbrev FL:=Ev->Out (List PV)
def WantsL (K:Fg) (W:XW) (He:Hp) (O:List Addr) (Fs:List (List Addr)) (H:Hp) (σ:St) (Q:List V->Hp->Prop) (o:Out (List PV)):Prop:=match o with
 | .ok ps U'=>∀vs H' Gs Fs',AftL K He O Fs H σ U' ps vs H' Gs Fs'->Q vs H'
 | .er c U'=>∀H' Fs',Same H H'->EnvOk K He O Fs' H' σ U'->W c σ H'
 | .no=>False
def tA (K:Fg) (W:XW) (f:FL):TA:=fun σ H Q=>∃He O Fs U,EnvOk K He O Fs H σ U/\WantsL K W He O Fs H σ Q (f U)
def eNil:FL:=fun U=>.ok [] U
def eCons (fa:F1) (fl:FL):FL:=fun U=>(fa U).bind fun p U1=>(fl U1).bind fun ps U2=>.ok (p::ps) U2
section
variable {K:Fg} {W:XW} {σ:St} {H:Hp} {Q:VK} {QL:List V->Hp->Prop} {fa fb:F1} {fl:FL}
theorem rd_nil (h:tA K W eNil σ H QL):tNil σ H QL:=by
 obtain ⟨He,O,Fs,U,E,h⟩:=h
 exact h [] H [] Fs ⟨Same.refl _,rfl,rfl,by simpa using E,fun a ha=>.inl (by simpa using ha),fun i v p G e=>by simp at e⟩
theorem perm3 (A B C:List α):(A++(B++C)).Perm (B++(A++C)):=by
 rw [<-append_assoc,<-append_assoc];exact List.Perm.append_right _ perm_append_comm
theorem EnvOk.perm {H:Hp} {O:List Addr} (E:EnvOk K He O Fs H σ U) (p:O'.Perm O):EnvOk K He O' Fs H σ U:=E.drop (fun a ha=>p.mem_iff.mp ha) (p.nodup_iff.mpr E.ndO)
theorem Own.perm {H:Hp} {O:List Addr} {s:Sh} {v:V} {d:D} (h:Own K O H s G v d) (p:∀a∈O',a∈O):Own K O' H s G v d:=h.mono (Same.refl _) fun a ha=>.inl (p a ha)
theorem rd_cons (h:tA K W (eCons fa fl) σ H QL):tCons (tE K W fa) (tA K W fl) σ H QL:=by
 obtain ⟨He,O,Fs,U,E,h⟩:=h
 refine ⟨He,O,Fs,U,E,?_⟩
 unfold eCons at h
 cases e:fa U with
 | ok p U1=>
  rw [e] at h
  intro v H1 G1 Fs1 A1
  refine ⟨He,G1++O,Fs1,U1,A1.env,?_⟩
  have h:WantsL K W He O Fs H σ QL ((fl U1).bind fun ps U2=>.ok (p::ps) U2):=h
  cases e2:fl U1 with
  | ok ps U2=>
   rw [e2] at h
   intro vs H2 Gs Fs2 A2
   have pm:((G1::Gs).flatten++O).Perm (Gs.flatten++(G1++O)):=by
    rw [flatten_cons,append_assoc]
    exact perm3 _ _ _
   refine h (v::vs) H2 (G1::Gs) Fs2 ⟨A1.same.trans A2.same,by simp [A2.len1],by simp [A2.len2],A2.env.perm pm,fun a ha=>?_,fun i u q G h1 h2 h3=>?_⟩
   ·rcases List.mem_append.mp ha with z | z
    ·rw [flatten_cons] at z
     rcases List.mem_append.mp z with z | z
     ·exact A1.new a (mem_append_left _ z)
     ·exact (A2.new a (mem_append_left _ z)).elim (fun y=>A1.new a (mem_append_right _ y)) fun y=>.inr (A1.same.free y)
    ·exact (A2.new a (mem_append_right _ z)).elim (fun y=>A1.new a (mem_append_right _ y)) fun y=>.inr (A1.same.free y)
   ·have sub:∀a∈(G1::Gs).flatten++O++Fs2.flatten,a∈Gs.flatten++(G1++O)++Fs2.flatten:=fun a ha=>by
     rcases List.mem_append.mp ha with z | z
     ·exact mem_append_left _ (pm.mem_iff.mp z)
     ·exact mem_append_right _ z
    cases i with
    | zero=>
     simp at h1 h2 h3
     subst h1 h2 h3
     refine (A1.own.mono A2.same fun a ha=>?_).perm sub
     rcases List.mem_append.mp ha with z | z
     ·rcases List.mem_append.mp z with z | z
      ·exact (A2.new a (mem_append_left _ z)).elim (fun y=>.inl (mem_append_right _ y)) .inr
      ·exact .inl (mem_append_left _ z)
     ·exact (A2.new a (mem_append_right _ z)).elim (fun y=>.inl (mem_append_right _ y)) .inr
    | succ i=>
     simp at h1 h2 h3
     exact (A2.own i u q G h1 h2 h3).perm sub
  | er c U2=>
   rw [e2] at h
   exact fun H2 Fs2 s E2=>h H2 Fs2 (A1.same.trans s) E2.dropL
  | no=>rw [e2] at h;exact h
 | er c U1=>rw [e] at h;exact h
 | no=>rw [e] at h;exact h
theorem AftL.reps {O:List Addr} {Gs:List (List Addr)} {ps:List PV} (A:AftL K He O Fs H σ U' ps vs H' Gs Fs'):Reps K H' vs (ps.map (·.d)):=by
 refine ⟨by rw [length_map];exact A.len1,fun i v d h1 h2=>?_⟩
 rw [getElem?_map] at h2
 cases e:ps[i]? with
 | none=>rw [e] at h2;cases h2
 | some p=>
  rw [e] at h2
  cases h2
  have hi:=(List.getElem?_eq_some_iff.mp e).1
  exact (A.own i v p (Gs[i]'(by rw [A.len2];exact hi)) h1 e (getElem?_eq_getElem _)).rep
def eCB (g:List D->Option D) (fl:FL):F1:=fun U=>(fl U).bind fun ps U'=>match g (ps.map (·.d)) with
 | some d=>.ok ⟨.leaf,d⟩ U'
 | none=>.no
def GCall (K:Fg) (r:List V->Hp->VK->Prop) (g:List D->Option D):Prop:=∀vs H Q ds d,Reps K H vs ds->g ds=some d->(∀v,Sc v d->Q v H)->r vs H Q
theorem rd_cb {r:List V->Hp->VK->Prop} {g:List D->Option D} (hg:GCall K r g) (h:tE K W (eCB g fl) σ H Q):tCB r (tA K W fl) σ H Q:=by
 obtain ⟨He,O,Fs,U,E,h⟩:=h
 refine ⟨He,O,Fs,U,E,?_⟩
 unfold eCB at h
 cases e:fl U with
 | ok ps U'=>
  rw [e] at h
  intro vs H' Gs Fs' A
  have h:Wants K W He O Fs H σ Q (match g (ps.map (·.d)) with | some d=>.ok ⟨.leaf,d⟩ U' | none=>.no):=h
  cases e2:g (ps.map (·.d)) with
  | none=>rw [e2] at h;exact h.elim
  | some d=>
   rw [e2] at h
   exact hg vs H' Q _ d A.reps e2 fun v s=>Wants.scal h s A.same A.env (fun a ha=>mem_append_right _ ha) E.ndO fun a ha=>A.new a (mem_append_right _ ha)
 | er c U'=>rw [e] at h;exact h
 | no=>rw [e] at h;exact h
theorem GCall.or {r r':List V->Hp->VK->Prop} {g g':List D->Option D} (h:GCall K r g) (h':GCall K r' g'):GCall K (fun xs H Q=>r xs H Q\/r' xs H Q) (fun ds=>(g ds).or (g' ds)):=by
 intro vs H Q ds d rs e k
 have e:(g ds).or (g' ds)=some d:=e
 cases e1:g ds with
 | some z=>rw [e1] at e;cases e;exact .inl (h vs H Q ds _ rs e1 k)
 | none=>rw [e1] at e;exact .inr (h' vs H Q ds d rs (by simpa using e) k)
theorem Reps.one {d:D} (h:Reps K H vs [d]):∃v,vs=[v]/\Rep K H v d:=by
 obtain ⟨hl,h⟩:=h
 match vs,hl with
 | [v],_=>exact ⟨v,rfl,h 0 v d rfl rfl⟩
theorem Reps.two {d e:D} (h:Reps K H vs [d,e]):∃v u,vs=[v,u]/\Rep K H v d/\Rep K H u e:=by
 obtain ⟨hl,h⟩:=h
 match vs,hl with
 | [v,u],_=>exact ⟨v,u,rfl,h 0 v d rfl rfl,h 1 u e rfl rfl⟩
end
def gLenQ:List D->Option D
 | [.list xs]=>some (.int xs.length)
 | [.tuple xs]=>some (.int xs.length)
 | _=>none
def gLenS:List D->Option D
 | [.str x]=>if x.length<=sizeLine then some (.int x.length) else none
 | _=>none
abbrev gLen:List D->Option D:=fun ds=>(gLenQ ds).or (gLenS ds)
theorem gc_len:GCall K (fun xs H Q=>(∃p ys,xs=[.ref p]/\(SqL K H p ys\/SqT K H p ys)/\Q (.int ys.length) H)\/∃z,xs=[.str z]/\z.length<=sizeLine/\Q (.int z.length) H) gLen:=by
 refine GCall.or (g:=gLenQ) (g':=gLenS) (r:=fun xs H Q=>∃p ys,xs=[.ref p]/\(SqL K H p ys\/SqT K H p ys)/\Q (.int ys.length) H) (r':=fun xs H Q=>∃z,xs=[.str z]/\z.length<=sizeLine/\Q (.int z.length) H) ?_ ?_
 ·intro vs H Q ds d rs e k
  match ds,e with
  | [.list xs],e=>
   obtain ⟨v,rfl,r⟩:=rs.one
   cases e
   cases r with
   | @lst p us _ hq hl _=>exact ⟨p,us,rfl,.inl hq,by rw [hl];exact k _ (.int _)⟩
  | [.tuple xs],e=>
   obtain ⟨v,rfl,r⟩:=rs.one
   cases e
   cases r with
   | @tup p us _ hq hl _=>exact ⟨p,us,rfl,.inr hq,by rw [hl];exact k _ (.int _)⟩
 ·intro vs H Q ds d rs e k
  match ds,e with
  | [.str x],e=>
   obtain ⟨v,rfl,r⟩:=rs.one
   simp only [gLenS] at e
   split at e
   ·rename_i z
    cases e
    cases r
    exact ⟨x,rfl,z,k _ (.int _)⟩
   ·cases e
def gInt:List D->Option D
 | [.int i]=>some (.int i)
 | [.bool b]=>some (.int (if b then 1 else 0))
 | _=>none
theorem gc_int:GCall K (fun xs H Q=>(∃i,xs=[.int i]/\Q (.int i) H)\/∃k,xs=[.bl k]/\Q (.int (if k then 1 else 0)) H) gInt:=by
 intro vs H Q ds d rs e k
 match ds,e with
 | [.int i],e=>
  obtain ⟨v,rfl,r⟩:=rs.one
  cases e;cases r
  exact .inl ⟨i,rfl,k _ (.int _)⟩
 | [.bool b],e=>
  obtain ⟨v,rfl,r⟩:=rs.one
  cases e;cases r
  exact .inr ⟨b,rfl,k _ (.int _)⟩
def gMax:List D->Option D
 | [.int i,.int j]=>some (.int (if j>i then j else i))
 | _=>none
def boolsOf:List D->Option (List Bool)
 | []=>some []
 | .bool b::r=>(boolsOf r).map (b :: ·)
 | _=>none
theorem boolsOf_eq:∀{ds:List D} {bs:List Bool},boolsOf ds=some bs->ds=bs.map PyData.bool
 | [],bs,h=>by cases h;rfl
 | .bool b::r,bs,h=>by
  simp only [boolsOf] at h
  cases e:boolsOf r with
  | none=>rw [e] at h;cases h
  | some cs=>rw [e] at h;cases h;rw [boolsOf_eq e];rfl
 | .none::_,_,h=>by cases h
 | .int _::_,_,h=>by cases h
 | .str _::_,_,h=>by cases h
 | .list _::_,_,h=>by cases h
 | .tuple _::_,_,h=>by cases h
 | .dict _::_,_,h=>by cases h
def gAll (any:Bool):List D->Option D
 | [.list xs]=>(boolsOf xs).map fun bs=>.bool (if any then bs.any id else bs.all id)
 | _=>none
theorem reps_bools {K:Fg} {H:Hp}:∀{vs:List V} {bs:List Bool},Reps K H vs (bs.map PyData.bool)->vs=bs.map V.bl
 | [],[],_=>rfl
 | v::vs,b::bs,⟨hl,h⟩=>by
  have r:=h 0 v (.bool b) rfl rfl
  cases r
  rw [reps_bools (bs:=bs) (vs:=vs) ⟨by simpa using hl,fun i v d h1 h2=>h (i+1) v d (by simpa using h1) (by simpa using h2)⟩]
  rfl
 | [],_::_,⟨hl,_⟩=>by simp at hl
 | _::_,[],⟨hl,_⟩=>by simp at hl
def rAll (K:Fg) (any:Bool):List V->Hp->VK->Prop:=fun xs H Q=>∃(p:Addr) (bs:List Bool),xs=[.ref p]/\SqL K H p (bs.map V.bl)/\Q (.bl (if any then bs.any id else bs.all id)) H
theorem gc_all {any:Bool}:GCall K (rAll K any) (gAll any):=by
 intro vs H Q ds d rs e k
 match ds,e with
 | [.list xs],e=>
  obtain ⟨v,rfl,r⟩:=rs.one
  simp only [gAll] at e
  cases eb:boolsOf xs with
  | none=>rw [eb] at e;cases e
  | some bs=>
   rw [eb] at e
   cases e
   have:=boolsOf_eq eb
   subst this
   cases r with
   | @lst p us _ hq hl hr=>
    have:=reps_bools ⟨hl,hr⟩
    subst this
    exact ⟨p,bs,rfl,hq,k _ (.bl _)⟩
section
variable {X:Cx}
theorem bools_its:∀{its:List Value},Vals (bs.map V.bl) its->its=bs.map Value.bool:=by
 induction bs with
 | nil=>intro its h;cases h;rfl
 | cons b bs ih=>
  intro its h
  cases h with
  | cons r t=>
   cases (show _=Value.bool b from r)
   rw [ih t];rfl
theorem range_all (bs:List Bool):(List.range bs.length).all (fun i=>bs.getD i false)=bs.all id:=by
 rw [Bool.eq_iff_iff,all_eq_true,all_eq_true]
 constructor
 ·intro h b hb
  obtain ⟨i,hi,e⟩:=List.mem_iff_getElem.mp hb
  have:=h i (List.mem_range.mpr hi)
  rw [getD_eq_getElem?_getD,getElem?_eq_getElem hi] at this
  rw [<-e];simpa using this
 ·intro h i hi
  have hi:=List.mem_range.mp hi
  rw [getD_eq_getElem?_getD,getElem?_eq_getElem hi]
  exact h _ (getElem_mem hi)
theorem truth_bools {prog:Program} {w:World}:TruthOf prog w A (fun i v=>(bs.map Value.bool).toArray[i]?=some v) (fun i=>bs.getD i false):=by
 intro i v s Q E hP hQ
 simp only [getElem?_toArray,getElem?_map] at hP
 cases e:bs[i]? with
 | none=>rw [e] at hP;cases hP
 | some b=>
  rw [e] at hP
  cases hP
  have hQ:Q (bs.getD i false) s:=hQ
  rw [getD_eq_getElem?_getD,e] at hQ
  exact wpAny_truthy_bool hQ
theorem call_allD (hc:X.calm=true):CallR X (.builtin "all") (rAll X.K false):=by
 intro pins s σ H vs us Q I rv h
 obtain ⟨p,bs,rfl,hq,q⟩:=h
 obtain ⟨u,rfl,ru⟩:=vals1 rv
 cases ru
 obtain ⟨its,rv,pl,hz⟩:=I.list hq
 have:=bools_its rv
 subst this
 have hd:=I.ok.hd hc
 refine call_all_walk (wpAny_pyIter_list pl.isList ?_)
 have ne:p≠s.heap.objs.size:=by
  obtain ⟨o,n,e,_⟩:=pl
  exact Nat.ne_of_lt (Heap.lt_size e)
 refine ⟨s.heap.objs.size,_,_,_,_,_,fun i=>bs.getD i false,rfl,Walks.list (prog:=X.prog) (w:=X.w) (A:=X.A.in1) hd s.heap.objs.size p ne (bs.map Value.bool).toArray,⟨⟨_,Heap.get?_push_size _ rfl,rfl,rfl⟩,pl.isList.at fun o e=>Heap.get?_push_of_some _ e⟩,truth_bools,fun h' tk hk=>?_⟩
 refine ⟨.bl _,H,I.kept (h':=h') (t':=tk) fun b o e=>hk b o (fun z=>?_) (Heap.get?_push_of_some _ e),rfl,?_⟩
 ·have z:b=s.heap.objs.size:=by simpa using z
  exact absurd (Heap.lt_size e) (by rw [z];exact Nat.lt_irrefl _)
 ·rw [size_toArray,length_map,range_all]
  exact q
end
def itemSh (s:Sh) (j:Nat) (d:D):Option Sh:=match s with
 | .leaf=>some .leaf
 | .view=>some (if scalD d then .leaf else .view)
 | .lst s=>some s
 | .tup ss=>ss[j]?
def eIdx (fa fb:F1):F1:=eBind fa fun p=>eBind fb fun q=>fun U=>match q.d with
 | .int i=>(match p.d with
  | .list ds=>(match ixN ds.length i with
   | some j=>(match ds[j]? with
    | some d=>(match itemSh p.s j d with
     | some s=>.ok ⟨s,d⟩ U
     | none=>.no)
    | none=>.no)
   | none=>.no)
  | .tuple ds=>(match ixN ds.length i with
   | some j=>(match ds[j]? with
    | some d=>(match itemSh p.s j d with
     | some s=>.ok ⟨s,d⟩ U
     | none=>.no)
    | none=>.no)
   | none=>.no)
  | .str z=>if z.length<=sizeLine then (match atI z.cps.toList i with
   | some c=>.ok ⟨.leaf,.str ⟨#[c]⟩⟩ U
   | none=>.no) else .no
  | _=>.no)
 | _=>.no
theorem Own.item {O:List Addr} {H:Hp} {s:Sh} {p:Addr} {ds:List D} {j:Nat} {d:D} (h:Own K O H s G (.ref p) (.list ds)) (hd:ds[j]?=some d) (hs:itemSh s j d=some s') :
  ∃vs v G',SqL K H p vs/\vs.length=ds.length/\vs[j]?=some v/\(∀a∈G',a∈G)/\G'.Nodup/\Own K O H s' G' v d:=by
 have hi:=(List.getElem?_eq_some_iff.mp hd).1
 cases h with
 | view r=>
  cases r with
  | @lst _ vs _ hq hl hr=>
   have hv:vs[j]?=some (vs[j]'(by omega)):=getElem?_eq_getElem _
   have r':=hr j _ d hv hd
   simp only [itemSh,Option.some.injEq] at hs
   cases e:scalD d with
   | true=>
    rw [e] at hs
    cases hs
    exact ⟨vs,_,[],hq,hl,hv,(fun _ z=>nomatch z),nodup_nil,.leaf (r'.sc e).rep⟩
   | false=>
    rw [e] at hs
    cases hs
    exact ⟨vs,_,[],hq,hl,hv,(fun _ z=>nomatch z),nodup_nil,.view r'⟩
 | leaf r=>
  cases r with
  | @lst _ vs _ hq hl hr=>
   have hv:vs[j]?=some (vs[j]'(by omega)):=getElem?_eq_getElem _
   cases hs
   exact ⟨vs,_,[],hid_le.seq hq,hl,hv,(fun _ z=>nomatch z),nodup_nil,.leaf (hr j _ d hv hd)⟩
 | @lst s₀ _ vs _ Fs hv hp hl hf nd hr=>
  have hv':vs[j]?=some (vs[j]'(by omega)):=getElem?_eq_getElem _
  have hF:Fs[j]?=some (Fs[j]'(by omega)):=getElem?_eq_getElem _
  cases hs
  refine ⟨vs,_,_,.of hp,hl,hv',fun a ha=>mem_cons_of_mem _ (mem_flat hF ha),?_,hr j _ d _ hv' hd hF⟩
  exact ((List.nodup_cons.mp nd).2).sublist (List.sublist_flatten_of_mem (mem_of_getElem? hF))
theorem Own.itemT {O:List Addr} {H:Hp} {s:Sh} {p:Addr} {ds:List D} {j:Nat} {d:D} (h:Own K O H s G (.ref p) (.tuple ds)) (hd:ds[j]?=some d) (hs:itemSh s j d=some s') :
  ∃vs v G',SqT K H p vs/\vs.length=ds.length/\vs[j]?=some v/\(∀a∈G',a∈G)/\G'.Nodup/\Own K O H s' G' v d:=by
 have hi:=(List.getElem?_eq_some_iff.mp hd).1
 cases h with
 | view r=>
  cases r with
  | @tup _ vs _ hq hl hr=>
   have hv:vs[j]?=some (vs[j]'(by omega)):=getElem?_eq_getElem _
   have r':=hr j _ d hv hd
   simp only [itemSh,Option.some.injEq] at hs
   cases e:scalD d with
   | true=>
    rw [e] at hs
    cases hs
    exact ⟨vs,_,[],hq,hl,hv,(fun _ z=>nomatch z),nodup_nil,.leaf (r'.sc e).rep⟩
   | false=>
    rw [e] at hs
    cases hs
    exact ⟨vs,_,[],hq,hl,hv,(fun _ z=>nomatch z),nodup_nil,.view r'⟩
 | leaf r=>
  cases r with
  | @tup _ vs _ hq hl hr=>
   have hv:vs[j]?=some (vs[j]'(by omega)):=getElem?_eq_getElem _
   cases hs
   exact ⟨vs,_,[],SameT hid_le hq,hl,hv,(fun _ z=>nomatch z),nodup_nil,.leaf (hr j _ d hv hd)⟩
 | @tup ss _ vs _ Fs hv hp hn hl hf hl2 nd hr=>
  have hv':vs[j]?=some (vs[j]'(by omega)):=getElem?_eq_getElem _
  have hF:Fs[j]?=some (Fs[j]'(by omega)):=getElem?_eq_getElem _
  have hs:ss[j]?=some s':=hs
  refine ⟨vs,_,_,.of hp,hl,hv',fun a ha=>mem_flat hF ha,?_,hr j _ d _ _ hv' hd hF hs⟩
  exact nd.sublist (List.sublist_flatten_of_mem (mem_of_getElem? hF))
theorem Wants.part {W:XW} {H:Hp} {O G':List Addr} {Q:VK} {s:Sh} {v:V} {d:D} (h:Wants K W He O Fs H σ Q (.ok ⟨s,d⟩ U')) (e:Same H H2)
  (E:EnvOk K He (G++O) Fs2 H2 σ U') (sub:∀a∈G',a∈G) (nd:G'.Nodup) (new:∀a∈G++Fs2.flatten,a∈Fs.flatten\/H a=none) (o:Own K (G++O++Fs2.flatten) H2 s G' v d):Q v H2:=by
 have sub2:∀a∈G'++O,a∈G++O:=fun a ha=>by
  rcases List.mem_append.mp ha with z | z
  ·exact mem_append_left _ (sub a z)
  ·exact mem_append_right _ z
 obtain ⟨n1,n2,n3⟩:=List.nodup_append.mp E.ndO
 refine h v H2 G' Fs2 ⟨e,E.drop sub2 (List.nodup_append.mpr ⟨nd,n2,fun a ha b hb=>n3 a (sub a ha) b hb⟩),fun a ha=>new a ?_,o.perm fun a ha=>?_⟩
 ·rcases List.mem_append.mp ha with z | z
  ·exact mem_append_left _ (sub a z)
  ·exact mem_append_right _ z
 ·rcases List.mem_append.mp ha with z | z
  ·exact mem_append_left _ (sub2 a z)
  ·exact mem_append_right _ z
theorem atI_of {β:Type} {xs:List α} {ys:List β} {i:Int} {j:Nat} {v:α} (hl:xs.length=ys.length) (h:ixN ys.length i=some j) (hv:xs[j]?=some v):atI xs i=some v:=by
 unfold atI
 rw [hl,h]
 exact hv
section
variable {K:Fg} {W:XW} {σ:St} {H:Hp} {Q:VK} {fa fb:F1}
theorem rd_idx (h:tE K W (eIdx fa fb) σ H Q):tOp (rIx K) (tE K W fa) (tE K W fb) σ H Q:=by
 refine tE_two h ?_
 intro He O Fs U2 p q v u H1 H2 G1 G2 Fs2 nd s1 s2 E new o1 o2 w
 obtain ⟨ps,pd⟩:=p
 obtain ⟨qs,qd⟩:=q
 have ri:=o2.rep
 cases qd<;>try exact w.elim
 rename_i i
 cases ri
 have E':EnvOk K He ((G2++G1)++O) Fs2 H2 σ U2:=by rw [append_assoc];exact E
 have new':∀a∈(G2++G1)++Fs2.flatten,a∈Fs.flatten\/H a=none:=fun a ha=>new a (by rw [<-append_assoc];exact ha)
 have o1':Own K ((G2++G1)++O++Fs2.flatten) H2 ps G1 v pd:=o1.perm fun a ha=>by rw [append_assoc G2] at ha;exact ha
 have rp:=o1.rep
 cases pd with
 | list ds=>
  obtain ⟨p0,rfl⟩:∃p0,v=.ref p0:=by cases rp;exact ⟨_,rfl⟩
  have w:Wants K W He O Fs H σ Q (match ixN ds.length i with | some j=>(match ds[j]? with | some d=>(match itemSh ps j d with | some s=>.ok ⟨s,d⟩ U2 | none=>.no) | none=>.no) | none=>.no):=w
  cases e1:ixN ds.length i with
  | none=>rw [e1] at w;exact w.elim
  | some j=>
   rw [e1] at w
   have w:Wants K W He O Fs H σ Q (match ds[j]? with | some d=>(match itemSh ps j d with | some s=>.ok ⟨s,d⟩ U2 | none=>.no) | none=>.no):=w
   cases e2:ds[j]? with
   | none=>rw [e2] at w;exact w.elim
   | some d=>
    rw [e2] at w
    have w:Wants K W He O Fs H σ Q (match itemSh ps j d with | some s=>.ok ⟨s,d⟩ U2 | none=>.no):=w
    cases e3:itemSh ps j d with
    | none=>rw [e3] at w;exact w.elim
    | some s=>
     rw [e3] at w
     obtain ⟨vs,v',G',h1,h2,h3,h4,h5,h6⟩:=o1'.item e2 e3
     exact .inl ⟨p0,vs,i,v',rfl,rfl,h1,atI_of h2 e1 h3,Wants.part w (s1.trans s2) E' (fun a ha=>mem_append_right _ (h4 a ha)) h5 new' h6⟩
 | tuple ds=>
  obtain ⟨p0,rfl⟩:∃p0,v=.ref p0:=by cases rp;exact ⟨_,rfl⟩
  have w:Wants K W He O Fs H σ Q (match ixN ds.length i with | some j=>(match ds[j]? with | some d=>(match itemSh ps j d with | some s=>.ok ⟨s,d⟩ U2 | none=>.no) | none=>.no) | none=>.no):=w
  cases e1:ixN ds.length i with
  | none=>rw [e1] at w;exact w.elim
  | some j=>
   rw [e1] at w
   have w:Wants K W He O Fs H σ Q (match ds[j]? with | some d=>(match itemSh ps j d with | some s=>.ok ⟨s,d⟩ U2 | none=>.no) | none=>.no):=w
   cases e2:ds[j]? with
   | none=>rw [e2] at w;exact w.elim
   | some d=>
    rw [e2] at w
    have w:Wants K W He O Fs H σ Q (match itemSh ps j d with | some s=>.ok ⟨s,d⟩ U2 | none=>.no):=w
    cases e3:itemSh ps j d with
    | none=>rw [e3] at w;exact w.elim
    | some s=>
     rw [e3] at w
     obtain ⟨vs,v',G',h1,h2,h3,h4,h5,h6⟩:=o1'.itemT e2 e3
     exact .inr (.inl ⟨p0,vs,i,v',rfl,rfl,h1,atI_of h2 e1 h3,Wants.part w (s1.trans s2) E' (fun a ha=>mem_append_right _ (h4 a ha)) h5 new' h6⟩)
 | str z=>
  cases rp
  have w:Wants K W He O Fs H σ Q (if z.length<=sizeLine then (match atI z.cps.toList i with | some c=>.ok ⟨.leaf,.str ⟨#[c]⟩⟩ U2 | none=>.no) else .no):=w
  by_cases hz:z.length<=sizeLine
  ·rw [if_pos hz] at w
   cases e1:atI z.cps.toList i with
   | none=>rw [e1] at w;exact w.elim
   | some c=>
    rw [e1] at w
    exact .inr (.inr ⟨z,i,c,rfl,rfl,hz,e1,Wants.scal w (.str _) (s1.trans s2) E (fun a ha=>mem_append_right _ (mem_append_right _ ha)) nd fun a ha=>new a (mem_append_right _ (mem_append_right _ ha))⟩)
  ·rw [if_neg hz] at w
   exact w.elim
 | none=>exact w.elim
 | bool b=>exact w.elim
 | int k=>exact w.elim
 | dict k=>exact w.elim
end
theorem keep_sub (s:Sh):∀Gs:List (List Addr),((Gs.map (keepG s)).flatten).Sublist Gs.flatten
 | []=>List.Sublist.refl _
 | G::Gs=>by
  simp only [map_cons,flatten_cons]
  refine List.Sublist.append ?_ (keep_sub s Gs)
  unfold keepG
  split
  ·exact List.nil_sublist _
  ·exact List.Sublist.refl _
theorem keep_leaf:∀Gs:List (List Addr),(Gs.map (keepG .leaf)).flatten=[]
 | []=>rfl
 | _::Gs=>by simp only [map_cons,flatten_cons,keep_leaf Gs];rfl
section
variable {K:Fg} {W:XW} {σ:St} {He H H':Hp} {O:List Addr} {Fs Fs' Gs:List (List Addr)} {U':Ev} {ps:List PV} {vs:List V} {Q:VK}
theorem AftL.newList {s:Sh} {p:Addr} (A:AftL K He O Fs H σ U' ps vs H' Gs Fs') (hs:s.isView=false) (hc:ps.all (T.coer s)=true) (hp:H' p=none) :
  Aft K He O Fs H σ U' ⟨.lst s,.list (ps.map (·.d))⟩ (.ref p) (upd H' p (.lst vs)) (p::(Gs.map (keepG s)).flatten) Fs':=by
 obtain ⟨n1,n2,n3⟩:=List.nodup_append.mp A.env.ndO
 obtain ⟨m1,m2,m3⟩:=List.nodup_append.mp A.env.nd
 have hsub:=keep_sub s Gs
 have E1:EnvOk K He ((Gs.map (keepG s)).flatten++O) Fs' H' σ U':=A.env.drop (fun a ha=>by
   rcases List.mem_append.mp ha with z | z
   ·exact mem_append_left _ (hsub.subset z)
   ·exact mem_append_right _ z) (List.nodup_append.mpr ⟨n1.sublist hsub,n2,fun a ha b hb=>n3 a (hsub.subset ha) b hb⟩)
 have E2:=E1.hide (G:=[p]) (same_upd (o:=.lst vs) hp) (by simp) (fun a ha=>by simp at ha;rw [ha];exact hp) (fun a ha=>by simp at ha;rw [ha,upd_same];exact Option.some_ne_none _)
 have pn:∀{a},a∈Gs.flatten++O++Fs'.flatten->a≠p:=fun {a} ha z=>A.env.inH a ha (by rw [z];exact hp)
 refine ⟨A.same.trans (same_upd hp),E2,fun a ha=>?_,?_⟩
 ·rcases List.mem_append.mp ha with z | z
  ·rcases List.mem_cons.mp z with z | z
   ·rw [z];exact .inr (A.same.free hp)
   ·exact A.new a (mem_append_left _ (hsub.subset z))
  ·exact A.new a (mem_append_right _ z)
 ·refine .lst hs upd_same (by rw [length_map];exact A.len1) (by rw [length_map,length_map];exact A.len2) ?_ fun i v d F h1 h2 h3=>?_
  ·refine List.nodup_cons.mpr ⟨fun z=>pn (mem_append_left _ (mem_append_left _ (hsub.subset z))) rfl,n1.sublist hsub⟩
  ·rw [getElem?_map] at h2 h3
   cases e2:ps[i]? with
   | none=>rw [e2] at h2;cases h2
   | some q=>
    cases e3:Gs[i]? with
    | none=>rw [e3] at h3;cases h3
    | some G=>
     rw [e2] at h2
     rw [e3] at h3
     cases h2
     cases h3
     have cq:T.coer s q=true:=List.all_eq_true.mp hc q (mem_of_getElem? e2)
     have o1:=(A.own i v q G h1 e2 e3).mono (O':=p::(Gs.flatten++O++Fs'.flatten)) (same_upd (o:=.lst vs) hp) fun a ha=>by
      rcases List.mem_cons.mp ha with z | z
      ·rw [z];exact .inr hp
      ·exact .inl z
     refine o1.coer cq (fun a ha=>?_) fun a ha hO=>?_
     ·rw [append_assoc] at ha
      rcases List.mem_append.mp ha with z | z
      ·rcases List.mem_cons.mp z with z | z
       ·rw [z];exact mem_cons_self
       ·exact mem_cons_of_mem _ (mem_append_left _ (mem_append_left _ (hsub.subset z)))
      ·rcases List.mem_append.mp z with z | z
       ·exact mem_cons_of_mem _ (mem_append_left _ (mem_append_right _ z))
       ·exact mem_cons_of_mem _ (mem_append_right _ z)
     ·have hG:a∈Gs.flatten:=mem_flat e3 ha
      cases s with
      | leaf=>
       rw [keep_leaf] at hO
       exfalso
       rw [append_assoc] at hO
       rcases List.mem_append.mp hO with z | z
       ·have z:a=p:=by simpa using z
        exact pn (mem_append_left _ (mem_append_left _ hG)) z
       ·rcases List.mem_append.mp z with z | z
        ·exact n3 a hG a z rfl
        ·exact m3 a (mem_append_left _ hG) a z rfl
      | view=>cases hs
      | lst s=>exact ha
      | tup ss=>exact ha
def eList (s:Sh) (fl:FL):F1:=fun U=>(fl U).bind fun ps U'=>if !s.isView&&ps.all (T.coer s)&&decide (ps.length<=sizeLine) then .ok ⟨.lst s,.list (ps.map (·.d))⟩ U' else .no
theorem rd_list {s:Sh} (h:tE K W (eList s fl) σ H Q):tLst (tA K W fl) σ H Q:=by
 obtain ⟨He,O,Fs,U,E,h⟩:=h
 refine ⟨He,O,Fs,U,E,?_⟩
 unfold eList at h
 cases e:fl U with
 | ok ps U'=>
  rw [e] at h
  intro vs H' Gs Fs' A
  have h:Wants K W He O Fs H σ Q (if (!s.isView&&ps.all (T.coer s)&&decide (ps.length<=sizeLine))=true then .ok ⟨.lst s,.list (ps.map (·.d))⟩ U' else .no):=h
  by_cases hc:(!s.isView&&ps.all (T.coer s)&&decide (ps.length<=sizeLine))=true
  ·rw [if_pos hc] at h
   simp only [Bool.and_eq_true,decide_eq_true_eq,Bool.not_eq_true'] at hc
   exact ⟨by rw [A.len1];exact hc.2,fun p hp=>h _ _ _ _ (A.newList hc.1.1 hc.1.2 hp)⟩
  ·rw [if_neg hc] at h
   exact h.elim
 | er c U'=>rw [e] at h;exact h
 | no=>rw [e] at h;exact h
def tsh (p:PV):Sh:=if p.s.isView then .leaf else p.s
def tok (p:PV):Bool:=!p.s.isView||scalD p.d
theorem AftL.newTup {p:Addr} (A:AftL K He O Fs H σ U' ps vs H' Gs Fs') (hc:ps.all tok=true) (hp:H' p=none) :
  Aft K He O Fs H σ U' ⟨.tup (ps.map tsh),.tuple (ps.map (·.d))⟩ (.ref p) (upd H' p (.tup vs)) Gs.flatten Fs':=by
 obtain ⟨n1,n2,n3⟩:=List.nodup_append.mp A.env.ndO
 have pn:p∉Gs.flatten++O++Fs'.flatten:=fun ha=>A.env.inH p ha hp
 refine ⟨A.same.trans (same_upd hp),A.env.grow (same_upd hp),A.new,?_⟩
 refine .tup (fun s hs=>?_) upd_same pn (by rw [length_map];exact A.len1) (by rw [length_map];exact A.len2) (by rw [length_map,length_map]) n1 fun i v d F s h1 h2 h3 h4=>?_
 ·obtain ⟨q,_,rfl⟩:=List.mem_map.mp hs
  unfold tsh
  split
  ·rfl
  ·rename_i z;simpa using z
 ·rw [getElem?_map] at h2 h4
  cases e2:ps[i]? with
  | none=>rw [e2] at h2;cases h2
  | some q=>
   rw [e2] at h2 h4
   cases h2
   cases h4
   have cq:tok q=true:=List.all_eq_true.mp hc q (mem_of_getElem? e2)
   have o1:=(A.own i v q F h1 e2 h3).mono (O':=Gs.flatten++O++Fs'.flatten) (same_upd (o:=.tup vs) hp) fun a ha=>.inl ha
   unfold tsh
   cases hv:q.s.isView with
   | false=>exact o1
   | true=>
    unfold tok at cq
    rw [hv] at cq
    obtain ⟨s,d⟩:=q
    cases s with
    | view=>
     cases o1 with
     | view r=>exact .leaf (r.sc (by simpa using cq)).rep
    | _=>cases hv
def eTup (fl:FL):F1:=fun U=>(fl U).bind fun ps U'=>if ps.all tok&&decide (ps.length<=sizeLine) then .ok ⟨.tup (ps.map tsh),.tuple (ps.map (·.d))⟩ U' else .no
theorem rd_tup (h:tE K W (eTup fl) σ H Q):tTup (tA K W fl) σ H Q:=by
 obtain ⟨He,O,Fs,U,E,h⟩:=h
 refine ⟨He,O,Fs,U,E,?_⟩
 unfold eTup at h
 cases e:fl U with
 | ok ps U'=>
  rw [e] at h
  intro vs H' Gs Fs' A
  have h:Wants K W He O Fs H σ Q (if (ps.all tok&&decide (ps.length<=sizeLine))=true then .ok ⟨.tup (ps.map tsh),.tuple (ps.map (·.d))⟩ U' else .no):=h
  by_cases hc:(ps.all tok&&decide (ps.length<=sizeLine))=true
  ·rw [if_pos hc] at h
   simp only [Bool.and_eq_true,decide_eq_true_eq] at hc
   exact ⟨by rw [A.len1];exact hc.2,fun p hp=>h _ _ _ _ (A.newTup hc.1 hp)⟩
  ·rw [if_neg hc] at h
   exact h.elim
 | er c U'=>rw [e] at h;exact h
 | no=>rw [e] at h;exact h
end
def okItems (p:PV) (ds:List D):Bool:=!p.s.isView||ds.all scalD
theorem Own.items {O:List Addr} {H:Hp} {s:Sh} {v:V} {ds:List D} (h:Own K O H s G v (.list ds)) (hc:okItems ⟨s,.list ds⟩ ds=true) (h1:∀a∈O',a∈O) (h2:∀a∈G,a∉O') :
  ∃p vs,v=.ref p/\SqL K H p vs/\(s.isView=false->SqL K (hid H O') p vs)/\Reps K (hid H O') vs ds:=by
 have hr:=h.rep
 cases hv:s.isView with
 | false=>
  have r:=h.freeze hv h1 h2
  cases r with
  | @lst p vs _ hq hl hr=>exact ⟨p,vs,rfl,hid_le.seq hq,fun _=>hq,hl,hr⟩
 | true=>
  unfold okItems at hc
  have hc:ds.all scalD=true:=by simpa [hv] using hc
  cases hr with
  | @lst p vs _ hq hl hr=>exact ⟨p,vs,rfl,hq,nofun,hl,fun i v d e1 e2=>((hr i v d e1 e2).sc (List.all_eq_true.mp hc d (mem_of_getElem? e2))).rep⟩
theorem Own.itemsT {O:List Addr} {H:Hp} {s:Sh} {v:V} {ds:List D} (h:Own K O H s G v (.tuple ds)) (hc:okItems ⟨s,.tuple ds⟩ ds=true) (h1:∀a∈O',a∈O) (h2:∀a∈G,a∉O') :
  ∃p vs,v=.ref p/\SqT K H p vs/\(s.isView=false->SqT K (hid H O') p vs)/\Reps K (hid H O') vs ds:=by
 have hr:=h.rep
 cases hv:s.isView with
 | false=>
  have r:=h.freeze hv h1 h2
  cases r with
  | @tup p vs _ hq hl hr=>exact ⟨p,vs,rfl,SameT hid_le hq,fun _=>hq,hl,hr⟩
 | true=>
  unfold okItems at hc
  have hc:ds.all scalD=true:=by simpa [hv] using hc
  cases hr with
  | @tup p vs _ hq hl hr=>exact ⟨p,vs,rfl,hq,nofun,hl,fun i v d e1 e2=>((hr i v d e1 e2).sc (List.all_eq_true.mp hc d (mem_of_getElem? e2))).rep⟩
theorem leafList {H:Hp} {O:List Addr} {ds:List D} {p:Addr} (E:EnvOk K He O Fs1 H1 σ U1) (s:Same H H1) (n:∀a∈Fs1.flatten,a∈Fs.flatten\/H a=none)
  (hr:Reps K (hid H1 (O++Fs1.flatten)) vs ds) (hp:H1 p=none):Aft K He O Fs H σ U1 ⟨.lst .leaf,.list ds⟩ (.ref p) (upd H1 p (.lst vs)) [p] Fs1:=by
 have E2:=E.hide (G:=[p]) (same_upd (o:=.lst vs) hp) (by simp) (fun a ha=>by simp at ha;rw [ha];exact hp) (fun a ha=>by simp at ha;rw [ha,upd_same];exact Option.some_ne_none _)
 refine ⟨s.trans (same_upd hp),E2,fun a ha=>?_,?_⟩
 ·rcases List.mem_append.mp ha with z | z
  ·have z:a=p:=by simpa using z
   rw [z];exact .inr (s.free hp)
  ·exact n a z
 ·have fl:(List.replicate ds.length ([]:List Addr)).flatten=[]:=by simp
  have:[p]=p::(List.replicate ds.length ([]:List Addr)).flatten:=by rw [fl]
  rw [this]
  refine .lst rfl upd_same hr.1 (by simp) (by rw [fl];simp) fun i v d F h1 h2 h3=>?_
  rw [getElem?_replicate] at h3
  split at h3
  ·cases h3
   refine .leaf ((hr.2 i v d h1 h2).mono (hid_mono (same_upd hp) fun a ha=>?_))
   rw [fl] at ha
   rcases List.mem_append.mp ha with z | z
   ·rcases List.mem_append.mp z with z | z
    ·have z:a=p:=by simpa using z
     rw [z];exact .inr hp
    ·exact .inl (mem_append_left _ z)
   ·exact .inl (mem_append_right _ z)
  ·cases h3
def eListOf (fa:F1):F1:=eBind fa fun p U=>match p.d with
 | .list ds=>if okItems p ds then .ok ⟨.lst .leaf,.list ds⟩ U else .no
 | .tuple ds=>if okItems p ds then .ok ⟨.lst .leaf,.list ds⟩ U else .no
 | _=>.no
section
variable {K:Fg} {W:XW} {σ:St} {H:Hp} {Q:VK} {fa fb:F1}
theorem Aft.disj {O:List Addr} {p:PV} {v:V} (A:Aft K He O Fs H σ U1 p v H1 G Fs1):∀a∈G,a∉O++Fs1.flatten:=fun a ha z=>by
 have nd:=A.env.nd
 rw [append_assoc] at nd
 exact (List.nodup_append.mp nd).2.2 a ha a z rfl
theorem sub3 {O:List Addr}:∀a∈O++F,a∈G++O++F:=fun a ha=>by
 rw [append_assoc];exact mem_append_right _ ha
theorem rd_listOf (h:tE K W (eListOf fa) σ H Q):tCB (fun xs H Q=>∃p ys,xs=[.ref p]/\(SqL K H p ys\/SqT K H p ys)/\∀l,H l=none->Q (.ref l) (upd H l (.lst ys))) (tA K W (eCons fa eNil)) σ H Q:=by
 have h1:tE K W fa σ H fun x H1=>∃p ys,x=.ref p/\(SqL K H1 p ys\/SqT K H1 p ys)/\∀l,H1 l=none->Q (.ref l) (upd H1 l (.lst ys)):=by
  refine tE_one h fun He O Fs U1 p v H1 G Fs1 nd A w=>?_
  obtain ⟨s,d⟩:=p
  cases d with
  | list ds=>
   have w:Wants K W He O Fs H σ Q (if okItems ⟨s,.list ds⟩ ds then .ok ⟨.lst .leaf,.list ds⟩ U1 else .no):=w
   cases hc:okItems ⟨s,.list ds⟩ ds with
   | false=>rw [hc] at w;exact w.elim
   | true=>
    rw [hc] at w
    obtain ⟨p,vs,rfl,hq,_,hr⟩:=A.own.items (O':=O++Fs1.flatten) hc sub3 A.disj
    exact ⟨p,vs,rfl,.inl hq,fun l hl=>w _ _ _ _ (leafList A.go A.same A.newF hr hl)⟩
  | tuple ds=>
   have w:Wants K W He O Fs H σ Q (if okItems ⟨s,.tuple ds⟩ ds then .ok ⟨.lst .leaf,.list ds⟩ U1 else .no):=w
   cases hc:okItems ⟨s,.tuple ds⟩ ds with
   | false=>rw [hc] at w;exact w.elim
   | true=>
    rw [hc] at w
    obtain ⟨p,vs,rfl,hq,_,hr⟩:=A.own.itemsT (O':=O++Fs1.flatten) hc sub3 A.disj
    exact ⟨p,vs,rfl,.inr hq,fun l hl=>w _ _ _ _ (leafList A.go A.same A.newF hr hl)⟩
  | _=>exact w.elim
 obtain ⟨He,O,Fs,U,E,h1⟩:=h1
 refine ⟨He,O,Fs,U,E,?_⟩
 unfold eCons eNil
 cases e:fa U with
 | ok p U'=>
  rw [e] at h1
  intro vs H' Gs Fs' A
  match vs,Gs,A.len1,A.len2 with
  | [v],[G],_,_=>
   have A':Aft K He O Fs H σ U' p v H' G Fs':=⟨A.same,by simpa using A.env,by simpa using A.new,by simpa using A.own 0 v p G rfl rfl rfl⟩
   obtain ⟨q,ys,rfl,h2,h3⟩:=h1 v H' G Fs' A'
   exact ⟨q,ys,rfl,h2,h3⟩
 | er c U'=>rw [e] at h1;exact h1
 | no=>rw [e] at h1;exact h1
end
structure ItOk (J:It) (P:Hp->Prop) (vs:List V):Prop where
 go:∀(i:Nat) H v,P H->vs[i]?=some v->J.go i H/\∀x H',J.yld i H x H'->H'=H/\x=v
 stop:∀H,P H->J.stop vs.length H
theorem it_list:ItOk (Itl K a) (fun H=>SqL K H a vs) vs:=
 ⟨fun i H v hp hv=>⟨⟨vs,v,hp,hv⟩,fun x H' ⟨e,q⟩=>⟨e,Option.some.inj ((q vs hp).symm.trans hv)⟩⟩,fun H hp=>⟨vs,hp,Nat.le_refl _⟩⟩
def rngV (lo:Int) (n:Nat):List V:=(List.range n).map fun i=>.int (lo+(i:Nat))
def rngD (lo:Int) (n:Nat):List D:=(List.range n).map fun i=>.int (lo+(i:Nat))
theorem it_rng {lo:Int} {n:Nat}:ItOk (Itr lo n) (fun _=>True) (rngV lo n):=by
 refine ⟨fun i H v _ hv=>?_,fun H _=>?_⟩
 ·unfold rngV at hv
  rw [getElem?_map] at hv
  cases e:(List.range n)[i]? with
  | none=>rw [e] at hv;cases hv
  | some k=>
   rw [e] at hv
   obtain ⟨h1,h2⟩:=List.getElem?_eq_some_iff.mp e
   simp at h1 h2
   subst h2
   cases hv
   exact ⟨h1,fun x H' ⟨q1,q2⟩=>⟨q1,q2⟩⟩
 ·show n<=(rngV lo n).length
  simp [rngV]
theorem reps_rng {H:Hp} {lo:Int} {n:Nat}:Reps K H (rngV lo n) (rngD lo n):=by
 refine ⟨by simp [rngV,rngD],fun i v d h1 h2=>?_⟩
 unfold rngV at h1
 unfold rngD at h2
 rw [getElem?_map] at h1 h2
 cases e:(List.range n)[i]? with
 | none=>rw [e] at h1;cases h1
 | some k=>
  rw [e] at h1 h2
  cases h1
  cases h2
  exact .int _
structure Its where
 ds:List D
 st:Bool
abbrev FI:=Ev->Out Its
def WantsI (K:Fg) (W:XW) (He:Hp) (O:List Addr) (Fs:List (List Addr)) (H:Hp) (σ:St) (R:It->Hp->Prop) (o:Out Its):Prop:=match o with
 | .ok t U'=>∀J H' Fs' vs P,Same H H'->EnvOk K He O Fs' H' σ U'->(∀a∈Fs'.flatten,a∈Fs.flatten\/H a=none)->ItOk J P vs->P H'->(∀H2,Same H' H2->P H2)->(t.st=true->∀H2,Same (hid H' Fs'.flatten) H2->P H2) ->
   Reps K (hid H' (O++Fs'.flatten)) vs t.ds->R J H'
 | .er c U'=>∀H' Fs',Same H H'->EnvOk K He O Fs' H' σ U'->W c σ H'
 | .no=>False
def tI (K:Fg) (W:XW) (f:FI):TI:=fun σ H R=>∃He O Fs U,EnvOk K He O Fs H σ U/\WantsI K W He O Fs H σ R (f U)
theorem PIimp {t t':TI} (h:PI X tg iter t) (i:∀σ H R,t' σ H R->t σ H R):PI X tg iter t':=fun pins s σ H R I q=>h pins s σ H R I (i σ H R q)
def iSeq (fa:F1):FI:=fun U=>(fa U).bind fun p U'=>match p.d with
 | .list ds=>if okItems p ds then .ok ⟨ds,!p.s.isView⟩ U' else .no
 | _=>.no
section
variable {K:Fg} {W:XW} {σ:St} {H:Hp} {R:It->Hp->Prop} {fa fb:F1}
theorem sub_hid {H:Hp} {O:List Addr}:Same (hid H (O++F)) (hid H F):=hid_mono (Same.refl _) fun a ha=>.inl (mem_append_right _ ha)
theorem rd_iSeq (h:tI K W (iSeq fa) σ H R):iList K (tE K W fa) σ H R:=by
 obtain ⟨He,O,Fs,U,E,h⟩:=h
 refine ⟨He,O,Fs,U,E,?_⟩
 unfold iSeq at h
 cases e:fa U with
 | ok p U1=>
  rw [e] at h
  intro v H1 G Fs1 A
  obtain ⟨s,d⟩:=p
  cases d with
  | list ds=>
   have h:WantsI K W He O Fs H σ R (if okItems ⟨s,.list ds⟩ ds then .ok ⟨ds,!s.isView⟩ U1 else .no):=h
   cases hc:okItems ⟨s,.list ds⟩ ds with
   | false=>rw [hc] at h;exact h.elim
   | true=>
    rw [hc] at h
    obtain ⟨p,vs,rfl,hq,hst,hr⟩:=A.own.items (O':=O++Fs1.flatten) hc sub3 A.disj
    exact ⟨p,rfl,⟨vs,hq⟩,h (Itl K p) H1 Fs1 vs (fun H=>SqL K H p vs) A.same A.go A.newF it_list hq (fun H2 s2=>s2.seq hq) (fun ht H2 s2=>s2.seq (sub_hid.seq (hst (by simpa using ht)))) hr⟩
  | _=>exact h.elim
 | er c U'=>rw [e] at h;exact h
 | no=>rw [e] at h;exact h
def inRng (j:Int):Bool:=decide (-(2 ^ 62)<=j)&&decide (j<2 ^ 62)
def rng1:List D->Option Int
 | [.int j]=>if inRng j then some j else none
 | _=>none
def rng2:List D->Option (Int×Int)
 | [.int i,.int j]=>if inRng i&&inRng j then some (i,j) else none
 | _=>none
theorem rng1_eq {ds:List D} {j:Int} (h:rng1 ds=some j):ds=[.int j]/\-(2 ^ 62)<=j/\j<2 ^ 62:=by
 unfold rng1 at h
 split at h
 ·split at h
  ·rename_i hc
   cases h
   simp only [inRng,Bool.and_eq_true,decide_eq_true_eq] at hc
   exact ⟨rfl,hc.1,hc.2⟩
  ·cases h
 ·cases h
theorem rng2_eq {ds:List D} {i j:Int} (h:rng2 ds=some (i,j)):ds=[.int i,.int j]/\(-(2 ^ 62)<=i/\i<2 ^ 62/\-(2 ^ 62)<=j/\j<2 ^ 62):=by
 unfold rng2 at h
 split at h
 ·split at h
  ·rename_i hc
   cases h
   simp only [inRng,Bool.and_eq_true,decide_eq_true_eq] at hc
   exact ⟨rfl,hc.1.1,hc.1.2,hc.2.1,hc.2.2⟩
  ·cases h
 ·cases h
def iR1 (fl:FL):FI:=fun U=>(fl U).bind fun ps U'=>match rng1 (ps.map (·.d)) with
 | some j=>.ok ⟨rngD 0 j.toNat,true⟩ U'
 | none=>.no
def iR2 (fl:FL):FI:=fun U=>(fl U).bind fun ps U'=>match rng2 (ps.map (·.d)) with
 | some (i,j)=>.ok ⟨rngD i (j-i).toNat,true⟩ U'
 | none=>.no
theorem rd_iR1 (h:tI K W (iR1 fl) σ H R):iRng1 (tA K W fl) σ H R:=by
 obtain ⟨He,O,Fs,U,E,h⟩:=h
 refine ⟨He,O,Fs,U,E,?_⟩
 unfold iR1 at h
 cases e:fl U with
 | ok ps U1=>
  rw [e] at h
  intro vs H1 Gs Fs1 A
  have h:WantsI K W He O Fs H σ R (match rng1 (ps.map (·.d)) with | some j=>.ok ⟨rngD 0 j.toNat,true⟩ U1 | none=>.no):=h
  have rs:=A.reps
  cases e1:rng1 (ps.map (·.d)) with
  | none=>rw [e1] at h;exact h.elim
  | some j=>
   rw [e1] at h
   obtain ⟨e2,h1,h2⟩:=rng1_eq e1
   rw [e2] at rs
   obtain ⟨v,rfl,r⟩:=rs.one
   cases r
   exact ⟨j,rfl,h1,h2,h (Itr 0 j.toNat) H1 Fs1 (rngV 0 j.toNat) (fun _=>True) A.same A.env.dropL (fun a ha=>A.new a (mem_append_right _ ha)) it_rng trivial (fun _ _=>trivial) (fun _ _ _=>trivial) reps_rng⟩
 | er c U'=>rw [e] at h;exact h
 | no=>rw [e] at h;exact h
theorem rd_iR2 (h:tI K W (iR2 fl) σ H R):iRng2 (tA K W fl) σ H R:=by
 obtain ⟨He,O,Fs,U,E,h⟩:=h
 refine ⟨He,O,Fs,U,E,?_⟩
 unfold iR2 at h
 cases e:fl U with
 | ok ps U1=>
  rw [e] at h
  intro vs H1 Gs Fs1 A
  have h:WantsI K W He O Fs H σ R (match rng2 (ps.map (·.d)) with | some (i,j)=>.ok ⟨rngD i (j-i).toNat,true⟩ U1 | none=>.no):=h
  have rs:=A.reps
  cases e1:rng2 (ps.map (·.d)) with
  | none=>rw [e1] at h;exact h.elim
  | some ij=>
   obtain ⟨i,j⟩:=ij
   rw [e1] at h
   obtain ⟨e2,hb⟩:=rng2_eq e1
   rw [e2] at rs
   obtain ⟨v,u,rfl,r,r'⟩:=rs.two
   cases r
   cases r'
   exact ⟨i,j,rfl,hb,h (Itr i (j-i).toNat) H1 Fs1 (rngV i (j-i).toNat) (fun _=>True) A.same A.env.dropL (fun a ha=>A.new a (mem_append_right _ ha)) it_rng trivial (fun _ _=>trivial) (fun _ _ _=>trivial) reps_rng⟩
 | er c U'=>rw [e] at h;exact h
 | no=>rw [e] at h;exact h
end
def compGo (i:Nat) (fc:FB) (fe:F1) (s:Sh):List D->Ev->List D->Out (List D)
 | [],U,acc=>.ok acc U
 | d::r,U,acc=>match fc (U.set i (some ⟨.leaf,d⟩)) with
  | .ok true U1=>(match fe U1 with
   | .ok p U2=>if T.coer s p&&decide (acc.length<sizeLine) then compGo i fc fe s r (U2.set i none) (acc++[p.d]) else .no
   | _=>.no)
  | .ok false U1=>if acc.length<sizeLine then compGo i fc fe s r (U1.set i none) acc else .no
  | _=>.no
def eComp (s:Sh) (i:Nat) (fi:FI) (fc:FB) (fe:F1):F1:=fun U=>(fi U).bind fun t U1=>match compGo i fc fe s t.ds (U1.set i none) [] with
 | .ok ds U2=>if !s.isView&&decide (i<U1.length) then .ok ⟨.lst s,.list ds⟩ (U2.set i (U1.getD i none)) else .no
 | _=>.no
abbrev W0:XW:=fun _ _ _=>False
section
variable {K:Fg} {He H H1 H2:Hp} {O G:List Addr} {Fs Fs1 Fs2:List (List Addr)} {σ:St} {U U1 U2:Ev}
theorem blank_ne {is:List Nat} {j:Nat} (h:j∉is):(blank is σ)[j]?=σ[j]?:=by
 unfold blank
 rw [List.getElem?_mapIdx]
 cases σ[j]? with
 | none=>rfl
 | some o=>simp [h]
theorem set_none_get {i j:Nat} {p:PV} (h:(U.set i none)[j]?=some (some p)):j≠i/\U[j]?=some (some p):=by
 by_cases hj:j=i
 ·subst hj
  rw [List.getElem?_set] at h
  split at h
  ·split at h<;>cases h
  ·rename_i z;exact absurd rfl z
 ·rw [getElem?_set_ne (Ne.symm hj)] at h
  exact ⟨hj,h⟩
theorem EnvOk.shut {i:Nat} (E:EnvOk K He O Fs H σ U) (hi:i<U.length) :
  ∃F,Fs[i]?=some F/\EnvOk K He (F++O) (Fs.set i []) H (blank [i] σ) (U.set i none)/\∀a,a∈F++(Fs.set i []).flatten↔a∈Fs.flatten:=by
 obtain ⟨F,hF⟩:=E.lt hi
 have pm:(F++(Fs.set i []).flatten).Perm Fs.flatten:=by simpa using flat_set (G:=[]) hF
 have pm2:(F++O++(Fs.set i []).flatten).Perm (O++Fs.flatten):=by
  rw [append_assoc]
  exact (perm3 _ _ _).trans (List.Perm.append_left _ pm)
 refine ⟨F,hF,⟨by rw [blank_len,length_set];exact E.len1,by rw [length_set,length_set];exact E.len2,E.same,pm2.nodup_iff.mpr E.nd,fun a ha=>E.inH a (pm2.mem_iff.mp ha),fun a ha=>E.fresh a (pm.mem_iff.mp (mem_append_right _ ha)),fun j q hq=>?_⟩,fun a=>pm.mem_iff⟩
 obtain ⟨hj,hq⟩:=set_none_get hq
 obtain ⟨w1,v',F',e1,e2,e3⟩:=E.slot j q hq
 exact ⟨w1,v',F',by rw [blank_ne (by simpa using hj)];exact e1,by rw [getElem?_set_ne (Ne.symm hj)];exact e2,e3.mono (Same.refl _) fun a ha=>.inl (pm2.mem_iff.mp ha)⟩
theorem EnvOk.forget {i:Nat} {x:Option V} (E:EnvOk K He O Fs H ((blank [i] σ).set i x) U) (hi:i<U.length):EnvOk K He O (Fs.set i []) H (blank [i] σ) (U.set i none):=by
 obtain ⟨F,hF⟩:=E.lt hi
 have pm:(F++(Fs.set i []).flatten).Perm Fs.flatten:=by simpa using flat_set (G:=[]) hF
 have sub:∀a∈O++(Fs.set i []).flatten,a∈O++Fs.flatten:=fun a ha=>by
  rcases List.mem_append.mp ha with z | z
  ·exact mem_append_left _ z
  ·exact mem_append_right _ (pm.mem_iff.mp (mem_append_right _ z))
 have l1:=E.len1
 rw [length_set] at l1
 obtain ⟨n1,n2,n3⟩:=List.nodup_append.mp E.nd
 have n4:((Fs.set i []).flatten).Nodup:=(List.nodup_append.mp (pm.nodup_iff.mpr n2)).2.1
 refine ⟨by rw [length_set];exact l1,by rw [length_set,length_set];exact E.len2,E.same,List.nodup_append.mpr ⟨n1,n4,fun a ha b hb=>n3 a ha b (pm.mem_iff.mp (mem_append_right _ hb))⟩,fun a ha=>E.inH a (sub a ha),fun a ha=>E.fresh a (pm.mem_iff.mp (mem_append_right _ ha)),fun j q hq=>?_⟩
 obtain ⟨hj,hq⟩:=set_none_get hq
 obtain ⟨w1,v',F',e1,e2,e3⟩:=E.slot j q hq
 rw [getElem?_set_ne (Ne.symm hj)] at e1
 exact ⟨w1,v',F',e1,by rw [getElem?_set_ne (Ne.symm hj)];exact e2,e3.mono (Same.refl _) fun a ha=>.inl (sub a ha)⟩
theorem EnvOk.reopen {i:Nat} (E1:EnvOk K He O Fs1 H1 σ U1) (hF:Fs1[i]?=some F) (E2:EnvOk K He (G++(F++O)) Fs2 H2 (blank [i] σ) U2) (hl:U2.length=U1.length) (s:Same H1 H2)
  (hn:U2[i]?=some none) (hF2:Fs2[i]?=some []) (new:∀a∈G++Fs2.flatten,a∈Fs1.flatten\/H1 a=none):EnvOk K He (G++O) (Fs2.set i F) H2 σ (U2.set i (U1.getD i none)):=by
 have pm:((Fs2.set i F).flatten).Perm (F++Fs2.flatten):=by simpa using flat_set (G:=F) hF2
 have pm2:(G++O++(Fs2.set i F).flatten).Perm (G++(F++O)++Fs2.flatten):=by
  refine (List.Perm.append_left _ pm).trans ?_
  rw [append_assoc,append_assoc]
  refine List.Perm.append_left _ ?_
  rw [append_assoc]
  exact perm3 _ _ _
 have hi:i<U2.length:=(List.getElem?_eq_some_iff.mp hn).1
 refine ⟨by rw [length_set,hl];exact E1.len1,by rw [length_set,length_set];exact E2.len2,E2.same,pm2.nodup_iff.mpr E2.nd,fun a ha=>E2.inH a (pm2.mem_iff.mp ha),fun a ha=>?_,fun j q hq=>?_⟩
 ·rcases List.mem_append.mp (pm.mem_iff.mp ha) with z | z
  ·exact E1.fresh a (mem_flat hF z)
  ·exact E2.fresh a z
 ·by_cases hj:j=i
  ·subst hj
   rw [getElem?_set_self hi] at hq
   have hq:U1.getD j none=some q:=Option.some.inj hq
   rw [getD_eq_getElem?_getD] at hq
   have hq':U1[j]?=some (some q):=by
    cases e:U1[j]? with
    | none=>rw [e] at hq;cases hq
    | some o=>rw [e] at hq;simp only [Option.getD_some] at hq;rw [hq]
   obtain ⟨w1,v',F',e1,e2,e3⟩:=E1.slot j q hq'
   rw [hF] at e2
   cases e2
   refine ⟨w1,v',F,e1,getElem?_set_self (by rw [E2.len2];exact hi),e3.mono s fun a ha=>?_⟩
   rcases List.mem_append.mp ha with z | z
   ·rcases List.mem_append.mp z with z | z
    ·exact (new a (mem_append_left _ z)).elim (fun y=>.inl (mem_append_right _ y)) .inr
    ·exact .inl (mem_append_left _ z)
   ·rcases List.mem_append.mp (pm.mem_iff.mp z) with y | y
    ·exact .inl (mem_append_right _ (mem_flat hF y))
    ·exact (new a (mem_append_right _ y)).elim (fun y=>.inl (mem_append_right _ y)) .inr
  ·rw [getElem?_set_ne (Ne.symm hj)] at hq
   obtain ⟨w1,v',F',e1,e2,e3⟩:=E2.slot j q hq
   rw [blank_ne (by simpa using hj)] at e1
   exact ⟨w1,v',F',e1,by rw [getElem?_set_ne (Ne.symm hj)];exact e2,e3.mono (Same.refl _) fun a ha=>.inl (pm2.mem_iff.mp ha)⟩
theorem EnvOk.mutO {p:Addr} {o:HO} {xs:List V} (E:EnvOk K He O Fs H σ U) (hp:p∈O) (hl:H p=some (.lst xs)) (hn:He p=none):EnvOk K He O Fs (upd H p o) σ U:=by
 obtain ⟨n1,n2,n3⟩:=List.nodup_append.mp E.nd
 refine ⟨E.len1,E.len2,fun b u e=>?_,E.nd,fun a ha=>?_,E.fresh,fun j q hq=>?_⟩
 ·rw [upd_ne (ne_of_none e hn)]
  exact E.same b u e
 ·by_cases h:a=p
  ·rw [h,upd_same];exact Option.some_ne_none _
  ·rw [upd_ne h];exact E.inH a ha
 ·obtain ⟨w1,v',F',e1,e2,e3⟩:=E.slot j q hq
  exact ⟨w1,v',F',e1,e2,e3.mut w1 (mem_append_left _ hp) (fun z=>n3 p hp p (mem_flat e2 z) rfl) hl⟩
end
structure Gath (K:Fg) (He:Hp) (O F:List Addr) (Fs1:List (List Addr)) (H1:Hp) (σ:St) (i:Nat) (s:Sh) (A0:Addr) (n:Nat) (ys:List V) (H:Hp) (Uk:Ev) (Fk Gs:List (List Addr)) (acc:List D):Prop where
 env:EnvOk K He (A0::Gs.flatten++(F++O)) Fk H (blank [i] σ) Uk
 same:Same H1 H
 at_:H A0=some (.lst ys)
 new:∀a∈Gs.flatten++Fk.flatten,a∈Fs1.flatten\/H1 a=none
 l1:ys.length=acc.length
 l2:Gs.length=acc.length
 own:∀(j:Nat) v d G,ys[j]?=some v->acc[j]?=some d->Gs[j]?=some G->Own K (A0::Gs.flatten++(F++O)++Fk.flatten) H s G v d
 noneG:Uk[i]?=some none
 noneF:Fk[i]?=some []
 len:Uk.length=n
theorem flatten_snoc (Gs:List (List α)) (G:List α):(Gs++[G]).flatten=Gs.flatten++G:=by simp
section
variable {K:Fg} {W:XW} {σ:St} {H:Hp} {Q:VK} {fe:F1} {fc:FB} {fi:FI} {s:Sh} {i:Nat}
theorem rd_comp (h:tE K W (eComp s i fi fc fe) σ H Q):tComp [i] (tI K W fi) (gName i) (tT K W0 fc) (tE K W0 fe) σ H Q:=by
 obtain ⟨He,O,Fs,U,E,h⟩:=h
 refine ⟨He,O,Fs,U,E,?_⟩
 unfold eComp at h
 cases e:fi U with
 | er c U'=>rw [e] at h;exact h
 | no=>rw [e] at h;exact h
 | ok t U1=>
  rw [e] at h
  intro J H1 Fs1 vs P s1 E1 n1 it hP hP1 _ hr A0 hD
  have h:Wants K W He O Fs H σ Q (match compGo i fc fe s t.ds (U1.set i none) [] with | .ok ds U2=>if !s.isView&&decide (i<U1.length) then .ok ⟨.lst s,.list ds⟩ (U2.set i (U1.getD i none)) else .no | _=>.no):=h
  cases eg:compGo i fc fe s t.ds (U1.set i none) [] with
  | er c U'=>rw [eg] at h;exact h.elim
  | no=>rw [eg] at h;exact h.elim
  | ok ds' U2=>
   rw [eg] at h
   have h:Wants K W He O Fs H σ Q (if (!s.isView&&decide (i<U1.length))=true then .ok ⟨.lst s,.list ds'⟩ (U2.set i (U1.getD i none)) else .no):=h
   by_cases hc:(!s.isView&&decide (i<U1.length))=true
   case neg=>rw [if_neg hc] at h;exact h.elim
   rw [if_pos hc] at h
   simp only [Bool.and_eq_true,decide_eq_true_eq,Bool.not_eq_true'] at hc
   obtain ⟨hsv,hi⟩:=hc
   obtain ⟨F,hF,E0,hmem⟩:=E1.shut hi
   have hHeD:He A0=none:=E1.same.free hD
   have E0':EnvOk K He (A0::([]:List (List Addr)).flatten++(F++O)) (Fs1.set i []) (upd H1 A0 (.lst [])) (blank [i] σ) (U1.set i none):=
    E0.hide (G:=[A0]) (same_upd hD) (by simp) (fun a ha=>by simp at ha;rw [ha];exact hD) (fun a ha=>by simp at ha;rw [ha,upd_same];exact Option.some_ne_none _)
   refine ⟨fun k m ys H'=>m=vs.length-k/\k<=vs.length/\∃Uk Fk Gs acc,Gath K He O F Fs1 H1 σ i s A0 U1.length ys H' Uk Fk Gs acc/\compGo i fc fe s (t.ds.drop k) Uk acc=.ok ds' U2,⟨vs.length,by simp,Nat.zero_le _,U1.set i none,Fs1.set i [],[],[],⟨E0',same_upd hD,upd_same,fun a ha=>.inl ((hmem a).mp (mem_append_right _ (by simpa using ha))),rfl,rfl,fun j v d G h1=>by simp at h1,getElem?_set_self hi,getElem?_set_self (by rw [E1.len2];exact hi),by rw [length_set]⟩,by simpa using eg⟩,?_⟩
   rintro k m ys H' ⟨rfl,hk,Uk,Fk,Gs,acc,g,eg'⟩
   refine ⟨g.at_,?_⟩
   have hPk:P H':=hP1 H' g.same
   have hlen:vs.length=t.ds.length:=hr.1
   by_cases hlt:k<vs.length
   case neg=>
    have hke:k=vs.length:=by omega
    left
    have:t.ds.drop k=[]:=drop_eq_nil_of_le (by omega)
    rw [this] at eg'
    have eg'':(Out.ok acc Uk:Out (List D))=.ok ds' U2:=eg'
    injection eg'' with e1 e2
    subst e1
    subst e2
    refine ⟨by rw [hke];exact it.stop H' hPk,?_⟩
    have E3:EnvOk K He ((A0::Gs.flatten)++O) (Fk.set i F) H' σ (Uk.set i (U1.getD i none)):=
     EnvOk.reopen (G:=A0::Gs.flatten) E1 hF g.env g.len g.same g.noneG g.noneF fun a ha=>by
      rcases List.mem_append.mp ha with z | z
      ·rcases List.mem_cons.mp z with z | z
       ·rw [z];exact .inr hD
       ·exact g.new a (mem_append_left _ z)
      ·exact g.new a (mem_append_right _ z)
    have pmF:((Fk.set i F).flatten).Perm (F++Fk.flatten):=by simpa using flat_set (G:=F) g.noneF
    obtain ⟨n1',_,n3'⟩:=List.nodup_append.mp g.env.ndO
    refine h (.ref A0) H' (A0::Gs.flatten) (Fk.set i F) ⟨s1.trans g.same,E3,fun a ha=>?_,?_⟩
    ·have up:a∈Fs1.flatten\/H1 a=none->a∈Fs.flatten\/H a=none:=fun z=>z.elim (n1 a) fun y=>.inr (s1.free y)
     rcases List.mem_append.mp ha with z | z
     ·rcases List.mem_cons.mp z with z | z
      ·exact up (.inr (by rw [z];exact hD))
      ·exact up (g.new a (mem_append_left _ z))
     ·rcases List.mem_append.mp (pmF.mem_iff.mp z) with y | y
      ·exact up (.inl (mem_flat hF y))
      ·exact up (g.new a (mem_append_right _ y))
    ·refine .lst hsv g.at_ g.l1 g.l2 n1' fun j v d G h1 h2 h3=>(g.own j v d G h1 h2 h3).perm fun a ha=>?_
     rw [append_assoc] at ha ⊢
     rcases List.mem_append.mp ha with z | z
     ·exact mem_append_left _ z
     ·refine mem_append_right _ ?_
      rcases List.mem_append.mp z with z | z
      ·exact mem_append_left _ (mem_append_right _ z)
      ·rcases List.mem_append.mp (pmF.mem_iff.mp z) with y | y
       ·exact mem_append_left _ (mem_append_left _ y)
       ·exact mem_append_right _ y
   case pos=>
    right
    have hv:vs[k]?=some vs[k]:=getElem?_eq_getElem hlt
    have hkd:k<t.ds.length:=by omega
    have hd:t.ds[k]?=some t.ds[k]:=getElem?_eq_getElem hkd
    have hdr:t.ds.drop k=t.ds[k]::t.ds.drop (k+1):=drop_eq_getElem_cons hkd
    rw [hdr] at eg'
    generalize hdk:t.ds[k]=d at hd eg'
    generalize hvk:vs[k]=v at hv
    obtain ⟨hgo,hyld⟩:=it.go k H' v hPk hv
    simp only [compGo] at eg'
    have hik:i<Uk.length:=by rw [g.len];exact hi
    have rep:Rep K (hid H' (A0::Gs.flatten++(F++O)++Fk.flatten)) v d:=(hr.2 k v d hv hd).mono (hid_mono g.same fun a ha=>by
     rcases List.mem_append.mp ha with z | z
     ·rcases List.mem_append.mp z with z | z
      ·rcases List.mem_cons.mp z with z | z
       ·rw [z];exact .inr hD
       ·exact (g.new a (mem_append_left _ z)).elim (fun y=>.inl (mem_append_right _ y)) .inr
      ·rcases List.mem_append.mp z with z | z
       ·exact .inl (mem_append_right _ (mem_flat hF z))
       ·exact .inl (mem_append_left _ z)
     ·exact (g.new a (mem_append_right _ z)).elim (fun y=>.inl (mem_append_right _ y)) .inr)
    have Ep:EnvOk K He (A0::Gs.flatten++(F++O)) (Fk.set i []) H' ((blank [i] σ).set i (some v)) (Uk.set i (some ⟨.leaf,d⟩)):=
     EnvOk.put (G:=[]) (p:=⟨.leaf,d⟩) (v:=v) g.env (.leaf rep) rfl (fun a ha=>by simp at ha) hik
    have hsl:ys.length<sizeLine:=by
     rw [g.l1]
     cases ec:fc (Uk.set i (some ⟨.leaf,d⟩)) with
     | no=>rw [ec] at eg';cases eg'
     | er c U'=>rw [ec] at eg';cases eg'
     | ok b Ua=>
      rw [ec] at eg'
      cases b with
      | false=>
       dsimp only at eg'
       split at eg'
       ·assumption
       ·cases eg'
      | true=>
       dsimp only at eg'
       split at eg'
       ·split at eg'
        ·rename_i z
         simp only [Bool.and_eq_true,decide_eq_true_eq] at z
         exact z.2
        ·cases eg'
       ·cases eg'
    refine ⟨hgo,hsl,fun x Hx hx=>?_⟩
    obtain ⟨rfl,rfl⟩:=hyld x Hx hx
    show LeS (blank [i] σ) ((blank [i] σ).set i (some x))/\_
    refine ⟨⟨by rw [length_set],fun j u hj=>?_⟩,?_⟩
    ·have:=(blank_get hj).1
     rw [getElem?_set_ne (by simp at this;exact fun z=>this z.symm)]
     exact hj
    refine ⟨He,_,_,_,Ep,?_⟩
    cases ec:fc (Uk.set i (some ⟨.leaf,d⟩)) with
    | no=>rw [ec] at eg';cases eg'
    | er c U'=>rw [ec] at eg';cases eg'
    | ok b Ua=>
     rw [ec] at eg'
     intro H3 Fs3 s3 E3 n3
     have lena:Ua.length=U1.length:=by
      have:=E3.len1
      rw [length_set,blank_len,E1.len1] at this
      exact this.symm
     have n3':∀a∈Fs3.flatten,a∈Fs1.flatten\/H1 a=none:=fun a ha=>(n3 a ha).elim (fun z=>by
      have pm:((Fk.set i []).flatten).Perm Fk.flatten:=by simpa using flat_set (G:=[]) g.noneF
      exact g.new a (mem_append_right _ (pm.mem_iff.mp z))) fun z=>.inr (g.same.free z)
     cases b with
     | false=>
      dsimp only at eg'
      split at eg'
      case isFalse=>cases eg'
      refine iteF ⟨vs.length-(k+1),by omega,rfl,hlt,Ua.set i none,Fs3.set i [],Gs,acc,⟨E3.forget (by rw [lena];exact hi),g.same.trans s3,s3 _ _ g.at_,fun a ha=>?_,g.l1,g.l2,fun j v d G h1 h2 h3=>(g.own j v d G h1 h2 h3).mono s3 fun a ha=>?_,getElem?_set_self (by rw [lena];exact hi),getElem?_set_self (by rw [E3.len2,lena];exact hi),by rw [length_set];exact lena⟩,eg'⟩
      ·rcases List.mem_append.mp ha with z | z
       ·exact g.new a (mem_append_left _ z)
       ·obtain ⟨F3,hF3⟩:=E3.lt (i:=i) (by rw [lena];exact hi)
        have pm:(F3++(Fs3.set i []).flatten).Perm Fs3.flatten:=by simpa using flat_set (G:=[]) hF3
        exact n3' a (pm.mem_iff.mp (mem_append_right _ z))
      ·rcases List.mem_append.mp ha with z | z
       ·exact .inl (mem_append_left _ z)
       ·obtain ⟨F3,hF3⟩:=E3.lt (i:=i) (by rw [lena];exact hi)
        have pm:(F3++(Fs3.set i []).flatten).Perm Fs3.flatten:=by simpa using flat_set (G:=[]) hF3
        have pm2:((Fk.set i []).flatten).Perm Fk.flatten:=by simpa using flat_set (G:=[]) g.noneF
        exact (n3 a (pm.mem_iff.mp (mem_append_right _ z))).elim (fun y=>.inl (mem_append_right _ (pm2.mem_iff.mp y))) .inr
     | true=>
      refine iteT ⟨He,_,_,_,E3,?_⟩
      dsimp only at eg'
      cases ee:fe Ua with
      | no=>rw [ee] at eg';cases eg'
      | er c U'=>rw [ee] at eg';cases eg'
      | ok p Ub=>
       rw [ee] at eg'
       dsimp only at eg'
       split at eg'
       case isFalse=>cases eg'
       rename_i hco
       simp only [Bool.and_eq_true,decide_eq_true_eq] at hco
       obtain ⟨hco,_⟩:=hco
       intro u H4 G Fs4 A4
       have lenb:Ub.length=U1.length:=by
        have:=A4.env.len1
        rw [length_set,blank_len,E1.len1] at this
        exact this.symm
       have hib:i<Ub.length:=by rw [lenb];exact hi
       have at4:H4 A0=some (.lst ys):=A4.same _ _ (s3 _ _ g.at_)
       have s14:Same H1 H4:=(g.same.trans s3).trans A4.same
       have pmk:((Fk.set i []).flatten).Perm Fk.flatten:=by simpa using flat_set (G:=[]) g.noneF
       obtain ⟨F4,hF4⟩:=A4.env.lt hib
       have pm4:(F4++(Fs4.set i []).flatten).Perm Fs4.flatten:=by simpa using flat_set (G:=[]) hF4
       have new4:∀a∈G++Fs4.flatten,a∈Fs1.flatten\/H1 a=none:=fun a ha=>(A4.new a ha).elim (n3' a) fun z=>.inr ((g.same.trans s3).free z)
       have hG':∀a∈keepG s G,a∈G:=fun a ha=>keepG_sub ha
       obtain ⟨k1,k2,k3⟩:=List.nodup_append.mp A4.env.ndO
       have ndk:(keepG s G).Nodup:=by
        cases s<;>first | exact nodup_nil | exact k1
       have pmO:(A0::(Gs++[keepG s G]).flatten++(F++O)).Perm (keepG s G++(A0::Gs.flatten++(F++O))):=by
        rw [flatten_snoc]
        show (A0::((Gs.flatten++keepG s G)++(F++O))).Perm _
        refine List.Perm.trans ?_ List.perm_middle.symm
        refine List.Perm.cons _ ?_
        rw [append_assoc]
        exact perm3 _ _ _
       have E5:EnvOk K He (keepG s G++(A0::Gs.flatten++(F++O))) Fs4 H4 ((blank [i] σ).set i (some x)) Ub:=A4.env.drop (fun a ha=>by
        rcases List.mem_append.mp ha with z | z
        ·exact mem_append_left _ (hG' a z)
        ·exact mem_append_right _ z) (List.nodup_append.mpr ⟨ndk,k2,fun a ha b hb=>k3 a (hG' a ha) b hb⟩)
       have E6:=(E5.perm pmO).forget hib
       have hDin:A0∈A0::(Gs++[keepG s G]).flatten++(F++O):=mem_cons_self
       have E7:=E6.mutO (o:=.lst (ys++[u])) hDin at4 hHeD
       have subH:∀a∈A0::(Gs++[keepG s G]).flatten++(F++O)++(Fs4.set i []).flatten,a∈G++(A0::Gs.flatten++(F++O))++Fs4.flatten:=fun a ha=>by
        rcases List.mem_append.mp ha with z | z
        ·rcases List.mem_append.mp (pmO.mem_iff.mp z) with y | y
         ·exact mem_append_left _ (mem_append_left _ (hG' a y))
         ·exact mem_append_left _ (mem_append_right _ y)
        ·exact mem_append_right _ (pm4.mem_iff.mp (mem_append_right _ z))
       have Dnot:∀{j:Nat} {Gj:List Addr},Gs[j]?=some Gj->A0∉Gj:=fun {j Gj} hj z=>by
        have nd:=g.env.ndO
        exact (List.nodup_cons.mp nd).1 (mem_append_left _ (mem_flat hj z))
       refine ⟨at4,vs.length-(k+1),by omega,rfl,hlt,Ub.set i none,Fs4.set i [],Gs++[keepG s G],acc++[p.d],⟨E7,fun b o hb=>?_,upd_same,fun a ha=>?_,by simp [g.l1],by simp [g.l2],fun j w d' G' h1 h2 h3=>?_,getElem?_set_self hib,getElem?_set_self (by rw [A4.env.len2];exact hib),by rw [length_set];exact lenb⟩,eg'⟩
       ·rw [upd_ne (ne_of_none hb hD)]
        exact s14 b o hb
       ·rcases List.mem_append.mp ha with z | z
        ·rw [flatten_snoc] at z
         rcases List.mem_append.mp z with z | z
         ·exact g.new a (mem_append_left _ z)
         ·exact new4 a (mem_append_left _ (hG' a z))
        ·exact new4 a (mem_append_right _ (pm4.mem_iff.mp (mem_append_right _ z)))
       ·by_cases hj:j<ys.length
        ·rw [getElem?_append_left hj] at h1
         rw [getElem?_append_left (by rw [<-g.l1];exact hj)] at h2
         rw [getElem?_append_left (by rw [g.l2,<-g.l1];exact hj)] at h3
         have o1:=g.own j w d' G' h1 h2 h3
         have o2:=o1.mono (O':=A0::(Gs++[keepG s G]).flatten++(F++O)++(Fs4.set i []).flatten) (s3.trans A4.same) fun a ha=>by
          have up:a∈G++Fs4.flatten->a∈A0::Gs.flatten++(F++O)++Fk.flatten\/Hx a=none:=fun z=>(A4.new a z).elim (fun y=>(n3 a y).elim (fun y=>.inl (mem_append_right _ (pmk.mem_iff.mp y))) .inr) fun y=>.inr (s3.free y)
          rcases List.mem_append.mp (subH a ha) with z | z
          ·rcases List.mem_append.mp z with z | z
           ·exact up (mem_append_left _ z)
           ·exact .inl (mem_append_left _ z)
          ·exact up (mem_append_right _ z)
         exact o2.mut hsv (mem_append_left _ hDin) (Dnot h3) at4
        ·have hj':j=ys.length:=by
          have:=(List.getElem?_eq_some_iff.mp h1).1
          rw [length_append,length_singleton] at this
          omega
         subst hj'
         rw [getElem?_append_right (Nat.le_refl _),Nat.sub_self] at h1
         rw [getElem?_append_right (by rw [g.l1];exact Nat.le_refl _),show ys.length-acc.length=0 by rw [g.l1];exact Nat.sub_self _] at h2
         rw [getElem?_append_right (by rw [g.l2,g.l1];exact Nat.le_refl _),show ys.length-Gs.length=0 by rw [g.l2,g.l1];exact Nat.sub_self _] at h3
         cases h1
         cases h2
         cases h3
         have o3:=A4.own.coer (s:=s) (O':=A0::(Gs++[keepG s G]).flatten++(F++O)++(Fs4.set i []).flatten) hco subH fun a ha hO=>by
          cases s with
          | leaf=>
           exfalso
           have hO':a∈(A0::Gs.flatten++(F++O))++(Fs4.set i []).flatten:=by
            rw [flatten_snoc] at hO
            simpa [keepG] using hO
           rcases List.mem_append.mp hO' with z | z
           ·exact k3 a ha a z rfl
           ·have nd:=A4.env.nd
            exact (List.nodup_append.mp nd).2.2 a (mem_append_left _ ha) a (pm4.mem_iff.mp (mem_append_right _ z)) rfl
          | view=>cases hsv
          | lst s=>exact ha
          | tup ss=>exact ha
         refine o3.mut hsv (mem_append_left _ hDin) (fun z=>?_) at4
         exact k3 A0 (hG' A0 z) A0 mem_cons_self rfl
end
inductive OutS where
 | nx (e:Ev) | bk (e:Ev) | ct (e:Ev) | rt (p:PV) | er (c:Str) (e:Ev) | no
abbrev FS:=Ev->OutS
structure RetOk (K:Fg) (He:Hp) (O:List Addr) (p:PV) (v:V) (H':Hp) (G:List Addr):Prop where
 same:Same He H'
 fresh:∀a∈G,He a=none
 inH:∀a∈G,H' a≠none
 nd:G.Nodup
 own:Own K (G++O) H' p.s G v p.d
 nv:p.s.isView=false
def WantsS (K:Fg) (W:XW) (He:Hp) (O:List Addr) (D:Ends):OutS->Prop
 | .nx U'=>∀σ' H' Fs',EnvOk K He O Fs' H' σ' U'->D.nx σ' H'
 | .bk U'=>∀σ' H' Fs',EnvOk K He O Fs' H' σ' U'->D.bk σ' H'
 | .ct U'=>∀σ' H' Fs',EnvOk K He O Fs' H' σ' U'->D.ct σ' H'
 | .rt p=>∀v H' G,RetOk K He O p v H' G->D.rt v H'
 | .er c U'=>∀σ' H' Fs',EnvOk K He O Fs' H' σ' U'->W c σ' H'
 | .no=>False
def tS (K:Fg) (W:XW) (g:FS):TS:=fun D σ H=>∃He O Fs U,EnvOk K He O Fs H σ U/\WantsS K W He O D (g U)
def sNext:FS:=fun U=>.nx U
def sSeq (g1 g2:FS):FS:=fun U=>match g1 U with
 | .nx U'=>g2 U'
 | o=>o
def sOf (f:F1) (k:PV->Ev->OutS):FS:=fun U=>match f U with
 | .ok p U'=>k p U'
 | .er c U'=>.er c U'
 | .no=>.no
def sIf (c:FB) (a b:FS):FS:=fun U=>match c U with
 | .ok t U'=>if t then a U' else b U'
 | .er c U'=>.er c U'
 | .no=>.no
section
variable {K:Fg} {W:XW} {σ:St} {H:Hp} {D:Ends} {fa fb:F1} {ga gb:FB} {g1 g2:FS}
theorem rd_next (h:tS K W sNext D σ H):tNext D σ H:=by
 obtain ⟨He,O,Fs,U,E,h⟩:=h
 exact h σ H Fs E
theorem rd_seq (h:tS K W (sSeq g1 g2) D σ H):tSeq (tS K W g1) (tS K W g2) D σ H:=by
 obtain ⟨He,O,Fs,U,E,h⟩:=h
 refine ⟨He,O,Fs,U,E,?_⟩
 unfold sSeq at h
 cases e:g1 U with
 | nx U'=>rw [e] at h;exact fun σ' H' Fs' E'=>⟨He,O,Fs',U',E',h⟩
 | bk U'=>rw [e] at h;exact h
 | ct U'=>rw [e] at h;exact h
 | rt p=>rw [e] at h;exact h
 | er c U'=>rw [e] at h;exact h
 | no=>rw [e] at h;exact h
theorem tS_of {k:PV->Ev->OutS} {R:VK} (h:tS K W (sOf fa k) D σ H)
  (hk:∀He O Fs U1 p v H1 G Fs1,EnvOk K He O Fs H σ U1\/True->(∀a∈G,He a=none)->Aft K He O Fs H σ U1 p v H1 G Fs1->WantsS K W He O D (k p U1)->R v H1):tE K W fa σ H R:=by
 obtain ⟨He,O,Fs,U,E,h⟩:=h
 refine ⟨He,O,Fs,U,E,?_⟩
 unfold sOf at h
 cases e:fa U with
 | ok p U1=>rw [e] at h;exact fun v H' G Fs' A=>hk He O Fs U1 p v H' G Fs' (.inr trivial) (A.freshG E) A h
 | er c U1=>rw [e] at h;exact fun H' Fs' s E'=>h σ H' Fs' E'
 | no=>rw [e] at h;exact h
theorem rd_ifS (h:tS K W (sIf ga g1 g2) D σ H):tIfS (tT K W ga) (tS K W g1) (tS K W g2) D σ H:=by
 obtain ⟨He,O,Fs,U,E,h⟩:=h
 refine ⟨He,O,Fs,U,E,?_⟩
 unfold sIf at h
 cases e:ga U with
 | ok b U1=>
  rw [e] at h
  intro H' Fs' s E' n
  cases b with
  | true=>exact iteT ⟨He,O,Fs',U1,E',h⟩
  | false=>exact iteF ⟨He,O,Fs',U1,E',h⟩
 | er c U1=>rw [e] at h;exact fun H' Fs' s E'=>h σ H' Fs' E'
 | no=>rw [e] at h;exact h
def sRet (f:F1):FS:=sOf f fun p _=>if p.s.isView then (if scalD p.d then .rt ⟨.leaf,p.d⟩ else .no) else .rt p
theorem rd_ret (h:tS K W (sRet fa) D σ H):tRet (tE K W fa) D σ H:=by
 refine tS_of h fun He O Fs U1 p v H1 G Fs1 _ fr A w=>?_
 obtain ⟨n1,n2,n3⟩:=List.nodup_append.mp A.env.ndO
 have inH:∀a∈G,H1 a≠none:=fun a ha=>A.env.inH a (mem_append_left _ (mem_append_left _ ha))
 cases hv:p.s.isView with
 | false=>
  have w:WantsS K W He O D (.rt p):=by simpa [hv] using w
  exact w v H1 G ⟨A.env.same,fr,inH,n1,A.own.perm fun a ha=>mem_append_left _ ha,hv⟩
 | true=>
  cases hs:scalD p.d with
  | false=>rw [hv,hs] at w;exact w.elim
  | true=>
   have w:WantsS K W He O D (.rt ⟨.leaf,p.d⟩):=by simpa [hv,hs] using w
   exact w v H1 [] ⟨A.env.same,(fun _ z=>nomatch z),(fun _ z=>nomatch z),nodup_nil,.leaf (A.own.rep.sc hs).rep,rfl⟩
def sSet (own:Bool) (i:Nat) (f:F1):FS:=sOf f fun p U=>if i<U.length then (if own&&!p.s.isView then .nx (U.set i (some p)) else if T.coer .leaf p then .nx (U.set i (some ⟨.leaf,p.d⟩)) else .no) else .no
theorem rd_set {own:Bool} {i:Nat} (h:tS K W (sSet own i fa) D σ H):tAsg (tE K W fa) (gName i) D σ H:=by
 refine tS_of h fun He O Fs U1 p v H1 G Fs1 _ fr A w=>?_
 show D.nx (σ.set i (some v)) H1
 have w:WantsS K W He O D (if i<U1.length then (if own&&!p.s.isView then .nx (U1.set i (some p)) else if T.coer .leaf p then .nx (U1.set i (some ⟨.leaf,p.d⟩)) else .no) else .no):=w
 by_cases hi:i<U1.length
 case neg=>rw [if_neg hi] at w;exact w.elim
 rw [if_pos hi] at w
 cases ho:(own&&!p.s.isView) with
 | true=>
  rw [ho] at w
  have hv:p.s.isView=false:=by
   simp only [Bool.and_eq_true,Bool.not_eq_true'] at ho
   exact ho.2
  exact w _ H1 _ (EnvOk.put A.env A.own hv fr hi)
 | false=>
  rw [ho] at w
  cases hc:T.coer .leaf p with
  | false=>rw [hc] at w;exact w.elim
  | true=>
   rw [hc] at w
   have o:=A.own.coer (s:=.leaf) (O':=O++Fs1.flatten) hc sub3 fun a ha z=>absurd z (A.disj a ha)
   exact w _ H1 _ (EnvOk.put (G:=[]) (p:=⟨.leaf,p.d⟩) (v:=v) A.go o rfl (fun a ha=>by simp at ha) hi)
def sDrop (f:F1):FS:=sOf f fun _ U=>.nx U
theorem rd_drop (h:tS K W (sDrop fa) D σ H):tDrop (tE K W fa) D σ H:=
 tS_of h fun He O Fs U1 p v H1 G Fs1 _ fr A w=>w σ H1 Fs1 A.go
theorem set_same {l:List α} {i:Nat} {x:α} (h:l[i]?=some x):l.set i x=l:=by
 apply ext_getElem?
 intro j
 by_cases hj:j=i
 ·subst hj
  rw [getElem?_set_self (List.getElem?_eq_some_iff.mp h).1,h]
 ·rw [getElem?_set_ne (Ne.symm hj)]
def appK (i:Nat) (p:PV) (U:Ev):OutS:=match U[i]? with
 | some (some ⟨.lst s,.list ds⟩)=>if T.coer s p&&decide (ds.length<sizeLine) then .nx (U.set i (some ⟨.lst s,.list (ds++[p.d])⟩)) else .no
 | _=>.no
def isOwnL:Option (Option PV)->Bool
 | some (some ⟨.lst _,.list _⟩)=>true
 | _=>false
def sAppend (i:Nat) (f:F1):FS:=fun U=>if isOwnL U[i]? then sOf f (appK i) U else .no
theorem app_env {H:Hp} {O:List Addr} {i:Nat} {s:Sh} {ds:List PySem.PyData} {p:PV} {v:V} (E:EnvOk K He (G++O) Fs H σ U) (o:Own K (G++O++Fs.flatten) H p.s G v p.d) (fr:∀a∈G,He a=none)
  (h:U[i]?=some (some ⟨.lst s,.list ds⟩)) (hc:T.coer s p=true) :
  ∃l vs,σ[i]?=some (some (.ref l))/\H l=some (.lst vs)/\vs.length=ds.length/\∃Fs',EnvOk K He O Fs' (upd H l (.lst (vs++[v]))) σ (U.set i (some ⟨.lst s,.list (ds++[p.d])⟩)):=by
 obtain ⟨hv,u,F,h1,E1,o1,sub⟩:=E.move h
 have hi:i<U.length:=(List.getElem?_eq_some_iff.mp h).1
 cases o1 with
 | @lst _ l vs _ Fs0 hsv hp hl hf nd q=>
  refine ⟨l,vs,h1,hp,hl,Fs.set i (l::(Fs0++[keepG s G]).flatten),?_⟩
  have hlF:l∈Fs.flatten:=sub l (mem_append_left _ mem_cons_self)
  have hHe:He l=none:=E.fresh l hlF
  have hG':∀a∈keepG s G,a∈G:=fun a ha=>keepG_sub ha
  obtain ⟨k1,k2,k3⟩:=List.nodup_append.mp E1.ndO
  obtain ⟨g1,g2,g3⟩:=List.nodup_append.mp k2
  have ndk:(keepG s G).Nodup:=by
   cases s<;>first | exact nodup_nil | exact g1
  have pmO:((l::(Fs0++[keepG s G]).flatten)++O).Perm ((l::Fs0.flatten)++(keepG s G++O)):=by
   rw [flatten_snoc]
   show (l::((Fs0.flatten++keepG s G)++O)).Perm (l::(Fs0.flatten++(keepG s G++O)))
   rw [append_assoc]
  have E2:EnvOk K He ((l::Fs0.flatten)++(keepG s G++O)) (Fs.set i []) H σ (U.set i none):=E1.drop (fun a ha=>by
   rcases List.mem_append.mp ha with z | z
   ·exact mem_append_left _ z
   ·refine mem_append_right _ ?_
    rcases List.mem_append.mp z with z | z
    ·exact mem_append_left _ (hG' a z)
    ·exact mem_append_right _ z) (List.nodup_append.mpr ⟨k1,List.nodup_append.mpr ⟨ndk,g2,fun a ha b hb=>g3 a (hG' a ha) b hb⟩,fun a ha b hb=>k3 a ha b (by
     rcases List.mem_append.mp hb with z | z
     ·exact mem_append_left _ (hG' b z)
     ·exact mem_append_right _ z)⟩)
  have E3:=E2.perm pmO
  have hlin:l∈(l::(Fs0++[keepG s G]).flatten)++O:=mem_cons_self
  have E4:=E3.mutO (o:=.lst (vs++[v])) hlin hp hHe
  have lnG:l∉G:=fun z=>k3 l mem_cons_self l (mem_append_left _ z) rfl
  have subH:∀a∈(l::(Fs0++[keepG s G]).flatten)++O++(Fs.set i []).flatten,a∈(l::Fs0.flatten)++(G++O)++(Fs.set i []).flatten:=fun a ha=>by
   rcases List.mem_append.mp ha with z | z
   ·refine mem_append_left _ ?_
    rcases List.mem_append.mp (pmO.mem_iff.mp z) with y | y
    ·exact mem_append_left _ y
    ·refine mem_append_right _ ?_
     rcases List.mem_append.mp y with y | y
     ·exact mem_append_left _ (hG' a y)
     ·exact mem_append_right _ y
   ·exact mem_append_right _ z
  have ownL:Own K ((l::(Fs0++[keepG s G]).flatten)++O++(Fs.set i []).flatten) (upd H l (.lst (vs++[v]))) (.lst s) (l::(Fs0++[keepG s G]).flatten) (.ref l) (.list (ds++[p.d])):=by
   refine .lst hsv upd_same (by simp [hl]) (by simp [hf]) ?_ fun j w d' G' e1 e2 e3=>?_
   ·have nd2:=E3.ndO
    exact (List.nodup_append.mp nd2).1
   ·by_cases hj:j<vs.length
    ·rw [getElem?_append_left hj] at e1
     rw [getElem?_append_left (by omega)] at e2
     rw [getElem?_append_left (by omega)] at e3
     exact ((q j w d' G' e1 e2 e3).perm subH).mut hsv (mem_append_left _ hlin) (fun z=>(List.nodup_cons.mp nd).1 (mem_flat e3 z)) hp
    ·have hj':j=vs.length:=by
      have:=(List.getElem?_eq_some_iff.mp e1).1
      rw [length_append,length_singleton] at this
      omega
     subst hj'
     rw [getElem?_append_right (Nat.le_refl _),Nat.sub_self] at e1
     rw [getElem?_append_right (by omega),show vs.length-ds.length=0 by omega] at e2
     rw [getElem?_append_right (by omega),show vs.length-Fs0.length=0 by omega] at e3
     cases e1
     cases e2
     cases e3
     have osub:∀a∈(l::(Fs0++[keepG s G]).flatten)++O++(Fs.set i []).flatten,a∈G++O++Fs.flatten:=fun a ha=>by
      rcases List.mem_append.mp (subH a ha) with z | z
      ·rcases List.mem_append.mp z with z | z
       ·exact mem_append_right _ (sub a (mem_append_left _ z))
       ·exact mem_append_left _ z
      ·exact mem_append_right _ (sub a (mem_append_right _ z))
     have o3:=o.coer (s:=s) hc osub fun a ha hO=>by
      cases s with
      | leaf=>
       exfalso
       rw [flatten_snoc] at hO
       have hO':a∈(l::Fs0.flatten)++O++(Fs.set i []).flatten:=by simpa [keepG] using hO
       have ndE:=E.nd
       rw [append_assoc] at ndE
       have dis:=(List.nodup_append.mp ndE).2.2
       rcases List.mem_append.mp hO' with z | z
       ·rcases List.mem_append.mp z with z | z
        ·exact dis a ha a (mem_append_right _ (sub a (mem_append_left _ z))) rfl
        ·exact dis a ha a (mem_append_left _ z) rfl
       ·exact dis a ha a (mem_append_right _ (sub a (mem_append_right _ z))) rfl
      | view=>cases hsv
      | lst s=>exact ha
      | tup ss=>exact ha
     exact o3.mut hsv (mem_append_left _ hlin) (fun z=>lnG (hG' l z)) hp
  have fin:=EnvOk.put (i:=i) (p:=⟨.lst s,.list (ds++[p.d])⟩) (v:=.ref l) E4 ownL rfl (fun a ha=>?_) (by rw [length_set];exact hi)
  ·rw [set_set,set_set,set_same h1] at fin
   exact fin
  ·rcases List.mem_cons.mp ha with z | z
   ·rw [z];exact hHe
   ·rw [flatten_snoc] at z
    rcases List.mem_append.mp z with z | z
    ·exact E.fresh a (sub a (mem_append_left _ (mem_cons_of_mem _ z)))
    ·exact fr a (hG' a z)
theorem tA_one {QL:List V->Hp->Prop} (h1:tE K W fa σ H fun v H'=>QL [v] H'):tA K W (eCons fa eNil) σ H QL:=by
 obtain ⟨He,O,Fs,U,E,h1⟩:=h1
 refine ⟨He,O,Fs,U,E,?_⟩
 unfold eCons eNil
 cases e:fa U with
 | ok p U'=>
  rw [e] at h1
  intro vs H' Gs Fs' A
  match vs,Gs,A.len1,A.len2 with
  | [v],[G],_,_=>exact h1 v H' G Fs' ⟨A.same,by simpa using A.env,by simpa using A.new,by simpa using A.own 0 v p G rfl rfl rfl⟩
 | er c U'=>rw [e] at h1;exact h1
 | no=>rw [e] at h1;exact h1
theorem isOwnL_eq (h:isOwnL o=true):∃s ds,o=some (some ⟨.lst s,.list ds⟩):=by
 unfold isOwnL at h
 split at h
 ·exact ⟨_,_,rfl⟩
 ·cases h
theorem EnvOk.ownL {H:Hp} {O:List Addr} {i:Nat} {s:Sh} {ds:List PySem.PyData} (E:EnvOk K He O Fs H σ U) (h:U[i]?=some (some ⟨.lst s,.list ds⟩)):∃l vs,σ[i]?=some (some (.ref l))/\H l=some (.lst vs)/\vs.length=ds.length:=by
 obtain ⟨hv,v,F,h1,h2,h3⟩:=E.slot i _ h
 cases h3 with
 | @lst _ l vs _ Fs0 hsv hp hl hf nd q=>exact ⟨l,vs,h1,hp,hl⟩
theorem rd_append {i:Nat} (h:tS K W (sAppend i fa) D σ H):tDrop (tBM K "list" rAppend (tVar i) (tA K W (eCons fa eNil))) D σ H:=by
 obtain ⟨He,O,Fs,U,E,h⟩:=h
 unfold sAppend at h
 cases ho:isOwnL U[i]? with
 | false=>rw [ho] at h;exact h.elim
 | true=>
  rw [ho] at h
  obtain ⟨s,ds,e0⟩:=isOwnL_eq ho
  obtain ⟨l,vs,h1,h2,h3⟩:=E.ownL e0
  refine ⟨.ref l,h1,.inl ⟨rfl,vs,.of h2⟩,tA_one (tS_of (D:=D) ⟨He,O,Fs,U,E,h⟩ fun He O Fs U1 p v H1 G Fs1 _ fr A w=>?_)⟩
  unfold appK at w
  split at w
  ·rename_i s1 ds1 e1
   cases hc:(T.coer s1 p&&decide (ds1.length<sizeLine)) with
   | false=>rw [hc] at w;exact w.elim
   | true=>
    rw [hc] at w
    simp only [Bool.and_eq_true,decide_eq_true_eq] at hc
    obtain ⟨l1,vs1,q1,q2,q3,Fs',E'⟩:=app_env A.env A.own fr e1 hc.1
    rw [h1] at q1
    cases q1
    exact ⟨l,vs1,v,rfl,rfl,q2,by rw [q3];exact hc.2,w σ _ Fs' E'⟩
  ·exact w.elim
def forGo (i:Nat) (body:FS):List PySem.PyData->Ev->OutS
 | [],U=>.nx U
 | d::r,U=>if i<U.length then (match body (U.set i (some ⟨.leaf,d⟩)) with
  | .nx U'=>forGo i body r U'
  | .ct U'=>forGo i body r U'
  | .bk U'=>.nx U'
  | .rt p=>.rt p
  | .er c U'=>.er c U'
  | .no=>.no) else .no
def sFor (i:Nat) (fi:FI) (body:FS):FS:=fun U=>match fi U with
 | .ok t U1=>if t.st then forGo i body t.ds U1 else .no
 | .er c U1=>.er c U1
 | .no=>.no
theorem EnvOk.rebase {H:Hp} {O:List Addr} (E:EnvOk K He O Fs H σ U):EnvOk K (hid H Fs.flatten) O Fs H σ U/\Same He (hid H Fs.flatten):=
 ⟨⟨E.len1,E.len2,hid_le,E.nd,E.inH,fun a ha=>by unfold hid;rw [if_pos ha],E.slot⟩,fun b o e=>hid_get (E.same b o e) fun z=>by have:=E.fresh b z;rw [e] at this;cases this⟩
theorem EnvOk.unbase {H:Hp} {O:List Addr} (E:EnvOk K He' O Fs H σ U) (s:Same He He'):EnvOk K He O Fs H σ U:=
 ⟨E.len1,E.len2,s.trans E.same,E.nd,E.inH,fun a ha=>s.free (E.fresh a ha),E.slot⟩
theorem RetOk.unbase {H:Hp} {O:List Addr} {p:PV} {v:V} (r:RetOk K He' O p v H G) (s:Same He He'):RetOk K He O p v H G:=
 ⟨s.trans r.same,fun a ha=>s.free (r.fresh a ha),r.inH,r.nd,r.own,r.nv⟩
theorem rd_for {i:Nat} {body:FS} (h:tS K W (sFor i fi body) D σ H):tFor (tI K W fi) (gName i) (tS K W body) D σ H:=by
 obtain ⟨He,O,Fs,U,E,h⟩:=h
 refine ⟨He,O,Fs,U,E,?_⟩
 unfold sFor at h
 cases e:fi U with
 | er c U1=>rw [e] at h;exact fun H' Fs' s E'=>h σ H' Fs' E'
 | no=>rw [e] at h;exact h
 | ok t U1=>
  rw [e] at h
  intro J H1 Fs1 vs P s1 E1 n1 it hP hP1 hst hr
  have h:WantsS K W He O D (if t.st then forGo i body t.ds U1 else .no):=h
  cases ht:t.st with
  | false=>rw [ht] at h;exact h.elim
  | true=>
   rw [ht] at h
   have h:WantsS K W He O D (forGo i body t.ds U1):=h
   obtain ⟨E1',sHe⟩:=E1.rebase
   have hlen:vs.length=t.ds.length:=hr.1
   refine ⟨fun k m σ' H'=>m=vs.length-k/\k<=vs.length/\∃Uk Fk,EnvOk K (hid H1 Fs1.flatten) O Fk H' σ' Uk/\WantsS K W He O D (forGo i body (t.ds.drop k) Uk),⟨vs.length,by simp,Nat.zero_le _,U1,Fs1,E1',by simpa using h⟩,?_⟩
   rintro k m σ' H' ⟨rfl,hk,Uk,Fk,Ek,hw⟩
   have hPk:P H':=hst ht H' Ek.same
   by_cases hlt:k<vs.length
   case neg=>
    left
    have hke:k=vs.length:=by omega
    have:t.ds.drop k=[]:=drop_eq_nil_of_le (by omega)
    rw [this] at hw
    exact ⟨by rw [hke];exact it.stop H' hPk,hw σ' H' Fk (Ek.unbase sHe)⟩
   case pos=>
    right
    have hv:vs[k]?=some vs[k]:=getElem?_eq_getElem hlt
    have hkd:k<t.ds.length:=by omega
    have hd:t.ds[k]?=some t.ds[k]:=getElem?_eq_getElem hkd
    have hdr:t.ds.drop k=t.ds[k]::t.ds.drop (k+1):=drop_eq_getElem_cons hkd
    rw [hdr] at hw
    generalize hdk:t.ds[k]=d at hd hw
    generalize hvk:vs[k]=v at hv
    obtain ⟨hgo,hyld⟩:=it.go k H' v hPk hv
    simp only [forGo] at hw
    by_cases hi:i<Uk.length
    case neg=>rw [if_neg hi] at hw;exact hw.elim
    rw [if_pos hi] at hw
    have rep:Rep K (hid H' (O++Fk.flatten)) v d:=by
     refine (hr.2 k v d hv hd).mono fun b o hb=>?_
     have hb1:hid H1 Fs1.flatten b=some o:=sub_hid b o hb
     have hbO:b∉O:=fun z=>by
      unfold hid at hb
      rw [if_pos (mem_append_left _ z)] at hb
      cases hb
     have hbF:b∉Fk.flatten:=fun z=>by
      have:=Ek.fresh b z
      rw [hb1] at this
      cases this
     exact hid_get (Ek.same b o hb1) fun z=>(List.mem_append.mp z).elim hbO hbF
    have Ep:EnvOk K (hid H1 Fs1.flatten) O (Fk.set i []) H' (σ'.set i (some v)) (Uk.set i (some ⟨.leaf,d⟩)):=
     EnvOk.put (G:=[]) (p:=⟨.leaf,d⟩) (v:=v) Ek (.leaf rep) rfl (fun a ha=>by simp at ha) hi
    refine ⟨hgo,fun σ2 H2=>∃Uk Fk,EnvOk K (hid H1 Fs1.flatten) O Fk H2 σ2 Uk/\WantsS K W He O D (forGo i body (t.ds.drop (k+1)) Uk),fun σ2 H2 q=>⟨vs.length-(k+1),by omega,rfl,hlt,q⟩,fun x Hx hx=>?_⟩
    obtain ⟨rfl,rfl⟩:=hyld x Hx hx
    show tS K W body _ (σ'.set i (some x)) Hx
    refine ⟨hid H1 Fs1.flatten,O,_,_,Ep,?_⟩
    cases eb:body (Uk.set i (some ⟨.leaf,d⟩)) with
    | nx U'=>rw [eb] at hw;exact fun σ2 H2 F2 E2=>⟨U',F2,E2,hw⟩
    | ct U'=>rw [eb] at hw;exact fun σ2 H2 F2 E2=>⟨U',F2,E2,hw⟩
    | bk U'=>rw [eb] at hw;exact fun σ2 H2 F2 E2=>hw σ2 H2 F2 (E2.unbase sHe)
    | rt p=>rw [eb] at hw;exact fun u H2 G r=>hw u H2 G (r.unbase sHe)
    | er c U'=>rw [eb] at hw;exact fun σ2 H2 F2 E2=>hw σ2 H2 F2 (E2.unbase sHe)
    | no=>rw [eb] at hw;exact hw
end
inductive Res where
 | ok (p:PV) | er (c:Str) | no
def spD (K:Fg) (n:Nat) (den:List PySem.PyData->Res):Sp:=fun vs H Q _=>vs.length=n/\∃O ds,O.Nodup/\(∀a∈O,H a≠none)/\Reps K (hid H O) vs ds/\match den ds with
 | .ok p=>∀v H' G,RetOk K H O p v H' G->Q v H'
 | .er _=>False
 | .no=>False
def startD (n:Nat) (ds:List PySem.PyData):Ev:=ds.map (fun d=>some ⟨.leaf,d⟩)++List.replicate (n-ds.length) none
def denOf (n:Nat) (g:FS) (ds:List PySem.PyData):Res:=match g (startD n ds) with
 | .nx _=>.ok ⟨.leaf,.none⟩
 | .rt p=>.ok p
 | .er c _=>.er c
 | _=>.no
section
variable {P:Program} {w:World} {K:Fg} {mg:Str->Option Value} {base:Heap}
theorem env_start {H:Hp} {O:List Addr} {ds:List PySem.PyData} (hn:vs.length<=N.length) (nd:O.Nodup) (inH:∀a∈O,H a≠none) (rs:Reps K (hid H O) vs ds) :
  EnvOk K H O (List.replicate N.length []) H (L2.start N vs) (startD N.length ds):=by
 have fl:(List.replicate N.length ([]:List Addr)).flatten=[]:=by simp
 have hl:=rs.1
 refine ⟨by simp [L2.start,startD,hl],by simp [startD];omega,Same.refl _,by rw [fl];simpa using nd,by rw [fl];simpa using inH,fun a ha=>by rw [fl] at ha;simp at ha,fun i p hp=>?_⟩
 unfold startD at hp
 by_cases hi:i<ds.length
 ·rw [getElem?_append_left (by simpa using hi),getElem?_map,getElem?_eq_getElem hi] at hp
  cases hp
  refine ⟨rfl,vs[i]'(by omega),[],?_,?_,?_⟩
  ·unfold L2.start
   rw [getElem?_append_left (by simp;omega),getElem?_map,getElem?_eq_getElem (by omega)]
   rfl
  ·rw [getElem?_replicate,if_pos (by omega)]
  ·refine .leaf ?_
   rw [fl,append_nil]
   exact rs.2 i _ _ (getElem?_eq_getElem _) (getElem?_eq_getElem hi)
 ·rw [getElem?_append_right (by simpa using hi),getElem?_replicate] at hp
  split at hp<;>cases hp
theorem fn_den {st:Stmt} {f:Addr} {k:Nat} {g:FS} (F:Fun K x qual st f fd) (S:FnScope N ps (defScope st))
  (hb:∀(cdv:Value) (A:Around) (outer:List Env) (s:Shared) (H:Hp) (E:XK),Room k (A.deeper (envOfC qual (defScope st) s.heap.objs.size f cdv)) ->
   PSs (cxOf CX0 P w K mg base N qual (defScope st) f cdv A outer s H E).nox (defBody st) (tS K W0 g)):FnOk P w K mg base CX0 (k+1) f fd ps (spD K ps.length (denOf N.length g)):=by
 have hpl:ps.length<=N.length:=by have:=congrArg List.length S.pre;rw [length_take] at this;omega
 refine F.ok S (fun vs H Q E h=>h.1) (fun cdv A outer s H vs Q E hr h=>⟨_,hb cdv A outer s H E hr,?_⟩)
 obtain ⟨hl,O,ds,nd,inH,rs,w⟩:=h
 refine ⟨H,O,List.replicate N.length [],startD N.length ds,env_start (by omega) nd inH rs,?_⟩
 unfold denOf at w
 cases e:g (startD N.length ds) with
 | nx U'=>
  rw [e] at w
  exact fun σ' H' Fs' E'=>w .non H' [] ⟨E'.same,(fun _ z=>nomatch z),(fun _ z=>nomatch z),nodup_nil,.leaf .non,rfl⟩
 | rt p=>rw [e] at w;exact w
 | bk U'=>rw [e] at w;exact w.elim
 | ct U'=>rw [e] at w;exact w.elim
 | er c U'=>rw [e] at w;exact w.elim
 | no=>rw [e] at w;exact w.elim
end
def eCall (n:Nat) (den:List PySem.PyData->Res) (fl:FL):F1:=fun U=>(fl U).bind fun ps U'=>if ps.length=n then (match den (ps.map (·.d)) with
 | .ok p=>if ps.all (T.coer .leaf) then .ok p U' else if scalD p.d then .ok ⟨.leaf,p.d⟩ U' else .ok ⟨.view,p.d⟩ U'
 | _=>.no) else .no
section
variable {K:Fg} {W:XW} {σ:St} {H:Hp} {Q:VK} {fl:FL}
theorem rd_call {n:Nat} {E:XK} (h:tE K W (eCall n den fl) σ H Q):tCall (spD K n den) [] E (tA K W fl) σ H Q:=by
 obtain ⟨He,O,Fs,U,E0,h⟩:=h
 refine ⟨He,O,Fs,U,E0,?_⟩
 unfold eCall at h
 cases e:fl U with
 | er c U'=>rw [e] at h;exact h
 | no=>rw [e] at h;exact h
 | ok ps U1=>
  rw [e] at h
  intro vs H1 Gs Fs1 A
  have h:Wants K W He O Fs H σ Q (if ps.length=n then (match den (ps.map (·.d)) with | .ok p=>if ps.all (T.coer .leaf) then .ok p U1 else if scalD p.d then .ok ⟨.leaf,p.d⟩ U1 else .ok ⟨.view,p.d⟩ U1 | _=>.no) else .no):=h
  by_cases hn:ps.length=n
  case neg=>rw [if_neg hn] at h;exact h.elim
  rw [if_pos hn] at h
  have hl:(vs++[]).length=n:=by rw [append_nil,A.len1];exact hn
  cases ed:den (ps.map (·.d)) with
  | er c=>rw [ed] at h;exact h.elim
  | no=>rw [ed] at h;exact h.elim
  | ok p=>
   rw [ed] at h
   have h:Wants K W He O Fs H σ Q (if ps.all (T.coer .leaf) then .ok p U1 else if scalD p.d then .ok ⟨.leaf,p.d⟩ U1 else .ok ⟨.view,p.d⟩ U1):=h
   obtain ⟨n1,n2,n3⟩:=List.nodup_append.mp A.env.nd
   obtain ⟨m1,m2,m3⟩:=List.nodup_append.mp n1
   have newF:∀a∈Fs1.flatten,a∈Fs.flatten\/H a=none:=fun a ha=>A.new a (mem_append_right _ ha)
   cases hc:ps.all (T.coer .leaf) with
   | true=>
    rw [hc] at h
    have h:Wants K W He O Fs H σ Q (.ok p U1):=h
    refine ⟨hl,O++Fs1.flatten,ps.map (·.d),A.env.dropL.nd,A.env.dropL.inH,?_,?_⟩
    ·rw [append_nil]
     refine ⟨A.reps.1,fun i v d h1 h2=>?_⟩
     rw [getElem?_map] at h2
     cases e2:ps[i]? with
     | none=>rw [e2] at h2;cases h2
     | some q=>
      rw [e2] at h2
      cases h2
      have hi:=(List.getElem?_eq_some_iff.mp e2).1
      have e3:Gs[i]?=some (Gs[i]'(by rw [A.len2];exact hi)):=getElem?_eq_getElem _
      have o:=A.own i v q _ h1 e2 e3
      have o2:=o.coer (s:=.leaf) (O':=O++Fs1.flatten) (List.all_eq_true.mp hc q (mem_of_getElem? e2)) sub3 fun a ha z=>by
       exfalso
       have hG:=mem_flat e3 ha
       rcases List.mem_append.mp z with y | y
       ·exact m3 a hG a y rfl
       ·exact n3 a (mem_append_left _ hG) a y rfl
      cases o2 with
      | leaf r=>exact r
    ·rw [ed]
     intro v H2 G r
     refine h v H2 G Fs1 ⟨A.same.trans r.same,A.env.dropL.hide r.same r.nd r.fresh r.inH,fun a ha=>?_,by rw [append_assoc];exact r.own⟩
     rcases List.mem_append.mp ha with z | z
     ·exact .inr (A.same.free (r.fresh a z))
     ·exact newF a z
   | false=>
    rw [hc] at h
    have h:Wants K W He O Fs H σ Q (if scalD p.d then .ok ⟨.leaf,p.d⟩ U1 else .ok ⟨.view,p.d⟩ U1):=h
    refine ⟨hl,[],ps.map (·.d),nodup_nil,(fun _ z=>nomatch z),by rw [append_nil,hid_nil];exact A.reps,?_⟩
    rw [ed]
    intro v H2 G r
    cases hs:scalD p.d with
    | true=>
     rw [hs] at h
     exact Wants.scal h (r.own.rep.sc hs) (A.same.trans r.same) (A.env.dropL.grow r.same) (fun a ha=>ha) E0.ndO newF
    | false=>
     rw [hs] at h
     have h:Wants K W He O Fs H σ Q (.ok ⟨.view,p.d⟩ U1):=h
     exact h v H2 [] Fs1 ⟨A.same.trans r.same,by simpa using A.env.dropL.grow r.same,by simpa using newF,.view r.own.rep⟩
end
theorem b_len:bootBuiltins "len"=some (.builtin "len"):=by decide +kernel
theorem b_all:bootBuiltins "all"=some (.builtin "all"):=by decide +kernel
theorem b_max:bootBuiltins "max"=some (.builtin "max"):=by decide +kernel
theorem b_sorted:bootBuiltins "sorted"=some (.builtin "sorted"):=by decide +kernel
theorem b_int:bootBuiltins "int"=some (.type "int"):=by decide +kernel
theorem b_list:bootBuiltins "list"=some (.type "list"):=by decide +kernel
theorem b_tuple:bootBuiltins "tuple"=some (.type "tuple"):=by decide +kernel
section
variable {X:Cx} {W:XW} {a b c e:Expr} {es:List Expr} {pos:Pos} {fa fb fc:F1} {fl:FL} {ga gb:FB} {g1 g2:FS}
theorem de_cmp {op:CmpOp} {r:R2} {g:PySem.PyData->PySem.PyData->Option PySem.PyData} (ho:OpR X (compareOp op) r) (hg:GOp X.K r g) (ha:PE X a (tE X.K W fa)) (hb:PE X b (tE X.K W fb)) (hm:behindInMarks op b=false:=by with_unfolding_all rfl) :
  PE X (.Compare a [op] [b] pos) (tE X.K W (eOp g fa fb)):=PEimp (pe_cmpR ho ha hb hm) fun _ _ _=>rd_op hg
theorem dt_cmp {op:CmpOp} {r:R2} {g:PySem.PyData->PySem.PyData->Option PySem.PyData} (ho:OpR X (compareOp op) r) (hg:GOp X.K r g) (ha:PE X a (tE X.K W fa)) (hb:PE X b (tE X.K W fb)) (hm:behindInMarks op b=false:=by with_unfolding_all rfl) :
  PT X (.Compare a [op] [b] pos) (tT X.K W (bOf gBool (eOp g fa fb))):=PTimp (pt_cmpR ho ha hb hm) fun σ H QB=>rd_test fun Q=>rd_op hg
theorem de_chain {op op':CmpOp} {r r':R2} {g g':PySem.PyData->PySem.PyData->Option PySem.PyData} (ho:OpR X (compareOp op) r) (hg:GOp X.K r g) (ho':OpR X (compareOp op') r') (hg':GOp X.K r' g') (ha:PE X a (tE X.K W fa)) (hb:PE X b (tE X.K W fb)) (hc:PE X c (tE X.K W fc))
  (hm:lastMarks [op,op'] [b,c]=false:=by with_unfolding_all rfl):PE X (.Compare a [op,op'] [b,c] pos) (tE X.K W (eChain g g' fa fb fc)):=PEimp (pe_chain ho ho' ha hb hc hm) fun _ _ _=>rd_chain hg hg'
theorem da_nil:PA X [] (tA X.K W eNil):=PAimp pa_nil fun _ _ _=>rd_nil
theorem da_cons (ha:PE X e (tE X.K W fa)) (hr:PA X es (tA X.K W fl)) (hs:starEach (e::es) X.env=(false,eval e X.env)::starEach es X.env:=by rfl):PA X (e::es) (tA X.K W (eCons fa fl)):=PAimp (pa_cons ha hr hs) fun _ _ _=>rd_cons
theorem de_bi {id:String} {r:List V->Hp->VK->Prop} {g:List PySem.PyData->Option PySem.PyData} {p:Pos} (hc:CallR X (.builtin id) r) (hg:GCall X.K r g) (hv:bootBuiltins x=some (.builtin id)) (hm:X.mg x=none) (ha:PA X (e::es) (tA X.K W fl)) (hG:Gl X x:=by rfl)
  (hn:x ≠ "__name__":=by decide) (hdb:(x==("__debug__":Str))=false:=by decide) (he:starEach (e::es) X.env=(false,eval e X.env)::starEach es X.env:=by rfl) (hpl:(backTo pos (starEach es X.env)).any (·.1)=false:=by rfl) :
  PE X (.Call (.Name x p) (e::es) [] pos) (tE X.K W (eCB g fl)):=PEimp (pe_callB hc hG hm hv ha hn hdb he hpl) fun _ _ _=>rd_cb hg
theorem de_ty {id:String} {r:List V->Hp->VK->Prop} {g:List PySem.PyData->Option PySem.PyData} {p:Pos} (hc:CallR X (.type id) r) (hg:GCall X.K r g) (hv:bootBuiltins x=some (.type id)) (hm:X.mg x=none) (ha:PA X (e::es) (tA X.K W fl)) (hG:Gl X x:=by rfl)
  (hn:x ≠ "__name__":=by decide) (hdb:(x==("__debug__":Str))=false:=by decide) (he:starEach (e::es) X.env=(false,eval e X.env)::starEach es X.env:=by rfl) (hpl:(backTo pos (starEach es X.env)).any (·.1)=false:=by rfl) :
  PE X (.Call (.Name x p) (e::es) [] pos) (tE X.K W (eCB g fl)):=PEimp (pe_callTy hc hG hm hv ha hn hdb he hpl) fun _ _ _=>rd_cb hg
theorem de_listOf {p:Pos} (hm:X.mg "list"=none) (ha:PE X e (tE X.K W fa)) (hG:Gl X "list":=by rfl) (hs:starEach [e] X.env=[(false,eval e X.env)]:=by rfl) :
  PE X (.Call (.Name "list" p) [e] [] pos) (tE X.K W (eListOf fa)):=PEimp (pe_callTy call_list_of hG hm b_list (da_cons ha da_nil hs) (by decide) (by decide) hs rfl) fun _ _ _=>rd_listOf
theorem de_call {f:Addr} {k n:Nat} {p:Pos} (F:FnOk X.prog X.w X.K X.mg X.base CX0 k f fd ps (spD X.K n den)) (hr:Room k X.A) (hm:X.mg x=some (.ref f)) (hk:PySem.W.keepIn X.K (.ref f)=true)
  (hb:Binds X.K fd ps []) (ha:PA X (e::es) (tA X.K W fl)) (hg:Gl X x:=by rfl) (hdb:(x==("__debug__":Str))=false:=by decide) (he:starEach (e::es) X.env=(false,eval e X.env)::starEach es X.env:=by rfl)
  (hpl:(backTo pos (starEach es X.env)).any (·.1)=false:=by rfl):PE X (.Call (.Name x p) (e::es) [] pos) (tE X.K W (eCall n den fl)):=PEimp (pe_call F hr hg hm hk hb .nil pass0 ha hdb he hpl) fun _ _ _=>rd_call
theorem di_r1 {p:Pos} (hm:X.mg "range"=none) (ha:PA X [a] (tA X.K W fl)) (hg:Gl X "range":=by rfl) (hs:starEach [a] X.env=[(false,eval a X.env)]:=by rfl):PI X tg (.Call (.Name "range" p) [a] [] pos) (tI X.K W (iR1 fl)):=PIimp (pi_range1 hg hm ha hs) fun _ _ _=>rd_iR1
theorem di_r2 {p:Pos} (hm:X.mg "range"=none) (ha:PA X [a,b] (tA X.K W fl)) (hg:Gl X "range":=by rfl) (hs:starEach [a,b] X.env=[(false,eval a X.env),(false,eval b X.env)]:=by rfl) (hs2:starEach [b] X.env=[(false,eval b X.env)]:=by rfl) :
  PI X tg (.Call (.Name "range" p) [a,b] [] pos) (tI X.K W (iR2 fl)):=PIimp (pi_range2 hg hm ha hs hs2) fun _ _ _=>rd_iR2
def bTrue:FB:=fun U=>.ok true U
theorem de_comp {fc:FB} (s:Sh) (i:Nat) (S:CompSc X.N [i] X.env.scope scope) (hN:X.N.Nodup) (hi':PI X (.Name x px) iter (tI X.K W fi))
  (hc:∀cells C s₀ H₀ ex,PF (blk X scope cells C s₀ H₀ ex) ifs (tT X.K W0 fc)) (he:∀cells C s₀ H₀ ex,PE (blk X scope cells C s₀ H₀ ex) elt (tE X.K W0 fe))
  (hcalm:X.calm=true:=by rfl) (hx:X.N[i]?=some x:=by rfl) (hl:∀cells C s₀ H₀ ex,Loc (blk X scope cells C s₀ H₀ ex).env.scope x:=by first | exact fun _ _ _ _ _=>Or.inl rfl | exact fun _ _ _ _ _=>Or.inr rfl)
  (hf:∀cells C s₀ H₀ ex,(blk X scope cells C s₀ H₀ ex).fn x=true\/(blk X scope cells C s₀ H₀ ex).env.scope.names.lookup x=some .local:=by first | exact fun _ _ _ _ _=>Or.inr rfl | exact fun _ _ _ _ _=>Or.inl rfl)
  (hs:∀x,foldedSetIterable iter X.env x=pure x:=by intro _;rfl):PE X (.ListComp elt [⟨.Name x px,iter,ifs,0⟩] scope pos) (tE X.K W (eComp s i fi fc fe)):=
 PEimp (pe_comp S hcalm hi' (fun cells C s₀ H₀ ex=>pg_name (X:=blk X scope cells C s₀ H₀ ex) (i:=i) hN hx (hl cells C s₀ H₀ ex) (hf cells C s₀ H₀ ex)) hc he hs) fun _ _ _=>rd_comp
theorem ds_set (own:Bool) (i:Nat) (hN:X.N.Nodup) (ha:PE X a (tE X.K W fa)) (hi:X.N[i]?=some x:=by rfl) (hx:Loc X.env.scope x:=by first | exact Or.inl rfl | exact Or.inr rfl) (hs:swapsWith a (some (.Name x pos')) pos.line X.env=pure false:=by rfl)
  (hf:X.fn x=true\/X.env.scope.names.lookup x=some .local:=by first | exact .inl rfl | exact .inr rfl):PS X (.Assign [.Name x pos'] a pos) (tS X.K W (sSet own i fa)):=PSimp (ps_set hN hi hx ha hs hf) fun _ _ _=>rd_set
theorem ds_setComp (own:Bool) (j:Nat) {spos:Pos} {fc:FB} (s:Sh) (i:Nat) (S:CompSc X.N [i] X.env.scope scope) (hN:X.N.Nodup) (hi':PI X (.Name x px) iter (tI X.K W fi))
  (hc:∀cells C s₀ H₀ ex,PF (blk X scope cells C s₀ H₀ ex) ifs (tT X.K W0 fc)) (he:∀cells C s₀ H₀ ex,PE (blk X scope cells C s₀ H₀ ex) elt (tE X.K W0 fe))
  (hsw:swapsWith (.ListComp elt [⟨.Name x px,iter,ifs,0⟩] scope pos) (some (.Name y pos')) spos.line X.env=pure true:=by rfl)
  (hy:X.N[j]?=some y:=by rfl) (hly:X.env.scope.names.lookup y=some .local:=by rfl)
  (hcalm:X.calm=true:=by rfl) (hx:X.N[i]?=some x:=by rfl) (hl:∀cells C s₀ H₀ ex,Loc (blk X scope cells C s₀ H₀ ex).env.scope x:=by first | exact fun _ _ _ _ _=>Or.inl rfl | exact fun _ _ _ _ _=>Or.inr rfl)
  (hf:∀cells C s₀ H₀ ex,(blk X scope cells C s₀ H₀ ex).fn x=true\/(blk X scope cells C s₀ H₀ ex).env.scope.names.lookup x=some .local:=by first | exact fun _ _ _ _ _=>Or.inr rfl | exact fun _ _ _ _ _=>Or.inl rfl)
  (hs:∀x,foldedSetIterable iter X.env x=pure x:=by intro _;rfl):PS X (.Assign [.Name y pos'] (.ListComp elt [⟨.Name x px,iter,ifs,0⟩] scope pos) spos) (tS X.K W (sSet own j (eComp s i fi fc fe))):=
 PSimp (ps_setComp hN hy hly S hcalm hi' (fun cells C s₀ H₀ ex=>pg_name (X:=blk X scope cells C s₀ H₀ ex) (i:=i) hN hx (hl cells C s₀ H₀ ex) (hf cells C s₀ H₀ ex)) hc he hsw hs) fun D σ H h=>by
  have h2:tAsg (tE X.K W (eComp s i fi fc fe)) (gName j) D σ H:=rd_set h
  exact rd_comp h2
theorem ds_append (i:Nat) {p:Pos} (ha:PE X a (tE X.K W fa)) (hN:X.N[i]?=some x:=by rfl) (hv:Vis X.env.scope x:=by first | exact Or.inl rfl | exact Or.inr (Or.inl rfl) | exact Or.inr (Or.inr rfl)) (hd:(x==("__debug__":Str))=false:=by decide)
  (hcd:(x==("__classdict__":Str))=false:=by decide) (hs:starEach [a] X.env=[(false,eval a X.env)]:=by rfl)
  (hbase:attributeBase (.Name x p) "append" X.env (eval (.Name x p) X.env)=eval (.Name x p) X.env:=by rfl) (hline:(apos.endLine==cpos.line)=true:=by rfl)
  (hfew:((backTo cpos (starEach [a] X.env)).all (fun x=>!x.1)&&(backToKw cpos (keywordEach [] X.env)).all (fun x=>x.1.isSome)
   && decide ([a].length+([]:List Keyword).length+(if ([]:List Keyword).isEmpty then 0 else 1)<30))=true:=by rfl)
  (hsw:swapsWith (.Call (.Attribute (.Name x p) "append" apos) [a] [] cpos) none pos.line X.env=pure false:=by rfl) :
  PS X (.Expr (.Call (.Attribute (.Name x p) "append" apos) [a] [] cpos) pos) (tS X.K W (sAppend i fa)):=
 PSimp (ps_expr (pe_bm PySem.F.plainAttrs_list PySem.F.slot_list_append PySem.F.type_list_append mt_append (pe_var hN hv hd hcd) (da_cons ha da_nil hs) hbase hfew hline hs rfl) hsw) fun _ _ _=>rd_append
theorem ds_for (i:Nat) {body:List Stmt} {g:FS} (hp:PassesOwn (model X.prog X.w) X.A X.env X.xe) (hN:X.N.Nodup) (hi':PI X (.Name x px) iter (tI X.K W fi)) (hb:PSs X body (tS X.K W g)) (hcalm:X.calm=true:=by rfl)
  (hx:X.N[i]?=some x:=by rfl) (hl:Loc X.env.scope x:=by first | exact Or.inl rfl | exact Or.inr rfl) (hf:X.fn x=true\/X.env.scope.names.lookup x=some .local:=by first | exact .inl rfl | exact .inr rfl)
  (hs:∀x,foldedSetIterable iter X.env x=pure x:=by intro _;rfl):PS X (.For (.Name x px) iter body [] pos) (tS X.K W (sFor i fi g)):=
 PSimp (ps_for hp hcalm hi' (pg_name hN hx hl hf) hb hs) fun _ _ _=>rd_for
end
structure Cp (X:Cx) (N gl:List Str) (vs cs ls lo gs:List Nat):Prop where
 hN:X.N=N
 nd:N.Nodup
 nm:∀x∈N,(x==("__debug__":Str))=false/\(x==("__classdict__":Str))=false
 ng:∀x∈gl,(x==("__debug__":Str))=false/\x ≠ "__name__"
 vis:∀(i:Nat) x,N[i]?=some x->vs.contains i=true->Vis X.env.scope x
 cel:∀(i:Nat) x,N[i]?=some x->cs.contains i=true->X.env.scope.names.lookup x=some .cell\/X.env.scope.names.lookup x=some .free
 loc:∀(i:Nat) x,N[i]?=some x->ls.contains i=true->Loc X.env.scope x/\(X.fn x=true\/X.env.scope.names.lookup x=some .local)
 loo:∀(i:Nat) x,N[i]?=some x->lo.contains i=true->X.env.scope.names.lookup x=some .local
 glb:∀(j:Nat) x,gl[j]?=some x->gs.contains j=true->Gl X x
 calm:X.calm=true
 kind:X.env.scope.kind=.function
def kindIn (sc:Scope) (ks:List NameKind) (o:Option Str):Bool:=match o with
 | some x=>(match sc.names.lookup x with
  | some k=>ks.any fun z=>decide (z=k)
  | none=>false)
 | none=>true
def cpB (N gl:List Str) (vs cs ls lo gs:List Nat) (sc:Scope):Bool:=
 decide (sc.kind=.function)&&(vs.all fun i=>kindIn sc [.local,.cell,.free] N[i]?)&&(cs.all fun i=>kindIn sc [.cell,.free] N[i]?)&&(ls.all fun i=>kindIn sc [.local,.cell] N[i]?)&&(lo.all fun i=>kindIn sc [.local] N[i]?)&&(gs.all fun j=>kindIn sc [.globalImplicit] gl[j]?)
def nmB (N gl:List Str):Bool:=decide N.Nodup&&(N.all fun x=>!(x==("__debug__":Str))&&!(x==("__classdict__":Str)))&&(gl.all fun x=>!(x==("__debug__":Str))&&!decide (x = "__name__"))
theorem kindIn_some {sc:Scope} {ks:List NameKind} (h:kindIn sc ks (some x)=true):∃k∈ks,sc.names.lookup x=some k:=by
 unfold kindIn at h
 simp only at h
 split at h
 ·rename_i k e
  simp only [any_eq_true,decide_eq_true_eq] at h
  obtain ⟨z,hz,rfl⟩:=h
  exact ⟨z,hz,e⟩
 ·cases h
theorem all_at {P:Nat->Bool} {l:List Nat} {i:Nat} (h:l.all P=true) (hi:l.contains i=true):P i=true:=by
 rw [all_eq_true] at h
 exact h i (by simpa using hi)
structure CpB (N gl:List Str) (vs cs ls lo gs:List Nat) (sc:Scope):Prop where
 kind:sc.kind=.function
 vis:∀(i:Nat) x,N[i]?=some x->vs.contains i=true->Vis sc x
 cel:∀(i:Nat) x,N[i]?=some x->cs.contains i=true->sc.names.lookup x=some .cell\/sc.names.lookup x=some .free
 loc:∀(i:Nat) x,N[i]?=some x->ls.contains i=true->Loc sc x
 loo:∀(i:Nat) x,N[i]?=some x->lo.contains i=true->sc.names.lookup x=some .local
 glb:∀(j:Nat) x,gl[j]?=some x->gs.contains j=true->sc.names.lookup x=some .globalImplicit
theorem cpB_ok {vs:List Nat} {sc:Scope} (h:cpB N gl vs cs ls lo gs sc=true):CpB N gl vs cs ls lo gs sc:=by
 unfold cpB at h
 simp only [Bool.and_eq_true,decide_eq_true_eq] at h
 obtain ⟨⟨⟨⟨⟨h0,h1⟩,h2⟩,h3⟩,h4⟩,h5⟩:=h
 refine ⟨h0,fun i x e hi=>?_,fun i x e hi=>?_,fun i x e hi=>?_,fun i x e hi=>?_,fun i x e hi=>?_⟩
 ·have q:=all_at h1 hi
  rw [e] at q
  obtain ⟨k,hk,q⟩:=kindIn_some q
  simp only [mem_cons,not_mem_nil,or_false] at hk
  rcases hk with rfl | rfl | rfl
  ·exact .inl q
  ·exact .inr (.inl q)
  ·exact .inr (.inr q)
 ·have q:=all_at h2 hi
  rw [e] at q
  obtain ⟨k,hk,q⟩:=kindIn_some q
  simp only [mem_cons,not_mem_nil,or_false] at hk
  rcases hk with rfl | rfl
  ·exact .inl q
  ·exact .inr q
 ·have q:=all_at h3 hi
  rw [e] at q
  obtain ⟨k,hk,q⟩:=kindIn_some q
  simp only [mem_cons,not_mem_nil,or_false] at hk
  rcases hk with rfl | rfl
  ·exact .inl q
  ·exact .inr q
 ·have q:=all_at h4 hi
  rw [e] at q
  obtain ⟨k,hk,q⟩:=kindIn_some q
  simp only [mem_cons,not_mem_nil,or_false] at hk
  rw [hk] at q
  exact q
 ·have q:=all_at h5 hi
  rw [e] at q
  obtain ⟨k,hk,q⟩:=kindIn_some q
  simp only [mem_cons,not_mem_nil,or_false] at hk
  rw [hk] at q
  exact q
theorem nmB_ok (h:nmB N gl=true):N.Nodup/\(∀x∈N,(x==("__debug__":Str))=false/\(x==("__classdict__":Str))=false)/\∀x∈gl,(x==("__debug__":Str))=false/\x ≠ "__name__":=by
 unfold nmB at h
 simp only [Bool.and_eq_true,decide_eq_true_eq,all_eq_true,Bool.not_eq_true',decide_eq_false_iff_not] at h
 exact ⟨h.1.1,h.1.2,h.2⟩
theorem Cp.fn {P:Program} {w:World} {base:Heap} {vs:List Nat} {sc:Scope} {f:Addr} {cd:Value} {outer:List Env} {s:Shared} {H:Hp} {E:XK}
  (h:cpB N gl vs cs ls lo gs sc=true) (h':nmB N gl=true):Cp (cxOf CX0 P w K mg base N qual sc f cd A outer s H E).nox N gl vs cs ls lo gs:=by
 obtain ⟨a,b,c⟩:=nmB_ok h'
 have q:=cpB_ok h
 exact ⟨rfl,a,b,c,q.vis,q.cel,fun i x e hi=>⟨q.loc i x e hi,.inl rfl⟩,q.loo,q.glb,rfl,q.kind⟩
theorem relab {env:Env} {x:Str} {k:NameKind}:∀{names:List (Str×NameKind)},names.lookup x=some k ->
  (names.map fun (n,k)=>if (k==NameKind.free&&env.scope.kind==.function&&env.kindOf n==some .cell) then (n,NameKind.cell) else (n,k)).lookup x=some k \/
  (k=.free/\(names.map fun (n,k)=>if (k==NameKind.free&&env.scope.kind==.function&&env.kindOf n==some .cell) then (n,NameKind.cell) else (n,k)).lookup x=some .cell)
 | [],h=>by simp at h
 | (n,k')::r,h=>by
  have ih:=@relab env x k r
  rw [map_cons]
  show List.lookup x ((if (k'==NameKind.free&&env.scope.kind==.function&&env.kindOf n==some .cell)=true then (n,NameKind.cell) else (n,k'))::_)=_\/_/\List.lookup x ((if (k'==NameKind.free&&env.scope.kind==.function&&env.kindOf n==some .cell)=true then (n,NameKind.cell) else (n,k'))::_)=_
  by_cases hc:(k'==NameKind.free&&env.scope.kind==.function&&env.kindOf n==some .cell)=true
  ·rw [if_pos hc]
   cases hx:x==n with
   | true=>
    simp only [lookup_cons,hx] at h ⊢
    cases h
    simp only [Bool.and_eq_true,beq_iff_eq] at hc
    exact .inr ⟨hc.1.1,trivial⟩
   | false=>
    simp only [lookup_cons,hx] at h ⊢
    exact ih h
  ·rw [if_neg hc]
   cases hx:x==n with
   | true=>
    simp only [lookup_cons,hx] at h ⊢
    cases h
    exact .inl rfl
   | false=>
    simp only [lookup_cons,hx] at h ⊢
    exact ih h
theorem relab' {k:NameKind} (h:scope.names.lookup x=some k):(relabel scope env).names.lookup x=some k\/(k=.free/\(relabel scope env).names.lookup x=some .cell):=relab h
theorem Cp.blk {X:Cx} {N gl:List Str} {vs cs ls lo gs vs' cs' ls' lo' gs':List Nat} {scope:Scope} (S:Cp X N gl vs cs ls lo gs) (h:cpB N gl vs' cs' ls' lo' gs' scope=true) (cells C s₀ H₀ ex) :
  Cp (blk X scope cells C s₀ H₀ ex) N gl vs' cs' ls' lo' gs':=by
 have q:=cpB_ok h
 refine ⟨S.hN,S.nd,S.nm,S.ng,fun i x e hi=>?_,fun i x e hi=>?_,fun i x e hi=>?_,fun i x e hi=>?_,fun i x e hi=>?_,S.calm,q.kind⟩
 ·show Vis (relabel scope X.env) x
  rcases q.vis i x e hi with z | z | z
  ·rcases relab' (env:=X.env) z with y | ⟨y,_⟩
   ·exact .inl y
   ·cases y
  ·rcases relab' (env:=X.env) z with y | ⟨y,_⟩
   ·exact .inr (.inl y)
   ·cases y
  ·rcases relab' (env:=X.env) z with y | ⟨_,y⟩
   ·exact .inr (.inr y)
   ·exact .inr (.inl y)
 ·show (relabel scope X.env).names.lookup x=some .cell\/(relabel scope X.env).names.lookup x=some .free
  rcases q.cel i x e hi with z | z
  ·rcases relab' (env:=X.env) z with y | ⟨y,_⟩
   ·exact .inl y
   ·cases y
  ·rcases relab' (env:=X.env) z with y | ⟨_,y⟩
   ·exact .inr y
   ·exact .inl y
 ·show Loc (relabel scope X.env) x/\((scope.names.any fun y=>y.1==x&&y.2==.cell)=true\/(relabel scope X.env).names.lookup x=some .local)
  rcases q.loc i x e hi with z | z
  ·rcases relab' (env:=X.env) z with y | ⟨y,_⟩
   ·exact ⟨.inl y,.inr y⟩
   ·cases y
  ·rcases relab' (env:=X.env) z with y | ⟨y,_⟩
   ·refine ⟨.inr y,.inl ?_⟩
    rw [any_eq_true]
    exact ⟨(x,.cell),lookup_mem z,by simp⟩
   ·cases y
 ·show (relabel scope X.env).names.lookup x=some .local
  rcases relab' (env:=X.env) (q.loo i x e hi) with y | ⟨y,_⟩
  ·exact y
  ·cases y
 ·show (relabel scope X.env).names.lookup x=some .globalImplicit
  rcases relab' (env:=X.env) (q.glb i x e hi) with y | ⟨y,_⟩
  ·exact y
  ·cases y
def compB (N:List Str) (i:Nat) (cs:List Nat) (sc:Scope):Bool:=
 decide (sc.kind=.function)&&(sc.names.all fun p=>!decide (p.2=.free)||cs.any fun j=>decide (N[j]?=some p.1)) &&
 ((List.range N.length).all fun j=>j==i||(sc.names.all fun p=>!decide (some p.1=N[j]?)||(!decide (p.2=.local)&&!decide (p.2=.cell)))) &&
 (sc.names.all fun p=>!decide (p.2=.local)||decide (sc.names.lookup p.1=some .local)) &&
 (sc.names.all fun p=>!decide (p.2=.free)||sc.names.all fun q=>!decide (q.1=p.1)||!decide (q.2=.cell))
theorem compB_ok {vs:List Nat} {i:Nat} (S:Cp X N gl vs cs ls lo gs) (h:compB N i cs scope=true):CompSc X.N [i] X.env.scope scope:=by
 unfold compB at h
 simp only [Bool.and_eq_true,decide_eq_true_eq,all_eq_true,Bool.or_eq_true,Bool.not_eq_true',decide_eq_false_iff_not,any_eq_true,mem_range,beq_iff_eq] at h
 obtain ⟨⟨⟨⟨h0,h1⟩,h2⟩,h3⟩,h4⟩:=h
 refine ⟨h0,fun n hn=>?_,fun j x e hj=>?_,fun x hx e=>?_,fun n hn hc=>?_⟩
 ·rcases h1 _ hn with z | ⟨j,hj,e⟩
  ·exact absurd rfl z
  ·exact S.cel j n e (by simpa using hj)
 ·rw [S.hN] at e
  rcases h2 j (List.getElem?_eq_some_iff.mp e).1 with z | z
  ·rw [z];exact List.mem_singleton.mpr rfl
  ·exfalso
   rcases hj with y | y
   ·rcases z _ y with w | w
    ·exact w e.symm
    ·exact w.1 rfl
   ·rcases z _ y with w | w
    ·exact w e.symm
    ·exact w.2 rfl
 ·rcases h3 x hx with z | z
  ·exact absurd e z
  ·exact z
 ·rcases h4 _ hn with z | z
  ·exact z rfl
  ·rcases z _ hc with w | w
   ·exact w rfl
   ·exact w rfl
structure Fx (X Y:Cx):Prop where
 prog:Y.prog=X.prog
 w:Y.w=X.w
 K:Y.K=X.K
 mg:Y.mg=X.mg
 base:Y.base=X.base
 A:Y.A=X.A
def Rm (X:Cx):Prop:=X.A.units+64<cLine
def Cal (X:Cx) (x:Str) (n:Nat) (den:List PySem.PyData->Res):Prop:=∃(k:Nat) (f:Addr) (fd:FuncData) (ps:List Str),FnOk X.prog X.w X.K X.mg X.base CX0 k f fd ps (spD X.K n den)/\Room k X.A/\X.mg x=some (.ref f)/\PySem.W.keepIn X.K (.ref f)=true/\Binds X.K fd ps []
def Con (X:Cx) (x:Str) (d:PySem.PyData):Prop:=∃u v,X.mg x=some u/\RelV v u/\∀H,Rep X.K H v d
section
variable {X Y:Cx} {x:Str} {m:Nat} {d:PySem.PyData}
theorem Fx.n (F:Fx X Y) (h:X.mg x=none):Y.mg x=none:=by rw [F.mg];exact h
end
section
variable {X:Cx} {N gl:List Str} {vs cs ls lo gs:List Nat} {W:XW} {a b c e:Expr} {es:List Expr} {pos p:Pos} {fa fb fc:F1} {fl:FL} {ga gb:FB} {g1 g2:FS}
theorem cv (S:Cp X N gl vs cs ls lo gs) (i:Nat) (hN:N[i]?=some x) (hv:vs.contains i=true):PE X (.Name x pos) (tE X.K W (eVar i)):=by
 have m:=S.nm x (mem_of_getElem? hN)
 exact de_var (pe_var (by rw [S.hN];exact hN) (S.vis i x hN hv) m.1 m.2)
theorem cm (S:Cp X N gl vs cs ls lo gs) (i:Nat) (hN:N[i]?=some x) (hv:vs.contains i=true):PE X (.Name x pos) (tE X.K W (eMove i)):=by
 have m:=S.nm x (mem_of_getElem? hN)
 exact de_move (pe_var (by rw [S.hN];exact hN) (S.vis i x hN hv) m.1 m.2)
theorem Cp.g (S:Cp X N gl vs cs ls lo gs) {j:Nat} (hj:gl[j]?=some x) (hg:gs.contains j=true):Gl X x/\(x==("__debug__":Str))=false/\x ≠ "__name__":=
 ⟨S.glb j x hj hg,S.ng x (mem_of_getElem? hj)⟩
def rLtA:R2:=fun x y H Q=>rI0 (fun i j=>.bl (decide (i<j))) x y H Q\/∃i j,x=.str i/\y=.str j/\Q (.bl (decide (i.cps.toList<j.cps.toList))) H
theorem ol_lt:OpR X (compareOp .Lt) rLtA:=op_lt.or op_lt_str
def gGeS:PySem.PyData->PySem.PyData->Option PySem.PyData
 | .str i,.str j=>some (.bool (!decide (i.cps.toList<j.cps.toList)))
 | _,_=>none
abbrev gGeA:PySem.PyData->PySem.PyData->Option PySem.PyData:=fun a b=>(gGe a b).or (gGeS a b)
def rGeA:R2:=fun x y H Q=>rI0 (fun i j=>.bl (decide (j<=i))) x y H Q\/∃i j,x=.str i/\y=.str j/\Q (.bl (!decide (i.cps.toList<j.cps.toList))) H
theorem op_ge_str:OpR X (compareOp .GtE) (fun x y H Q=>∃i j,x=.str i/\y=.str j/\Q (.bl (!decide (i.cps.toList<j.cps.toList))) H):=by
 intro pins s σ H x y v u Q I rx ry h
 obtain ⟨i,j,rfl,rfl,q⟩:=h
 obtain ⟨t,rfl⟩:=rx
 obtain ⟨t',rfl⟩:=ry
 exact PySem.P.ge_str (fin_bl I q rfl)
theorem ol_ge:OpR X (compareOp .GtE) rGeA:=op_ge.or op_ge_str
theorem gop_geS:GOp K (fun x y H Q=>∃i j,x=.str i/\y=.str j/\Q (.bl (!decide (i.cps.toList<j.cps.toList))) H) gGeS:=by
 intro x y H Q a b d ra rb e k
 cases ra<;>cases rb<;>simp only [gGeS] at e<;>try cases e
 rename_i i j
 exact ⟨i,j,rfl,rfl,k _ (.bl _)⟩
theorem gop_ge:GOp K rGeA gGeA:=(gop_I0 fun _ _=>.bl _).or gop_geS
structure Ck (X:Cx) (op:CmpOp) (r:R2) (g:PySem.PyData->PySem.PyData->Option PySem.PyData):Prop where
 o:OpR X (compareOp op) r
 g:GOp X.K r g
theorem q_lt (R:Rm X):Ck X .Lt rLtA gLt:=⟨ol_lt,gop_lt⟩
theorem q_le (R:Rm X):Ck X .LtE (rI0 fun i j=>.bl (decide (i<=j))) gLe:=⟨op_le,gop_I0 fun _ _=>.bl _⟩
theorem q_gt (R:Rm X):Ck X .Gt (rI0 fun i j=>.bl (decide (j<i))) gGt:=⟨op_gt,gop_I0 fun _ _=>.bl _⟩
theorem q_ge (R:Rm X):Ck X .GtE rGeA gGeA:=⟨ol_ge,gop_ge⟩
theorem q_eq (R:Rm X):Ck X .Eq (rEqD X.K false) gEq:=⟨op_eqD R,gop_eq⟩
theorem q_ne (R:Rm X):Ck X .NotEq (rEqD X.K true) gNe:=⟨op_neD R,gop_ne⟩
theorem q_in (R:Rm X):Ck X .In (rInD X.K false) (gIn false):=⟨op_inD R,gop_in⟩
theorem ct {op:CmpOp} {r:R2} {g:PySem.PyData->PySem.PyData->Option PySem.PyData} (k:Ck X op r g) (ha:PE X a (tE X.K W fa)) (hb:PE X b (tE X.K W fb)) (hm:behindInMarks op b=false):PT X (.Compare a [op] [b] pos) (tT X.K W (bOf gBool (eOp g fa fb))):=dt_cmp k.o k.g ha hb hm
abbrev Blk (X:Cx) (N gl:List Str) (vs cs ls lo gs:List Nat) (R:Cx->Prop):Prop:=∀Y:Cx,Cp Y N gl vs cs ls lo gs->Fx X Y->R Y
theorem co {fc:FB} {vs' cs' lo' gs':List Nat} (S:Cp X N gl vs cs ls lo gs) (s:Sh) (i:Nat) (hx:N[i]?=some x) (h1:compB N i cs scope=true) (h2:cpB N gl vs' cs' [i] lo' gs' scope=true)
  (hi':PI X (.Name x px) iter (tI X.K W fi)) (hc:Blk X N gl vs' cs' [i] lo' gs' fun Y=>PF Y ifs (tT Y.K W0 fc)) (he:Blk X N gl vs' cs' [i] lo' gs' fun Y=>PE Y elt (tE Y.K W0 fe)) (hs:∀x,foldedSetIterable iter X.env x=pure x) :
  PE X (.ListComp elt [⟨.Name x px,iter,ifs,0⟩] scope pos) (tE X.K W (eComp s i fi fc fe)):=by
 have B:=fun cells C s₀ H₀ ex=>S.blk h2 cells C s₀ H₀ ex
 have L:=fun cells C s₀ H₀ ex=>(B cells C s₀ H₀ ex).loc i x hx (by simp)
 exact de_comp (X:=X) s i (compB_ok S h1) (by rw [S.hN];exact S.nd) hi' (fun cells C s₀ H₀ ex=>hc _ (B cells C s₀ H₀ ex) ⟨rfl,rfl,rfl,rfl,rfl,rfl⟩) (fun cells C s₀ H₀ ex=>he _ (B cells C s₀ H₀ ex) ⟨rfl,rfl,rfl,rfl,rfl,rfl⟩)
  S.calm (by rw [S.hN];exact hx) (fun cells C s₀ H₀ ex=>(L cells C s₀ H₀ ex).1) (fun cells C s₀ H₀ ex=>(L cells C s₀ H₀ ex).2) hs
theorem swaps_true {gens:List Comprehension} {line:Nat} (hk:X.env.scope.kind=.function) (hy:X.env.scope.names.lookup y=some .local) (hl:(pos'.line==pos.line)=true)
  (hn:(scope.names.any fun (n,k)=>n==y&&(k==NameKind.local||k==NameKind.cell))=false):swapsWith (.ListComp elt gens scope pos) (some (.Name y pos')) line X.env=pure true:=by
 have e1:(X.env.blockKind==ScopeKind.function)=true:=by unfold Env.blockKind;rw [hk];rfl
 have e2:(X.env.kindOf y==some NameKind.local)=true:=by unfold Env.kindOf;rw [hy];rfl
 show (pure (X.env.blockKind==.function&&X.env.kindOf y==some .local&&pos'.line==pos.line&&!(scope.names.any fun (n,k)=>n==y&&(k==NameKind.local||k==NameKind.cell))):Sem Bool)=pure true
 rw [e1,e2,hl,hn]
 rfl
theorem cs_append (S:Cp X N gl vs cs ls lo gs) (i:Nat) (hi:N[i]?=some x) (hv:vs.contains i=true) (ha:PE X a (tE X.K W fa)) (hs:starEach [a] X.env=[(false,eval a X.env)])
  (hbase:attributeBase (.Name x p) "append" X.env (eval (.Name x p) X.env)=eval (.Name x p) X.env) (hline:(apos.endLine==cpos.line)=true)
  (hfew:((backTo cpos (starEach [a] X.env)).all (fun x=>!x.1)&&(backToKw cpos (keywordEach [] X.env)).all (fun x=>x.1.isSome)
   && decide ([a].length+([]:List Keyword).length+(if ([]:List Keyword).isEmpty then 0 else 1)<30))=true)
  (hsw:swapsWith (.Call (.Attribute (.Name x p) "append" apos) [a] [] cpos) none pos.line X.env=pure false) :
  PS X (.Expr (.Call (.Attribute (.Name x p) "append" apos) [a] [] cpos) pos) (tS X.K W (sAppend i fa)):=
 ds_append i ha (by rw [S.hN];exact hi) (S.vis i x hi hv) (S.nm x (mem_of_getElem? hi)).1 (S.nm x (mem_of_getElem? hi)).2 hs hbase hline hfew hsw
end
def eRep (fa fb:F1):F1:=eBind fa fun p=>eBind fb fun q=>fun U=>match p.s,p.d,q.d with
 | .lst .leaf,.list ds,.int k=>if inRng k&&decide (ds.length*k.toNat<=sizeLine) then .ok ⟨.lst .leaf,.list (List.replicate k.toNat ds).flatten⟩ U else .no
 | _,_,_=>.no
def isOwnLf:Option (Option PV)->Bool
 | some (some ⟨.lst .leaf,.list _⟩)=>true
 | _=>false
def sFrz (i:Nat) (g:FS):FS:=fun U=>match U[i]? with
 | some (some p)=>g (U.set i (some ⟨.leaf,p.d⟩))
 | _=>.no
section
variable {K:Fg} {W:XW} {σ:St} {H:Hp} {Q:VK} {D:Ends} {fa fb:F1} {fl:FL}
theorem flat_nils:∀{Fs:List (List Addr)},(∀F∈Fs,F=[])->Fs.flatten=[]
 | [],_=>rfl
 | F::r,h=>by rw [flatten_cons,h F mem_cons_self,flat_nils fun G hG=>h G (mem_cons_of_mem _ hG)];rfl
theorem Own.leaves {O:List Addr} {v:V} {ds:List PySem.PyData} (h:Own K O H (.lst .leaf) G v (.list ds)):∃l vs,v=.ref l/\G=[l]/\H l=some (.lst vs)/\vs.length=ds.length/\∀(j:Nat) u d,vs[j]?=some u->ds[j]?=some d->Rep K (hid H O) u d:=by
 cases h with
 | @lst _ l vs _ Fs hsv hp hl hf nd q=>
  have hF:∀F∈Fs,F=[]:=fun F hF=>by
   obtain ⟨j,hj,e⟩:=getElem_of_mem hF
   have o:=q j (vs[j]'(by omega)) (ds[j]'(by omega)) F (getElem?_eq_getElem _) (getElem?_eq_getElem _) (by rw [getElem?_eq_getElem hj,e])
   cases o
   rfl
  refine ⟨l,vs,rfl,by rw [flat_nils hF],hp,hl,fun j u d h1 h2=>?_⟩
  have hj:=(List.getElem?_eq_some_iff.mp h2).1
  have o:=q j u d (Fs[j]'(by omega)) h1 h2 (getElem?_eq_getElem _)
  generalize Fs[j]'(by omega)=F at o
  cases o with
  | leaf r=>exact r
theorem Own.mkLeaves {O:List Addr} {l:Addr} {ds:List PySem.PyData} (hp:H l=some (.lst vs)) (hl:vs.length=ds.length) (q:∀(j:Nat) u d,vs[j]?=some u->ds[j]?=some d->Rep K (hid H O) u d):Own K O H (.lst .leaf) [l] (.ref l) (.list ds):=by
 have hF:(List.replicate ds.length ([]:List Addr)).flatten=[]:=flat_nils fun F hF=>(List.mem_replicate.mp hF).2
 have o:Own K O H (.lst .leaf) (l::(List.replicate ds.length ([]:List Addr)).flatten) (.ref l) (.list ds):=by
  refine .lst rfl hp hl (by simp) (by rw [hF];simp) fun j u d F h1 h2 h3=>?_
  have:F=[]:=(List.mem_replicate.mp (mem_of_getElem? h3)).2
  subst this
  exact .leaf (q j u d h1 h2)
 rw [hF] at o
 exact o
theorem isOwnLf_eq (h:isOwnLf o=true):∃ds,o=some (some ⟨.lst .leaf,.list ds⟩):=by
 unfold isOwnLf at h
 split at h
 ·exact ⟨_,rfl⟩
 ·cases h
theorem rd_frz {i:Nat} {g:FS} (h:tS K W (sFrz i g) D σ H):tS K W g D σ H:=by
 obtain ⟨He,O,Fs,U,E,h⟩:=h
 unfold sFrz at h
 split at h
 ·rename_i p e0
  obtain ⟨hv,v,F,h1,E1,o1,sub⟩:=E.move e0
  have hi:i<U.length:=(List.getElem?_eq_some_iff.mp e0).1
  have c:T.coer .leaf p=true:=by show (!p.s.isView||scalD p.d)=true;rw [hv];rfl
  have o:=o1.coer (s:=.leaf) (O':=O++(Fs.set i []).flatten) c sub3 fun a ha z=>by
   exfalso
   have nd:=E1.nd
   rw [append_assoc] at nd
   exact (List.nodup_append.mp nd).2.2 a ha a z rfl
  have E2:EnvOk K He O ((Fs.set i []).set i []) H (σ.set i (some v)) ((U.set i none).set i (some ⟨.leaf,p.d⟩)):=
   EnvOk.put (G:=[]) (p:=⟨.leaf,p.d⟩) (v:=v) (by rw [nil_append];exact E1.dropL) (by rw [nil_append];exact o) rfl (fun a ha=>by simp at ha) (by rw [length_set];exact hi)
  rw [set_set,set_set,set_same h1] at E2
  exact ⟨He,O,_,_,E2,h⟩
 ·exact h.elim
end
section
variable {K:Fg} {W:XW} {σ:St} {H:Hp} {Q:VK} {D:Ends} {fa fb:F1} {fl:FL}
theorem flat_disj:∀{Gs:List (List Addr)} {i j:Nat} {A B:List Addr},Gs.flatten.Nodup->Gs[i]?=some A->Gs[j]?=some B->i≠j->∀a∈A,a∉B
 | G::Gs,0,j+1,A,B,nd,h1,h2,_,a,ha=>by
  rw [flatten_cons] at nd
  simp at h1 h2
  subst h1
  exact fun z=>(List.nodup_append.mp nd).2.2 a ha a (mem_flat h2 z) rfl
 | G::Gs,i+1,0,A,B,nd,h1,h2,_,a,ha=>by
  rw [flatten_cons] at nd
  simp at h1 h2
  subst h2
  exact fun z=>(List.nodup_append.mp nd).2.2 a z a (mem_flat h1 ha) rfl
 | G::Gs,i+1,j+1,A,B,nd,h1,h2,hij,a,ha=>by
  rw [flatten_cons] at nd
  exact flat_disj (Gs:=Gs) (i:=i) (j:=j) (List.nodup_append.mp nd).2.1 (by simpa using h1) (by simpa using h2) (by omega) a ha
 | G::Gs,0,0,A,B,_,_,_,h,_,_=>absurd rfl h
 | [],i,j,A,B,_,h1,_,_,_,_=>by simp at h1
end
section
variable {X:Cx}
variable {N gl:List Str} {vs cs ls lo gs:List Nat} {W:XW} {a b c e:Expr} {es:List Expr} {pos p:Pos} {fa fb fc:F1} {fl:FL} {g:FS}
end
def isStar:Expr->Bool
 | .Starred ..=>true
 | _=>false
theorem star_cons {e:Expr} (h:isStar e=false):starEach (e::es) env=(false,eval e env)::starEach es env:=by
 cases e<;>first | rfl | cases h
theorem star_one {a:Expr} (h:isStar a=false):starEach [a] env=[(false,eval a env)]:=star_cons h
theorem star_two {a b:Expr} (h:isStar a=false) (h2:isStar b=false):starEach [a,b] env=[(false,eval a env),(false,eval b env)]:=by rw [star_cons h,star_one h2]
def DefOk (P:Program) (w:World) (K:Fg) (mg:Str->Option Value) (base:Heap) (j:Nat) (x:Str) (n:Nat) (den:List PySem.PyData->Res):Prop:=
 ∃(f:Addr) (fd:FuncData) (ps:List Str),FnOk P w K mg base CX0 j f fd ps (spD K n den)/\mg x=some (.ref f)/\PySem.W.keepIn K (.ref f)=true/\Binds K fd ps []
def ConK (K:Fg) (mg:Str->Option Value) (x:Str) (d:PySem.PyData):Prop:=∃u v,mg x=some u/\RelV v u/\∀H,Rep K H v d
theorem DefOk.cal {j k n:Nat} (h:DefOk X.prog X.w X.K X.mg X.base j x n den) (hr:Room k X.A) (hj:decide (j<=k)=true):Cal X x n den:=by
 obtain ⟨f,fd,ps,F,a,b,c⟩:=h
 exact ⟨j,f,fd,ps,F,hr.mono (of_decide_eq_true hj),a,b,c⟩
def toV:PySem.PyData->V
 | .none=>.non
 | .bool b=>.bl b
 | .int i=>.int i
 | .str x=>.str x
 | _=>.non
def chkV:List Value->List PySem.PyData->Bool
 | .int i _::r,.int j::ds=>decide (i=j)&&chkV r ds
 | .str x _::r,.str y::ds=>decide (x=y)&&chkV r ds
 | [],[]=>true
 | _,_=>false
theorem chkV_ok:∀{us:List Value} {ds:List PySem.PyData},chkV us ds=true->Vals (ds.map toV) us/\∀d∈ds,Sc (toV d) d
 | [],[],_=>⟨.nil,fun d hd=>(nomatch hd)⟩
 | .int i t::r,.int j::ds,h=>by
  simp only [chkV,Bool.and_eq_true,decide_eq_true_eq] at h
  obtain ⟨rfl,h⟩:=h
  obtain ⟨a,b⟩:=chkV_ok h
  refine ⟨.cons ⟨t,rfl⟩ a,fun d hd=>?_⟩
  rcases List.mem_cons.mp hd with z | z
  ·rw [z];exact .int i
  ·exact b d z
 | .str i t::r,.str j::ds,h=>by
  simp only [chkV,Bool.and_eq_true,decide_eq_true_eq] at h
  obtain ⟨rfl,h⟩:=h
  obtain ⟨a,b⟩:=chkV_ok h
  refine ⟨.cons ⟨t,rfl⟩ a,fun d hd=>?_⟩
  rcases List.mem_cons.mp hd with z | z
  ·rw [z];exact .str i
  ·exact b d z
def chkT (its:Array Value) (ds:List PySem.PyData):Bool:=decide (its.size<=sizeLine)&&chkV its.toList ds
theorem con_tup {dd:Option Addr} {its:Array Value} {n:Nat} {sl:Array (Option Value)} {ds:List PySem.PyData} (hm:mg x=some (.ref a)) (l:K.lookup a=some ⟨.type "tuple",dd,.seq its n,sl⟩) (h:chkT its ds=true):ConK K mg x (.tuple ds):=by
 unfold chkT at h
 simp only [Bool.and_eq_true,decide_eq_true_eq] at h
 obtain ⟨v,s⟩:=chkV_ok h.2
 refine ⟨.ref a,.ref a,hm,rfl,fun H=>.tup (vs:=ds.map toV) (.inr ⟨_,its,n,l,rfl,rfl,h.1,v⟩) (by simp) fun i v d h1 h2=>?_⟩
 rw [getElem?_map,h2] at h1
 cases h1
 exact (s d (mem_of_getElem? h2)).rep
theorem con_int {i:Int} {t:Tok} (hm:mg x=some (.int i t)):ConK K mg x (.int i):=⟨.int i t,.int i,hm,⟨t,rfl⟩,fun H=>.int i⟩
theorem law_sp {m:List PySem.PyData->Res} {H:Hp} {ns:List Int} {E:XK} (h:m [.list (ns.map .int)]=.ok ⟨.leaf,.bool true⟩) (hS:SqL K H a (ns.map V.int)):spD K 1 m [.ref a] H (fun v _=>v=.bl true) E:=by
 refine ⟨rfl,[],[.list (ns.map .int)],nodup_nil,(fun _ z=>nomatch z),⟨rfl,fun i v d h1 h2=>?_⟩,?_⟩
 ·rw [hid_nil]
  match i,h1,h2 with
  | 0,h1,h2=>
   cases h1
   cases h2
   refine .lst hS (by simp) fun i v d h1 h2=>?_
   rw [getElem?_map] at h1 h2
   cases e:ns[i]? with
   | none=>rw [e] at h1;cases h1
   | some z=>
    rw [e] at h1 h2
    cases h1
    cases h2
    exact .int z
  | i+1,h1,h2=>simp at h1
 ·rw [h]
  intro v H' G r
  have o:=r.own.rep
  cases o
  rfl
end T
namespace TQ
open PySem PySem.Spec L2 T
open PyProof.Rows hiding St
variable {x:Str} {scope:Scope} {px pos':Pos} {iter elt tg:Expr} {ifs:List Expr} {fi:FI} {fe:F1} {vs' cs' lo' gs':List Nat}
structure Q (p:Prop):Prop where
 p:p
section
variable {X:Cx} {N gl:List Str} {vs cs ls lo gs:List Nat} {W:XW} {a b c e:Expr} {es:List Expr} {pos p:Pos} {fa fb fc:F1} {fl:FL} {ga gb:FB} {g1 g2 g:FS}
theorem w_cv (S:Cp X N gl vs cs ls lo gs) (i:Nat) (hN:N[i]?=some x) (hv:vs.contains i=true):Q (PE X (.Name x pos) (tE X.K W (eVar i))):=⟨T.cv S i hN hv⟩
theorem w_cm (S:Cp X N gl vs cs ls lo gs) (i:Nat) (hN:N[i]?=some x) (hv:vs.contains i=true):Q (PE X (.Name x pos) (tE X.K W (eMove i))):=⟨T.cm S i hN hv⟩
theorem w_ck (S:Cp X N gl vs cs ls lo gs) (j:Nat) {d:PySem.PyData} (hj:gl[j]?=some x) (hg:gs.contains j=true) (h:Con X x d):Q (PE X (.Name x pos) (tE X.K W (eK d))):=⟨by
 obtain ⟨u,v,h1,h2,h3⟩:=h
 have q:=S.g hj hg
 exact de_glob q.1 h1 h2 h3 q.2.1⟩
theorem w_de_int {j:Int} {k pos}:Q (PE X (.Constant (.int j) k pos) (tE X.K W (eK (.int j)))):=⟨PEimp pe_int fun _ _ _=>rd_k fun _=>.int j⟩
theorem w_de_bool {j:Bool} {k pos}:Q (PE X (.Constant (.bool j) k pos) (tE X.K W (eK (.bool j)))):=⟨PEimp pe_bl fun _ _ _=>rd_k fun _=>.bl j⟩
theorem w_de_str {j:Str} {k pos}:Q (PE X (.Constant (.str j) k pos) (tE X.K W (eK (.str j)))):=⟨PEimp pe_str fun _ _ _=>rd_k fun _=>.str j⟩
theorem w_de_addI (ha:Q (PE X a (tE X.K W fa))) (hb:Q (PE X b (tE X.K W fb))):Q (PE X (.BinOp a .Add b pos) (tE X.K W (eOp gAddI fa fb))):=⟨have ha:=ha.p;have hb:=hb.p;PEimp (pe_op op_add ha hb) fun _ _ _=>rd_op (gop_I0 fun _ _=>.int _)⟩
theorem w_de_sub (ha:Q (PE X a (tE X.K W fa))) (hb:Q (PE X b (tE X.K W fb))):Q (PE X (.BinOp a .Sub b pos) (tE X.K W (eOp gSub fa fb))):=⟨have ha:=ha.p;have hb:=hb.p;PEimp (pe_op op_sub ha hb) fun _ _ _=>rd_op (gop_I0 fun _ _=>.int _)⟩
theorem w_de_mul (ha:Q (PE X a (tE X.K W fa))) (hb:Q (PE X b (tE X.K W fb))):Q (PE X (.BinOp a .Mult b pos) (tE X.K W (eOp gMul fa fb))):=⟨have ha:=ha.p;have hb:=hb.p;PEimp (pe_op op_mul ha hb) fun _ _ _=>rd_op (gop_I (fun i j h=>by
 simp only [cMul,Bool.or_eq_true,Bool.and_eq_true,decide_eq_true_eq] at h
 exact h) fun _ _=>.int _)⟩
theorem w_de_div (ha:Q (PE X a (tE X.K W fa))) (hb:Q (PE X b (tE X.K W fb))):Q (PE X (.BinOp a .FloorDiv b pos) (tE X.K W (eOp gDiv fa fb))):=⟨have ha:=ha.p;have hb:=hb.p;PEimp (pe_op op_fdiv ha hb) fun _ _ _=>rd_op (gop_I (fun i j h=>by
 simp only [cDiv,Bool.and_eq_true,decide_eq_true_eq] at h
 exact h) fun _ _=>.int _)⟩
theorem w_de_mod (ha:Q (PE X a (tE X.K W fa))) (hb:Q (PE X b (tE X.K W fb))):Q (PE X (.BinOp a .Mod b pos) (tE X.K W (eOp gMod fa fb))):=⟨have ha:=ha.p;have hb:=hb.p;PEimp (pe_op op_mod ha hb) fun _ _ _=>rd_op (gop_I (fun i j h=>by
 simp only [cMod,decide_eq_true_eq] at h
 exact h) fun _ _=>.int _)⟩
theorem w_de_pow (ha:Q (PE X a (tE X.K W fa))) (hb:Q (PE X b (tE X.K W fb))):Q (PE X (.BinOp a .Pow b pos) (tE X.K W (eOp gPow fa fb))):=⟨have ha:=ha.p;have hb:=hb.p;PEimp (pe_op op_pow ha hb) fun _ _ _=>rd_op (gop_I (fun i j h=>by
 simp only [cPow,Bool.and_eq_true,decide_eq_true_eq] at h
 exact ⟨h.1.1,h.1.2,h.2⟩) fun _ _=>.int _)⟩
theorem w_ce {op:CmpOp} {r:R2} {g:PySem.PyData->PySem.PyData->Option PySem.PyData} (k:Ck X op r g) (ha:Q (PE X a (tE X.K W fa))) (hb:Q (PE X b (tE X.K W fb))) (hm:behindInMarks op b=false):Q (PE X (.Compare a [op] [b] pos) (tE X.K W (eOp g fa fb))):=⟨have ha:=ha.p;have hb:=hb.p;de_cmp k.o k.g ha hb hm⟩
theorem w_ce2 {op op':CmpOp} {r r':R2} {g g':PySem.PyData->PySem.PyData->Option PySem.PyData} (k:Ck X op r g) (k':Ck X op' r' g') (ha:Q (PE X a (tE X.K W fa))) (hb:Q (PE X b (tE X.K W fb))) (hc:Q (PE X c (tE X.K W fc))) (hm:lastMarks [op,op'] [b,c]=false):Q (PE X (.Compare a [op,op'] [b,c] pos) (tE X.K W (eChain g g' fa fb fc))):=⟨have ha:=ha.p;have hb:=hb.p;have hc:=hc.p;de_chain k.o k.g k'.o k'.g ha hb hc hm⟩
theorem w_pe_one {op} (h:Q (PE X a (tE X.K W fa))):Q (PE X (.BoolOp op [a] pos) (tE X.K W fa)):=⟨L2.pe_one h.p⟩
theorem w_de_and (ha:Q (PE X a (tE X.K W fa))) (hb:Q (PE X (.BoolOp .And (b::es) pos) (tE X.K W fb))):Q (PE X (.BoolOp .And (a::b::es) pos) (tE X.K W (eAnd fa fb))):=⟨have ha:=ha.p;have hb:=hb.p;PEimp (pe_and ha hb) fun _ _ _=>rd_and⟩
theorem w_de_if (hc:Q (PT X c (tT X.K W ga))) (ha:Q (PE X a (tE X.K W fa))) (hb:Q (PE X b (tE X.K W fb))):Q (PE X (.IfExp c a b pos) (tE X.K W (eIf ga fa fb))):=⟨have hc:=hc.p;have ha:=ha.p;have hb:=hb.p;PEimp (pe_ifExp hc ha hb) fun _ _ _=>rd_if⟩
theorem w_de_idx (ha:Q (PE X a (tE X.K W fa))) (hb:Q (PE X b (tE X.K W fb))) (hs:PlainIx b):Q (PE X (.Subscript a b pos) (tE X.K W (eIdx fa fb))):=⟨have ha:=ha.p;have hb:=hb.p;PEimp (pe_ix ix_seq ha hb hs) fun _ _ _=>rd_idx⟩
theorem w_de_list (s:Sh) (h:Q (PA X es (tA X.K W fl))):Q (PE X (.List es pos) (tE X.K W (eList s fl))):=⟨have h:=h.p;PEimp (pe_lst h) fun _ _ _=>rd_list⟩
theorem w_de_tup {x1} (h:Q (PA X es (tA X.K W fl))):Q (PE X (.Tuple es x1 pos) (tE X.K W (eTup fl))):=⟨have h:=h.p;PEimp (pe_tup h) fun _ _ _=>rd_tup⟩
theorem w_da_nil :Q (PA X [] (tA X.K W eNil)):=⟨T.da_nil ⟩
theorem w_da_cons (ha:Q (PE X e (tE X.K W fa))) (hr:Q (PA X es (tA X.K W fl))) (hs:starEach (e::es) X.env=(false,eval e X.env)::starEach es X.env):Q (PA X (e::es) (tA X.K W (eCons fa fl))):=⟨T.da_cons ha.p hr.p hs⟩
theorem w_co {fc:FB} (S:Cp X N gl vs cs ls lo gs) (s:Sh) (i:Nat) (hx:N[i]?=some x) (h1:compB N i cs scope=true) (h2:cpB N gl vs' cs' [i] lo' gs' scope=true) (hi':Q (PI X (.Name x px) iter (tI X.K W fi))) (hc:Blk X N gl vs' cs' [i] lo' gs' fun Y=>Q (PF Y ifs (tT Y.K W0 fc))) (he:Blk X N gl vs' cs' [i] lo' gs' fun Y=>Q (PE Y elt (tE Y.K W0 fe))) (hs:∀x,foldedSetIterable iter X.env x=pure x):Q (PE X (.ListComp elt [⟨.Name x px,iter,ifs,0⟩] scope pos) (tE X.K W (eComp s i fi fc fe))):=⟨T.co S s i hx h1 h2 hi'.p (fun Y S F=>(hc Y S F).p) (fun Y S F=>(he Y S F).p) hs⟩
theorem w_cs_setComp {y:Str} {spos:Pos} {fc:FB} (S:Cp X N gl vs cs ls lo gs) (own:Bool) (j:Nat) (s:Sh) (i:Nat) (hy:N[j]?=some y) (hyl:lo.contains j=true) (hx:N[i]?=some x) (hsl:(pos'.line==pos.line)=true) (hsn:(scope.names.any fun (n,k)=>n==y&&(k==NameKind.local||k==NameKind.cell))=false) (h1:compB N i cs scope=true) (h2:cpB N gl vs' cs' [i] lo' gs' scope=true) (hi':Q (PI X (.Name x px) iter (tI X.K W fi))) (hc:Blk X N gl vs' cs' [i] lo' gs' fun Y=>Q (PF Y ifs (tT Y.K W0 fc))) (he:Blk X N gl vs' cs' [i] lo' gs' fun Y=>Q (PE Y elt (tE Y.K W0 fe))) (hs:∀x,foldedSetIterable iter X.env x=pure x):Q (PS X (.Assign [.Name y pos'] (.ListComp elt [⟨.Name x px,iter,ifs,0⟩] scope pos) spos) (tS X.K W (sSet own j (eComp s i fi fc fe)))):=⟨by
 have hi':=hi'.p
 have hc:=fun Y S F=>(hc Y S F).p
 have he:=fun Y S F=>(he Y S F).p
 have B:=fun cells C s₀ H₀ ex=>S.blk h2 cells C s₀ H₀ ex
 have L:=fun cells C s₀ H₀ ex=>(B cells C s₀ H₀ ex).loc i x hx (by simp)
 exact ds_setComp (X:=X) own j s i (compB_ok S h1) (by rw [S.hN];exact S.nd) hi' (fun cells C s₀ H₀ ex=>hc _ (B cells C s₀ H₀ ex) ⟨rfl,rfl,rfl,rfl,rfl,rfl⟩) (fun cells C s₀ H₀ ex=>he _ (B cells C s₀ H₀ ex) ⟨rfl,rfl,rfl,rfl,rfl,rfl⟩)
  (swaps_true S.kind (S.loo j y hy hyl) hsl hsn) (by rw [S.hN];exact hy) (S.loo j y hy hyl) S.calm (by rw [S.hN];exact hx) (fun cells C s₀ H₀ ex=>(L cells C s₀ H₀ ex).1) (fun cells C s₀ H₀ ex=>(L cells C s₀ H₀ ex).2) hs⟩
theorem w_cb_len (S:Cp X N gl vs cs ls lo gs) (j:Nat) (hj:gl[j]?=some ("len":Str)) (hg:gs.contains j=true) (hm:X.mg "len"=none) (ha:Q (PA X (e::es) (tA X.K W fl))) (he:starEach (e::es) X.env=(false,eval e X.env)::starEach es X.env) (hpl:(backTo pos (starEach es X.env)).any (·.1)=false):Q (PE X (.Call (.Name "len" p) (e::es) [] pos) (tE X.K W (eCB gLen fl))):=⟨have ha:=ha.p;de_bi (call_len_seq.or call_len_str) gc_len b_len hm ha (S.g hj hg).1 (S.g hj hg).2.2 (S.g hj hg).2.1 he hpl⟩
theorem w_cb_all (S:Cp X N gl vs cs ls lo gs) (j:Nat) (hj:gl[j]?=some ("all":Str)) (hg:gs.contains j=true) (hm:X.mg "all"=none) (ha:Q (PA X (e::es) (tA X.K W fl))) (he:starEach (e::es) X.env=(false,eval e X.env)::starEach es X.env) (hpl:(backTo pos (starEach es X.env)).any (·.1)=false):Q (PE X (.Call (.Name "all" p) (e::es) [] pos) (tE X.K W (eCB (gAll false) fl))):=⟨have ha:=ha.p;de_bi (call_allD S.calm) gc_all b_all hm ha (S.g hj hg).1 (S.g hj hg).2.2 (S.g hj hg).2.1 he hpl⟩
theorem w_cb_int (S:Cp X N gl vs cs ls lo gs) (j:Nat) (hj:gl[j]?=some ("int":Str)) (hg:gs.contains j=true) (hm:X.mg "int"=none) (ha:Q (PA X (e::es) (tA X.K W fl))) (he:starEach (e::es) X.env=(false,eval e X.env)::starEach es X.env) (hpl:(backTo pos (starEach es X.env)).any (·.1)=false):Q (PE X (.Call (.Name "int" p) (e::es) [] pos) (tE X.K W (eCB gInt fl))):=⟨have ha:=ha.p;de_ty call_int1 gc_int b_int hm ha (S.g hj hg).1 (S.g hj hg).2.2 (S.g hj hg).2.1 he hpl⟩
theorem w_cb_list (S:Cp X N gl vs cs ls lo gs) (j:Nat) (hj:gl[j]?=some ("list":Str)) (hg:gs.contains j=true) (hm:X.mg "list"=none) (ha:Q (PE X e (tE X.K W fa))) (hs:starEach [e] X.env=[(false,eval e X.env)]):Q (PE X (.Call (.Name "list" p) [e] [] pos) (tE X.K W (eListOf fa))):=⟨have ha:=ha.p;de_listOf hm ha (S.g hj hg).1 hs⟩
theorem w_cc {n:Nat} {den:List PySem.PyData->Res} (S:Cp X N gl vs cs ls lo gs) (j:Nat) (hj:gl[j]?=some x) (hg:gs.contains j=true) (C:Cal X x n den) (ha:Q (PA X (e::es) (tA X.K W fl))) (he:starEach (e::es) X.env=(false,eval e X.env)::starEach es X.env) (hpl:(backTo pos (starEach es X.env)).any (·.1)=false):Q (PE X (.Call (.Name x p) (e::es) [] pos) (tE X.K W (eCall n den fl))):=⟨by
 have ha:=ha.p
 obtain ⟨k,f,fd,ps,F,hr,hm,hk,hb⟩:=C
 exact de_call F hr hm hk hb ha (S.g hj hg).1 (S.g hj hg).2.1 he hpl⟩
theorem w_cr1 (S:Cp X N gl vs cs ls lo gs) (j:Nat) (hj:gl[j]?=some ("range":Str)) (hg:gs.contains j=true) (hm:X.mg "range"=none) (ha:Q (PA X [a] (tA X.K W fl))) (hs:starEach [a] X.env=[(false,eval a X.env)]):Q (PI X tg (.Call (.Name "range" p) [a] [] pos) (tI X.K W (iR1 fl))):=⟨have ha:=ha.p;di_r1 hm ha (S.g hj hg).1 hs⟩
theorem w_cr2 (S:Cp X N gl vs cs ls lo gs) (j:Nat) (hj:gl[j]?=some ("range":Str)) (hg:gs.contains j=true) (hm:X.mg "range"=none) (ha:Q (PA X [a,b] (tA X.K W fl))) (hs:starEach [a,b] X.env=[(false,eval a X.env),(false,eval b X.env)]) (hs2:starEach [b] X.env=[(false,eval b X.env)]):Q (PI X tg (.Call (.Name "range" p) [a,b] [] pos) (tI X.K W (iR2 fl))):=⟨have ha:=ha.p;di_r2 hm ha (S.g hj hg).1 hs hs2⟩
theorem w_di_seq (ha:Q (PE X a (tE X.K W fa))):Q (PI X tg a (tI X.K W (iSeq fa))):=⟨have ha:=ha.p;PIimp (pi_list ha) fun _ _ _=>rd_iSeq⟩
theorem w_ct {op:CmpOp} {r:R2} {g:PySem.PyData->PySem.PyData->Option PySem.PyData} (k:Ck X op r g) (ha:Q (PE X a (tE X.K W fa))) (hb:Q (PE X b (tE X.K W fb))) (hm:behindInMarks op b=false):Q (PT X (.Compare a [op] [b] pos) (tT X.K W (bOf gBool (eOp g fa fb)))):=⟨T.ct k ha.p hb.p hm⟩
theorem w_dt_not (ha:Q (PT X a (tT X.K W ga))):Q (PT X (.UnaryOp .Not a pos) (tT X.K W (bNot ga))):=⟨have ha:=ha.p;PTimp (pt_not ha) fun _ _ _=>rd_bNot⟩
theorem w_dw_or1 (ha:Q (PT X a (tT X.K W ga))):Q (PW X (.BoolOp .Or [a] pos) (tT X.K W ga)):=⟨have ha:=ha.p;pw_or1 ha⟩
theorem w_dw_or (ha:Q (PT X a (tT X.K W ga))) (hb:Q (PW X (.BoolOp .Or (b::es) pos) (tT X.K W gb))):Q (PW X (.BoolOp .Or (a::b::es) pos) (tT X.K W (bOr ga gb))):=⟨have ha:=ha.p;have hb:=hb.p;PWimp (pw_or ha hb) fun _ _ _=>rd_bOr⟩
theorem w_pw_pt (h:Q (PW X a (tT X.K W ga))):Q (PT X a (tT X.K W ga)):=⟨L2.PW.pt h.p⟩
theorem w_dt_tru (ha:Q (PE X a (tE X.K W fa))) (he:∀whole,isTrue a X.env whole=(do let v <-whole;standAt a.pos;holding [v] (truthy v))):Q (PT X a (tT X.K W (bOf gTru fa))):=⟨have ha:=ha.p;PTimp (pt_truth ha he) fun _ _ _=>rd_tru⟩
theorem w_ds_nil :Q (PSs X [] (tS X.K W sNext)):=⟨PSsimp pss_nil fun _ _ _=>rd_next⟩
theorem w_ds_one {st:Stmt} (h1:Q (PS X st (tS X.K W g1))):Q (PSs X [st] (tS X.K W g1)):=⟨have h1:=h1.p;pss_one h1⟩
theorem w_ds_cons {st:Stmt} {rest:List Stmt} (h1:Q (PS X st (tS X.K W g1))) (h2:Q (PSs X rest (tS X.K W g2))):Q (PSs X (st::rest) (tS X.K W (sSeq g1 g2))):=⟨have h1:=h1.p;have h2:=h2.p;PSsimp (pss_cons h1 h2) fun _ _ _=>rd_seq⟩
theorem w_cs_frz (i:Nat) {sts:List Stmt} (h:Q (PSs X sts (tS X.K W g))):Q (PSs X sts (tS X.K W (sFrz i g))):=⟨have h:=h.p;PSsimp h fun _ _ _=>rd_frz⟩
theorem w_ds_ret (ha:Q (PE X a (tE X.K W fa))):Q (PS X (.Return (some a) pos) (tS X.K W (sRet fa))):=⟨have ha:=ha.p;PSimp (ps_ret ha) fun _ _ _=>rd_ret⟩
theorem w_ds_if {A B:List Stmt} (hc:Q (PT X c (tT X.K W ga))) (ha:Q (PSs X A (tS X.K W g1))) (hb:Q (PSs X B (tS X.K W g2))):Q (PS X (.If c A B pos) (tS X.K W (sIf ga g1 g2))):=⟨have hc:=hc.p;have ha:=ha.p;have hb:=hb.p;PSimp (ps_if hc ha hb) fun _ _ _=>rd_ifS⟩
theorem w_cs_for (S:Cp X N gl vs cs ls lo gs) (i:Nat) {body:List Stmt} {g:FS} (hx:N[i]?=some x) (hl:ls.contains i=true) (hp:PassesOwn (model X.prog X.w) X.A X.env X.xe) (hi':Q (PI X (.Name x px) iter (tI X.K W fi))) (hb:Q (PSs X body (tS X.K W g))) (hs:∀x,foldedSetIterable iter X.env x=pure x):Q (PS X (.For (.Name x px) iter body [] pos) (tS X.K W (sFor i fi g))):=⟨have hi':=hi'.p;have hb:=hb.p;ds_for i hp (by rw [S.hN];exact S.nd) hi' hb S.calm (by rw [S.hN];exact hx) (S.loc i x hx hl).1 (S.loc i x hx hl).2 hs⟩
theorem w_cs_set (S:Cp X N gl vs cs ls lo gs) (own:Bool) (i:Nat) (hi:N[i]?=some x) (hl:ls.contains i=true) (hs:swapsWith a (some (.Name x pos')) pos.line X.env=pure false) (ha:Q (PE X a (tE X.K W fa))):Q (PS X (.Assign [.Name x pos'] a pos) (tS X.K W (sSet own i fa))):=⟨have ha:=ha.p;ds_set own i (by rw [S.hN];exact S.nd) ha (by rw [S.hN];exact hi) (S.loc i x hi hl).1 hs (S.loc i x hi hl).2⟩
theorem w_cs_append (S:Cp X N gl vs cs ls lo gs) (i:Nat) {apos cpos:Pos} (hi:N[i]?=some x) (hv:vs.contains i=true) (ha:Q (PE X a (tE X.K W fa))) (hs:starEach [a] X.env=[(false,eval a X.env)]) (hbase:attributeBase (.Name x p) "append" X.env (eval (.Name x p) X.env)=eval (.Name x p) X.env) (hline:(apos.endLine==cpos.line)=true) (hfew:((backTo cpos (starEach [a] X.env)).all (fun x=>!x.1)&&(backToKw cpos (keywordEach [] X.env)).all (fun x=>x.1.isSome)
   && decide ([a].length+([]:List Keyword).length+(if ([]:List Keyword).isEmpty then 0 else 1)<30))=true) (hsw:swapsWith (.Call (.Attribute (.Name x p) "append" apos) [a] [] cpos) none pos.line X.env=pure false):Q (PS X (.Expr (.Call (.Attribute (.Name x p) "append" apos) [a] [] cpos) pos) (tS X.K W (sAppend i fa))):=⟨T.cs_append S i hi hv ha.p hs hbase hline hfew hsw⟩
theorem w_df_nil :Q (PF X [] (tT X.K W0 bTrue)):=⟨PFimp pf_nil fun σ H Q h=>by
 obtain ⟨He,O,Fs,U,E,h⟩:=h
 exact h H Fs (Same.refl _) E fun _ z=>.inl z⟩
theorem w_df_one (h:Q (PT X c (tT X.K W0 ga))):Q (PF X [c] (tT X.K W0 ga)):=⟨have h:=h.p;pf_one h⟩
end
end TQ
namespace T
open PySem PySem.Spec L2
open PyProof.Rows hiding St
variable {He:Hp} {Fs:List (List Addr)} {U:Ev} {o:Option (Option PV)} {X:Cx} {ta:TA} {pos:Pos} {pins:List (Addr×Obj)} {σ:St} {h':Heap} {t':Nat} {fp:List Addr} {elts:List Expr}
def sNo:FS:=fun _=>.no
section
variable {X:Cx} {W:XW} {e:Expr} {fa:F1} {pos:Pos}
end
def whileGo (c:FB) (g:FS):Nat->Ev->OutS
 | 0,_=>.no
 | n+1,U=>match c U with
  | .ok true U1=>(match g U1 with
   | .nx U2=>whileGo c g n U2
   | .ct U2=>whileGo c g n U2
   | .bk U2=>.nx U2
   | .rt p=>.rt p
   | .er e U2=>.er e U2
   | .no=>.no)
  | .ok false U1=>.nx U1
  | .er e U1=>.er e U1
  | .no=>.no
def sWhile (n:Nat) (c:FB) (g:FS):FS:=whileGo c g n
section
variable {K:Fg} {W:XW} {σ:St} {H:Hp} {Q:VK} {D:Ends} {fa fb:F1} {fl:FL}
theorem rd_while {n:Nat} {c:FB} {g:FS} (h:tS K W (sWhile n c g) D σ H):tWhile (tT K W c) (tS K W g) D σ H:=by
 obtain ⟨He,O,Fs,U,E,h⟩:=h
 refine ⟨fun m σ' H'=>∃Uk Fk,EnvOk K He O Fk H' σ' Uk/\WantsS K W He O D (whileGo c g m Uk),⟨n,U,Fs,E,h⟩,?_⟩
 rintro m σ' H' ⟨Uk,Fk,Ek,hw⟩
 cases m with
 | zero=>exact hw.elim
 | succ m=>
  refine ⟨He,O,Fk,Uk,Ek,?_⟩
  rw [whileGo] at hw
  cases e:c Uk with
  | er x U1=>rw [e] at hw;exact fun H2 Fs2 s E2=>hw σ' H2 Fs2 E2
  | no=>rw [e] at hw;exact hw
  | ok b U1=>
   rw [e] at hw
   intro H2 Fs2 s2 E2 n2
   cases b with
   | false=>rw [if_neg Bool.false_ne_true];exact hw σ' H2 Fs2 E2
   | true=>
    rw [if_pos rfl]
    refine ⟨fun σ3 H3=>∃U3 F3,EnvOk K He O F3 H3 σ3 U3/\WantsS K W He O D (whileGo c g m U3),fun σ3 H3 q=>⟨m,Nat.lt_succ_self _,q⟩,He,O,Fs2,U1,E2,?_⟩
    have hw:WantsS K W He O D (match g U1 with | .nx U2=>whileGo c g m U2 | .ct U2=>whileGo c g m U2 | .bk U2=>.nx U2 | .rt p=>.rt p | .er e U2=>.er e U2 | .no=>.no):=hw
    cases eb:g U1 with
    | nx U'=>rw [eb] at hw;exact fun σ2 H2 F2 E2=>⟨U',F2,E2,hw⟩
    | ct U'=>rw [eb] at hw;exact fun σ2 H2 F2 E2=>⟨U',F2,E2,hw⟩
    | bk U'=>rw [eb] at hw;exact fun σ2 H2 F2 E2=>hw σ2 H2 F2 E2
    | rt p=>rw [eb] at hw;exact fun u H2 G r=>hw u H2 G r
    | er x U'=>rw [eb] at hw;exact fun σ2 H2 F2 E2=>hw σ2 H2 F2 E2
    | no=>rw [eb] at hw;exact hw
theorem EnvOk.chgF {O:List Addr} {i:Nat} {ds:List PySem.PyData} (E:EnvOk K He O Fs H σ U) (h:U[i]?=some (some ⟨.lst .leaf,.list ds⟩)) :
  ∃l vs,σ[i]?=some (some (.ref l))/\H l=some (.lst vs)/\vs.length=ds.length/\(∀(j:Nat) u d,vs[j]?=some u->ds[j]?=some d->Rep K (hid H (O++Fs.flatten)) u d) /\
   ∀(vs':List V) (ds':List PySem.PyData),vs'.length=ds'.length->(∀(j:Nat) u d,vs'[j]?=some u->ds'[j]?=some d->Rep K (hid H (O++Fs.flatten)) u d)->EnvOk K He O Fs (upd H l (.lst vs')) σ (U.set i (some ⟨.lst .leaf,.list ds'⟩)):=by
 obtain ⟨hv,v,F,h1,E1,o1,sub⟩:=E.move h
 have hi:i<U.length:=(List.getElem?_eq_some_iff.mp h).1
 obtain ⟨_,v0,F0,h10,h20,o0⟩:=E.slot i _ h
 obtain ⟨l,vs,rfl,rfl,hp,hl,hr⟩:=o1.leaves
 obtain ⟨l',vs',e0,e1,hp',hl',hr'⟩:=o0.leaves
 rw [h1] at h10
 cases h10
 cases e0
 rw [hp] at hp'
 cases hp'
 refine ⟨l,vs,h1,hp,hl,hr',fun ws ds' hw q=>?_⟩
 have hlF:l∈Fs.flatten:=sub l (mem_append_left _ (List.mem_singleton.mpr rfl))
 have hHe:He l=none:=E.fresh l hlF
 have E4:=E1.mutO (o:=.lst ws) (mem_append_left _ (List.mem_singleton.mpr rfl)) hp hHe
 have ownL:Own K ([l]++O++(Fs.set i []).flatten) (upd H l (.lst ws)) (.lst .leaf) [l] (.ref l) (.list ds'):=by
  refine Own.mkLeaves upd_same hw fun j u d a1 a2=>?_
  rw [hid_upd (mem_append_left _ (mem_append_left _ (List.mem_singleton.mpr rfl)))]
  refine (q j u d a1 a2).mono (hid_mono (Same.refl _) fun a ha=>.inl ?_)
  rcases List.mem_append.mp ha with z | z
  ·rcases List.mem_append.mp z with z | z
   ·rw [List.mem_singleton.mp z];exact mem_append_right _ hlF
   ·exact mem_append_left _ z
  ·exact mem_append_right _ (sub a (mem_append_right _ z))
 have fin:=EnvOk.put (i:=i) (p:=⟨.lst .leaf,.list ds'⟩) (v:=.ref l) E4 ownL rfl (fun a ha=>by rw [List.mem_singleton.mp ha];exact hHe) (by rw [length_set];exact hi)
 rw [set_set,set_set,set_same h1] at fin
 rw [e1] at h20
 rw [set_same h20] at fin
 exact fin
def sPopS (j i:Nat):FS:=fun U=>match U[i]? with
 | some (some ⟨.lst .leaf,.list ds⟩)=>(match ds.getLast? with
  | some d=>if j<U.length/\j≠i then .nx ((U.set i (some ⟨.lst .leaf,.list ds.dropLast⟩)).set j (some ⟨.leaf,d⟩)) else .no
  | none=>.no)
 | _=>.no
def isOwnLL:Option (Option PV)->Bool
 | some (some ⟨.lst (.lst .leaf),.list _⟩)=>true
 | _=>false
theorem isOwnLL_eq (h:isOwnLL o=true):∃ds,o=some (some ⟨.lst (.lst .leaf),.list ds⟩):=by
 unfold isOwnLL at h
 split at h
 ·exact ⟨_,rfl⟩
 ·cases h
theorem EnvOk.chg2 {O:List Addr} {i j:Nat} {ds es:List PySem.PyData} (E:EnvOk K He O Fs H σ U) (h:U[i]?=some (some ⟨.lst (.lst .leaf),.list ds⟩)) (hj:ds[j]?=some (.list es)) :
  ∃l vs m ws,σ[i]?=some (some (.ref l))/\H l=some (.lst vs)/\vs.length=ds.length/\vs[j]?=some (.ref m)/\H m=some (.lst ws)/\ws.length=es.length/\(∀(k:Nat) u d,ws[k]?=some u->es[k]?=some d->Rep K (hid H (O++Fs.flatten)) u d) /\
   ∀(ws':List V) (es':List PySem.PyData),ws'.length=es'.length->(∀(k:Nat) u d,ws'[k]?=some u->es'[k]?=some d->Rep K (hid H (O++Fs.flatten)) u d)->EnvOk K He O Fs (upd H m (.lst ws')) σ (U.set i (some ⟨.lst (.lst .leaf),.list (ds.set j (.list es'))⟩)):=by
 obtain ⟨hv,v,F,h1,E1,o1,sub⟩:=E.move h
 have hi:i<U.length:=(List.getElem?_eq_some_iff.mp h).1
 obtain ⟨_,v0,F0,h10,h20,o0⟩:=E.slot i _ h
 have eF:F0=F:=by
  have q:=E.move h
  cases o0 with
  | @lst _ l0 vs0 _ Fs0 a1 a2 a3 a4 a5 a6=>
   cases o1 with
   | @lst _ l1 vs1 _ Fs1 b1 b2 b3 b4 b5 b6=>
    rw [h1] at h10
    cases h10
    rw [a2] at b2
    cases b2
    have:Fs0=Fs1:=by
     apply ext_getElem?
     intro k
     by_cases hk:k<ds.length
     ·have c0:=a6 k (vs0[k]'(by omega)) (ds[k]'hk) (Fs0[k]'(by omega)) (getElem?_eq_getElem _) (getElem?_eq_getElem _) (getElem?_eq_getElem _)
      have c1:=b6 k (vs0[k]'(by omega)) (ds[k]'hk) (Fs1[k]'(by omega)) (getElem?_eq_getElem _) (getElem?_eq_getElem _) (getElem?_eq_getElem _)
      rw [getElem?_eq_getElem (by omega),getElem?_eq_getElem (by omega)]
      generalize Fs0[k]'(by omega)=A0 at c0
      generalize Fs1[k]'(by omega)=A1 at c1
      generalize vs0[k]'(by omega)=u at c0 c1
      generalize ds[k]'hk=d at c0 c1
      cases c0 with
      | lst x1 x2 x3 x4 x5 x6=>
       rename_i p0 vs2 ds2 Fs2
       obtain ⟨l2,_,e2,e3,_⟩:=(Own.lst x1 x2 x3 x4 x5 x6).leaves
       obtain ⟨l3,_,e4,e5,_⟩:=c1.leaves
       cases e2
       cases e4
       rw [e3,e5]
     ·rw [getElem?_eq_none (by omega),getElem?_eq_none (by omega)]
    rw [this]
 subst eF
 clear o0
 cases o1 with
 | @lst _ l vs _ Fs0 hsv hp hl hf nd q=>
  have hjl:j<ds.length:=(List.getElem?_eq_some_iff.mp hj).1
  have vj:vs[j]?=some (vs[j]'(by omega)):=getElem?_eq_getElem _
  have fj:Fs0[j]?=some (Fs0[j]'(by omega)):=getElem?_eq_getElem _
  obtain ⟨m,ws,em,eG,hm,hwl,hwr⟩:=(q j _ _ _ vj hj fj).leaves
  rw [em] at vj
  rw [eG] at fj
  have hmF:m∈Fs0.flatten:=mem_flat fj (List.mem_singleton.mpr rfl)
  have lnm:l≠m:=fun z=>(List.nodup_cons.mp nd).1 (z▸hmF)
  have pm:((l::Fs0.flatten)++(Fs.set i []).flatten).Perm Fs.flatten:=by simpa using flat_set (G:=[]) h20
  have subA:∀a∈O++Fs.flatten,a∈(l::Fs0.flatten)++O++(Fs.set i []).flatten:=fun a ha=>by
   rcases List.mem_append.mp ha with z | z
   ·exact mem_append_left _ (mem_append_right _ z)
   ·rcases List.mem_append.mp (pm.mem_iff.mpr z) with y | y
    ·exact mem_append_left _ (mem_append_left _ y)
    ·exact mem_append_right _ y
  have subB:∀a∈(l::Fs0.flatten)++O++(Fs.set i []).flatten,a∈O++Fs.flatten:=fun a ha=>by
   rcases List.mem_append.mp ha with z | z
   ·rcases List.mem_append.mp z with z | z
    ·exact mem_append_right _ (pm.mem_iff.mp (mem_append_left _ z))
    ·exact mem_append_left _ z
   ·exact mem_append_right _ (pm.mem_iff.mp (mem_append_right _ z))
  refine ⟨l,vs,m,ws,h1,hp,hl,vj,hm,hwl,fun k u d a1 a2=>(hwr k u d a1 a2).mono (hid_mono (Same.refl _) fun a ha=>.inl (subA a ha)),fun ws' es' hw q'=>?_⟩
  have hmO:m∈(l::Fs0.flatten)++O:=mem_append_left _ (mem_cons_of_mem _ hmF)
  have hfr:∀a∈l::Fs0.flatten,He a=none:=fun a ha=>E.fresh a (sub a (mem_append_left _ ha))
  have E4:=E1.mutO (o:=.lst ws') hmO hm (hfr m (mem_cons_of_mem _ hmF))
  have ownL:Own K ((l::Fs0.flatten)++O++(Fs.set i []).flatten) (upd H m (.lst ws')) (.lst (.lst .leaf)) (l::Fs0.flatten) (.ref l) (.list (ds.set j (.list es'))):=by
   refine .lst rfl (by rw [upd_ne lnm];exact hp) (by rw [length_set];exact hl) (by rw [length_set];exact hf) nd fun k v d F e1 e2 e3=>?_
   by_cases hk:k=j
   ·subst hk
    rw [getElem?_set_self hjl] at e2
    cases e2
    rw [vj] at e1
    cases e1
    rw [fj] at e3
    cases e3
    refine Own.mkLeaves upd_same hw fun n u d a1 a2=>?_
    rw [hid_upd (mem_append_left _ hmO)]
    exact (q' n u d a1 a2).mono (hid_mono (Same.refl _) fun a ha=>.inl (subB a ha))
   ·rw [getElem?_set_ne (Ne.symm hk)] at e2
    exact (q k v d F e1 e2 e3).mut rfl (mem_append_left _ hmO) (fun z=>flat_disj (List.nodup_cons.mp nd).2 e3 fj hk m z (List.mem_singleton.mpr rfl)) hm
  have fin:=EnvOk.put (i:=i) (p:=⟨.lst (.lst .leaf),.list (ds.set j (.list es'))⟩) (v:=.ref l) E4 ownL rfl hfr (by rw [length_set];exact hi)
  rw [set_set,set_set,set_same h1,set_same h20] at fin
  exact fin
def appAtK (i:Nat) (q p:PV) (U:Ev):OutS:=match U[i]? with
 | some (some ⟨.lst (.lst .leaf),.list ds⟩)=>(match q.d with
  | .int k=>(match ixN ds.length k with
   | some j=>(match ds[j]? with
    | some (.list es)=>if T.coer .leaf p&&decide (es.length<sizeLine) then .nx (U.set i (some ⟨.lst (.lst .leaf),.list (ds.set j (.list (es++[p.d])))⟩)) else .no
    | _=>.no)
   | none=>.no)
  | _=>.no)
 | _=>.no
def okAt (i:Nat) (q:PV) (U:Ev):Bool:=match U[i]? with
 | some (some ⟨.lst (.lst .leaf),.list ds⟩)=>(match q.d with
  | .int k=>(match ixN ds.length k with
   | some j=>(match ds[j]? with
    | some (.list _)=>true
    | _=>false)
   | none=>false)
  | _=>false)
 | _=>false
theorem okAt_eq {i:Nat} {q:PV} (h:okAt i q U=true):∃ds k j es,U[i]?=some (some ⟨.lst (.lst .leaf),.list ds⟩)/\q.d=.int k/\ixN ds.length k=some j/\ds[j]?=some (.list es):=by
 unfold okAt at h
 split at h
 ·rename_i ds e
  split at h
  ·rename_i k ek
   split at h
   ·rename_i j ej
    split at h
    ·rename_i es ee
     exact ⟨ds,k,j,es,e,ek,ej,ee⟩
    ·cases h
   ·cases h
  ·cases h
 ·cases h
def sAppAt (i:Nat) (fk fa:F1):FS:=fun U=>if isOwnLL U[i]? then sOf fk (fun q U1=>if okAt i q U1 then sOf fa (appAtK i q) U1 else .no) U else .no
theorem rd_appAt {i:Nat} (h:tS K W (sAppAt i fa fb) D σ H):tDrop (tBM K "list" rAppend (tOp (rIx K) (tVar i) (tE K W fa)) (tA K W (eCons fb eNil))) D σ H:=by
 obtain ⟨He,O,Fs,U,E,h⟩:=h
 unfold sAppAt at h
 cases ho:isOwnLL U[i]? with
 | false=>rw [ho] at h;exact h.elim
 | true=>
  rw [ho] at h
  obtain ⟨ds0,e0⟩:=isOwnLL_eq ho
  obtain ⟨_,v0,F0,s0,_,o0⟩:=E.slot i _ e0
  refine ⟨v0,s0,tS_of (D:=D) ⟨He,O,Fs,U,E,h⟩ fun He O Fs U1 q u H1 G1 Fs1 _ fr A1 w=>?_⟩
  cases hk:okAt i q U1 with
  | false=>rw [hk] at w;exact w.elim
  | true=>
   rw [hk] at w
   obtain ⟨ds,k,j,es,e1,ek,ej,ee⟩:=okAt_eq hk
   obtain ⟨l,vs,m,ws,q1,q2,q3,q4,q5,q6,q7,q8⟩:=A1.env.dropL.chg2 e1 ee
   rw [s0] at q1
   cases q1
   have hu:=A1.own.rep
   rw [ek] at hu
   cases hu
   have hat:atI vs k=some (.ref m):=by unfold atI;rw [q3,ej];exact q4
   refine .inl ⟨l,vs,k,.ref m,rfl,rfl,.of q2,hat,.inl ⟨rfl,ws,.of q5⟩,tA_one (tS_of (D:=D) ⟨He,O,Fs1,U1,A1.env.dropL,w⟩ fun He O Fs U2 p v H2 G Fs2 _ fr2 A2 w2=>?_)⟩
   unfold appAtK at w2
   split at w2
   ·rename_i ds2 e2
    rw [ek] at w2
    dsimp only at w2
    split at w2
    ·rename_i j2 ej2
     split at w2
     ·rename_i es2 ee2
      cases hc:(T.coer .leaf p&&decide (es2.length<sizeLine)) with
      | false=>rw [hc] at w2;exact w2.elim
      | true=>
       rw [hc] at w2
       simp only [Bool.and_eq_true,decide_eq_true_eq] at hc
       obtain ⟨l2,vs2,m2,ws2,r1,r2,r3,r4,r5,r6,r7,r8⟩:=A2.env.dropL.chg2 e2 ee2
       rw [s0] at r1
       cases r1
       have x2:H2 l=some (.lst vs):=A2.same _ _ q2
       rw [x2] at r2
       cases r2
       have y2:atI vs k=some (.ref m2):=by unfold atI;rw [r3,ej2];exact r4
       rw [hat] at y2
       cases y2
       have ov:Own K (O++Fs2.flatten) H2 .leaf [] v p.d:=A2.own.coer (s:=.leaf) hc.1 sub3 fun a ha z=>absurd z (A2.disj a ha)
       cases ov with
       | leaf rv=>
        have E4:=r8 (ws2++[v]) (es2++[p.d]) (by simp [r6]) fun n x d a1 a2=>by
         by_cases hn:n<ws2.length
         ·rw [getElem?_append_left hn] at a1
          rw [getElem?_append_left (by omega)] at a2
          exact r7 n x d a1 a2
         ·have hn':n=ws2.length:=by
           have:=(List.getElem?_eq_some_iff.mp a1).1
           rw [length_append,length_singleton] at this
           omega
          subst hn'
          rw [getElem?_append_right (Nat.le_refl _),Nat.sub_self] at a1
          rw [getElem?_append_right (by omega),show ws2.length-es2.length=0 by omega] at a2
          cases a1
          cases a2
          exact rv
        exact ⟨m,ws2,v,rfl,rfl,r5,by rw [r6];exact hc.2,w2 σ _ _ E4⟩
     ·exact w2.elim
    ·exact w2.elim
   ·exact w2.elim
end
def rSortI (K:Fg):List V->Hp->VK->Prop:=fun xs H Q=>∃(p:Addr) (ns:List Int),xs=[.ref p]/\SqL K H p (ns.map V.int)/\ns.length<64/\∀l,H l=none->Q (.ref l) (upd H l (.lst ((PySem.W.sortI ns).map V.int)))
theorem ints_of:∀{ns:List Int} {us:List Value},Vals (ns.map V.int) us->IntsAre us ns
 | [],_,.nil=>.nil
 | n::ns,_,.cons r t=>by
  obtain ⟨tk,rfl⟩:=(show ∃t,_=Value.int n t from r)
  exact .cons _ _ (ints_of t)
theorem vals_of:∀{ns:List Int} {us:List Value},IntsAre us ns->Vals (ns.map V.int) us
 | _,_,.nil=>.nil
 | _,_,.cons _ _ t=>.cons ⟨_,rfl⟩ (vals_of t)
theorem call_sortI:CallR X (.builtin "sorted") (rSortI X.K):=by
 intro pins s σ H xs us Q I rv h
 obtain ⟨p,ns,rfl,hS,h64,q⟩:=h
 obtain ⟨u,rfl,ru⟩:=rv.one
 cases ru
 obtain ⟨its,r,pl,hz⟩:=I.list hS
 have hI:=ints_of r
 have hl:its.length=ns.length:=by rw [<-r.length,length_map]
 refine sorted_ints pl.isList hI (by omega) fun out ns' a1 a2 a3=>?_
 have e:=PySem.W.eq_sortI a2 a3
 subst e
 obtain ⟨n,ho⟩:=sortedAll_at s.heap its out
 have hlen:(PySem.W.sortI ns).length=ns.length:=(PySem.W.sortI_perm ns).length_eq
 have hb:=small1000 (n:=ns.length) (by omega)
 refine ⟨.ref (s.heap.objs.size+1),upd H (s.heap.objs.size+1) (.lst ((PySem.W.sortI ns).map V.int)),I.laid (t':=s.toks) (fun b o e=>sortedAll_old e) (Nat.le_succ _) ⟨by rw [length_map,hlen];omega,out.toList,n,vals_of a1,by simpa [seqObj] using ho⟩,rfl,q _ (I.hok.fresh (Nat.le_succ _))⟩
theorem vals_pt:∀{xs:List V} {us:List Value},xs.length=us.length->(∀(i:Nat) x u,xs[i]?=some x->us[i]?=some u->RelV x u)->Vals xs us
 | [],[],_,_=>.nil
 | x::xs,u::us,hl,h=>.cons (h 0 x u rfl rfl) (vals_pt (by simpa using hl) fun i x u a b=>h (i+1) x u (by simpa using a) (by simpa using b))
 | [],_::_,hl,_=>by simp at hl
 | _::_,[],hl,_=>by simp at hl
def tLR (ta:TA):TE:=fun σ H Q=>ta σ H fun vs H1=>∃j:Int,vs=[.int j]/\-(2 ^ 62)<=j/\j<=sizeLine/\∀l,H1 l=none->Q (.ref l) (upd H1 l (.lst (rngV 0 j.toNat)))
theorem pe_listRange {a:Expr} {p p2 pos2:Pos} (hg:Gl X "list") (hm:X.mg "list"=none) (hg2:Gl X "range") (hm2:X.mg "range"=none) (hc:X.calm=true) (ha:PA X [a] ta) (hs:starEach [a] X.env=[(false,eval a X.env)])
  (hs1:starEach [.Call (.Name "range" p2) [a] [] pos2] X.env=[(false,eval (.Call (.Name "range" p2) [a] [] pos2) X.env)]):PE X (.Call (.Name "list" p) [.Call (.Name "range" p2) [a] [] pos2] [] pos) (tLR ta):=by
 intro pins s σ H Q I h
 refine Call_ (ld_blt I hg hm b_list (PyProof.Rows.callWith_type1 ?_ hs1 rfl))
 rw [hs1]
 show wpAny _ _ (spliced ((false,eval (.Call (.Name "range" p2) [a] [] pos2) X.env)::[])) _ _ s
 refine Calls.spliced_cons (Call_ (ld_blt I hg2 hm2 boot_range (PyProof.Rows.callWith_type1 (thn (ha pos2 pins s σ H _ I h) fun us s1 ⟨vs,H1,I1,r1,q1⟩=>?_) hs rfl)))
 obtain ⟨j,e,q1,q2,q⟩:=q1
 subst e
 obtain ⟨u,rfl,ru⟩:=r1.one
 obtain ⟨t,rfl⟩:=(show ∃t,u=Value.int j t from ru)
 refine call_range_1 (Calls.spliced_nil ?_)
 have hz:(sizeLine:Int)<2 ^ 62:=by decide
 refine call_list_range (n:=j.toNat) (I.ok.hd hc) (IsRange.new ..) (small_one (by omega) (by omega) q1 (by omega)) (by rw [rangeSize_one];split<;>omega) (by have:(sizeLine:Nat)=2 ^ 24:=rfl;omega) fun h' tk acc' c' hk ho hacc=>?_
 have I2:Inv X pins σ H1 { s1 with heap:=s1.heap.push { cls:=.type "range",data:=.fields #[.int 0 s1.toks,.int j t,.int 1 (s1.toks+1)] },toks:=s1.toks+1+1 }:=I1.kept fun b o e=>Heap.get?_push_of_some _ e
 have hv:Vals (rngV 0 j.toNat) acc'.toList:=by
  refine vals_pt (by have:=hacc.1;simp only [Array.length_toList,rngV,length_map,length_range];omega) fun i x u e1 e2=>?_
  obtain ⟨t2,rfl⟩:=hacc.2 i u (by rw [<-Array.getElem?_toList];exact e2)
  unfold rngV at e1
  rw [getElem?_map] at e1
  cases e3:(List.range j.toNat)[i]? with
  | none=>rw [e3] at e1;cases e1
  | some k=>
   rw [e3] at e1
   obtain ⟨k1,k2⟩:=List.getElem?_eq_some_iff.mp e3
   simp at k2
   subst k2
   cases e1
   exact ⟨t2,by simp⟩
 refine ⟨.ref _,upd H1 _ (.lst (rngV 0 j.toNat)),I2.laid (t':=tk) (fun b o e=>hk b o e) (Nat.le_refl _) ⟨?_,acc'.toList,c',hv,by simpa using ho⟩,rfl,q _ (I2.hok.fresh (Nat.le_refl _))⟩
 simp only [rngV,length_map,length_range]
 omega
section
variable {K:Fg} {W:XW} {σ:St} {H:Hp} {Q:VK} {fa:F1} {fl:FL}
theorem AftL.newSc {O:List Addr} {Gs Fs1:List (List Addr)} {U1:Ev} {ps:List PV} {us:List V} {H1:Hp} {l:Addr} {vs:List V} {ds:List PySem.PyData} (A:AftL K He O Fs H σ U1 ps us H1 Gs Fs1) (nd:O.Nodup) (hl:H1 l=none) (hv:vs.length=ds.length) (hs:∀(i:Nat) v d,vs[i]?=some v->ds[i]?=some d->Sc v d) :
  Aft K He O Fs H σ U1 ⟨.lst .leaf,.list ds⟩ (.ref l) (upd H1 l (.lst vs)) [l] Fs1:=by
 refine ⟨A.same.trans (same_upd hl),A.env.dropL.hide (same_upd hl) (by simp) (by simpa using hl) (fun a ha=>by rw [List.mem_singleton.mp ha,upd_same];exact Option.some_ne_none _),fun a ha=>?_,?_⟩
 ·rcases List.mem_append.mp ha with z | z
  ·rw [List.mem_singleton.mp z];exact .inr (A.same.free hl)
  ·exact A.new a (mem_append_right _ z)
 ·exact Own.mkLeaves upd_same hv fun j u d e1 e2=>(hs j u d e1 e2).rep
def eLR (fl:FL):F1:=fun U=>(fl U).bind fun ps U'=>match rng1 (ps.map (·.d)) with
 | some j=>if j<=sizeLine then .ok ⟨.lst .leaf,.list (rngD 0 j.toNat)⟩ U' else .no
 | none=>.no
theorem rd_LR (h:tE K W (eLR fl) σ H Q):tLR (tA K W fl) σ H Q:=by
 obtain ⟨He,O,Fs,U,E,h⟩:=h
 refine ⟨He,O,Fs,U,E,?_⟩
 unfold eLR at h
 cases e:fl U with
 | er c U'=>rw [e] at h;exact h
 | no=>rw [e] at h;exact h
 | ok ps U1=>
  rw [e] at h
  intro vs H1 Gs Fs1 A
  have h:Wants K W He O Fs H σ Q (match rng1 (ps.map (·.d)) with | some j=>if j<=sizeLine then .ok ⟨.lst .leaf,.list (rngD 0 j.toNat)⟩ U1 else .no | none=>.no):=h
  cases er:rng1 (ps.map (·.d)) with
  | none=>rw [er] at h;exact h.elim
  | some j=>
   rw [er] at h
   obtain ⟨e1,e2,e3⟩:=rng1_eq er
   have r:=A.reps
   rw [e1] at r
   have h:Wants K W He O Fs H σ Q (if j<=sizeLine then .ok ⟨.lst .leaf,.list (rngD 0 j.toNat)⟩ U1 else .no):=h
   by_cases hj:j<=sizeLine
   ·rw [if_pos hj] at h
    have hv:vs=[.int j]:=by
     have hl:=r.1
     match vs,hl with
     | [v],_=>
      have q:=r.2 0 v (.int j) rfl rfl
      cases q
      rfl
    refine ⟨j,hv,e2,hj,fun l hl=>h _ _ _ _ (A.newSc E.ndO hl (by simp [rngV,rngD]) fun i v d a1 a2=>?_)⟩
    have q:=reps_rng (K:=K) (H:=H1) (lo:=0) (n:=j.toNat)
    refine (q.2 i v d a1 a2).sc ?_
    unfold rngD at a2
    rw [getElem?_map] at a2
    cases e3:(List.range j.toNat)[i]? with
    | none=>rw [e3] at a2;cases a2
    | some k=>rw [e3] at a2;cases a2;rfl
   ·rw [if_neg hj] at h;exact h.elim
def intsOf:List PySem.PyData->Option (List Int)
 | []=>some []
 | .int i::r=>(intsOf r).map (i :: ·)
 | _=>none
theorem intsOf_eq:∀{ds:List PySem.PyData} {ns:List Int},intsOf ds=some ns->ds=ns.map .int
 | [],ns,h=>by cases h;rfl
 | .int i::r,ns,h=>by
  unfold intsOf at h
  cases e:intsOf r with
  | none=>rw [e] at h;cases h
  | some ms=>rw [e] at h;cases h;rw [intsOf_eq e];rfl
 | .none::_,_,h=>by cases h
 | .bool _::_,_,h=>by cases h
 | .str _::_,_,h=>by cases h
 | .list _::_,_,h=>by cases h
 | .tuple _::_,_,h=>by cases h
 | .dict _::_,_,h=>by cases h
def sortArg:List PySem.PyData->Option (List Int)
 | [.list ds]=>intsOf ds
 | _=>none
theorem sortArg_eq {ds:List PySem.PyData} {ns:List Int} (h:sortArg ds=some ns):ds=[.list (ns.map .int)]:=by
 unfold sortArg at h
 split at h
 ·rw [intsOf_eq h]
 ·cases h
def eSortI (fl:FL):F1:=fun U=>(fl U).bind fun ps U'=>match sortArg (ps.map (·.d)) with
 | some ns=>if ns.length<64 then .ok ⟨.lst .leaf,.list ((PySem.W.sortI ns).map .int)⟩ U' else .no
 | none=>.no
theorem rd_sortI (h:tE K W (eSortI fl) σ H Q):tCB (rSortI K) (tA K W fl) σ H Q:=by
 obtain ⟨He,O,Fs,U,E,h⟩:=h
 refine ⟨He,O,Fs,U,E,?_⟩
 unfold eSortI at h
 cases e:fl U with
 | er c U'=>rw [e] at h;exact h
 | no=>rw [e] at h;exact h
 | ok ps U1=>
  rw [e] at h
  intro vs H1 Gs Fs1 A
  have r:=A.reps
  have h:Wants K W He O Fs H σ Q (match sortArg (ps.map (·.d)) with | some ns=>if ns.length<64 then .ok ⟨.lst .leaf,.list ((PySem.W.sortI ns).map .int)⟩ U1 else .no | none=>.no):=h
  cases ei:sortArg (ps.map (·.d)) with
   | none=>rw [ei] at h;exact h.elim
   | some ns=>
    rw [ei] at h
    rw [sortArg_eq ei] at r
    have h:Wants K W He O Fs H σ Q (if ns.length<64 then .ok ⟨.lst .leaf,.list ((PySem.W.sortI ns).map .int)⟩ U1 else .no):=h
    by_cases hn:ns.length<64
    ·rw [if_pos hn] at h
     have hl:=r.1
     match vs,hl with
     | [v],_=>
      have q:=r.2 0 v (.list (ns.map .int)) rfl rfl
      cases q with
      | @lst p ws _ hq hwl hw=>
       have ew:ws=ns.map V.int:=by
        apply ext_getElem?
        intro i
        by_cases hi:i<ws.length
        ·have hi2:i<ns.length:=by rw [length_map] at hwl;omega
         have q:=hw i (ws[i]'hi) (.int (ns[i]'hi2)) (getElem?_eq_getElem _) (by rw [getElem?_map,getElem?_eq_getElem hi2];rfl)
         rw [getElem?_eq_getElem hi,getElem?_map,getElem?_eq_getElem hi2]
         generalize ws[i]'hi=u at q
         cases q
         rfl
        ·rw [getElem?_eq_none (by omega),getElem?_eq_none (by rw [length_map] at hwl ⊢;omega)]
       rw [ew] at hq
       refine ⟨p,ns,rfl,hq,hn,fun l hl=>h _ _ _ _ (A.newSc E.ndO hl (by simp) fun i v d a1 a2=>?_)⟩
       rw [getElem?_map] at a1 a2
       cases e3:(PySem.W.sortI ns)[i]? with
       | none=>rw [e3] at a1;cases a1
       | some z=>
        rw [e3] at a1 a2
        cases a1
        cases a2
        exact .int z
    ·rw [if_neg hn] at h;exact h.elim
end
section
variable {X:Cx} {N gl:List Str} {vs cs ls lo gs:List Nat} {W:XW} {a b c e:Expr} {es:List Expr} {pos p:Pos} {fa fb fc:F1} {fl:FL} {g:FS} {ga:FB}
theorem cs_appAt (S:Cp X N gl vs cs ls lo gs) (i:Nat) {x:Str} {spos apos cpos:Pos} (hi:N[i]?=some x) (hv:vs.contains i=true) (hk:PE X b (tE X.K W fb)) (ha:PE X a (tE X.K W fa)) (hx:PlainIx b) (hs:starEach [a] X.env=[(false,eval a X.env)])
  (hbase:attributeBase (.Subscript (.Name x p) b spos) "append" X.env (eval (.Subscript (.Name x p) b spos) X.env)=eval (.Subscript (.Name x p) b spos) X.env) (hline:(apos.endLine==cpos.line)=true)
  (hfew:((backTo cpos (starEach [a] X.env)).all (fun x=>!x.1)&&(backToKw cpos (keywordEach [] X.env)).all (fun x=>x.1.isSome)
   && decide ([a].length+([]:List Keyword).length+(if ([]:List Keyword).isEmpty then 0 else 1)<30))=true)
  (hsw:swapsWith (.Call (.Attribute (.Subscript (.Name x p) b spos) "append" apos) [a] [] cpos) none pos.line X.env=pure false) :
  PS X (.Expr (.Call (.Attribute (.Subscript (.Name x p) b spos) "append" apos) [a] [] cpos) pos) (tS X.K W (sAppAt i fb fa)):=by
 have m:=S.nm x (mem_of_getElem? hi)
 exact PSimp (ps_expr (pe_bm PySem.F.plainAttrs_list PySem.F.slot_list_append PySem.F.type_list_append mt_append (pe_ix ix_seq (pe_var (by rw [S.hN];exact hi) (S.vis i x hi hv) m.1 m.2) hk hx) (da_cons ha da_nil hs) hbase hfew hline hs rfl) hsw) fun _ _ _=>rd_appAt
end
theorem Inv.turnedL {H:Hp} {s:Shared} (I:L2.Inv X pins σ H s) (k:∀b o,b∉fp->s.heap.get? b=some o->h'.get? b=some o) (hf:∀b∈fp,FpOk X pins H b):L2.Inv X pins σ H { s with heap:=h',toks:=t' }:=by
 have nit:∀b u,H b=some u->b∉fp:=fun b u e z=>by have:=(hf b z).1;rw [e] at this;cases this
 have hL:X.env.locals∉fp:=fun z=>(hf _ z).2.1 rfl
 refine I.step (g':=s.gens) (d':=s.drawn) (ch:=fp) (fun b hb=>?_) (fun b o _ _ hc e _=>k b o hc e) (fun b o _ _ hc e _=>⟨o.slots,k b o hc e⟩) (fun _ _ _ _ n=>n)
  (fun b o hc e=>⟨o,k b o hc e⟩) (fun _ _ e=>e) (fun _ _ _ e=>e) (fun b ps e=>⟨#[],by rw [e];simp⟩) (fun m hm=>?_) (fun b u e=>?_) I.bare
 ·obtain ⟨f0,f1,f2,f3,f4,f5⟩:=hf b hb
  exact ⟨f3,f1,f4,f5⟩
 ·obtain ⟨o,es,ep,ho,r⟩:=hm
  exact ⟨o,es,ep,k _ o hL ho,r⟩
 ·refine (I.hok b u e).stay (fun c v hc q=>k c v ?_ q) (fun _ q=>q) fun _ _ q=>q
  rcases hc with z | z
  ·rw [z];exact nit b u e
  ·exact nit c _ z
theorem Inv.turnedT {H:Hp} {s:Shared} {T:Addr} {xs:List V} (I:L2.Inv X pins σ H s) (k:∀b o,b∉fp->s.heap.get? b=some o->h'.get? b=some o) (hf:∀b∈fp,FpOk X pins H b) (hT:s.heap.objs.size<=T)
  (new:ObjOk X.prog X.w (upd H T (.tup xs)) h' T (.tup xs)):L2.Inv X pins σ (upd H T (.tup xs)) { s with heap:=h',toks:=t' }:=by
 have hTn:H T=none:=I.hok.fresh hT
 have nit:∀b u,H b=some u->b∉fp:=fun b u e z=>by have:=(hf b z).1;rw [e] at this;cases this
 have up:∀b u,H b=some u->upd H T (.tup xs) b=some u:=fun b u e=>by rw [upd_ne (ne_of_none e hTn)];exact e
 have hL:X.env.locals∉fp:=fun z=>(hf _ z).2.1 rfl
 refine I.step (g':=s.gens) (d':=s.drawn) (ch:=fp) (fun b hb=>?_) (fun b o _ _ hc e _=>k b o hc e) (fun b o _ _ hc e _=>⟨o.slots,k b o hc e⟩) (fun b o _ e n=>by rw [upd_ne (Nat.ne_of_lt (Nat.lt_of_lt_of_le (Heap.lt_size e) hT))];exact n)
  (fun b o hc e=>⟨o,k b o hc e⟩) (fun b _ e=>up b _ e) (fun b _ _ e=>up b _ e) (fun b ps e=>⟨#[],by rw [up b _ e];simp⟩) (fun m hm=>?_) (fun b u e=>?_) I.bare
 ·obtain ⟨f0,f1,f2,f3,f4,f5⟩:=hf b hb
  exact ⟨f3,f1,f4,f5⟩
 ·obtain ⟨o,es,ep,ho,r⟩:=hm
  exact ⟨o,es,ep,k _ o hL ho,r⟩
 ·by_cases hb:b=T
  ·subst hb
   rw [upd_same] at e
   cases e
   exact new
  ·rw [upd_ne hb] at e
   refine (I.hok b u e).stay (fun c v hc q=>k c v ?_ q) (fun c q=>up c _ q) fun c _ q=>up c _ q
   rcases hc with z | z
   ·rw [z];exact nit b u e
   ·exact nit c _ z
def Ite (K:Fg) (a:Addr):It:=
 ⟨fun i H=>∃xs x,SqL K H a xs/\xs[i]?=some x,fun i H x H'=>∃T v,x=.ref T/\H T=none/\H'=upd H T (.tup [.int i,v])/\∀xs,SqL K H a xs->xs[i]?=some v,fun i H=>∃xs,SqL K H a xs/\xs.length<=i⟩
theorem turn_enum {P:Program} {w:World} {K:Fg} {k:Nat} (a e it:Addr) (hei:e≠it) (hae:a≠e) (hai:a≠it) :
  Turn P w K (.Tuple elts k pos) (Ite K a) [e,it] e (fun i h=>(∃old,IsEnum h e it i old)/\h.IsListIter it a i) where
 mem:=by simp
 obj:=fun i h st b hb=>by
  obtain ⟨⟨old,he⟩,o,e1,c,d⟩:=st
  simp only [mem_cons,not_mem_nil,or_false] at hb
  rcases hb with rfl | rfl
  ·exact ⟨_,he,fun v z=>by
    have z':Data.fields _=Data.cell v:=z
    cases z'⟩
  ·exact ⟨o,e1,fun v z=>by rw [d] at z;cases z⟩
 keep:=fun i h h' st kk=>by
  obtain ⟨⟨old,he⟩,hit⟩:=st
  exact ⟨⟨old,kk e (by simp) _ he⟩,hit.at fun o q=>kk it (by simp) o q⟩
 item:=by
  intro X hP hw hK hc i pins s σ H E I hf st hg
  subst hP hw hK
  obtain ⟨xs,x,hq,hx⟩:=hg
  obtain ⟨its,rv,p,hz⟩:=I.list hq
  obtain ⟨u,hu,ru⟩:=rv.get hx
  have W:=WalksT.enumerate (prog:=X.prog) (w:=X.w) (A:=X.A) (I.ok.hd hc) e it a hei hae hai its.toArray
  have hil:i<its.toArray.size:=by
   have:=(List.getElem?_eq_some_iff.mp hu).1
   simpa using this
  refine W.item i s _ _ hil ⟨st.1,st.2,p.isList⟩ fun T vals h' tk hv hT hTT hMid kk=>?_
  obtain ⟨t,y,hy,rfl⟩:=hv
  have ey:y=u:=by
   rw [getElem?_toArray,hu] at hy
   exact (Option.some.inj hy).symm
  subst ey
  refine ⟨.ref T,rfl,W.go elts k pos i T _ _ _ hMid fun h2 st2 kk2=>?_⟩
  have hTn:H T=none:=I.hok.fresh hT
  have hTw:T∉[e,it]:=W.apart i T _ hMid
  have kAll:∀b o,b∉[e,it]->s.heap.get? b=some o->h2.get? b=some o:=fun b o hb q=>kk2 b o hb (kk b o hb q)
  have I1:L2.Inv X pins σ H { s with heap:=h2,toks:=tk }:=Inv.turnedL I kAll hf
  have tT:h2.IsTuple T #[.int i t,y]:=by
   obtain ⟨o,q1,q2⟩:=hTT
   exact ⟨o,kk2 T o hTw q1,q2⟩
  have hvs:Vals [.int (i:Int),x] [.int i t,y]:=.cons (show RelV (.int (i:Int)) (.int i t) from ⟨t,rfl⟩) (.cons ru .nil)
  have I3:L2.Inv X pins σ (upd H T (.tup [.int i,x])) { s with heap:=h2,toks:=tk }:=Inv.turnedT (t':=tk) I kAll hf hT ⟨by show 2<=sizeLine;decide,[.int i t,y],hvs,(show IsTup h2 T _ from tT)⟩
  refine ⟨.ref T,upd H T (.tup [.int i,x]),I3,rfl,⟨T,x,rfl,hTn,rfl,fun ys hy=>by rw [I.list_inj hy hq];exact hx⟩,⟨st2.1,st2.2.1⟩,fun b hb=>?_⟩
  have hbT:b≠T:=fun z=>by rw [z] at hb;exact hTw hb
  rw [upd_ne hbT]
  exact (hf b hb).1
 done:=by
  intro X hP hw hK hc i pins s σ H E I hf st hg
  subst hP hw hK
  obtain ⟨xs,hq,hx⟩:=hg
  obtain ⟨its,rv,p,hz⟩:=I.list hq
  have hl:=rv.length
  obtain ⟨⟨old,he⟩,hit⟩:=st
  refine wpAny_pyNext_enum_end (I.ok.hd hc) he hit p.isList (Array.getElem?_eq_none (by simp;omega)) fun h' hk=>⟨rfl,Inv.turnedL (t':=s.toks) I (fun b o hb q=>hk b o (fun z=>hb (by simp [z])) q) hf⟩
 self:=fun _ _ _ _ _ st h=>by
  obtain ⟨⟨old,he⟩,hit⟩:=st
  exact wpAny_pyIter_enum he h
def iEnum (K:Fg) (ta:TA):TI:=fun σ H R=>ta σ H fun vs H1=>∃a,vs=[.ref a]/\(∃xs,SqL K H1 a xs)/\R (Ite K a) H1
theorem pi_enum {kt:Nat} {ptg:Pos} {l:Expr} {p:Pos} (hg:Gl X "enumerate") (hm:X.mg "enumerate"=none) (ha:PA X [l] ta) (hs:starEach [l] X.env=[(false,eval l X.env)]) :
  PI X (.Tuple elts kt ptg) (.Call (.Name "enumerate" p) [l] [] pos) (iEnum X.K ta):=by
 intro pins s σ H R I h
 refine Call_ (ld_blt I hg hm boot_enumerate (PyProof.Rows.callWith_type1 (thn (ha pos pins s σ H _ I h) fun us s1 ⟨vs,H1,I1,r1,q1⟩=>?_) hs rfl))
 obtain ⟨a,e,⟨xs,hq⟩,q⟩:=q1
 subst e
 obtain ⟨u,rfl,ru⟩:=r1.one
 cases ru
 obtain ⟨its,rv,pl,hz⟩:=I1.list hq
 refine call_enumerate_list pl.isList fun h' he hit hsz hk=>?_
 have ha1:a<s1.heap.objs.size:=by
  obtain ⟨o,q1,_⟩:=pl.isList
  exact Heap.lt_size q1
 refine wpAny_pyIter_enum (s:={ s1 with heap:=h' }) he ?_
 have I2:L2.Inv X pins σ H1 { s1 with heap:=h' }:=I1.kept (t':=s1.toks) hk
 refine ⟨s1.heap.objs.size+1,[s1.heap.objs.size+1,s1.heap.objs.size],_,Ite X.K a,H1,rfl,I2,turn_enum a _ _ (Nat.succ_ne_self _) (Nat.ne_of_lt (Nat.lt_succ_of_lt ha1)) (Nat.ne_of_lt ha1),⟨⟨_,he⟩,hit⟩,fun b hb=>?_,q⟩
 simp only [mem_cons,not_mem_nil,or_false] at hb
 have hb2:s1.heap.objs.size<=b:=by
  rcases hb with z | z
  ·rw [z];exact Nat.le_succ _
  ·rw [z];exact Nat.le_refl _
 have f:=I1.fpOk hb2 (I1.hok.fresh hb2)
 exact f
def forGoE (i j:Nat) (body:FS):Nat->List PySem.PyData->Ev->OutS
 | _,[],U=>.nx U
 | k,d::r,U=>if i<U.length/\j<U.length then (match body ((U.set i (some ⟨.leaf,.int (k:Nat)⟩)).set j (some ⟨.leaf,d⟩)) with
  | .nx U'=>forGoE i j body (k+1) r U'
  | .ct U'=>forGoE i j body (k+1) r U'
  | .bk U'=>.nx U'
  | .rt p=>.rt p
  | .er c U'=>.er c U'
  | .no=>.no) else .no
def sForE (i j:Nat) (fa:F1) (body:FS):FS:=fun U=>match iSeq fa U with
 | .ok t U1=>if t.st then forGoE i j body 0 t.ds U1 else .no
 | .er c U1=>.er c U1
 | .no=>.no
section
variable {K:Fg} {W:XW} {σ:St} {H:Hp} {D:Ends} {fa:F1}
theorem rd_forE {i j:Nat} {body:FS} (h:tS K W (sForE i j fa body) D σ H):tFor (iEnum K (tA K W (eCons fa eNil))) (gTup K 2 (gCons (gName i) (gCons (gName j) gNil))) (tS K W body) D σ H:=by
 obtain ⟨He,O,Fs,U,E,h⟩:=h
 refine tA_one ⟨He,O,Fs,U,E,?_⟩
 unfold sForE iSeq at h
 cases e:fa U with
 | er c U1=>rw [e] at h;exact fun H' Fs' s E'=>h σ H' Fs' E'
 | no=>rw [e] at h;exact h
 | ok p U1=>
  rw [e] at h
  intro v H1 G Fs1 A
  obtain ⟨s,d⟩:=p
  cases d with
  | list ds=>
   have h:WantsS K W He O D (match (if okItems ⟨s,.list ds⟩ ds then Out.ok (⟨ds,!s.isView⟩:Its) U1 else .no) with | .ok t U1=>if t.st then forGoE i j body 0 t.ds U1 else .no | .er c U1=>.er c U1 | .no=>.no):=h
   cases hc:okItems ⟨s,.list ds⟩ ds with
   | false=>rw [hc] at h;exact h.elim
   | true=>
    rw [hc] at h
    have h:WantsS K W He O D (if (!s.isView) then forGoE i j body 0 ds U1 else .no):=h
    cases ht:(!s.isView) with
    | false=>rw [ht] at h;exact h.elim
    | true=>
     rw [ht] at h
     have h:WantsS K W He O D (forGoE i j body 0 ds U1):=h
     obtain ⟨p,vs,rfl,hq,hst,hr⟩:=A.own.items (O':=O++Fs1.flatten) hc sub3 A.disj
     have E1:=A.go
     obtain ⟨E1',sHe⟩:=E1.rebase
     have hlen:vs.length=ds.length:=hr.1
     have hP:∀H2,Same (hid H1 Fs1.flatten) H2->SqL K H2 p vs:=fun H2 s2=>s2.seq (sub_hid.seq (hst (by simpa using ht)))
     refine ⟨p,rfl,⟨vs,hq⟩,fun k m σ' H'=>m=vs.length-k/\k<=vs.length/\∃Uk Fk,EnvOk K (hid H1 Fs1.flatten) O Fk H' σ' Uk/\WantsS K W He O D (forGoE i j body k (ds.drop k) Uk),⟨vs.length,by simp,Nat.zero_le _,U1,Fs1,E1',by simpa using h⟩,?_⟩
     rintro k m σ' H' ⟨rfl,hk,Uk,Fk,Ek,hw⟩
     have hPk:SqL K H' p vs:=hP H' Ek.same
     by_cases hlt:k<vs.length
     case neg=>
      left
      have:ds.drop k=[]:=drop_eq_nil_of_le (by omega)
      rw [this] at hw
      exact ⟨⟨vs,hPk,by omega⟩,hw σ' H' Fk (Ek.unbase sHe)⟩
     case pos=>
      right
      have hv:vs[k]?=some vs[k]:=getElem?_eq_getElem hlt
      have hkd:k<ds.length:=by omega
      have hd:ds[k]?=some ds[k]:=getElem?_eq_getElem hkd
      have hdr:ds.drop k=ds[k]::ds.drop (k+1):=drop_eq_getElem_cons hkd
      rw [hdr] at hw
      generalize hdk:ds[k]=d at hd hw
      generalize hvk:vs[k]=v at hv
      simp only [forGoE] at hw
      by_cases hi:i<Uk.length/\j<Uk.length
      case neg=>rw [if_neg hi] at hw;exact hw.elim
      rw [if_pos hi] at hw
      refine ⟨⟨vs,v,hPk,hv⟩,fun σ2 H2=>∃Uk Fk,EnvOk K (hid H1 Fs1.flatten) O Fk H2 σ2 Uk/\WantsS K W He O D (forGoE i j body (k+1) (ds.drop (k+1)) Uk),fun σ2 H2 q=>⟨vs.length-(k+1),by omega,rfl,hlt,q⟩,?_⟩
      rintro x Hx ⟨T,v',rfl,hTn,rfl,hv'⟩
      have ev:v'=v:=Option.some.inj ((hv' vs hPk).symm.trans hv)
      subst ev
      refine ⟨T,[.int k,v'],rfl,.of upd_same,rfl,.int k,[v'],rfl,v',[],rfl,rfl,?_⟩
      have Eg:=Ek.grow (same_upd (o:=.tup [.int k,v']) hTn)
      have rep:Rep K (hid (upd H' T (.tup [.int k,v'])) (O++Fk.flatten)) v' d:=by
       refine (hr.2 k v' d hv hd).mono fun b o hb=>?_
       have hb1:hid H1 Fs1.flatten b=some o:=sub_hid b o hb
       have hbO:b∉O:=fun z=>by
        unfold hid at hb
        rw [if_pos (mem_append_left _ z)] at hb
        cases hb
       have hbF:b∉Fk.flatten:=fun z=>by
        have:=Ek.fresh b z
        rw [hb1] at this
        cases this
       exact hid_get (Eg.same b o hb1) fun z=>(List.mem_append.mp z).elim hbO hbF
      have Ep:=EnvOk.put (G:=[]) (i:=i) (p:=⟨.leaf,.int (k:Nat)⟩) (v:=.int k) Eg (.leaf (.int _)) rfl (fun a ha=>by simp at ha) hi.1
      have fk:∀a∈O++(Fk.set i []).flatten,a∈O++Fk.flatten:=fun a ha=>by
       rcases List.mem_append.mp ha with z | z
       ·exact mem_append_left _ z
       ·obtain ⟨F,hF⟩:=Eg.lt hi.1
        have:=(flat_set (G:=[]) hF).mem_iff.mp (mem_append_right _ z)
        exact mem_append_right _ (by simpa using this)
      have Eq:=EnvOk.put (G:=[]) (i:=j) (p:=⟨.leaf,d⟩) (v:=v') Ep (.leaf (rep.mono (hid_mono (Same.refl _) fun a ha=>.inl (fk a ha)))) rfl (fun a ha=>by simp at ha) (by rw [length_set];exact hi.2)
      refine ⟨hid H1 Fs1.flatten,O,_,_,Eq,?_⟩
      cases eb:body ((Uk.set i (some ⟨.leaf,.int (k:Nat)⟩)).set j (some ⟨.leaf,d⟩)) with
      | nx U'=>rw [eb] at hw;exact fun σ2 H2 F2 E2=>⟨U',F2,E2,hw⟩
      | ct U'=>rw [eb] at hw;exact fun σ2 H2 F2 E2=>⟨U',F2,E2,hw⟩
      | bk U'=>rw [eb] at hw;exact fun σ2 H2 F2 E2=>hw σ2 H2 F2 (E2.unbase sHe)
      | rt p=>rw [eb] at hw;exact fun u H2 G r=>hw u H2 G (r.unbase sHe)
      | er c U'=>rw [eb] at hw;exact fun σ2 H2 F2 E2=>hw σ2 H2 F2 (E2.unbase sHe)
      | no=>rw [eb] at hw;exact hw
  | _=>exact h.elim
end
section
variable {X:Cx} {N gl:List Str} {vs cs ls lo gs:List Nat} {W:XW} {a:Expr} {pos p:Pos} {fa:F1}
end
def compGoE (i j:Nat) (fc:FB) (fe:F1) (s:Sh):Nat->List PySem.PyData->Ev->List PySem.PyData->Out (List PySem.PyData)
 | _,[],U,acc=>.ok acc U
 | k,d::r,U,acc=>match fc ((U.set i (some ⟨.leaf,.int (k:Nat)⟩)).set j (some ⟨.leaf,d⟩)) with
  | .ok true U1=>(match fe U1 with
   | .ok p U2=>if T.coer s p&&decide (acc.length<sizeLine) then compGoE i j fc fe s (k+1) r ((U2.set i none).set j none) (acc++[p.d]) else .no
   | _=>.no)
  | .ok false U1=>if acc.length<sizeLine then compGoE i j fc fe s (k+1) r ((U1.set i none).set j none) acc else .no
  | _=>.no
def isNone2:Option (Option PV)->Bool
 | some none=>true
 | _=>false
def eCompE (s:Sh) (i j:Nat) (fa:F1) (fc:FB) (fe:F1):F1:=fun U=>(iSeq fa U).bind fun t U1=>if isNone2 U1[i]?&&isNone2 U1[j]?&&!s.isView then (match compGoE i j fc fe s 0 t.ds U1 [] with
 | .ok ds U2=>.ok ⟨.lst s,.list ds⟩ U2
 | _=>.no) else .no
theorem isNone2_eq (h:isNone2 o=true):o=some none:=by
 unfold isNone2 at h
 split at h
 ·rfl
 ·cases h
section
variable {K:Fg} {He H H1 H2:Hp} {O G:List Addr} {Fs Fs1 Fs2:List (List Addr)} {σ:St} {U U1 U2:Ev}
theorem set2_get {i j m:Nat} {p:PV} (h:((U.set i none).set j none)[m]?=some (some p)):m≠i/\m≠j/\U[m]?=some (some p):=by
 obtain ⟨h1,h2⟩:=set_none_get h
 obtain ⟨h3,h4⟩:=set_none_get h2
 exact ⟨h3,h1,h4⟩
theorem EnvOk.forget2 {i j:Nat} {x y:Option V} (E:EnvOk K He O Fs H (((blank [i,j] σ).set i x).set j y) U):EnvOk K He O Fs H (blank [i,j] σ) ((U.set i none).set j none):=by
 refine ⟨by have:=E.len1;simpa using this,by have:=E.len2;simpa using this,E.same,E.nd,E.inH,E.fresh,fun m q hq=>?_⟩
 obtain ⟨h1,h2,h3⟩:=set2_get hq
 obtain ⟨w1,v',F',e1,e2,e3⟩:=E.slot m q h3
 rw [getElem?_set_ne (Ne.symm h2),getElem?_set_ne (Ne.symm h1)] at e1
 exact ⟨w1,v',F',e1,e2,e3⟩
theorem EnvOk.blank2 {i j:Nat} (E:EnvOk K He O Fs H σ U) (hi:U[i]?=some none) (hj:U[j]?=some none):EnvOk K He O Fs H (blank [i,j] σ) U:=by
 refine ⟨by rw [blank_len];exact E.len1,E.len2,E.same,E.nd,E.inH,E.fresh,fun m q hq=>?_⟩
 obtain ⟨w1,v',F',e1,e2,e3⟩:=E.slot m q hq
 refine ⟨w1,v',F',?_,e2,e3⟩
 rw [blank_ne (fun z=>?_)]
 ·exact e1
 ·simp only [mem_cons,not_mem_nil,or_false] at z
  rcases z with z | z
  ·rw [z,hi] at hq;cases hq
  ·rw [z,hj] at hq;cases hq
theorem EnvOk.unblank2 {i j:Nat} (E:EnvOk K He O Fs H (blank [i,j] σ) U):EnvOk K He O Fs H σ U:=by
 refine ⟨by have:=E.len1;rw [blank_len] at this;exact this,E.len2,E.same,E.nd,E.inH,E.fresh,fun m q hq=>?_⟩
 obtain ⟨w1,v',F',e1,e2,e3⟩:=E.slot m q hq
 exact ⟨w1,v',F',(blank_get e1).2,e2,e3⟩
theorem flat_sub {i:Nat} {a:Addr} (hi:i<Fs.length) (h:a∈(Fs.set i []).flatten):a∈Fs.flatten:=by
 have hF:Fs[i]?=some (Fs[i]'hi):=getElem?_eq_getElem _
 have:=(flat_set (G:=[]) hF).mem_iff.mp (mem_append_right _ h)
 simpa using this
structure GathE (K:Fg) (He:Hp) (O:List Addr) (Fs1:List (List Addr)) (H1:Hp) (σ:St) (i j:Nat) (s:Sh) (A0:Addr) (n:Nat) (ys:List V) (H:Hp) (Uk:Ev) (Fk Gs:List (List Addr)) (acc:List PySem.PyData):Prop where
 env:EnvOk K He (A0::Gs.flatten++O) Fk H (blank [i,j] σ) Uk
 same:Same H1 H
 at_:H A0=some (.lst ys)
 new:∀a∈Gs.flatten++Fk.flatten,a∈Fs1.flatten\/H1 a=none
 l1:ys.length=acc.length
 l2:Gs.length=acc.length
 own:∀(m:Nat) v d G,ys[m]?=some v->acc[m]?=some d->Gs[m]?=some G->Own K (A0::Gs.flatten++O++Fk.flatten) H s G v d
 len:Uk.length=n
end
section
variable {K:Fg} {W:XW} {σ:St} {H:Hp} {Q:VK} {fa fe:F1} {fc:FB} {s:Sh} {i j:Nat}
theorem rd_compE (hij:i≠j) (h:tE K W (eCompE s i j fa fc fe) σ H Q):tComp [i,j] (iEnum K (tA K W (eCons fa eNil))) (gTup K 2 (gCons (gName i) (gCons (gName j) gNil))) (tT K W0 fc) (tE K W0 fe) σ H Q:=by
 obtain ⟨He,O,Fs,U,E,h⟩:=h
 refine tA_one ⟨He,O,Fs,U,E,?_⟩
 unfold eCompE iSeq at h
 cases e:fa U with
 | er c U1=>rw [e] at h;exact h
 | no=>rw [e] at h;exact h
 | ok p U1=>
  rw [e] at h
  intro v H1 G Fs1 A
  obtain ⟨sp,d⟩:=p
  cases d with
  | list ds=>
   have h:Wants K W He O Fs H σ Q ((if okItems ⟨sp,.list ds⟩ ds then Out.ok (⟨ds,!sp.isView⟩:Its) U1 else .no).bind fun t U1=>if isNone2 U1[i]?&&isNone2 U1[j]?&&!s.isView then (match compGoE i j fc fe s 0 t.ds U1 [] with | .ok ds U2=>.ok ⟨.lst s,.list ds⟩ U2 | _=>.no) else .no):=h
   cases hc:okItems ⟨sp,.list ds⟩ ds with
   | false=>rw [hc] at h;exact h.elim
   | true=>
    rw [hc] at h
    have h:Wants K W He O Fs H σ Q (if isNone2 U1[i]?&&isNone2 U1[j]?&&!s.isView then (match compGoE i j fc fe s 0 ds U1 [] with | .ok ds U2=>.ok ⟨.lst s,.list ds⟩ U2 | _=>.no) else .no):=h
    by_cases hn:(isNone2 U1[i]?&&isNone2 U1[j]?&&!s.isView)=true
    case neg=>rw [if_neg hn] at h;exact h.elim
    rw [if_pos hn] at h
    simp only [Bool.and_eq_true,Bool.not_eq_true'] at hn
    obtain ⟨⟨hni,hnj⟩,hsv⟩:=hn
    have hni:=isNone2_eq hni
    have hnj:=isNone2_eq hnj
    cases eg:compGoE i j fc fe s 0 ds U1 [] with
    | er c U'=>rw [eg] at h;exact h.elim
    | no=>rw [eg] at h;exact h.elim
    | ok ds' U2=>
     rw [eg] at h
     have h:Wants K W He O Fs H σ Q (.ok ⟨.lst s,.list ds'⟩ U2):=h
     obtain ⟨p,vs,rfl,hq,hst,hr⟩:=A.own.items (O':=O++Fs1.flatten) hc sub3 A.disj
     have E1:=A.go
     have hlen:vs.length=ds.length:=hr.1
     have hi:i<U1.length:=(List.getElem?_eq_some_iff.mp hni).1
     have hj:j<U1.length:=(List.getElem?_eq_some_iff.mp hnj).1
     refine ⟨p,rfl,⟨vs,hq⟩,fun A0 hD=>?_⟩
     have hHeD:He A0=none:=E1.same.free hD
     have E0':EnvOk K He (A0::([]:List (List Addr)).flatten++O) Fs1 (upd H1 A0 (.lst [])) (blank [i,j] σ) U1:=
      (E1.blank2 hni hnj).hide (G:=[A0]) (same_upd hD) (by simp) (fun a ha=>by simp at ha;rw [ha];exact hD) (fun a ha=>by simp at ha;rw [ha,upd_same];exact Option.some_ne_none _)
     refine ⟨fun k m ys H'=>m=vs.length-k/\k<=vs.length/\∃Uk Fk Gs acc,GathE K He O Fs1 H1 σ i j s A0 U1.length ys H' Uk Fk Gs acc/\compGoE i j fc fe s k (ds.drop k) Uk acc=.ok ds' U2,⟨vs.length,by simp,Nat.zero_le _,U1,Fs1,[],[],⟨E0',same_upd hD,upd_same,fun a ha=>.inl (by simpa using ha),rfl,rfl,fun m v d G h1=>by simp at h1,rfl⟩,by simpa using eg⟩,?_⟩
     rintro k m ys H' ⟨rfl,hk,Uk,Fk,Gs,acc,g,eg'⟩
     refine ⟨g.at_,?_⟩
     have hPk:SqL K H' p vs:=g.same.seq hq
     by_cases hlt:k<vs.length
     case neg=>
      left
      have:ds.drop k=[]:=drop_eq_nil_of_le (by omega)
      rw [this] at eg'
      have eg'':(Out.ok acc Uk:Out (List PySem.PyData))=.ok ds' U2:=eg'
      injection eg'' with e1 e2
      subst e1
      subst e2
      refine ⟨⟨vs,hPk,by omega⟩,?_⟩
      obtain ⟨n1',_,n3'⟩:=List.nodup_append.mp g.env.ndO
      refine h (.ref A0) H' (A0::Gs.flatten) Fk ⟨A.same.trans g.same,g.env.unblank2,fun a ha=>?_,?_⟩
      ·have up:a∈Fs1.flatten\/H1 a=none->a∈Fs.flatten\/H a=none:=fun z=>z.elim (fun y=>A.newF a y) fun y=>.inr (A.same.free y)
       rcases List.mem_append.mp ha with z | z
       ·rcases List.mem_cons.mp z with z | z
        ·exact up (.inr (by rw [z];exact hD))
        ·exact up (g.new a (mem_append_left _ z))
       ·exact up (g.new a (mem_append_right _ z))
      ·exact .lst hsv g.at_ g.l1 g.l2 n1' fun m v d G h1 h2 h3=>g.own m v d G h1 h2 h3
     case pos=>
      right
      have hv:vs[k]?=some vs[k]:=getElem?_eq_getElem hlt
      have hkd:k<ds.length:=by omega
      have hd:ds[k]?=some ds[k]:=getElem?_eq_getElem hkd
      have hdr:ds.drop k=ds[k]::ds.drop (k+1):=drop_eq_getElem_cons hkd
      rw [hdr] at eg'
      generalize hdk:ds[k]=d at hd eg'
      generalize hvk:vs[k]=v at hv
      simp only [compGoE] at eg'
      have hik:i<Uk.length:=by rw [g.len];exact hi
      have hjk:j<Uk.length:=by rw [g.len];exact hj
      have hsl:ys.length<sizeLine:=by
       rw [g.l1]
       cases ec:fc ((Uk.set i (some ⟨.leaf,.int (k:Nat)⟩)).set j (some ⟨.leaf,d⟩)) with
       | no=>rw [ec] at eg';cases eg'
       | er c U'=>rw [ec] at eg';cases eg'
       | ok b Ua=>
        rw [ec] at eg'
        cases b with
        | false=>
         dsimp only at eg'
         split at eg'
         ·assumption
         ·cases eg'
        | true=>
         dsimp only at eg'
         split at eg'
         ·split at eg'
          ·rename_i z
           simp only [Bool.and_eq_true,decide_eq_true_eq] at z
           exact z.2
          ·cases eg'
         ·cases eg'
      refine ⟨⟨vs,v,hPk,hv⟩,hsl,?_⟩
      rintro x Hx ⟨T,v',rfl,hTn,rfl,hv'⟩
      have ev:v'=v:=Option.some.inj ((hv' vs hPk).symm.trans hv)
      subst ev
      refine ⟨T,[.int k,v'],rfl,.of upd_same,rfl,.int k,[v'],rfl,v',[],rfl,rfl,?_⟩
      have sT:Same H' (upd H' T (.tup [.int k,v'])):=same_upd hTn
      have Eg:=g.env.grow sT
      have rep:Rep K (hid (upd H' T (.tup [.int k,v'])) (A0::Gs.flatten++O++Fk.flatten)) v' d:=(hr.2 k v' d hv hd).mono (hid_mono (g.same.trans sT) fun a ha=>by
       rcases List.mem_append.mp ha with z | z
       ·rcases List.mem_append.mp z with z | z
        ·rcases List.mem_cons.mp z with z | z
         ·rw [z];exact .inr hD
         ·exact (g.new a (mem_append_left _ z)).elim (fun y=>.inl (mem_append_right _ y)) .inr
        ·exact .inl (mem_append_left _ z)
       ·exact (g.new a (mem_append_right _ z)).elim (fun y=>.inl (mem_append_right _ y)) .inr)
      have lF:Fk.length=Uk.length:=g.env.len2
      have Ep:=EnvOk.put (G:=[]) (i:=i) (p:=⟨.leaf,.int (k:Nat)⟩) (v:=.int k) Eg (.leaf (.int _)) rfl (fun a ha=>by simp at ha) hik
      have fk:∀a∈(Fk.set i []).flatten,a∈Fk.flatten:=fun a ha=>flat_sub (by omega) ha
      have Eq:=EnvOk.put (G:=[]) (i:=j) (p:=⟨.leaf,d⟩) (v:=v') Ep (.leaf (rep.mono (hid_mono (Same.refl _) fun a ha=>.inl (by
       rcases List.mem_append.mp ha with z | z
       ·exact mem_append_left _ z
       ·exact mem_append_right _ (fk a z))))) rfl (fun a ha=>by simp at ha) (by rw [length_set];exact hjk)
      have fkk:∀a∈((Fk.set i []).set j []).flatten,a∈Fk.flatten:=fun a ha=>fk a (flat_sub (by rw [length_set];omega) ha)
      refine ⟨⟨by rw [length_set,length_set],fun m u hm=>?_⟩,?_⟩
      ·have:=(blank_get hm).1
       simp only [mem_cons,not_mem_nil,or_false,not_or] at this
       rw [getElem?_set_ne (Ne.symm this.2),getElem?_set_ne (Ne.symm this.1)]
       exact hm
      refine ⟨He,_,_,_,Eq,?_⟩
      cases ec:fc ((Uk.set i (some ⟨.leaf,.int (k:Nat)⟩)).set j (some ⟨.leaf,d⟩)) with
      | no=>rw [ec] at eg';cases eg'
      | er c U'=>rw [ec] at eg';cases eg'
      | ok b Ua=>
       rw [ec] at eg'
       intro H3 Fs3 s3' E3 n3
       have s3:Same H' H3:=sT.trans s3'
       have lena:Ua.length=U1.length:=by
        have:=E3.len1
        rw [length_set,length_set,blank_len,E1.len1] at this
        exact this.symm
       have n3':∀a∈Fs3.flatten,a∈Fs1.flatten\/H1 a=none:=fun a ha=>(n3 a ha).elim (fun z=>g.new a (mem_append_right _ (fkk a z))) fun z=>.inr (g.same.free (sT.free z))
       have n3k:∀a∈Fs3.flatten,a∈Fk.flatten\/H' a=none:=fun a ha=>(n3 a ha).elim (fun z=>.inl (fkk a z)) fun z=>.inr (sT.free z)
       cases b with
       | false=>
        dsimp only at eg'
        split at eg'
        case isFalse=>cases eg'
        refine iteF ⟨vs.length-(k+1),by omega,rfl,hlt,(Ua.set i none).set j none,Fs3,Gs,acc,⟨E3.forget2,g.same.trans s3,s3 _ _ g.at_,fun a ha=>?_,g.l1,g.l2,fun m v d G h1 h2 h3=>(g.own m v d G h1 h2 h3).mono s3 fun a ha=>?_,by rw [length_set,length_set];exact lena⟩,eg'⟩
        ·rcases List.mem_append.mp ha with z | z
         ·exact g.new a (mem_append_left _ z)
         ·exact n3' a z
        ·rcases List.mem_append.mp ha with z | z
         ·exact .inl (mem_append_left _ z)
         ·exact (n3k a z).elim (fun y=>.inl (mem_append_right _ y)) .inr
       | true=>
        refine iteT ⟨He,_,_,_,E3,?_⟩
        dsimp only at eg'
        cases ee:fe Ua with
        | no=>rw [ee] at eg';cases eg'
        | er c U'=>rw [ee] at eg';cases eg'
        | ok p Ub=>
         rw [ee] at eg'
         dsimp only at eg'
         split at eg'
         case isFalse=>cases eg'
         rename_i hco
         simp only [Bool.and_eq_true,decide_eq_true_eq] at hco
         obtain ⟨hco,_⟩:=hco
         intro u H4 G Fs4 A4
         have lenb:Ub.length=U1.length:=by
          have:=A4.env.len1
          rw [length_set,length_set,blank_len,E1.len1] at this
          exact this.symm
         have at4:H4 A0=some (.lst ys):=A4.same _ _ (s3 _ _ g.at_)
         have s14:Same H1 H4:=(g.same.trans s3).trans A4.same
         have new4:∀a∈G++Fs4.flatten,a∈Fs1.flatten\/H1 a=none:=fun a ha=>(A4.new a ha).elim (n3' a) fun z=>.inr ((g.same.trans s3).free z)
         have hG':∀a∈keepG s G,a∈G:=fun a ha=>keepG_sub ha
         obtain ⟨k1,k2,k3⟩:=List.nodup_append.mp A4.env.ndO
         have ndk:(keepG s G).Nodup:=by
          cases s<;>first | exact nodup_nil | exact k1
         have pmO:(A0::(Gs++[keepG s G]).flatten++O).Perm (keepG s G++(A0::Gs.flatten++O)):=by
          rw [flatten_snoc]
          show (A0::((Gs.flatten++keepG s G)++O)).Perm _
          refine List.Perm.trans ?_ List.perm_middle.symm
          refine List.Perm.cons _ ?_
          rw [append_assoc]
          exact perm3 _ _ _
         have E5:EnvOk K He (keepG s G++(A0::Gs.flatten++O)) Fs4 H4 (((blank [i,j] σ).set i (some (.int k))).set j (some v')) Ub:=A4.env.drop (fun a ha=>by
          rcases List.mem_append.mp ha with z | z
          ·exact mem_append_left _ (hG' a z)
          ·exact mem_append_right _ z) (List.nodup_append.mpr ⟨ndk,k2,fun a ha b hb=>k3 a (hG' a ha) b hb⟩)
         have E6:=(E5.perm pmO).forget2
         have hDin:A0∈A0::(Gs++[keepG s G]).flatten++O:=mem_cons_self
         have E7:=E6.mutO (o:=.lst (ys++[u])) hDin at4 hHeD
         have subH:∀a∈A0::(Gs++[keepG s G]).flatten++O++Fs4.flatten,a∈G++(A0::Gs.flatten++O)++Fs4.flatten:=fun a ha=>by
          rcases List.mem_append.mp ha with z | z
          ·rcases List.mem_append.mp (pmO.mem_iff.mp z) with y | y
           ·exact mem_append_left _ (mem_append_left _ (hG' a y))
           ·exact mem_append_left _ (mem_append_right _ y)
          ·exact mem_append_right _ z
         have Dnot:∀{m:Nat} {Gj:List Addr},Gs[m]?=some Gj->A0∉Gj:=fun {m Gj} hj z=>by
          have nd:=g.env.ndO
          exact (List.nodup_cons.mp nd).1 (mem_append_left _ (mem_flat hj z))
         refine ⟨at4,vs.length-(k+1),by omega,rfl,hlt,(Ub.set i none).set j none,Fs4,Gs++[keepG s G],acc++[p.d],⟨E7,fun b o hb=>?_,upd_same,fun a ha=>?_,by simp [g.l1],by simp [g.l2],fun m w d' G' h1 h2 h3=>?_,by rw [length_set,length_set];exact lenb⟩,eg'⟩
         ·rw [upd_ne (ne_of_none hb hD)]
          exact s14 b o hb
         ·rcases List.mem_append.mp ha with z | z
          ·rw [flatten_snoc] at z
           rcases List.mem_append.mp z with z | z
           ·exact g.new a (mem_append_left _ z)
           ·exact new4 a (mem_append_left _ (hG' a z))
          ·exact new4 a (mem_append_right _ z)
         ·by_cases hm:m<ys.length
          ·rw [getElem?_append_left hm] at h1
           rw [getElem?_append_left (by rw [<-g.l1];exact hm)] at h2
           rw [getElem?_append_left (by rw [g.l2,<-g.l1];exact hm)] at h3
           have o1:=g.own m w d' G' h1 h2 h3
           have o2:=o1.mono (O':=A0::(Gs++[keepG s G]).flatten++O++Fs4.flatten) (s3.trans A4.same) fun a ha=>by
            have up:a∈G++Fs4.flatten->a∈A0::Gs.flatten++O++Fk.flatten\/H' a=none:=fun z=>(A4.new a z).elim (fun y=>(n3k a y).elim (fun y=>.inl (mem_append_right _ y)) .inr) fun y=>.inr (s3.free y)
            rcases List.mem_append.mp (subH a ha) with z | z
            ·rcases List.mem_append.mp z with z | z
             ·exact up (mem_append_left _ z)
             ·exact .inl (mem_append_left _ z)
            ·exact up (mem_append_right _ z)
           exact o2.mut hsv (mem_append_left _ hDin) (Dnot h3) at4
          ·have hm':m=ys.length:=by
            have:=(List.getElem?_eq_some_iff.mp h1).1
            rw [length_append,length_singleton] at this
            omega
           subst hm'
           rw [getElem?_append_right (Nat.le_refl _),Nat.sub_self] at h1
           rw [getElem?_append_right (by rw [g.l1];exact Nat.le_refl _),show ys.length-acc.length=0 by rw [g.l1];exact Nat.sub_self _] at h2
           rw [getElem?_append_right (by rw [g.l2,g.l1];exact Nat.le_refl _),show ys.length-Gs.length=0 by rw [g.l2,g.l1];exact Nat.sub_self _] at h3
           cases h1
           cases h2
           cases h3
           have o3:=A4.own.coer (s:=s) (O':=A0::(Gs++[keepG s G]).flatten++O++Fs4.flatten) hco subH fun a ha hO=>by
            cases s with
            | leaf=>
             exfalso
             have hO':a∈(A0::Gs.flatten++O)++Fs4.flatten:=by
              rw [flatten_snoc] at hO
              simpa [keepG] using hO
             rcases List.mem_append.mp hO' with z | z
             ·exact k3 a ha a z rfl
             ·have nd:=A4.env.nd
              exact (List.nodup_append.mp nd).2.2 a (mem_append_left _ ha) a z rfl
            | view=>cases hsv
            | lst s=>exact ha
            | tup ss=>exact ha
           refine o3.mut hsv (mem_append_left _ hDin) (fun z=>?_) at4
           exact k3 A0 (hG' A0 z) A0 mem_cons_self rfl
  | _=>exact h.elim
end
def compBL (N:List Str) (is:List Nat) (cs:List Nat) (sc:Scope):Bool:=
 decide (sc.kind=.function)&&(sc.names.all fun p=>!decide (p.2=.free)||cs.any fun j=>decide (N[j]?=some p.1)) &&
 ((List.range N.length).all fun j=>is.contains j||(sc.names.all fun p=>!decide (some p.1=N[j]?)||(!decide (p.2=.local)&&!decide (p.2=.cell)))) &&
 (sc.names.all fun p=>!decide (p.2=.local)||decide (sc.names.lookup p.1=some .local)) &&
 (sc.names.all fun p=>!decide (p.2=.free)||sc.names.all fun q=>!decide (q.1=p.1)||!decide (q.2=.cell))
theorem compBL_ok {N gl:List Str} {vs cs ls lo gs is:List Nat} {scope:Scope} (S:Cp X N gl vs cs ls lo gs) (h:compBL N is cs scope=true):CompSc X.N is X.env.scope scope:=by
 unfold compBL at h
 simp only [Bool.and_eq_true,decide_eq_true_eq,all_eq_true,Bool.or_eq_true,Bool.not_eq_true',decide_eq_false_iff_not,any_eq_true,mem_range] at h
 obtain ⟨⟨⟨⟨h0,h1⟩,h2⟩,h3⟩,h4⟩:=h
 refine ⟨h0,fun n hn=>?_,fun j x e hj=>?_,fun x hx e=>?_,fun n hn hc=>?_⟩
 ·rcases h1 _ hn with z | ⟨j,hj,e⟩
  ·exact absurd rfl z
  ·exact S.cel j n e (by simpa using hj)
 ·rw [S.hN] at e
  rcases h2 j (List.getElem?_eq_some_iff.mp e).1 with z | z
  ·simpa using z
  ·exfalso
   rcases hj with y | y
   ·rcases z _ y with w | w
    ·exact w e.symm
    ·exact w.1 rfl
   ·rcases z _ y with w | w
    ·exact w e.symm
    ·exact w.2 rfl
 ·rcases h3 x hx with z | z
  ·exact absurd e z
  ·exact z
 ·rcases h4 _ hn with z | z
  ·exact z rfl
  ·rcases z _ hc with w | w
   ·exact w rfl
   ·exact w rfl
section
variable {X:Cx} {N gl:List Str} {vs cs ls lo gs:List Nat} {W:XW} {a:Expr} {pos p:Pos} {fa:F1}
end
end T
namespace TQ
open PySem PySem.Spec L2 T
open PyProof.Rows hiding St
variable {x y:Str} {cpos px py pt:Pos} {kt:Nat}
section
variable {X:Cx} {N gl:List Str} {vs cs ls lo gs:List Nat} {W:XW} {a b c e:Expr} {es:List Expr} {pos p:Pos} {fa fb fc:F1} {fl:FL} {ga gb:FB} {g1 g2 g:FS}
theorem w_ds_no {st:Stmt}:Q (PS X st (tS X.K W sNo)):=⟨fun pins s σ H D I h=>by
 obtain ⟨He,O,Fs,U,E,h⟩:=h
 exact h.elim⟩
theorem w_ds_drop (ha:Q (PE X e (tE X.K W fa))) (hs:swapsWith e none pos.line X.env=pure false):Q (PS X (.Expr e pos) (tS X.K W (sDrop fa))):=⟨have ha:=ha.p;PSimp (ps_expr ha hs) fun _ _ _=>rd_drop⟩
theorem w_cb_sorted (S:Cp X N gl vs cs ls lo gs) (j:Nat) (hj:gl[j]?=some ("sorted":Str)) (hg:gs.contains j=true) (hm:X.mg "sorted"=none) (ha:Q (PA X (e::es) (tA X.K W fl))) (he:starEach (e::es) X.env=(false,eval e X.env)::starEach es X.env) (hpl:(backTo pos (starEach es X.env)).any (·.1)=false):Q (PE X (.Call (.Name "sorted" p) (e::es) [] pos) (tE X.K W (eSortI fl))):=⟨have ha:=ha.p;PEimp (pe_callB call_sortI (S.g hj hg).1 hm b_sorted ha (S.g hj hg).2.2 (S.g hj hg).2.1 he hpl) fun _ _ _=>rd_sortI⟩
theorem w_cb_listRange {p2 pos2:Pos} (S:Cp X N gl vs cs ls lo gs) (j k:Nat) (hj:gl[j]?=some ("list":Str)) (hg:gs.contains j=true) (hm:X.mg "list"=none) (hk:gl[k]?=some ("range":Str)) (hg2:gs.contains k=true) (hm2:X.mg "range"=none) (ha:Q (PA X [a] (tA X.K W fl))) (hs:starEach [a] X.env=[(false,eval a X.env)]) (hs1:starEach [.Call (.Name "range" p2) [a] [] pos2] X.env=[(false,eval (.Call (.Name "range" p2) [a] [] pos2) X.env)]):Q (PE X (.Call (.Name "list" p) [.Call (.Name "range" p2) [a] [] pos2] [] pos) (tE X.K W (eLR fl))):=⟨have ha:=ha.p;PEimp (pe_listRange (S.g hj hg).1 hm (S.g hk hg2).1 hm2 S.calm ha hs hs1) fun _ _ _=>rd_LR⟩
theorem w_cs_while (n:Nat) {body:List Stmt} (hp:PassesOwn (model X.prog X.w) X.A X.env X.xe) (hc:Q (PT X c (tT X.K W ga))) (hb:Q (PSs X body (tS X.K W g))):Q (PS X (.While c body [] pos) (tS X.K W (sWhile n ga g))):=⟨have hc:=hc.p;have hb:=hb.p;PSimp (ps_while hp hc hb) fun _ _ _=>rd_while⟩
theorem w_cs_appAt (S:Cp X N gl vs cs ls lo gs) (i:Nat) {spos apos:Pos} (hi:N[i]?=some x) (hv:vs.contains i=true) (hk:Q (PE X b (tE X.K W fb))) (ha:Q (PE X a (tE X.K W fa))) (hx:PlainIx b) (hs:starEach [a] X.env=[(false,eval a X.env)]) (hbase:attributeBase (.Subscript (.Name x p) b spos) "append" X.env (eval (.Subscript (.Name x p) b spos) X.env)=eval (.Subscript (.Name x p) b spos) X.env) (hline:(apos.endLine==cpos.line)=true) (hfew:((backTo cpos (starEach [a] X.env)).all (fun x=>!x.1)&&(backToKw cpos (keywordEach [] X.env)).all (fun x=>x.1.isSome)
   && decide ([a].length+([]:List Keyword).length+(if ([]:List Keyword).isEmpty then 0 else 1)<30))=true) (hsw:swapsWith (.Call (.Attribute (.Subscript (.Name x p) b spos) "append" apos) [a] [] cpos) none pos.line X.env=pure false):Q (PS X (.Expr (.Call (.Attribute (.Subscript (.Name x p) b spos) "append" apos) [a] [] cpos) pos) (tS X.K W (sAppAt i fb fa))):=⟨T.cs_appAt S i hi hv hk.p ha.p hx hs hbase hline hfew hsw⟩
theorem w_cs_forE (S:Cp X N gl vs cs ls lo gs) (i j k:Nat) {body:List Stmt} {g:FS} (hx:N[i]?=some x) (hl:ls.contains i=true) (hy:N[j]?=some y) (hl2:ls.contains j=true) (hk:gl[k]?=some ("enumerate":Str)) (hg:gs.contains k=true) (hm:X.mg "enumerate"=none) (hp:PassesOwn (model X.prog X.w) X.A X.env X.xe) (ha:Q (PE X a (tE X.K W fa))) (hs1:starEach [a] X.env=[(false,eval a X.env)]) (hb:Q (PSs X body (tS X.K W g))) (hs:∀x,foldedSetIterable (.Call (.Name "enumerate" p) [a] [] pos) X.env x=pure x) {fpos:Pos}:Q (PS X (.For (.Tuple [.Name x px,.Name y py] kt pt) (.Call (.Name "enumerate" p) [a] [] pos) body [] fpos) (tS X.K W (sForE i j fa g))):=⟨by
 have ha:=ha.p
 have hb:=hb.p
 have hN:X.N.Nodup:=by rw [S.hN];exact S.nd
 exact PSimp (ps_for hp S.calm (pi_enum (S.g hk hg).1 hm (da_cons ha da_nil hs1) hs1) (pg_tup S.calm (pgs_cons (pg_name hN (by rw [S.hN];exact hx) (S.loc i x hx hl).1 (S.loc i x hx hl).2) (pgs_cons (pg_name hN (by rw [S.hN];exact hy) (S.loc j y hy hl2).1 (S.loc j y hy hl2).2) pgs_nil))) hb hs) fun _ _ _=>rd_forE⟩
theorem w_coE {scope:Scope} {elt:Expr} {ifs:List Expr} {fe:F1} {fc:FB} {vs' cs' lo' gs':List Nat} (S:Cp X N gl vs cs ls lo gs) (s:Sh) (i j k:Nat) (hij:(i != j)=true) (hx:N[i]?=some x) (hy:N[j]?=some y) (hk:gl[k]?=some ("enumerate":Str)) (hg:gs.contains k=true) (hm:X.mg "enumerate"=none) (h1:compBL N [i,j] cs scope=true) (h2:cpB N gl vs' cs' [i,j] lo' gs' scope=true) (ha:Q (PE X a (tE X.K W fa))) (hs1:starEach [a] X.env=[(false,eval a X.env)]) (hc:Blk X N gl vs' cs' [i,j] lo' gs' fun Y=>Q (PF Y ifs (tT Y.K W0 fc))) (he:Blk X N gl vs' cs' [i,j] lo' gs' fun Y=>Q (PE Y elt (tE Y.K W0 fe))) (hs:∀x,foldedSetIterable (.Call (.Name "enumerate" p) [a] [] cpos) X.env x=pure x):Q (PE X (.ListComp elt [⟨.Tuple [.Name x px,.Name y py] kt pt,.Call (.Name "enumerate" p) [a] [] cpos,ifs,0⟩] scope pos) (tE X.K W (eCompE s i j fa fc fe))):=⟨by
 have ha:=ha.p
 have hc:=fun Y S F=>(hc Y S F).p
 have he:=fun Y S F=>(he Y S F).p
 have B:=fun cells C s₀ H₀ ex=>S.blk h2 cells C s₀ H₀ ex
 have L:=fun cells C s₀ H₀ ex=>(B cells C s₀ H₀ ex).loc i x hx (by simp)
 have L2':=fun cells C s₀ H₀ ex=>(B cells C s₀ H₀ ex).loc j y hy (by simp)
 have hN:X.N.Nodup:=by rw [S.hN];exact S.nd
 exact PEimp (pe_comp (compBL_ok S h1) S.calm (pi_enum (S.g hk hg).1 hm (da_cons ha da_nil hs1) hs1)
  (fun cells C s₀ H₀ ex=>pg_tup (X:=blk X scope cells C s₀ H₀ ex) S.calm (pgs_cons (pg_name (X:=blk X scope cells C s₀ H₀ ex) (i:=i) hN (by show X.N[i]?=_;rw [S.hN];exact hx) (L cells C s₀ H₀ ex).1 (L cells C s₀ H₀ ex).2) (pgs_cons (pg_name (X:=blk X scope cells C s₀ H₀ ex) (i:=j) hN (by show X.N[j]?=_;rw [S.hN];exact hy) (L2' cells C s₀ H₀ ex).1 (L2' cells C s₀ H₀ ex).2) pgs_nil)))
  (fun cells C s₀ H₀ ex=>hc _ (B cells C s₀ H₀ ex) ⟨rfl,rfl,rfl,rfl,rfl,rfl⟩) (fun cells C s₀ H₀ ex=>he _ (B cells C s₀ H₀ ex) ⟨rfl,rfl,rfl,rfl,rfl,rfl⟩) hs) fun _ _ _=>rd_compE (by simpa using hij)⟩
end
end TQ
namespace L2
open PySem PySem.Spec PyProof.Rows
variable {o:Option V} {u:Value} {y:V} {kvs:List (List Key×V)} {H':Hp} {h':Heap}
section
variable {κ:Type} [DecidableEq κ]
def valV (kvs:List (κ×V)) (k:κ):Option V:=(kvs.find? fun kv=>decide (kv.1=k)).map (·.2)
def putK (kvs:List (κ×V)) (k:κ) (v:V):List (κ×V):=
 if (kvs.any fun kv=>decide (kv.1=k))=true then kvs.map (fun kv=>if kv.1=k then (kv.1,v) else kv) else kvs++[(k,v)]
theorem valV_pos {p:κ×V} {r:List (κ×V)} {k:κ} (e:p.1=k):valV (p::r) k=some p.2:=by simp [valV,find?_cons,e]
theorem valV_neg {p:κ×V} {r:List (κ×V)} {k:κ} (e:¬p.1=k):valV (p::r) k=valV r k:=by simp [valV,find?_cons,e]
theorem valV_any (k:κ):∀kvs:List (κ×V),(kvs.any fun kv=>decide (kv.1=k))=(valV kvs k).isSome
 | []=>rfl
 | p::r=>by
  rw [List.any_cons]
  by_cases e:p.1=k
  ·simp only [valV_pos e,decide_eq_true e,Bool.true_or,Option.isSome_some]
  ·rw [valV_neg e,decide_eq_false e,Bool.false_or];exact valV_any k r
theorem length_putK (kvs:List (κ×V)) (k:κ) (v:V):(putK kvs k v).length<=kvs.length+1:=by
 unfold putK
 split
 ·rw [length_map];omega
 ·rw [length_append,length_cons,List.length_nil];omega
theorem putK_new {kvs:List (κ×V)} {k:κ} (v:V) (h:valV kvs k=none):putK kvs k v=kvs++[(k,v)]:=by
 unfold putK
 rw [valV_any,h]
 exact if_neg (by decide)
theorem RelO.isSome_eq {u:Option Value} (r:RelO o u):o.isSome=u.isSome:=by
 cases o with
 | none=>cases u with
  | none=>rfl
  | some _=>exact (show False from r).elim
 | some _=>cases u with
  | none=>exact (show False from r).elim
  | some _=>rfl
theorem KV.val {kvs:List (κ×V)} {vs:List (κ×Value)} (r:KV kvs vs) (k:κ):RelO (valV kvs k) (valueAt vs k):=by
 unfold KV at r
 induction r with
 | nil=>exact True.intro
 | @cons p q ps qs h t ih=>
  obtain ⟨h1,h2⟩:=h
  by_cases e:p.1=k
  ·have e':q.1=k:=h1.symm.trans e
   have b:valueAt (q::qs) k=some q.2:=by simp [valueAt,find?_cons,e']
   rw [valV_pos e,b];exact h2
  ·have e':¬q.1=k:=fun z=>e (h1.trans z)
   have b:valueAt (q::qs) k=valueAt qs k:=by simp [valueAt,find?_cons,e']
   rw [valV_neg e,b];exact ih
theorem KV.any {kvs:List (κ×V)} {vs:List (κ×Value)} (r:KV kvs vs) (k:κ):(kvs.any fun kv=>decide (kv.1=k))=vs.any fun kv=>decide (kv.1=k):=by
 unfold KV at r
 induction r with
 | nil=>rfl
 | cons h t ih=>rw [List.any_cons,List.any_cons,ih,h.1]
theorem KV.repl {kvs:List (κ×V)} {vs:List (κ×Value)} (r:KV kvs vs) (k:κ) (ry:RelV y u) :
  KV (kvs.map fun kv=>if kv.1=k then (kv.1,y) else kv) (vs.map fun kv=>if kv.1=k then (kv.1,u) else kv):=by
 unfold KV at r ⊢
 induction r with
 | nil=>exact .nil
 | @cons p q ps qs h t ih=>
  rw [map_cons,map_cons]
  refine .cons ?_ ih
  obtain ⟨h1,h2⟩:=h
  by_cases e:p.1=k
  ·rw [if_pos e,if_pos (h1.symm.trans e)];exact ⟨h1,ry⟩
  ·rw [if_neg e,if_neg (fun z=>e (h1.trans z))];exact ⟨h1,h2⟩
theorem KV.put {kvs:List (κ×V)} {vs:List (κ×Value)} (r:KV kvs vs) (k:κ) (ry:RelV y u):KV (putK kvs k y) (stored vs k u):=by
 unfold putK stored
 rw [r.any k]
 by_cases e:(vs.any fun kv=>decide (kv.1=k))=true
 ·rw [if_pos e,if_pos e];exact r.repl k ry
 ·rw [if_neg e,if_neg e];exact Paired.snoc r ⟨rfl,ry⟩
theorem KV.length {kvs:List (κ×V)} {vs:List (κ×Value)} (r:KV kvs vs):kvs.length=vs.length:=Paired.length r
end
theorem kV_is {P:Program} {w:World} {k:Key} (r:RelV (kV k) u):(mixKind P w).is k u=true:=by
 cases k with
 | inl i=>obtain ⟨t,e⟩:=(show ∃t,u=Value.int i t from r);subst e;exact mixKind_int P w i t
 | inr x=>obtain ⟨t,e⟩:=(show ∃t,u=Value.str x t from r);subst e;exact mixKind_str P w x t
theorem items_are {P:Program} {w:World}:∀{ks:List Key} {us:List Value},Vals (ks.map kV) us->ItemsAre (mixKind P w) ks us
 | [],_,r=>by rw [List.map_nil] at r;cases r;exact .nil
 | k::ks,_,r=>by
  rw [map_cons] at r
  cases r with
  | cons h t=>exact .cons (kV_is h) (items_are t)
abbrev KT (H:Hp):List (List Key×V)->List (List Key×Addr×Value)->Prop:=Paired fun p q=>p.1=q.1/\H q.2.1=some (.tup (p.1.map kV))/\RelV p.2 q.2.2
theorem KT.val {H:Hp} {xs:List (List Key×Addr×Value)} (r:KT H kvs xs) (k:List Key):RelO (valV kvs k) ((atKey xs k).map (·.2)):=by
 induction r with
 | nil=>exact True.intro
 | @cons p q ps qs h t ih=>
  obtain ⟨h1,_,h2⟩:=h
  by_cases e:p.1=k
  ·have e':q.1=k:=h1.symm.trans e
   have b:atKey (q::qs) k=some q.2:=by simp [atKey,find?_cons,e']
   rw [valV_pos e,b];exact h2
  ·have e':¬q.1=k:=fun z=>e (h1.trans z)
   have b:atKey (q::qs) k=atKey qs k:=by simp [atKey,find?_cons,e']
   rw [valV_neg e,b];exact ih
theorem KT.repl {H:Hp} {xs:List (List Key×Addr×Value)} (r:KT H kvs xs) (k:List Key) (ry:RelV y u) :
  KT H (kvs.map fun kv=>if kv.1=k then (kv.1,y) else kv) (xs.map (putAt k u)):=by
 induction r with
 | nil=>exact .nil
 | @cons p q ps qs h t ih=>
  rw [map_cons,map_cons]
  refine .cons ?_ ih
  obtain ⟨h1,h2,h3⟩:=h
  unfold putAt
  by_cases e:p.1=k
  ·rw [if_pos e,if_pos (h1.symm.trans e)];exact ⟨h1,h2,ry⟩
  ·rw [if_neg e,if_neg (fun z=>e (h1.trans z))];exact ⟨h1,h2,h3⟩
theorem KT.put {H:Hp} {xs:List (List Key×Addr×Value)} (r:KT H kvs xs) (k:List Key) {b:Addr} (hb:H b=some (.tup (k.map kV))) (ry:RelV y u) :
  KT H (putK kvs k y) (storedH xs k b u):=by
 have e:(kvs.any fun kv=>decide (kv.1=k))=(atKey xs k).isSome:=by
  rw [valV_any,(r.val k).isSome_eq,Option.isSome_map]
 unfold putK storedH
 rw [e]
 by_cases q:(atKey xs k).isSome=true
 ·rw [if_pos q,if_pos q];exact r.repl k ry
 ·rw [if_neg q,if_neg q];exact Paired.snoc r ⟨rfl,hb,ry⟩
theorem KT.keeps {H:Hp} {xs:List (List Key×Addr×Value)} (r:KT H kvs xs) (ht:∀b ys,H b=some (.tup ys)->H' b=some (.tup ys)):KT H' kvs xs:=
 Paired.mapP r fun _ _ z=>⟨z.1,ht _ _ z.2.1,z.2.2⟩
section
variable {P:Program} {w:World} {H:Hp} {h:Heap} {a:Addr}
theorem rd_of {u:HO} (ok:HOk P w H h) (e:Rd H a u):ObjOk P w H h a u:=e.ok ok
theorem dk_rd {kvs:List (Key×V)} (ok:HOk P w H h) (e:Rd H a (.dK kvs)):kvs.length<=sizeLine/\(a==sysModules)=false/\∃vs,KV kvs vs/\h.DictOf (mixKind P w) a vs:=
 show ObjOk P w H h a (.dK kvs) from rd_of ok e
theorem dk_of {kvs:List (Key×V)} (ok:HOk P w H h) (e:H a=some (.dK kvs)):kvs.length<=sizeLine/\(a==sysModules)=false/\∃vs,KV kvs vs/\h.DictOf (mixKind P w) a vs:=dk_rd ok (.inl e)
theorem key_of {ks:List Key} (ok:HOk P w H h) (e:H a=some (.tup (ks.map kV))):(tupleKind (mixKind P w)).is h ks a:=by
 obtain ⟨_,its,r,o,h1,h2,n,h3⟩:=(show ObjOk P w H h a (.tup (ks.map kV)) from ok a _ e)
 exact ⟨o,its.toArray,n,h1,h2,h3,by simpa using items_are r⟩
theorem dt_rd (ok:HOk P w H h) (e:Rd H a (.dT kvs)):kvs.length<=sizeLine/\(a==sysModules)=false /\
  ∃xs,KT H kvs xs/\h.DictOfH (tupleKind (mixKind P w)) a xs:=by
 obtain ⟨z,y,xs,r,o,es,ep,h1,h2,h3,h4,h5⟩:=(show ObjOk P w H h a (.dT kvs) from rd_of ok e)
 refine ⟨z,y,xs,r,o,es,ep,h1,h2,h3,h4,fun x hx=>?_,h5⟩
 have all:∀{l:List (List Key×V)} {m:List (List Key×Addr×Value)},KT H l m->∀x∈m,(tupleKind (mixKind P w)).is h x.1 x.2.1:=by
  intro l m q
  induction q with
  | nil=>intro x hx;exact nomatch hx
  | @cons p q ps qs hq t ih=>
   intro x hx
   rcases List.mem_cons.mp hx with e | hx
   ·subst e
    exact key_of ok (by rw [<-hq.1];exact hq.2.1)
   ·exact ih x hx
 exact all r x hx
theorem dt_of (ok:HOk P w H h) (e:H a=some (.dT kvs)):kvs.length<=sizeLine/\(a==sysModules)=false /\
  ∃xs,KT H kvs xs/\h.DictOfH (tupleKind (mixKind P w)) a xs:=dt_rd ok (.inl e)
end
def DGet (H:Hp) (a:Addr) (y:V) (r:Option V):Prop:=
 (∃kvs k,Rd H a (.dK kvs)/\y=kV k/\r=valV kvs k)\/∃kvs k b,Rd H a (.dT kvs)/\y=.ref b/\H b=some (.tup (k.map kV))/\r=valV kvs k
def DPut (H:Hp) (a:Addr) (y v:V) (H':Hp):Prop:=
 (∃kvs k,H a=some (.dK kvs)/\y=kV k/\kvs.length<sizeLine/\H'=upd H a (.dK (putK kvs k v))) \/
 ∃kvs k b,H a=some (.dT kvs)/\y=.ref b/\H b=some (.tup (k.map kV))/\kvs.length<sizeLine/\H'=upd H a (.dT (putK kvs k v))
theorem DGet.k {H:Hp} {a:Addr} {kvs:List (Key×V)} {k:Key} (e:H a=some (.dK kvs)):DGet H a (kV k) (valV kvs k):=.inl ⟨kvs,k,.inl e,rfl,rfl⟩
theorem DPut.k {H:Hp} {a:Addr} {kvs:List (Key×V)} {k:Key} {v:V} (e:H a=some (.dK kvs)) (hl:kvs.length<sizeLine):DPut H a (kV k) v (upd H a (.dK (putK kvs k v))):=.inl ⟨kvs,k,e,rfl,hl,rfl⟩
section
variable {X:Cx} {pins:List (Addr×Obj)} {σ:St} {H:Hp} {s:Shared} {a:Addr} {y v:V} {u r:Value} {o:Option V} {A:Around} {E:Value->Shared->Prop}
theorem Inv.big (I:Inv X pins σ H s):sysModules<s.heap.objs.size:=by
 have h:mainGlobals<s.heap.objs.size:=(I.mod.glob.keeps I.bk).lt
 exact Nat.lt_trans (by decide) h
theorem d_getItem {Q:Value->Shared->Prop} (hu:A.units+1<cLine) (I:Inv X pins σ H s) (g:DGet H a y (some v)) (ry:RelV y u) (h:∀w' s',Inv X pins σ H s'->RelV v w'->Q w' s') :
  wpAny (model X.prog X.w) A (getItem (.ref a) u) Q E s:=by
 rcases g with ⟨kvs,k,e,ey,l⟩ | ⟨kvs,k,b,e,ey,eb,l⟩
 ·subst ey
  obtain ⟨z,hd,vs,rel,dd⟩:=dk_rd I.hok e
  obtain ⟨w',hw,rw'⟩:=RelO.some_of (v:=v) (o:=valueAt vs k) (by rw [l];exact rel.val k)
  exact wpAny_getItem_of (kV_is ry) dd.mapOf hw (h w' _ (I.tok _) rw')
 ·subst ey
  cases (show u=Value.ref b from ry)
  obtain ⟨z,hd,xs,rel,dd⟩:=dt_rd I.hok e
  obtain ⟨w',hw,rw'⟩:=RelO.some_of (v:=v) (o:=(atKey xs k).map (·.2)) (by rw [l];exact rel.val k)
  obtain ⟨p,hp,hp2⟩:=Option.map_eq_some_iff.mp hw
  refine wpAny_getItem_heap (tupleKind_room_in1 hu) (key_of I.hok eb) dd hp ?_
  rw [hp2]
  exact h w' _ (I.tok _) rw'
theorem d_in {Q:Value->Shared->Prop} (hu:A.units+1<cLine) (I:Inv X pins σ H s) (g:DGet H a y o) (ry:RelV y u) (h:∀s',Inv X pins σ H s'->Q (.bool o.isSome) s') :
  wpAny (model X.prog X.w) A (compareOp .In u (.ref a)) Q E s:=by
 rcases g with ⟨kvs,k,e,ey,l⟩ | ⟨kvs,k,b,e,ey,eb,l⟩
 ·subst ey
  obtain ⟨z,hd,vs,rel,dd⟩:=dk_rd I.hok e
  refine wpAny_in_of (kV_is ry) hd dd.mapOf ?_
  rw [<-(rel.val k).isSome_eq,<-l]
  exact h _ (I.tok _)
 ·subst ey
  cases (show u=Value.ref b from ry)
  obtain ⟨z,hd,xs,rel,dd⟩:=dt_rd I.hok e
  refine wpAny_in_heap (tupleKind_room_in1 hu) (key_of I.hok eb) hd dd ?_
  have q:=(rel.val k).isSome_eq
  rw [Option.isSome_map] at q
  rw [<-q,<-l]
  exact h _ (I.tok _)
theorem d_write {t':Nat} {ob:HO} (I:Inv X pins σ H s) (mu:Mut (H a)) (hs:Heap.SameBut a s.heap h') (he:∃q,h'.get? a=some q) (new:ObjOk X.prog X.w (upd H a ob) h' a ob) :
  Inv X pins σ (upd H a ob) { s with heap:=h',toks:=t' }:=
 I.write (x:=a) (e:=a) mu (.inl rfl) (fun b q hb z=>(hs.2 b hb).trans z) he new
theorem dk_new {P:Program} {w:World} {kvs:List (Key×V)} {vs:List (Key×Value)} (z:kvs.length<=sizeLine) (hd:(a==sysModules)=false) (rel:KV kvs vs) (dd:h'.DictOf (mixKind P w) a vs) :
  ObjOk P w H' h' a (.dK kvs):=⟨z,hd,vs,rel,dd⟩
theorem d_setItem {Q:Unit->Shared->Prop} (hu:A.units+1<cLine) (I:Inv X pins σ H s) (g:DPut H a y v H') (ry:RelV y u) (rv:RelV v r) (h:∀s',Inv X pins σ H' s'->Q () s') :
  wpAny (model X.prog X.w) A (setItem (.ref a) u r) Q E s:=by
 rcases g with ⟨kvs,k,e,ey,l,eH⟩ | ⟨kvs,k,b,e,ey,eb,l,eH⟩
 ·subst ey eH
  obtain ⟨z,hd,vs,rel,dd⟩:=dk_of I.hok e
  have hz:vs.length<=sizeLine:=by rw [<-rel.length];exact z
  have hl:(putK kvs k v).length<=sizeLine:=by have:=length_putK kvs k v;omega
  refine wpAny_setItem_pairs (hsz:=hz) (kV_is ry) dd fun h' dd' hs=>h _ ?_
  have he:∃q,h'.get? a=some q:=let ⟨q,_,_,hq,_⟩:=dd';⟨q,hq⟩
  exact d_write I (by rw [e];exact True.intro) hs he (dk_new hl hd (rel.put k rv) dd')
 ·subst ey eH
  cases (show u=Value.ref b from ry)
  obtain ⟨z,hd,xs,rel,dd⟩:=dt_of I.hok e
  have hz:xs.length<=sizeLine:=by rw [<-Paired.length rel];exact z
  have hl:(putK kvs k v).length<=sizeLine:=by have:=length_putK kvs k v;omega
  refine wpAny_setItem_heap (hsz:=hz) (tupleKind_room_in1 hu) (key_of I.hok eb) dd fun h' dd' hs=>h _ ?_
  obtain ⟨q,es,ep,hq,h2,h3,h4,_,h5⟩:=dd'
  refine d_write I (by rw [e];exact True.intro) hs ⟨q,hq⟩ ⟨hl,hd,_,(rel.put k eb rv).keeps fun c ys ec=>?_,q,es,ep,hq,h2,h3,h4,h5⟩
  rw [upd_ne (ne_of ec e nofun)]
  exact ec
end
def NoSl (i:Expr):Prop:=∀ov iv,subscripted i false ov iv=operate [ov,iv] (getItem ov iv)
theorem subD_of {prog:Program} {w:World} {A:Around} {E:Value->Shared->Prop} {s:Shared} {env:Env} {value slice:Expr} {pos:Pos} {T id:String} {Q:Value->Shared->Prop}
  (hl:typeLookup (.type T) "__getitem__"=pure (some (.builtin id))) (hs:NoSl slice)
  (h:wpAny (model prog w) A (eval value env) (fun o s₁=>wpAny (model prog w) A (eval slice env) (fun i s₂=>s₂.TypeIs o T/\wpAny (model prog w) A (getItem o i) Q E s₂) E s₁) E s) :
  wpAny (model prog w) A (eval (.Subscript value slice pos) env) Q E s:=by
 refine Subscript_ (wpAny_mono h (fun o s₁ h₁=>wpAny_mono h₁ (fun i s₂ h₂=>?_) fun _ _ x=>x) fun _ _ x=>x)
 obtain ⟨hT,h₂⟩:=h₂
 unfold subscriptTail
 refine wpAny_bind ?_
 rw [getitemInPython_of_ne hT.not_modules]
 refine wpAny_bind (wpAny_specialOf hT hl ?_)
 have fin:wpAny (model prog w) A (subscripted slice false o i) (fun r s₃=>wpAny (model prog w) A (letTemporaryGo value o r >>= fun _=>pure r) Q E s₃) E s₂:=by
  rw [hs o i]
  exact wpAny_operating (wpAny_mono h₂ (fun r s₃ h₃=>wpAny_bind (wpAny_letTemporaryGo (wpAny_pure h₃))) fun _ _ x=>x)
 first
  | exact wpAny_pure (wpAny_bind fin)
  | exact wpAny_bind (wpAny_pure (wpAny_bind fin))
  | exact wpAny_bind fin
theorem dict_typeIs {X:Cx} {pins:List (Addr×Obj)} {σ:St} {H:Hp} {s:Shared} {a:Addr} (I:Inv X pins σ H s) (g:DGet H a y o):s.TypeIs (.ref a) "dict":=by
 rcases g with ⟨kvs,k,e,_,_⟩ | ⟨kvs,k,b,e,_,_,_⟩
 ·obtain ⟨_,_,vs,_,dd⟩:=dk_rd I.hok e
  exact dd.typeIs
 ·obtain ⟨_,_,xs,_,dd⟩:=dt_rd I.hok e
  exact dd.typeIs
def tDGet (td ty:TE):TE:=fun σ H Q=>td σ H fun x H1=>ty σ H1 fun y H2=>∃a v,x=.ref a/\DGet H2 a y (some v)/\Q v H2
def tDIn (ty td:TE):TE:=fun σ H Q=>ty σ H fun y H1=>td σ H1 fun x H2=>∃a o,x=.ref a/\DGet H2 a y o/\Q (.bl o.isSome) H2
def sDPut (td ty tv:TE):TS:=fun D σ H=>tv σ H fun v H1=>td σ H1 fun x H2=>ty σ H2 fun y H3=>∃a H4,x=.ref a/\DPut H3 a y v H4/\D.nx σ H4
section
variable {X:Cx} {o i e value:Expr} {pos pos' tpos:Pos} {td ty tv:TE}
theorem pe_dget (hu:X.A.units+1<cLine) (ho:PE X o td) (hi:PE X i ty) (hs:NoSl i):PE X (.Subscript o i pos) (tDGet td ty):=by
 intro pins s σ H Q I h
 refine subD_of PySem.F.slot_dict_getitem.lookup hs (thn (ho pins s σ H _ I h) fun u s1 ⟨x,H1,I1,rx,q1⟩=>thn (hi pins s1 σ H1 _ I1 q1) fun iv s2 ⟨y,H2,I2,ry,a,v,ex,g,q2⟩=>?_)
 subst ex
 obtain rfl:u=Value.ref a:=rx
 exact ⟨dict_typeIs I2 g,d_getItem hu I2 g ry fun w' s3 I3 rw'=>⟨v,H2,I3,rw',q2⟩⟩
theorem pc_din (hu:X.A.units+1<cLine) (hi:PE X i ty) (ho:PE X o td):PC X .In i o (tDIn ty td):=by
 intro pins s σ H Q I h
 refine thn (hi pins s σ H _ I h) fun iv s1 ⟨y,H1,I1,ry,q1⟩=>thn (ho pins s1 σ H1 _ I1 q1) fun u s2 ⟨x,H2,I2,rx,a,ov,ex,g,q2⟩=>?_
 subst ex
 obtain rfl:u=Value.ref a:=rx
 exact d_in hu I2 g ry fun s3 I3=>⟨.bl ov.isSome,H2,I3,rfl,q2⟩
theorem ps_dput (hu:X.A.units+1<cLine) (ho:PE X o td) (hi:PE X i ty) (hv:PE X value tv) (hs:swapsWith value (some (.Subscript o i pos')) pos.line X.env=pure false) :
  PS X (.Assign [.Subscript o i pos'] value pos) (sDPut td ty tv):=by
 intro pins s σ H D I h
 refine wpAny_Assign_Subscript (thn (hv pins s σ H _ I h) fun r s1 ⟨v,H1,I1,rv,q1⟩=>thn (ho pins s1 σ H1 _ I1 q1) fun u s2 ⟨x,H2,I2,rx,q2⟩=>thn (hi pins s2 σ H2 _ I2 q2) fun iv s3 ⟨y,H3,I3,ry,a,H4,ex,g,q3⟩=>?_) hs
 subst ex
 obtain rfl:u=Value.ref a:=rx
 exact d_setItem hu I3 g ry rv fun s4 I4=>⟨σ,H4,I4,q3⟩
end
theorem dk_empty {P:Program} {w:World} {H:Hp} (h:Heap) (hb:sysModules<h.objs.size):ObjOk P w H (h.push { cls:=.type "dict",data:=.dict #[] }) h.objs.size (.dK []):=
 ⟨Nat.zero_le _,beq_eq_false_iff_ne.mpr (Ne.symm (Nat.ne_of_lt hb)),[],.nil,Heap.DictOf.new h⟩
def tDNewK:TE:=fun _ H Q=>∀p,H p=none->Q (.ref p) (upd H p (.dK []))
section
variable {X:Cx} {pos:Pos}
theorem pe_dnewK:PE X (.Dict [] [] pos) tDNewK:=fun pins s σ H Q I h=>
 wpAny_Dict_empty ⟨.ref s.heap.objs.size,_,I.laid (a:=s.heap.objs.size) (o:=.dK []) (t':=s.toks) (fun _ _ q=>Heap.get?_push_of_some _ q) (Nat.le_refl _) (dk_empty s.heap I.big),rfl,h _ (I.hok.fresh (Nat.le_refl _))⟩
end
end L2
namespace T
open PySem PySem.Spec L2
open PyProof.Rows hiding St
variable {vs ws:List V} {G2 G1 F:List Addr} {He H1:Hp} {Fs Fs1:List (List Addr)} {U1:Ev}
def eCat (fa fb:F1):F1:=eBind fa fun p=>eBind fb fun q=>fun U=>match p.d,q.d with
 | .list xs,.list ys=>if okItems p xs&&okItems q ys&&decide (xs.length+ys.length<=sizeLine) then .ok ⟨.lst .leaf,.list (xs++ys)⟩ U else .no
 | _,_=>.no
def rCatL (K:Fg):R2:=fun x y H Q=>∃l b xs zs,x=.ref l/\y=.ref b/\SqL K H l xs/\SqL K H b zs/\xs.length+zs.length<=sizeLine/\∀p,H p=none->Q (.ref p) (upd H p (.lst (xs++zs)))
theorem cat_any {prog:Program} {w:World} {A:Around} {E:Value->Shared->Prop} {s:Shared} {l b:Addr} {vs ws:List Value} {Q:Value->Shared->Prop} (hl:s.heap.IsList l vs.toArray) (hb:s.heap.IsList b ws.toArray) (hz:vs.length+ws.length<=sizeLine)
  (h:Q (.ref s.heap.objs.size) { s with heap:=s.heap.push { cls:=.type "list",data:=.seq (vs++ws).toArray } }):wpAny (model prog w) A (binaryOp .Add (.ref l) (.ref b)) Q E s:=by
 obtain ⟨⟨cls,dd,data,sl⟩,ho,hc,n,hd⟩:=id hl
 obtain ⟨⟨cls2,dd2,data2,sl2⟩,ho2,hc2,n2,hd2⟩:=id hb
 simp only at hc hd hc2 hd2
 subst hc hd hc2 hd2
 have e:vs.toArray++ws.toArray=(vs++ws).toArray:=by simp
 rw [<-e] at h
 exact concat_meets ⟨_,ho,rfl⟩ ⟨_,ho2,rfl⟩ noFill_list_add seq_list_add PySem.F.slot_list_add PySem.F.entry_list_add (PySem.F.args_list_add_2 _ _) (list_addW l b vs.toArray ws.toArray n n2 dd dd2 sl sl2 (by simpa using hz)) ⟨ho,ho2,h⟩
theorem op_catL {X:Cx}:OpR X (binaryOp .Add) (rCatL X.K):=by
 intro pins s σ H x y v u Q I rx ry h
 obtain ⟨l,b,xs,zs,rfl,rfl,hH,hB,hz,q⟩:=h
 cases rx
 cases ry
 obtain ⟨its,r,pl,z⟩:=I.list hH
 obtain ⟨its2,r2,pl2,z2⟩:=I.list hB
 refine cat_any pl.isList pl2.isList (by rw [<-r.length,<-r2.length];exact hz) ?_
 exact ⟨.ref _,_,I.lnew (t':=s.toks) (r.append r2) (by rw [length_append];exact hz),rfl,q _ I.fresh⟩
section
variable {K:Fg} {W:XW} {σ:St} {H:Hp} {Q:VK} {D:Ends} {fa fb:F1} {fl:FL}
theorem Reps.app {ds es:List PySem.PyData} (h:Reps K H vs ds) (h':Reps K H ws es):Reps K H (vs++ws) (ds++es):=by
 refine ⟨by rw [length_append,length_append,h.1,h'.1],fun i v d e1 e2=>?_⟩
 by_cases hi:i<vs.length
 ·rw [getElem?_append_left hi] at e1
  rw [getElem?_append_left (by rw [<-h.1];exact hi)] at e2
  exact h.2 i v d e1 e2
 ·rw [getElem?_append_right (by omega)] at e1
  rw [getElem?_append_right (by rw [<-h.1];omega),<-h.1] at e2
  exact h'.2 _ v d e1 e2
theorem dis2 {O:List Addr} (nd:(G2++(G1++O)++F).Nodup):(∀a∈G1,a∉O++F)/\(∀a∈G2,a∉O++F):=by
 rw [append_assoc,append_assoc] at nd
 obtain ⟨_,n2,n3⟩:=List.nodup_append.mp nd
 obtain ⟨_,_,n4⟩:=List.nodup_append.mp n2
 exact ⟨fun a ha z=>n4 a ha a z rfl,fun a ha z=>n3 a ha a (mem_append_right _ z) rfl⟩
theorem sub4 {O:List Addr}:∀a∈O++F,a∈G2++(G1++O)++F:=fun a ha=>by
 rcases List.mem_append.mp ha with z | z
 ·exact mem_append_left _ (mem_append_right _ (mem_append_right _ z))
 ·exact mem_append_right _ z
theorem leafTup {O:List Addr} {ds:List PySem.PyData} {p:Addr} (E:EnvOk K He O Fs1 H1 σ U1) (s:Same H H1) (n:∀a∈Fs1.flatten,a∈Fs.flatten\/H a=none)
  (hr:Reps K (hid H1 (O++Fs1.flatten)) vs ds) (hp:H1 p=none):Aft K He O Fs H σ U1 ⟨.leaf,.tuple ds⟩ (.ref p) (upd H1 p (.tup vs)) [] Fs1:=by
 refine ⟨s.trans (same_upd hp),by rw [nil_append];exact E.grow (same_upd hp),by rw [nil_append];exact n,.leaf ?_⟩
 rw [nil_append]
 have hn:p∉O++Fs1.flatten:=fun z=>E.inH p z hp
 exact .tup (.of (hid_get upd_same hn)) hr.1 fun i v d h1 h2=>(hr.2 i v d h1 h2).mono (hid_mono (same_upd hp) fun a ha=>.inl ha)
theorem leafOld {O:List Addr} {v:V} {d:PySem.PyData} (E:EnvOk K He O Fs1 H1 σ U1) (s:Same H H1) (n:∀a∈Fs1.flatten,a∈Fs.flatten\/H a=none)
  (hr:Rep K (hid H1 (O++Fs1.flatten)) v d):Aft K He O Fs H σ U1 ⟨.leaf,d⟩ v H1 [] Fs1:=
 ⟨s,by rw [nil_append];exact E,by rw [nil_append];exact n,.leaf (by rw [nil_append];exact hr)⟩
theorem rd_cat (h:tE K W (eCat fa fb) σ H Q):tOp (rCatL K) (tE K W fa) (tE K W fb) σ H Q:=by
 refine tE_two (R:=fun v u H2=>rCatL K v u H2 Q) h fun He O Fs U2 p q v u H1 H2 G1 G2 Fs2 nd s1 s2 E new o1 o2 w=>?_
 obtain ⟨s,d⟩:=p
 obtain ⟨s',d'⟩:=q
 dsimp only at w o1 o2
 split at w
 ·rename_i xs ys
  cases hc:(okItems ⟨s,.list xs⟩ xs&&okItems ⟨s',.list ys⟩ ys&&decide (xs.length+ys.length<=sizeLine)) with
  | false=>rw [hc] at w;exact w.elim
  | true=>
   rw [hc] at w
   simp only [Bool.and_eq_true,decide_eq_true_eq] at hc
   obtain ⟨⟨h1,h2⟩,h3⟩:=hc
   obtain ⟨d1,d2⟩:=dis2 E.nd
   obtain ⟨p1,vs,rfl,q1,_,r1⟩:=o1.items (O':=O++Fs2.flatten) h1 sub4 d1
   obtain ⟨p2,ws,rfl,q2,_,r2⟩:=o2.items (O':=O++Fs2.flatten) h2 sub4 d2
   refine ⟨p1,p2,vs,ws,rfl,rfl,q1,q2,by rw [r1.1,r2.1];exact h3,fun p' hp'=>w _ _ _ _ (leafList (E.drop (fun a ha=>mem_append_right _ (mem_append_right _ ha)) nd) (s1.trans s2) (fun a ha=>new a (mem_append_right _ (mem_append_right _ ha))) (r1.app r2) hp')⟩
 ·exact w.elim
def eTupOf (fa:F1):F1:=eBind fa fun p U=>match p.d with
 | .list ds=>if okItems p ds then .ok ⟨.leaf,.tuple ds⟩ U else .no
 | .tuple ds=>if !p.s.isView then .ok ⟨.leaf,.tuple ds⟩ U else .no
 | _=>.no
theorem rd_tupOf (h:tE K W (eTupOf fa) σ H Q):tCB (fun xs H Q=>∃p ys,xs=[.ref p]/\((SqL K H p ys/\∀l,H l=none->Q (.ref l) (upd H l (.tup ys)))\/(SqT K H p ys/\Q (.ref p) H))) (tA K W (eCons fa eNil)) σ H Q:=by
 refine tA_one (QL:=fun xs H1=>∃p ys,xs=[.ref p]/\((SqL K H1 p ys/\∀l,H1 l=none->Q (.ref l) (upd H1 l (.tup ys)))\/(SqT K H1 p ys/\Q (.ref p) H1))) ?_
 refine tE_one h fun He O Fs U1 p v H1 G Fs1 nd A w=>?_
 obtain ⟨s,d⟩:=p
 cases d with
 | list ds=>
  have w:Wants K W He O Fs H σ Q (if okItems ⟨s,.list ds⟩ ds then .ok ⟨.leaf,.tuple ds⟩ U1 else .no):=w
  cases hc:okItems ⟨s,.list ds⟩ ds with
  | false=>rw [hc] at w;exact w.elim
  | true=>
   rw [hc] at w
   obtain ⟨p,vs,rfl,hq,_,hr⟩:=A.own.items (O':=O++Fs1.flatten) hc sub3 A.disj
   exact ⟨p,vs,rfl,.inl ⟨hq,fun l hl=>w _ _ _ _ (leafTup A.go A.same A.newF hr hl)⟩⟩
 | tuple ds=>
  have w:Wants K W He O Fs H σ Q (if !s.isView then .ok ⟨.leaf,.tuple ds⟩ U1 else .no):=w
  cases hc:s.isView with
  | true=>rw [hc] at w;exact w.elim
  | false=>
   rw [hc] at w
   have r1:=A.own.freeze (O':=O++Fs1.flatten) hc sub3 A.disj
   cases r1 with
   | @tup a vs _ hq hl hr=>exact ⟨a,vs,rfl,.inr ⟨SameT hid_le hq,w _ _ _ _ (leafOld A.go A.same A.newF (.tup hq hl hr))⟩⟩
 | _=>exact w.elim
end
theorem reps_ints {K:Fg} {H:Hp} {ns:List Int} (h:Reps K H ws (ns.map .int)):ws=ns.map V.int:=by
 obtain ⟨hwl,hw⟩:=h
 apply ext_getElem?
 intro i
 by_cases hi:i<ws.length
 ·have hi2:i<ns.length:=by rw [length_map] at hwl;omega
  have q:=hw i (ws[i]'hi) (.int (ns[i]'hi2)) (getElem?_eq_getElem _) (by rw [getElem?_map,getElem?_eq_getElem hi2];rfl)
  rw [getElem?_eq_getElem hi,getElem?_map,getElem?_eq_getElem hi2]
  generalize ws[i]'hi=u at q
  cases q
  rfl
 ·rw [getElem?_eq_none (by omega),getElem?_eq_none (by rw [length_map] at hwl ⊢;omega)]
section
variable {X:Cx} {N gl:List Str} {vs cs ls lo gs:List Nat} {W:XW} {a b c e:Expr} {es:List Expr} {pos p:Pos} {fa fb fc:F1} {fl:FL} {g:FS}
end
end T
namespace TQ
open PySem PySem.Spec L2 T
open PyProof.Rows hiding St
section
variable {X:Cx} {N gl:List Str} {vs cs ls lo gs:List Nat} {W:XW} {a b c e:Expr} {es:List Expr} {pos p:Pos} {fa fb fc:F1} {fl:FL} {ga gb:FB} {g1 g2 g:FS}
theorem w_ce_cat (ha:Q (PE X a (tE X.K W fa))) (hb:Q (PE X b (tE X.K W fb))):Q (PE X (.BinOp a .Add b pos) (tE X.K W (eCat fa fb))):=⟨have ha:=ha.p;have hb:=hb.p;PEimp (pe_op op_catL ha hb) fun _ _ _=>rd_cat⟩
theorem w_ce_tupOf (S:Cp X N gl vs cs ls lo gs) (j:Nat) (hj:gl[j]?=some ("tuple":Str)) (hg:gs.contains j=true) (hm:X.mg "tuple"=none) (ha:Q (PE X e (tE X.K W fa))) (hs:starEach [e] X.env=[(false,eval e X.env)]):Q (PE X (.Call (.Name "tuple" p) [e] [] pos) (tE X.K W (eTupOf fa))):=⟨have ha:=ha.p;PEimp (pe_callTy call_tuple_of (S.g hj hg).1 hm b_tuple (da_cons ha da_nil hs) (by decide) (by decide) hs rfl) fun _ _ _=>rd_tupOf⟩
end
end TQ
namespace T
open PySem PySem.Spec L2
open PyProof.Rows hiding St
def putN:List Nat->List PV->Ev->Option Ev
 | [],[],U=>some U
 | i::is,p::ps,U=>if decide (i<U.length)&&!p.s.isView then putN is ps (U.set i (some p)) else none
 | _,_,_=>none
def setN:List Nat->List V->St->St
 | i::is,v::vs,σ=>setN is vs (σ.set i (some v))
 | _,_,σ=>σ
def pvs:List Sh->List PySem.PyData->List PV
 | s::ss,d::ds=>⟨s,d⟩::pvs ss ds
 | _,_=>[]
def unpN (p:PV):Option (List PV):=match p.s,p.d with
 | .tup ss,.tuple ds=>some (pvs ss ds)
 | .leaf,.tuple ds=>some (ds.map fun d=>⟨.leaf,d⟩)
 | _,_=>none
def sUnpN (is:List Nat) (f:F1):FS:=sOf f fun p U=>match unpN p with
 | some ps=>if ps.length=is.length then (match putN is ps U with
  | some U'=>.nx U'
  | none=>.no) else .no
 | none=>.no
def gNames:List Nat->TGs
 | []=>gNil
 | i::is=>gCons (gName i) (gNames is)
theorem gNames_ok {H:Hp} {Q:St->Hp->Prop}:∀{is:List Nat} {vs:List V} {σ:St},vs.length=is.length->Q (setN is vs σ) H->gNames is vs σ H Q
 | [],[],_,_,q=>⟨rfl,q⟩
 | i::is,v::vs,σ,hl,q=>⟨v,vs,rfl,gNames_ok (is:=is) (vs:=vs) (by simpa using hl) q⟩
 | [],_::_,_,hl,_=>by simp at hl
 | _::_,[],_,hl,_=>by simp at hl
section
variable {K:Fg} {W:XW} {σ:St} {H:Hp} {D:Ends} {fa:F1}
theorem putN_env {He:Hp} {O:List Addr}:∀{is:List Nat} {ps:List PV} {vs:List V} {Gs:List (List Addr)} {Fs:List (List Addr)} {σ:St} {U U':Ev},vs.length=ps.length->Gs.length=ps.length->EnvOk K He (Gs.flatten++O) Fs H σ U->(∀a∈Gs.flatten,He a=none) ->
  (∀(k:Nat) v p G,vs[k]?=some v->ps[k]?=some p->Gs[k]?=some G->Own K (Gs.flatten++O++Fs.flatten) H p.s G v p.d)->putN is ps U=some U'->∃Fs',EnvOk K He O Fs' H (setN is vs σ) U'
 | [],[],[],[],Fs,σ,U,U',_,_,E,_,_,h=>by
  cases h
  exact ⟨Fs,by simpa [setN] using E⟩
 | i::is,p::ps,v::vs,G::Gs,Fs,σ,U,U',h1,h2,E,fr,o,h=>by
  unfold putN at h
  split at h
  ·rename_i hc
   simp only [Bool.and_eq_true,decide_eq_true_eq,Bool.not_eq_true'] at hc
   obtain ⟨hi,n1⟩:=hc
   have fl:(G::Gs).flatten++O=G++(Gs.flatten++O):=by simp [append_assoc]
   rw [fl] at E o
   have E1:=EnvOk.put (i:=i) E (o 0 v p G rfl rfl rfl) n1 (fun a ha=>fr a (by simp [ha])) hi
   refine putN_env (is:=is) (ps:=ps) (vs:=vs) (Gs:=Gs) (by simpa using h1) (by simpa using h2) E1 (fun a ha=>fr a (mem_append_right G ha)) (fun k v' p' G' a1 a2 a3=>?_) h
   refine (o (k+1) v' p' G' (by simpa using a1) (by simpa using a2) (by simpa using a3)).perm fun a ha=>?_
   rcases List.mem_append.mp ha with z | z
   ·exact mem_append_left _ (mem_append_right _ z)
   ·obtain ⟨F,hF⟩:=E.lt hi
    rcases List.mem_append.mp ((flat_set (G:=G) hF).mem_iff.mp (mem_append_right _ z)) with y | y
    ·exact mem_append_left _ (mem_append_left _ y)
    ·exact mem_append_right _ y
  ·cases h
 | [],_::_,_,_,_,_,_,_,_,_,_,_,_,h=>by cases h
 | _::_,[],_,_,_,_,_,_,_,_,_,_,_,h=>by cases h
 | [],[],_::_,_,_,_,_,_,h,_,_,_,_,_=>by simp at h
 | [],[],[],_::_,_,_,_,_,_,h,_,_,_,_=>by simp at h
 | _::_,_::_,[],_,_,_,_,_,h,_,_,_,_,_=>by simp at h
 | _::_,_::_,_::_,[],_,_,_,_,_,h,_,_,_,_=>by simp at h
theorem pvs_len:∀{ss:List Sh} {ds:List PySem.PyData},ss.length=ds.length->(pvs ss ds).length=ds.length
 | [],[],_=>rfl
 | _::ss,_::ds,h=>by simp only [pvs,length_cons];rw [pvs_len (ss:=ss) (ds:=ds) (by simpa using h)]
 | [],_::_,h=>by simp at h
 | _::_,[],h=>by simp at h
theorem pvs_at:∀{ss:List Sh} {ds:List PySem.PyData} {k:Nat} {p:PV},(pvs ss ds)[k]?=some p->ss[k]?=some p.s/\ds[k]?=some p.d
 | [],_,k,p,h=>by simp [pvs] at h
 | _::_,[],k,p,h=>by simp [pvs] at h
 | s::ss,d::ds,0,p,h=>by
  simp only [pvs,List.getElem?_cons_zero,Option.some.injEq] at h
  subst h
  exact ⟨rfl,rfl⟩
 | s::ss,d::ds,k+1,p,h=>by
  simp only [pvs,List.getElem?_cons_succ] at h ⊢
  exact pvs_at h
theorem rep_nil {n:Nat}:(List.replicate n ([]:List Addr)).flatten=[]:=by
 induction n with
 | zero=>rfl
 | succ n ih=>rw [List.replicate_succ,flatten_cons,ih];rfl
theorem rd_unpN {is:List Nat} (h:tS K W (sUnpN is fa) D σ H):tAsg (tE K W fa) (gTup K is.length (gNames is)) D σ H:=by
 refine tS_of h fun He O Fs U1 p v H1 G Fs1 _ fr A w=>?_
 obtain ⟨s,d⟩:=p
 have o:=A.own
 have E:=A.env
 dsimp only at w o
 cases hu:unpN ⟨s,d⟩ with
 | none=>rw [hu] at w;exact w.elim
 | some ps=>
  rw [hu] at w
  dsimp only at w
  by_cases hl:ps.length=is.length
  ·rw [if_pos hl] at w
   cases hp:putN is ps U1 with
   | none=>rw [hp] at w;exact w.elim
   | some U'=>
    rw [hp] at w
    cases o with
    | view r=>cases hu
    | lst=>cases hu
    | leaf r=>
     cases d with
     | tuple ds=>
      cases hu
      cases r with
      | @tup a vs _ hq hlen hr=>
       obtain ⟨Fs',E'⟩:=putN_env (is:=is) (vs:=vs) (Gs:=List.replicate ds.length []) (Fs:=Fs1) (by rw [hlen,length_map]) (by rw [List.length_replicate,length_map]) (by rw [rep_nil];exact E) (by rw [rep_nil];intro a ha;simp at ha) (fun k v' p' G' a1 a2 a3=>by
        rw [rep_nil]
        rw [getElem?_map] at a2
        cases ed:ds[k]? with
        | none=>rw [ed] at a2;cases a2
        | some d'=>
         rw [ed] at a2
         cases a2
         have:G'=[]:=List.eq_of_mem_replicate (mem_of_getElem? a3)
         subst this
         exact .leaf (hr k v' d' a1 ed)) hp
       exact ⟨a,vs,rfl,SameT hid_le hq,by rw [hlen];simpa using hl,gNames_ok (by rw [hlen];simpa using hl) (w _ _ _ E')⟩
     | _=>cases hu
    | @tup ss a vs ds Fs0 hv hpa hn hlen hf hs nd q=>
     cases hu
     have pl:=pvs_len hs
     obtain ⟨Fs',E'⟩:=putN_env (is:=is) (vs:=vs) (Gs:=Fs0) (Fs:=Fs1) (by rw [hlen,pl]) (by rw [hf,pl]) E fr (fun k v' p' G' a1 a2 a3=>by
      obtain ⟨z1,z2⟩:=pvs_at a2
      exact q k v' p'.d G' p'.s a1 z2 a3 z1) hp
     have hn2:vs.length=is.length:=by rw [hlen,<-pl];exact hl
     exact ⟨a,vs,rfl,.of hpa,hn2,gNames_ok hn2 (w _ _ _ E')⟩
  ·rw [if_neg hl] at w
   exact w.elim
end
section
variable {X:Cx} {N gl:List Str} {vs cs ls lo gs:List Nat} {W:XW} {a:Expr} {pos:Pos} {fa:F1}
theorem cs_unp2 (S:Cp X N gl vs cs ls lo gs) (i j:Nat) {x y:Str} {px py pt:Pos} {kt:Nat} (hi:N[i]?=some x) (hj:N[j]?=some y) (li:ls.contains i=true) (lj:ls.contains j=true) (ha:PE X a (tE X.K W fa))
  (hs:swapsWithSole [.Tuple [.Name x px,.Name y py] kt pt] a pos.line X.env=pure false) (hw:swappedStores [.Tuple [.Name x px,.Name y py] kt pt] a X.env=pure none) :
  PS X (.Assign [.Tuple [.Name x px,.Name y py] kt pt] a pos) (tS X.K W (sUnpN [i,j] fa)):=by
 have hN:X.N.Nodup:=by rw [S.hN];exact S.nd
 exact PSimp (ps_asg ha (pg_tup S.calm (pgs_cons (pg_name hN (by rw [S.hN];exact hi) (S.loc i x hi li).1 (S.loc i x hi li).2) (pgs_cons (pg_name hN (by rw [S.hN];exact hj) (S.loc j y hj lj).1 (S.loc j y hj lj).2) pgs_nil))) hs hw) fun _ _ _=>rd_unpN (is:=[i,j])
end
end T
namespace TQ
open PySem PySem.Spec L2 T
open PyProof.Rows hiding St
variable {X:Cx} {N gl:List Str} {vs cs ls lo gs:List Nat} {W:XW} {a:Expr} {pos:Pos} {fa:F1}
theorem w_cs_unp2 (S:Cp X N gl vs cs ls lo gs) (i j:Nat) {x y:Str} {px py pt:Pos} {kt:Nat} (hi:N[i]?=some x) (hj:N[j]?=some y) (li:ls.contains i=true) (lj:ls.contains j=true) (ha:Q (PE X a (tE X.K W fa)))
  (hs:swapsWithSole [.Tuple [.Name x px,.Name y py] kt pt] a pos.line X.env=pure false) (hw:swappedStores [.Tuple [.Name x px,.Name y py] kt pt] a X.env=pure none) :
  Q (PS X (.Assign [.Tuple [.Name x px,.Name y py] kt pt] a pos) (tS X.K W (sUnpN [i,j] fa))):=⟨T.cs_unp2 S i j hi hj li lj ha.p hs hw⟩
end TQ
namespace T
open PySem PySem.Spec L2
open PyProof.Rows hiding St
variable {fi:FI} {fe:F1} {U:Ev} {α:Type} {g:D->D->Option D} {a b:Bool} {ga:FB} {g1 g2:FS} {o:OutS}
theorem line_big:(1000:Nat)<=sizeLine:=by decide
theorem compGo_pure {i:Nat} {fc:FB} {fe:F1} {s:Sh} {c:D->Bool} {f:D->PV} {U:Ev} (hU:U.set i none=U):∀(r acc:List D),(∀d∈r,fc (U.set i (some ⟨.leaf,d⟩))=.ok (c d) (U.set i (some ⟨.leaf,d⟩))) ->
  (∀d∈r,c d=true->fe (U.set i (some ⟨.leaf,d⟩))=.ok (f d) (U.set i (some ⟨.leaf,d⟩))/\coer s (f d)=true)->acc.length+r.length<=sizeLine->compGo i fc fe s r U acc=.ok (acc++((r.filter c).map fun d=>(f d).d)) U
 | [],acc,_,_,_=>by simp [compGo]
 | d::r,acc,hc,he,hl=>by
  have h1:=hc d mem_cons_self
  have hl1:acc.length<sizeLine:=by simp at hl;omega
  have back:(U.set i (some ⟨.leaf,d⟩)).set i none=U:=by rw [set_set];exact hU
  rw [compGo,h1]
  cases hcd:c d with
  | false=>
   dsimp only
   rw [if_pos hl1,back,compGo_pure hU r acc (fun d hd=>hc d (mem_cons_of_mem _ hd)) (fun d hd=>he d (mem_cons_of_mem _ hd)) (by simp at hl;omega)]
   rw [List.filter_cons_of_neg (by rw [hcd];exact Bool.false_ne_true)]
  | true=>
   obtain ⟨h2,h3⟩:=he d mem_cons_self hcd
   dsimp only
   rw [h2]
   dsimp only
   rw [h3,decide_eq_true hl1,Bool.and_self,if_pos rfl,back,compGo_pure hU r (acc++[(f d).d]) (fun d hd=>hc d (mem_cons_of_mem _ hd)) (fun d hd=>he d (mem_cons_of_mem _ hd)) (by simp at hl ⊢;omega)]
   rw [List.filter_cons_of_pos hcd,map_cons,append_assoc]
   rfl
theorem eComp_pure {s:Sh} {i:Nat} {fc:FB} {c:D->Bool} {f:D->PV} {ds:List D} {st:Bool} (hi:fi U=.ok ⟨ds,st⟩ U) (hl:i<U.length) (hs:s.isView=false) (hn:ds.length<=1000)
  (hc:∀d∈ds,fc (U.set i (some ⟨.leaf,d⟩))=.ok (c d) (U.set i (some ⟨.leaf,d⟩))) (he:∀d∈ds,c d=true->fe (U.set i (some ⟨.leaf,d⟩))=.ok (f d) (U.set i (some ⟨.leaf,d⟩))/\coer s (f d)=true) :
  eComp s i fi fc fe U=.ok ⟨.lst s,.list ((ds.filter c).map fun d=>(f d).d)⟩ U:=by
 have hb:=line_big
 unfold eComp
 rw [hi]
 unfold Out.bind
 dsimp only
 rw [compGo_pure (c:=c) (f:=f) (by rw [set_set]) ds [] (fun d hd=>by rw [set_set];exact hc d hd) (fun d hd=>by rw [set_set];exact he d hd) (by simp;omega)]
 dsimp only
 rw [hs,decide_eq_true hl]
 simp only [Bool.not_false,Bool.and_self,if_true,nil_append,set_set]
 have:U.set i (U.getD i none)=U:=by
  apply set_same
  rw [getD_eq_getElem?_getD,getElem?_eq_getElem hl]
  rfl
 rw [this]
theorem eComp_all {s:Sh} {i:Nat} {f:D->PV} {ds:List D} {st:Bool} (hi:fi U=.ok ⟨ds,st⟩ U) (hl:i<U.length) (hs:s.isView=false) (hn:ds.length<=1000)
  (he:∀d∈ds,fe (U.set i (some ⟨.leaf,d⟩))=.ok (f d) (U.set i (some ⟨.leaf,d⟩))/\coer s (f d)=true) :
  eComp s i fi bTrue fe U=.ok ⟨.lst s,.list (ds.map fun d=>(f d).d)⟩ U:=by
 rw [eComp_pure (fc:=bTrue) (c:=fun _=>true) (f:=f) hi hl hs hn (fun d hd=>rfl) fun d hd _=>he d hd,List.filter_eq_self.mpr fun _ _=>rfl]
theorem forGo_ix {P:Nat->Ev->Prop} {i:Nat} {body:FS}:∀(ds:List D) (n:Nat) (U:Ev),P n U->(∀k d U,d∈ds->n<=k->k<n+ds.length->P k U->i<U.length/\∃U',body (U.set i (some ⟨.leaf,d⟩))=.nx U'/\P (k+1) U')->∃U',forGo i body ds U=.nx U'/\P (n+ds.length) U'
 | [],n,U,h,_=>⟨U,rfl,h⟩
 | d::r,n,U,h,st=>by
  obtain ⟨hi,U1,e1,h1⟩:=st n d U mem_cons_self (Nat.le_refl _) (by simp) h
  obtain ⟨U2,e2,h2⟩:=forGo_ix r (n+1) U1 h1 fun k d U hd a b c=>st k d U (mem_cons_of_mem _ hd) (by omega) (by simp;omega) c
  refine ⟨U2,?_,?_⟩
  ·rw [forGo,if_pos hi,e1]
   exact e2
  ·rw [length_cons,show n+(r.length+1)=n+1+r.length by omega]
   exact h2
theorem gAll_map {any:Bool} {xs:List α} {f:α->Bool}:boolsOf (xs.map fun x=>.bool (f x))=some (xs.map f):=by
 induction xs with
 | nil=>rfl
 | cons x r ih=>rw [map_cons,boolsOf,ih];rfl
theorem gAll_eq {xs:List α} {f:α->Bool}:gAll false [.list (xs.map fun x=>.bool (f x))]=some (.bool (xs.all f)):=by
 show Option.map _ (boolsOf _)=_
 rw [gAll_map (any:=false)]
 simp [List.all_map]
section
variable {U U1 U2:Ev} {fa fb fc:F1} {fl:FL} {p q:PV} {ps:List PV} {d e:D} {s s' s2:Sh} {i j n:Nat}
theorem v_leaf (h:U[i]?=some (some ⟨.leaf,d⟩)):eVar i U=.ok ⟨.leaf,d⟩ U:=by unfold eVar;rw [h]
theorem v_move (h:U[i]?=some (some p)):eMove i U=.ok p (U.set i none):=by unfold eMove;rw [h]
theorem v_k:eK d U=.ok ⟨.leaf,d⟩ U:=rfl
theorem v_op (ha:fa U=.ok p U1) (hb:fb U1=.ok q U2) (hg:g p.d q.d=some d):eOp g fa fb U=.ok ⟨.leaf,d⟩ U2:=by
 unfold eOp eBind;rw [ha];simp only [Out.bind];rw [hb];simp only [hg]
theorem v_cons (ha:fa U=.ok p U1) (hl:fl U1=.ok ps U2):eCons fa fl U=.ok (p::ps) U2:=by
 unfold eCons;rw [ha];simp only [Out.bind];rw [hl]
theorem v_nil:eNil U=.ok [] U:=rfl
theorem v_cb {g:List D->Option D} (hl:fl U=.ok ps U1) (hg:g (ps.map (·.d))=some d):eCB g fl U=.ok ⟨.leaf,d⟩ U1:=by
 unfold eCB;rw [hl];simp only [Out.bind];rw [hg]
theorem v_call {den:List D->Res} (hl:fl U=.ok ps U1) (hd:den (ps.map (·.d))=.ok p) (hn:ps.length=n) (hc:ps.all (coer .leaf)=true):eCall n den fl U=.ok p U1:=by
 unfold eCall;rw [hl];simp only [Out.bind,hn,hd,hc,if_true]
theorem v_idxL {ds:List D} {k:Int} (ha:fa U=.ok ⟨s,.list ds⟩ U1) (hb:fb U1=.ok ⟨s',.int k⟩ U2) (hi:ixN ds.length k=some j) (hd:ds[j]?=some d) (hs:itemSh s j d=some s2):eIdx fa fb U=.ok ⟨s2,d⟩ U2:=by
 unfold eIdx eBind;rw [ha];simp only [Out.bind];rw [hb];simp only [hi,hd,hs]
theorem v_idxT {ds:List D} {k:Int} (ha:fa U=.ok ⟨s,.tuple ds⟩ U1) (hb:fb U1=.ok ⟨s',.int k⟩ U2) (hi:ixN ds.length k=some j) (hd:ds[j]?=some d) (hs:itemSh s j d=some s2):eIdx fa fb U=.ok ⟨s2,d⟩ U2:=by
 unfold eIdx eBind;rw [ha];simp only [Out.bind];rw [hb];simp only [hi,hd,hs]
theorem v_idxS {x:Str} {k:Int} {c:Nat} (ha:fa U=.ok ⟨s,.str x⟩ U1) (hb:fb U1=.ok ⟨s',.int k⟩ U2) (hn:x.length<=sizeLine) (hi:atI x.cps.toList k=some c):eIdx fa fb U=.ok ⟨.leaf,.str ⟨#[c]⟩⟩ U2:=by
 unfold eIdx eBind;rw [ha];simp only [Out.bind];rw [hb];simp only [hi,hn,if_true]
theorem v_list (hl:fl U=.ok ps U1) (hs:s.isView=false) (hc:ps.all (coer s)=true) (hn:decide (ps.length<=1000)=true):eList s fl U=.ok ⟨.lst s,.list (ps.map (·.d))⟩ U1:=by
 have h2:ps.length<=sizeLine:=Nat.le_trans (of_decide_eq_true hn) line_big
 unfold eList;rw [hl];simp only [Out.bind,hs,hc,decide_eq_true h2,Bool.not_false,Bool.and_self,if_true]
theorem v_tup (hl:fl U=.ok ps U1) (hc:ps.all tok=true) (hn:decide (ps.length<=1000)=true):eTup fl U=.ok ⟨.tup (ps.map tsh),.tuple (ps.map (·.d))⟩ U1:=by
 have h2:ps.length<=sizeLine:=Nat.le_trans (of_decide_eq_true hn) line_big
 unfold eTup;rw [hl];simp only [Out.bind,hc,decide_eq_true h2,Bool.and_self,if_true]
theorem v_listOf {ds:List D} (ha:fa U=.ok ⟨s,.list ds⟩ U1) (ho:okItems ⟨s,.list ds⟩ ds=true):eListOf fa U=.ok ⟨.lst .leaf,.list ds⟩ U1:=by
 unfold eListOf eBind;rw [ha];simp only [Out.bind,ho,if_true]
theorem v_and (ha:fa U=.ok ⟨s,.bool a⟩ U) (hb:fb U=.ok ⟨.leaf,.bool b⟩ U):eAnd fa fb U=.ok ⟨.leaf,.bool (a&&b)⟩ U:=by
 unfold eAnd eBind;rw [ha];simp only [Out.bind]
 cases a with
 | false=>rfl
 | true=>exact hb
theorem v_chain {g':D->D->Option D} {b':Bool} (ha:fa U=.ok p U) (hb:fb U=.ok q U) (hg:g p.d q.d=some (.bool b)) (hs:scalD q.d=true) {z:PV} (hc:fc U=.ok z U) (hg':g' q.d z.d=some (.bool b')):eChain g g' fa fb fc U=.ok ⟨.leaf,.bool (b&&b')⟩ U:=by
 unfold eChain eBind;rw [ha];simp only [Out.bind];rw [hb];simp only [hg]
 cases b with
 | false=>rfl
 | true=>simp only [hs,if_true,hc,hg',Bool.true_and]
theorem bb_bool (ha:fa U=.ok ⟨s,.bool b⟩ U1):bOf gBool fa U=.ok b U1:=by unfold bOf;rw [ha];rfl
theorem b_tru (ha:fa U=.ok ⟨s,.bool b⟩ U1):bOf gTru fa U=.ok b U1:=by unfold bOf;rw [ha];rfl
theorem b_not (h:ga U=.ok b U1):bNot ga U=.ok (!b) U1:=by unfold bNot;rw [h];rfl
theorem b_or {gb:FB} (ha:ga U=.ok a U) (hb:gb U=.ok b U):bOr ga gb U=.ok (a||b) U:=by
 unfold bOr;rw [ha];simp only [Out.bind]
 cases a with
 | false=>exact hb
 | true=>rfl
theorem w_seq {ds:List D} (ha:fa U=.ok ⟨s,.list ds⟩ U1) (ho:okItems ⟨s,.list ds⟩ ds=true):iSeq fa U=.ok ⟨ds,!s.isView⟩ U1:=by
 unfold iSeq;rw [ha];simp only [Out.bind,ho,if_true]
theorem w_r1 {k:Int} (hl:fl U=.ok ps U1) (hp:ps.map (·.d)=[.int k]) (h0:-1000<=k) (h1:k<=100000):iR1 fl U=.ok ⟨rngD 0 k.toNat,true⟩ U1:=by
 have h3:inRng k=true:=by unfold inRng;simp only [Bool.and_eq_true,decide_eq_true_eq];omega
 unfold iR1;rw [hl];simp only [Out.bind,hp,rng1,h3,if_true]
theorem w_r2 {k m:Int} (hl:fl U=.ok ps U1) (hp:ps.map (·.d)=[.int k,.int m]) (h0:-1000<=k) (h1:k<=100000) (h2:-1000<=m) (h4:m<=100000):iR2 fl U=.ok ⟨rngD k (m-k).toNat,true⟩ U1:=by
 have h3:inRng k=true:=by unfold inRng;simp only [Bool.and_eq_true,decide_eq_true_eq];omega
 have h5:inRng m=true:=by unfold inRng;simp only [Bool.and_eq_true,decide_eq_true_eq];omega
 unfold iR2;rw [hl];simp only [Out.bind,hp,rng2,h3,h5,Bool.and_self,if_true]
theorem x_seq (h1:g1 U=.nx U1) (h2:g2 U1=o):sSeq g1 g2 U=o:=by unfold sSeq;rw [h1];exact h2
theorem x_seqR (h1:g1 U=.rt p):sSeq g1 g2 U=.rt p:=by unfold sSeq;rw [h1]
theorem x_if {c:FB} {a b:FS} {t:Bool} (hc:c U=.ok t U1) (ht:t=true->a U1=o) (hf:t=false->b U1=o):sIf c a b U=o:=by
 unfold sIf;rw [hc]
 cases t with
 | true=>exact ht rfl
 | false=>exact hf rfl
theorem x_ret (h:fa U=.ok p U1) (hs:p.s.isView=false):sRet fa U=.rt p:=by
 unfold sRet sOf;rw [h];simp only [hs];rfl
theorem x_setL (h:fa U=.ok p U1) (hc:coer .leaf p=true) (hi:i<U1.length):sSet false i fa U=.nx (U1.set i (some ⟨.leaf,p.d⟩)):=by
 unfold sSet sOf;rw [h];simp only [hi,if_true,hc,Bool.false_and];rfl
theorem x_setO (h:fa U=.ok p U1) (hs:p.s.isView=false) (hi:i<U1.length):sSet true i fa U=.nx (U1.set i (some p)):=by
 unfold sSet sOf;rw [h];simp only [hi,if_true,hs,Bool.true_and,Bool.not_false]
theorem x_append {ds:List D} (ho:U[i]?=some (some ⟨.lst s,.list ds⟩)) (h:fa U=.ok p U) (hc:coer s p=true) (hn:ds.length<=900):sAppend i fa U=.nx (U.set i (some ⟨.lst s,.list (ds++[p.d])⟩)):=by
 have h2:ds.length<sizeLine:=Nat.lt_of_lt_of_le (by omega:ds.length<1000) line_big
 unfold sAppend isOwnL;rw [ho];simp only [if_true];unfold sOf;rw [h];simp only;unfold appK;rw [ho];simp only [hc,decide_eq_true h2,Bool.and_self,if_true]
theorem x_frz {g:FS} (h:U[i]?=some (some p)) (hg:g (U.set i (some ⟨.leaf,p.d⟩))=o):sFrz i g U=o:=by unfold sFrz;rw [h];exact hg
theorem x_for {body:FS} {ds:List D} (h:fi U=.ok ⟨ds,true⟩ U1) (hg:forGo i body ds U1=o):sFor i fi body U=o:=by unfold sFor;rw [h];exact hg
end
end T
namespace KC
open PySem PySem.Spec L2 T
open PyProof.Rows hiding St
variable {x:Str} {a b lo c at' lim:Int} {n:Nat} {g:FS} {os ms ss:List D} {ts:List Int} {U:Ev}
noncomputable def k_LETTERS:PySem.PyData:=.tuple [.str "a",.str "b",.str "c",.str "d",.str "e",.str "f"]
noncomputable def k_PLAYERS:PySem.PyData:=.tuple [.int 0,.int 1]
noncomputable def k_MOST_ROOMS:PySem.PyData:=.int 24
noncomputable def d_is_rising:FS:=(sRet (eCB (gAll false) (eCons (eComp .leaf 1 (iR2 (eCons (eK (.int 1)) (eCons (eCB gLen (eCons (eVar 0) eNil)) eNil))) bTrue (eOp gLt (eIdx (eVar 0) (eOp gSub (eVar 1) (eK (.int 1)))) (eIdx (eVar 0) (eVar 1)))) eNil)))
noncomputable def m_is_rising:List PySem.PyData->Res:=denOf 2 d_is_rising
noncomputable def d_are_marks:FS:=(sRet (eAnd (eCB (gAll false) (eCons (eComp .leaf 1 (iSeq (eVar 0)) bTrue (eOp (gIn false) (eVar 1) (eK k_LETTERS))) eNil)) (eCall 1 m_is_rising (eCons (eVar 0) eNil))))
noncomputable def m_are_marks:List PySem.PyData->Res:=denOf 2 d_are_marks
noncomputable def d_are_rooms:FS:=(sRet (eAnd (eCB (gAll false) (eCons (eComp .leaf 2 (iSeq (eVar 0)) bTrue (eChain gLe gLt (eK (.int 0)) (eVar 2) (eVar 1))) eNil)) (eCall 1 m_is_rising (eCons (eVar 0) eNil))))
noncomputable def m_are_rooms:List PySem.PyData->Res:=denOf 3 d_are_rooms
noncomputable def d_are_steps:FS:=(sRet (eAnd (eOp gGt (eCB gLen (eCons (eVar 0) eNil)) (eK (.int 0))) (eCall 2 m_are_rooms (eCons (eVar 0) (eCons (eVar 1) eNil)))))
noncomputable def m_are_steps:List PySem.PyData->Res:=denOf 2 d_are_steps
noncomputable def d_is_world:FS:=(sSeq (sSet false 3 (eCB gLen (eCons (eVar 0) eNil)))
  (sSeq (sIf (bOr (bOf gBool (eOp gLt (eVar 3) (eK (.int 1)))) (bOr (bOf gBool (eOp gGt (eVar 3) (eK k_MOST_ROOMS))) (bOr (bOf gBool (eOp gNe (eCB gLen (eCons (eVar 1) eNil)) (eVar 3))) (bOf gBool (eOp gNe (eCB gLen (eCons (eVar 2) eNil)) (eVar 3)))))) (sRet (eK (.bool false))) sNext)
  (sSeq (sIf (bNot (bOf gTru (eCB (gAll false) (eCons (eComp .leaf 4 (iSeq (eVar 0)) bTrue (eOp (gIn false) (eVar 4) (eK k_PLAYERS))) eNil)))) (sRet (eK (.bool false))) sNext)
  (sRet (eAnd (eCB (gAll false) (eCons (eComp .leaf 5 (iSeq (eVar 1)) bTrue (eCall 1 m_are_marks (eCons (eVar 5) eNil))) eNil)) (eCB (gAll false) (eCons (eComp .leaf 5 (iSeq (eVar 2)) bTrue (eCall 2 m_are_steps (eCons (eVar 5) (eCons (eVar 3) eNil)))) eNil)))))))
noncomputable def m_is_world:List PySem.PyData->Res:=denOf 6 d_is_world
noncomputable def d_check_world:FS:=(sIf (bNot (bOf gTru (eCall 3 m_is_world (eCons (eIdx (eVar 0) (eK (.int 0))) (eCons (eIdx (eVar 0) (eK (.int 1))) (eCons (eIdx (eVar 0) (eK (.int 2))) eNil)))))) sNo sNext)
noncomputable def m_check_world:List PySem.PyData->Res:=denOf 1 d_check_world
noncomputable def d__law_cell_at:FS:=(sSeq (sIf (bOf gBool (eOp gLt (eVar 1) (eCB gLen (eCons (eVar 0) eNil)))) (sRet (eIdx (eVar 0) (eVar 1))) sNext)
  (sRet (eK (.int 0))))
noncomputable def m__law_cell_at:List PySem.PyData->Res:=denOf 2 d__law_cell_at
noncomputable def d__law_draw:FS:=(sSeq (sIf (bOf gBool (eOp gGeA (eVar 0) (eOp gPow (eK (.int 10)) (eK (.int 18))))) (sSeq (sSet false 4 (eVar 0))
  (sSeq (sFor 5 (iR1 (eCons (eVar 1) eNil))
  (sSet false 4 (eOp gDiv (eVar 4) (eVar 2))))
  (sRet (eOp gMod (eVar 4) (eVar 2))))) sNext)
  (sSeq (sSet false 3 (eOp gMod (eOp gMul (eOp gAddI (eOp gAddI (eOp gMod (eVar 0) (eK (.int 1000000007))) (eOp gMul (eK (.int 1009)) (eVar 1))) (eK (.int 17))) (eK (.int 69621))) (eK (.int 2147483647))))
  (sSeq (sSet false 3 (eOp gMod (eOp gAddI (eOp gAddI (eOp gMul (eVar 3) (eVar 3)) (eOp gMul (eK (.int 40503)) (eVar 1))) (eK (.int 5))) (eK (.int 2147483629))))
  (sRet (eOp gMod (eOp gDiv (eOp gMod (eOp gMul (eVar 3) (eK (.int 48271))) (eK (.int 2147483647))) (eK (.int 32))) (eVar 2))))))
noncomputable def m__law_draw:List PySem.PyData->Res:=denOf 6 d__law_draw
noncomputable def d__law_world:FS:=(sSeq (sSet false 3 (eOp gAddI (eK (.int 1)) (eOp gMod (eCall 2 m__law_cell_at (eCons (eVar 0) (eCons (eVar 1) eNil))) (eVar 2))))
  (sSeq (sSet true 4 (eList .leaf eNil))
  (sSeq (sSet true 5 (eList .leaf eNil))
  (sSeq (sSet true 6 (eList .leaf eNil))
  (sSeq (sFor 7 (iR1 (eCons (eVar 3) eNil))
  (sSeq (sSet false 8 (eCall 2 m__law_cell_at (eCons (eVar 0) (eCons (eOp gAddI (eOp gAddI (eVar 1) (eK (.int 1))) (eVar 7)) eNil))))
  (sSeq (sAppend 4 (eCall 3 m__law_draw (eCons (eVar 8) (eCons (eK (.int 0)) (eCons (eK (.int 2)) eNil)))))
  (sSeq (sAppend 5 (eComp .leaf 11 (iR1 (eCons (eK (.int 3)) eNil)) (bOf gBool (eOp gEq (eCall 3 m__law_draw (eCons (eVar 8) (eCons (eOp gAddI (eK (.int 1)) (eVar 11)) (eCons (eK (.int 2)) eNil)))) (eK (.int 1)))) (eIdx (eK (.str "abc")) (eVar 11))))
  (sSeq (sSet false 9 (eComp .leaf 10 (iR1 (eCons (eVar 3) eNil)) (bOf gBool (eOp gEq (eCall 3 m__law_draw (eCons (eVar 8) (eCons (eOp gAddI (eK (.int 4)) (eVar 10)) (eCons (eOp gAddI (eK (.int 2)) (eCB gInt (eCons (eOp gGt (eVar 3) (eK (.int 3))) eNil))) eNil)))) (eK (.int 1)))) (eVar 10)))
  (sSeq (sIf (bOf gBool (eOp gEq (eVar 9) (eList .leaf eNil))) (sSet false 9 (eList .leaf (eCons (eCall 3 m__law_draw (eCons (eVar 8) (eCons (eOp gAddI (eK (.int 4)) (eVar 3)) (eCons (eVar 3) eNil)))) eNil))) sNext)
  (sAppend 6 (eVar 9))))))))
  (sRet (eTup (eCons (eMove 4) (eCons (eMove 5) (eCons (eMove 6) eNil))))))))))
noncomputable def m__law_world:List PySem.PyData->Res:=denOf 12 d__law_world
open PySem.SeqAt
noncomputable def ltD (a b:D):Bool:=match gLt a b with
 | some (.bool t)=>t
 | _=>false
noncomputable def RowI (ds:List D):Prop:=∀a∈ds,∃n,a=.int n
noncomputable def RowS (ds:List D):Prop:=∀a∈ds,∃x,a=.str x/\PyData.strOk x=true
noncomputable def Row (ds:List D):Prop:=RowI ds\/RowS ds
theorem sh_int (i:Int):shaped (.int i)=true:=by simp [shaped,PyData.canLay0,PyData.depth]
theorem sh_str (h:PyData.strOk x=true):shaped (.str x)=true:=by simp [shaped,PyData.canLay0,PyData.depth,h]
theorem Row.lt {ds:List D} {a b:D} (h:Row ds) (ha:a∈ds) (hb:b∈ds):gLt a b=some (.bool (ltD a b))/\gGeA a b=some (.bool (!ltD a b)):=by
 rcases h with h | h
 ·obtain ⟨n,rfl⟩:=h a ha
  obtain ⟨m,rfl⟩:=h b hb
  refine ⟨rfl,?_⟩
  show some (PyData.bool (decide (m<=n)))=some (.bool (!decide (n<m)))
  congr 2
  by_cases q:n<m
  ·simp [q,Int.not_le.mpr q]
  ·simp [q,Int.not_lt.mp q]
 ·obtain ⟨n,rfl,_⟩:=h a ha
  obtain ⟨m,rfl,_⟩:=h b hb
  exact ⟨rfl,rfl⟩
noncomputable def lt2 (ds:List D) (d:D):Bool:=match d with
 | .int j=>ltD (ds.getD (j-1).toNat .none) (ds.getD j.toNat .none)
 | _=>false
noncomputable def rises (ds:List D):Bool:=(rngD 1 ((ds.length:Int)-1).toNat).all (lt2 ds)
theorem mem_rng {d:D} (h:d∈rngD lo n):∃k:Nat,k<n/\d=.int (lo+k):=by
 unfold rngD at h
 simp only [mem_map,mem_range] at h
 obtain ⟨k,hk,e⟩:=h
 exact ⟨k,hk,e.symm⟩
theorem rng_len:(rngD lo n).length=n:=by unfold rngD;simp
theorem ix_nat {k:Nat} (h:k<n):ixN n (k:Int)=some k:=by
 unfold ixN
 rw [if_pos (by omega),if_pos (by omega)]
 simp
theorem ix_of {i:Int} (h0:0<=i) (h1:i<n):ixN n i=some i.toNat:=by
 unfold ixN
 rw [if_pos h0,if_pos h1]
theorem in_rng {i:Int} (h0:-1000<=i) (h1:i<=100000):inRng i=true:=by
 unfold inRng
 simp only [Bool.and_eq_true,decide_eq_true_eq]
 omega
theorem get_of {ds:List D} {k:Nat} (h:k<ds.length):ds[k]?=some (ds.getD k .none):=by
 rw [getD_eq_getElem?_getD,getElem?_eq_getElem h];rfl
theorem getD_mem {ds:List D} {k:Nat} (h:k<ds.length):ds.getD k .none∈ds:=mem_of_getElem? (get_of h)
theorem lt_ev {ds:List D} {k:Nat} (h:Row ds) (hk:k<((ds.length:Int)-1).toNat):ixN ds.length (1+(k:Int)-1)=some k/\ixN ds.length (1+(k:Int))=some (k+1)/\ds[k]?=some (ds.getD k .none)/\ds[k+1]?=some (ds.getD (k+1) .none) /\
  gLt (ds.getD k .none) (ds.getD (k+1) .none)=some (.bool (lt2 ds (.int (1+(k:Int)))))/\gGeA (ds.getD k .none) (ds.getD (k+1) .none)=some (.bool (!lt2 ds (.int (1+(k:Int))))):=by
 have h1:k<ds.length:=by omega
 have h2:k+1<ds.length:=by omega
 have l:=h.lt (getD_mem h1) (getD_mem h2)
 have e3:lt2 ds (.int (1+(k:Int)))=ltD (ds.getD k .none) (ds.getD (k+1) .none):=by
  unfold lt2
  dsimp only
  rw [show (1+(k:Int)-1).toNat=k by omega,show (1+(k:Int)).toNat=k+1 by omega]
 rw [e3]
 exact ⟨by rw [show (1+(k:Int)-1)=k by omega];exact ix_nat h1,by rw [show (1+(k:Int))=((k+1:Nat):Int) by omega];exact ix_nat h2,get_of h1,get_of h2,l.1,l.2⟩
theorem rt_of {ds:List D} {p:PV} (h:g (startD n ds)=.rt p):denOf n g ds=.ok p:=by unfold denOf;rw [h]
theorem eq_int:gEq (.int a) (.int b)=some (.bool (a==b)):=by
 unfold gEq
 rw [sh_int,sh_int,Bool.and_self,if_pos rfl,PyData.eqv]
theorem den_is_rising {ds:List D} (h:Row ds) (hl:ds.length<=100):m_is_rising [.list ds]=.ok ⟨.leaf,.bool (rises ds)⟩:=by
 have hc:eComp .leaf 1 (iR2 (eCons (eK (.int 1)) (eCons (eCB gLen (eCons (eVar 0) eNil)) eNil))) bTrue (eOp gLt (eIdx (eVar 0) (eOp gSub (eVar 1) (eK (.int 1)))) (eIdx (eVar 0) (eVar 1))) [some ⟨.leaf,.list ds⟩,none] =
   .ok ⟨.lst .leaf,.list ((rngD 1 ((ds.length:Int)-1).toNat).map fun d=>.bool (lt2 ds d))⟩ [some ⟨.leaf,.list ds⟩,none]:=by
  refine eComp_all (f:=fun d=>⟨.leaf,.bool (lt2 ds d)⟩) (st:=true) (w_r2 (k:=1) (m:=(ds.length:Int)) (v_cons v_k (v_cons (v_cb (v_cons (v_leaf rfl) v_nil) rfl) v_nil)) rfl (by omega) (by omega) (by omega) (by omega)) (by simp) rfl (by rw [rng_len];omega) fun d hd=>⟨?_,rfl⟩
  obtain ⟨k,hk,rfl⟩:=mem_rng hd
  obtain ⟨e1,e2,e3,e4,e5,e6⟩:=lt_ev h hk
  exact v_op (v_idxL (v_leaf rfl) (v_op (v_leaf rfl) v_k rfl) e1 e3 rfl) (v_idxL (v_leaf rfl) (v_leaf rfl) e2 e4 rfl) e5
 exact rt_of (x_ret (v_cb (v_cons hc v_nil) gAll_eq) rfl)
noncomputable def inL (a:D):Bool:=[PyData.str "a",.str "b",.str "c",.str "d",.str "e",.str "f"].any fun y=>PyData.eqv y a
noncomputable def inP (a:D):Bool:=[PyData.int 0,.int 1].any fun y=>PyData.eqv y a
noncomputable def inR (n:Int) (a:D):Bool:=match a with
 | .int i=>decide (0<=i)&&decide (i<n)
 | _=>false
noncomputable def mOk (d:D):Bool:=match d with
 | .list xs=>xs.all inL&&rises xs
 | _=>false
noncomputable def sOk (n:Int) (d:D):Bool:=match d with
 | .list xs=>decide (0<xs.length)&&(xs.all (inR n)&&rises xs)
 | _=>false
theorem sh_let:shaped k_LETTERS=true:=by decide +kernel
theorem sh_pl:shaped k_PLAYERS=true:=by decide +kernel
theorem in_let (hx:PyData.strOk x=true):gIn false (.str x) k_LETTERS=some (.bool (inL (.str x))):=by
 unfold gIn k_LETTERS
 have:=sh_let
 unfold k_LETTERS at this
 simp only [sh_str hx,this,Bool.and_self,if_true]
 rfl
theorem in_pl {i:Int}:gIn false (.int i) k_PLAYERS=some (.bool (inP (.int i))):=by
 unfold gIn k_PLAYERS
 have:=sh_pl
 unfold k_PLAYERS at this
 simp only [sh_int,this,Bool.and_self,if_true]
 rfl
theorem den_are_marks {ds:List D} (h:RowS ds) (hl:ds.length<=100):m_are_marks [.list ds]=.ok ⟨.leaf,.bool (ds.all inL&&rises ds)⟩:=by
 have hc:eComp .leaf 1 (iSeq (eVar 0)) bTrue (eOp (gIn false) (eVar 1) (eK k_LETTERS)) [some ⟨.leaf,.list ds⟩,none]=.ok ⟨.lst .leaf,.list (ds.map fun d=>.bool (inL d))⟩ [some ⟨.leaf,.list ds⟩,none]:=by
  refine eComp_all (f:=fun d=>⟨.leaf,.bool (inL d)⟩) (w_seq (v_leaf rfl) rfl) (by simp) rfl (by omega) fun d hd=>⟨?_,rfl⟩
  obtain ⟨x,rfl,hx⟩:=h d hd
  exact v_op (v_leaf rfl) v_k (in_let hx)
 exact rt_of (x_ret (v_and (v_cb (v_cons hc v_nil) gAll_eq) (v_call (v_cons (v_leaf rfl) v_nil) (den_is_rising (.inr h) hl) rfl rfl)) rfl)
theorem chain_ev {i n:Int}:gLe (.int 0) (.int i)=some (.bool (decide (0<=i)))/\gLt (.int i) (.int n)=some (.bool (decide (i<n))):=⟨rfl,rfl⟩
theorem den_are_rooms {ds:List D} {n:Int} (h:RowI ds) (hl:ds.length<=100):m_are_rooms [.list ds,.int n]=.ok ⟨.leaf,.bool (ds.all (inR n)&&rises ds)⟩:=by
 have hc:eComp .leaf 2 (iSeq (eVar 0)) bTrue (eChain gLe gLt (eK (.int 0)) (eVar 2) (eVar 1)) [some ⟨.leaf,.list ds⟩,some ⟨.leaf,.int n⟩,none]=.ok ⟨.lst .leaf,.list (ds.map fun d=>.bool (inR n d))⟩ [some ⟨.leaf,.list ds⟩,some ⟨.leaf,.int n⟩,none]:=by
  refine eComp_all (f:=fun d=>⟨.leaf,.bool (inR n d)⟩) (w_seq (v_leaf rfl) rfl) (by simp) rfl (by omega) fun d hd=>⟨?_,rfl⟩
  obtain ⟨i,rfl⟩:=h d hd
  exact v_chain v_k (v_leaf rfl) (chain_ev (n:=n)).1 rfl (v_leaf rfl) chain_ev.2
 exact rt_of (x_ret (v_and (v_cb (v_cons hc v_nil) gAll_eq) (v_call (v_cons (v_leaf rfl) v_nil) (den_is_rising (.inl h) hl) rfl rfl)) rfl)
theorem den_are_steps {ds:List D} {n:Int} (h:RowI ds) (hl:ds.length<=100):m_are_steps [.list ds,.int n]=.ok ⟨.leaf,.bool (decide (0<ds.length)&&(ds.all (inR n)&&rises ds))⟩:=by
 have e:gGt (.int (ds.length:Nat)) (.int 0)=some (.bool (decide (0<ds.length))):=by
  show some (PyData.bool (decide ((0:Int)<(ds.length:Int))))=_
  congr 2
  exact decide_eq_decide.mpr (by omega)
 exact rt_of (x_ret (v_and (v_op (v_cb (v_cons (v_leaf rfl) v_nil) rfl) v_k e) (v_call (v_cons (v_leaf rfl) (v_cons (v_leaf rfl) v_nil)) (den_are_rooms h hl) rfl rfl)) rfl)
structure Wk (b:Nat) (os ms ss:List D):Prop where
 o:RowI os
 m:∀r∈ms,∃xs,r=.list xs/\RowS xs/\xs.length<=30
 s:∀r∈ss,∃xs,r=.list xs/\RowI xs/\xs.length<=30
 lo:os.length<=b
 lm:ms.length<=b
 ls:ss.length<=b
noncomputable def bad (os ms ss:List D):Bool:=decide ((os.length:Int)<1)||(decide ((24:Int)<os.length)||((!((ms.length:Int)==(os.length:Int)))||(!((ss.length:Int)==(os.length:Int)))))
noncomputable def isW (os ms ss:List D):Bool:=!bad os ms ss&&(os.all inP&&(ms.all mOk&&ss.all (sOk os.length)))
theorem ne_int:gNe (.int a) (.int b)=some (.bool (!(a==b))):=by
 unfold gNe
 rw [sh_int,sh_int,Bool.and_self,if_pos rfl,PyData.eqv]
theorem den_is_world {b:Nat} (h:Wk b os ms ss) (hb:b<=100):m_is_world [.list os,.list ms,.list ss]=.ok ⟨.leaf,.bool (isW os ms ss)⟩:=by
 have lo:=h.lo
 have lm:=h.lm
 have ls:=h.ls
 refine rt_of ?_
 refine x_seq (x_setL (v_cb (v_cons (v_leaf rfl) v_nil) rfl) rfl (by simp [startD])) ?_
 have hif:(bOr (bOf gBool (eOp gLt (eVar 3) (eK (.int 1)))) (bOr (bOf gBool (eOp gGt (eVar 3) (eK k_MOST_ROOMS))) (bOr (bOf gBool (eOp gNe (eCB gLen (eCons (eVar 1) eNil)) (eVar 3))) (bOf gBool (eOp gNe (eCB gLen (eCons (eVar 2) eNil)) (eVar 3)))))) [some ⟨.leaf,.list os⟩,some ⟨.leaf,.list ms⟩,some ⟨.leaf,.list ss⟩,some ⟨.leaf,.int (os.length:Nat)⟩,none,none]
   = .ok (bad os ms ss) [some ⟨.leaf,.list os⟩,some ⟨.leaf,.list ms⟩,some ⟨.leaf,.list ss⟩,some ⟨.leaf,.int (os.length:Nat)⟩,none,none]:=
  b_or (bb_bool (v_op (v_leaf rfl) v_k rfl)) (b_or (bb_bool (v_op (v_leaf rfl) v_k rfl)) (b_or (bb_bool (v_op (v_cb (v_cons (v_leaf rfl) v_nil) rfl) (v_leaf rfl) ne_int)) (bb_bool (v_op (v_cb (v_cons (v_leaf rfl) v_nil) rfl) (v_leaf rfl) ne_int))))
 cases hbad:bad os ms ss with
 | true=>
  rw [hbad] at hif
  unfold isW
  rw [hbad]
  exact x_seqR (x_if hif (fun _=>x_ret v_k rfl) nofun)
 | false=>
  rw [hbad] at hif
  refine x_seq (x_if hif nofun (fun _=>rfl)) ?_
  have c1:eComp .leaf 4 (iSeq (eVar 0)) bTrue (eOp (gIn false) (eVar 4) (eK k_PLAYERS)) [some ⟨.leaf,.list os⟩,some ⟨.leaf,.list ms⟩,some ⟨.leaf,.list ss⟩,some ⟨.leaf,.int (os.length:Nat)⟩,none,none]
    = .ok ⟨.lst .leaf,.list (os.map fun d=>.bool (inP d))⟩ [some ⟨.leaf,.list os⟩,some ⟨.leaf,.list ms⟩,some ⟨.leaf,.list ss⟩,some ⟨.leaf,.int (os.length:Nat)⟩,none,none]:=by
   refine eComp_all (f:=fun d=>⟨.leaf,.bool (inP d)⟩) (w_seq (v_leaf rfl) rfl) (by simp) rfl (by omega) fun d hd=>⟨?_,rfl⟩
   obtain ⟨i,rfl⟩:=h.o d hd
   exact v_op (v_leaf rfl) v_k in_pl
  have c2:eComp .leaf 5 (iSeq (eVar 1)) bTrue (eCall 1 m_are_marks (eCons (eVar 5) eNil)) [some ⟨.leaf,.list os⟩,some ⟨.leaf,.list ms⟩,some ⟨.leaf,.list ss⟩,some ⟨.leaf,.int (os.length:Nat)⟩,none,none]
    = .ok ⟨.lst .leaf,.list (ms.map fun d=>.bool (mOk d))⟩ [some ⟨.leaf,.list os⟩,some ⟨.leaf,.list ms⟩,some ⟨.leaf,.list ss⟩,some ⟨.leaf,.int (os.length:Nat)⟩,none,none]:=by
   refine eComp_all (f:=fun d=>⟨.leaf,.bool (mOk d)⟩) (w_seq (v_leaf rfl) rfl) (by simp) rfl (by omega) fun d hd=>⟨?_,rfl⟩
   obtain ⟨xs,rfl,hx,hl⟩:=h.m d hd
   exact v_call (v_cons (v_leaf rfl) v_nil) (den_are_marks hx (by omega)) rfl rfl
  have c3:eComp .leaf 5 (iSeq (eVar 2)) bTrue (eCall 2 m_are_steps (eCons (eVar 5) (eCons (eVar 3) eNil))) [some ⟨.leaf,.list os⟩,some ⟨.leaf,.list ms⟩,some ⟨.leaf,.list ss⟩,some ⟨.leaf,.int (os.length:Nat)⟩,none,none]
    = .ok ⟨.lst .leaf,.list (ss.map fun d=>.bool (sOk os.length d))⟩ [some ⟨.leaf,.list os⟩,some ⟨.leaf,.list ms⟩,some ⟨.leaf,.list ss⟩,some ⟨.leaf,.int (os.length:Nat)⟩,none,none]:=by
   refine eComp_all (f:=fun d=>⟨.leaf,.bool (sOk os.length d)⟩) (w_seq (v_leaf rfl) rfl) (by simp) rfl (by omega) fun d hd=>⟨?_,rfl⟩
   obtain ⟨xs,rfl,hx,hl⟩:=h.s d hd
   exact v_call (v_cons (v_leaf rfl) (v_cons (v_leaf rfl) v_nil)) (den_are_steps hx (by omega)) rfl rfl
  have t1:=b_not (b_tru (v_cb (v_cons c1 v_nil) gAll_eq))
  cases ho:os.all inP with
  | false=>
   rw [ho] at t1
   unfold isW
   rw [ho,Bool.false_and,Bool.and_false]
   exact x_seqR (x_if t1 (fun _=>x_ret v_k rfl) nofun)
  | true=>
   rw [ho] at t1
   refine x_seq (x_if t1 nofun (fun _=>rfl)) ?_
   unfold isW
   rw [hbad,ho,Bool.not_false,Bool.true_and,Bool.true_and]
   exact x_ret (v_and (v_cb (v_cons c2 v_nil) gAll_eq) (v_cb (v_cons c3 v_nil) gAll_eq)) rfl
theorem eq_nil {xs:List D} (h:shaped (.list xs)=true):gEq (.list xs) (.list [])=some (.bool (decide (xs.length=0))):=by
 unfold gEq
 have h2:shaped (.list [])=true:=by decide +kernel
 rw [h,h2,Bool.and_self,if_pos rfl]
 cases xs with
 | nil=>rfl
 | cons a r=>rfl
theorem sh_rowI {xs:List D} (h:RowI xs):shaped (.list xs)=true:=by
 have c:PyData.canLayAll0 xs=true/\PyData.depthAll xs=0:=by
  induction xs with
  | nil=>exact ⟨rfl,rfl⟩
  | cons a r ih=>
   obtain ⟨n,rfl⟩:=h a mem_cons_self
   have q:=ih fun x hx=>h x (mem_cons_of_mem _ hx)
   simp [PyData.canLayAll0,PyData.canLay0,PyData.depthAll,PyData.depth,q.1,q.2]
 simp [shaped,PyData.canLay0,PyData.depth,c.1,c.2]
theorem lt_int:gLt (.int a) (.int b)=some (.bool (decide (a<b))):=rfl
theorem ge_int':gGeA (.int a) (.int b)=some (.bool (decide (b<=a))):=rfl
theorem add_int':gAddI (.int a) (.int b)=some (.int (a+b)):=rfl
theorem mod_i (h:0<b):gMod (.int a) (.int b)=some (.int (a % b)):=by
 show (if cMod a b then _ else _)=_
 rw [if_pos (by unfold cMod;simpa using h)]
theorem div_i (h:0<b) (h2:b<1073741824):gDiv (.int a) (.int b)=some (.int (a / b)):=by
 show (if cDiv a b then _ else _)=_
 rw [if_pos (by unfold cDiv;simp [h,h2])]
theorem mul_r (h:-1000000000000<b) (h2:b<1000000000000):gMul (.int a) (.int b)=some (.int (a*b)):=by
 show (if cMul a b then _ else _)=_
 rw [if_pos (by unfold cMul;simp only [Bool.or_eq_true,Bool.and_eq_true,decide_eq_true_eq];right;omega)]
theorem mul_l (h:-1000000000000<a) (h2:a<1000000000000):gMul (.int a) (.int b)=some (.int (a*b)):=by
 show (if cMul a b then _ else _)=_
 rw [if_pos (by unfold cMul;simp only [Bool.or_eq_true,Bool.and_eq_true,decide_eq_true_eq];left;omega)]
theorem pow_i (h:0<=b) (h2:b<=100):gPow (.int 10) (.int b)=some (.int (10 ^ b.toNat)):=by
 show (if cPow 10 b then _ else _)=_
 rw [if_pos (by unfold cPow;simp only [Bool.and_eq_true,decide_eq_true_eq];exact ⟨⟨h,by omega⟩,by decide⟩)]
theorem den_cell {xs:List D} (h:RowI xs) {k:Int} (hk:0<=k):∃c,m__law_cell_at [.list xs,.int k]=.ok ⟨.leaf,.int c⟩:=by
 have t:bOf gBool (eOp gLt (eVar 1) (eCB gLen (eCons (eVar 0) eNil))) [some ⟨.leaf,.list xs⟩,some ⟨.leaf,.int k⟩]=.ok (decide (k<(xs.length:Int))) [some ⟨.leaf,.list xs⟩,some ⟨.leaf,.int k⟩]:=
  bb_bool (v_op (v_leaf rfl) (v_cb (v_cons (v_leaf rfl) v_nil) rfl) lt_int)
 cases hlt:decide (k<(xs.length:Int)) with
 | true=>
  rw [hlt] at t
  have hl:=of_decide_eq_true hlt
  have hk2:k.toNat<xs.length:=by omega
  obtain ⟨c,hc⟩:=h _ (getD_mem hk2)
  have g:=get_of hk2
  rw [hc] at g
  exact ⟨c,rt_of (x_seqR (x_if t (fun _=>x_ret (v_idxL (v_leaf rfl) (v_leaf rfl) (ix_of hk hl) g rfl) rfl) nofun))⟩
 | false=>
  rw [hlt] at t
  exact ⟨0,rt_of (x_seq (x_if t nofun (fun _=>rfl)) (x_ret v_k rfl))⟩
theorem den_draw {k:Int} (hk:0<=k) (hk2:k<=1000) (hb:1<=b) (hb2:b<=1000):∃r,m__law_draw [.int c,.int k,.int b]=.ok ⟨.leaf,.int r⟩/\0<=r/\r<b:=by
 have t:bOf gBool (eOp gGeA (eVar 0) (eOp gPow (eK (.int 10)) (eK (.int 18)))) [some ⟨.leaf,.int c⟩,some ⟨.leaf,.int k⟩,some ⟨.leaf,.int b⟩,none,none,none]=.ok (decide (10 ^ (18:Int).toNat<=c)) [some ⟨.leaf,.int c⟩,some ⟨.leaf,.int k⟩,some ⟨.leaf,.int b⟩,none,none,none]:=
  bb_bool (v_op (v_leaf rfl) (v_op v_k v_k (pow_i (by omega) (by omega))) ge_int')
 cases hge:decide (10 ^ (18:Int).toNat<=c) with
 | true=>
  rw [hge] at t
  obtain ⟨U',e,l,x,hU⟩:=forGo_ix (P:=fun _ U=>∃l x,U=[some ⟨.leaf,.int c⟩,some ⟨.leaf,.int k⟩,some ⟨.leaf,.int b⟩,none,some ⟨.leaf,.int l⟩,x]) (i:=5) (body:=sSet false 4 (eOp gDiv (eVar 4) (eVar 2))) (rngD 0 k.toNat) 0
   [some ⟨.leaf,.int c⟩,some ⟨.leaf,.int k⟩,some ⟨.leaf,.int b⟩,none,some ⟨.leaf,.int c⟩,none] ⟨c,none,rfl⟩ (fun m d U hd _ _ ⟨l,x,hU⟩=>by
    subst hU
    refine ⟨by simp,_,x_setL (v_op (v_leaf rfl) (v_leaf rfl) (div_i (by omega) (by omega))) rfl (by simp),_,_,rfl⟩)
  subst hU
  exact ⟨_,rt_of (x_seqR (x_if t (fun _=>x_seq (x_setL (v_leaf rfl) rfl (by simp)) (x_seq (x_for (w_r1 (k:=k) (v_cons (v_leaf rfl) v_nil) rfl (by omega) (by omega)) e) (x_ret (v_op (v_leaf rfl) (v_leaf rfl) (mod_i (by omega))) rfl))) nofun)),Int.emod_nonneg _ (by omega),Int.emod_lt_of_pos _ (by omega)⟩
 | false=>
  rw [hge] at t
  have m1:∀x:Int,0<=x % 2147483647/\x % 2147483647<2147483647:=fun x=>⟨Int.emod_nonneg _ (by omega),Int.emod_lt_of_pos _ (by omega)⟩
  refine ⟨_,rt_of (x_seq (x_if t nofun (fun _=>rfl)) (x_seq (x_setL (v_op (v_op (v_op (v_op (v_op (v_leaf rfl) v_k (mod_i (by omega))) (v_op v_k (v_leaf rfl) (mul_l (by omega) (by omega))) add_int') v_k add_int') v_k (mul_r (by omega) (by omega))) v_k (mod_i (by omega))) rfl (by simp [startD]))
   (x_seq (x_setL (v_op (v_op (v_op (v_op (v_leaf rfl) (v_leaf rfl) (mul_l ?_ ?_)) (v_op v_k (v_leaf rfl) (mul_l (by omega) (by omega))) add_int') v_k add_int') v_k (mod_i (by omega))) rfl (by simp [startD]))
   (x_ret (v_op (v_op (v_op (v_op (v_leaf rfl) v_k (mul_r (by omega) (by omega))) v_k (mod_i (by omega))) v_k (div_i (by omega) (by omega))) (v_leaf rfl) (mod_i (by omega))) rfl)))),Int.emod_nonneg _ (by omega),Int.emod_lt_of_pos _ (by omega)⟩
  ·exact Int.lt_of_lt_of_le (by omega) (m1 _).1
  ·exact Int.lt_trans (m1 _).2 (by omega)
noncomputable def drw (c k b:Int):Int:=match m__law_draw [.int c,.int k,.int b] with
 | .ok ⟨_,.int r⟩=>r
 | _=>0
theorem den_drw {k:Int} (hk:0<=k) (hk2:k<=1000) (hb:1<=b) (hb2:b<=1000):m__law_draw [.int c,.int k,.int b]=.ok ⟨.leaf,.int (drw c k b)⟩:=by
 obtain ⟨r,e,_⟩:=den_draw (c:=c) hk hk2 hb hb2
 unfold drw
 rw [e]
theorem drw_in {k:Int} (hk:0<=k) (hk2:k<=1000) (hb:1<=b) (hb2:b<=1000):0<=drw c k b/\drw c k b<b:=by
 obtain ⟨r,e,h⟩:=den_draw (c:=c) hk hk2 hb hb2
 unfold drw
 rw [e]
 exact h
noncomputable def abc (d:D):D:=match d with
 | .int k=>(match atI [97,98,99] k with
  | some c=>.str ⟨#[c]⟩
  | none=>.none)
 | _=>.none
theorem ok_small {c:Nat} (h:c<1000):PyData.strOk ⟨#[c]⟩=true:=by
 unfold PyData.strOk
 simp
 omega
theorem abc_cps:(Str.ofString "abc").cps.toList=[97,98,99]:=by decide +kernel
theorem abc_len:(Str.ofString "abc").length<=sizeLine:=by decide +kernel
theorem abc_ev {k:Nat} (hk:k<3):∃c,c<1000/\atI (Str.ofString "abc").cps.toList (k:Int)=some c/\abc (.int k)=.str ⟨#[c]⟩:=by
 rw [abc_cps]
 match k,hk with
 | 0,_=>exact ⟨97,by omega,rfl,rfl⟩
 | 1,_=>exact ⟨98,by omega,rfl,rfl⟩
 | 2,_=>exact ⟨99,by omega,rfl,rfl⟩
noncomputable abbrev eW:FS:=(sSeq (sSet false 8 (eCall 2 m__law_cell_at (eCons (eVar 0) (eCons (eOp gAddI (eOp gAddI (eVar 1) (eK (.int 1))) (eVar 7)) eNil))))
  (sSeq (sAppend 4 (eCall 3 m__law_draw (eCons (eVar 8) (eCons (eK (.int 0)) (eCons (eK (.int 2)) eNil)))))
  (sSeq (sAppend 5 (eComp .leaf 11 (iR1 (eCons (eK (.int 3)) eNil)) (bOf gBool (eOp gEq (eCall 3 m__law_draw (eCons (eVar 8) (eCons (eOp gAddI (eK (.int 1)) (eVar 11)) (eCons (eK (.int 2)) eNil)))) (eK (.int 1)))) (eIdx (eK (.str "abc")) (eVar 11))))
  (sSeq (sSet false 9 (eComp .leaf 10 (iR1 (eCons (eVar 3) eNil)) (bOf gBool (eOp gEq (eCall 3 m__law_draw (eCons (eVar 8) (eCons (eOp gAddI (eK (.int 4)) (eVar 10)) (eCons (eOp gAddI (eK (.int 2)) (eCB gInt (eCons (eOp gGt (eVar 3) (eK (.int 3))) eNil))) eNil)))) (eK (.int 1)))) (eVar 10)))
  (sSeq (sIf (bOf gBool (eOp gEq (eVar 9) (eList .leaf eNil))) (sSet false 9 (eList .leaf (eCons (eCall 3 m__law_draw (eCons (eVar 8) (eCons (eOp gAddI (eK (.int 4)) (eVar 3)) (eCons (eVar 3) eNil)))) eNil))) sNext)
  (sAppend 6 (eVar 9)))))))
theorem rises_of (h:ts.Pairwise (· < ·)):rises (ts.map .int)=true:=by
 unfold rises
 rw [all_eq_true]
 intro d hd
 obtain ⟨k,hk,rfl⟩:=mem_rng hd
 rw [length_map] at hk
 have h1:k<ts.length:=by omega
 have h2:k+1<ts.length:=by omega
 unfold lt2
 dsimp only
 rw [show (1+(k:Int)-1).toNat=k by omega,show (1+(k:Int)).toNat=k+1 by omega]
 rw [getD_eq_getElem?_getD,getD_eq_getElem?_getD,getElem?_map,getElem?_map,getElem?_eq_getElem h1,getElem?_eq_getElem h2]
 have:=List.pairwise_iff_getElem.mp h k (k+1) h1 h2 (by omega)
 show decide (ts[k]<ts[k+1])=true
 exact decide_eq_true this
structure Gw (N:Int) (n:Nat) (os ms ss:List D):Prop where
 lo:os.length=n
 lm:ms.length=n
 ls:ss.length=n
 o:∀a∈os,a=.int 0\/a=.int 1
 m:∀r∈ms,∃xs,r=.list xs/\RowS xs/\xs.length<=30/\mOk r=true
 s:∀r∈ss,∃ts:List Int,r=.list (ts.map .int)/\ts.length<=30/\ts≠[]/\(∀t∈ts,0<=t/\t<N)/\ts.Pairwise (· < ·)
theorem rowI_map:RowI (ts.map .int):=fun a ha=>by
 obtain ⟨n,_,e⟩:=List.mem_map.mp ha
 exact ⟨n,e.symm⟩
theorem Gw.wk {N:Int} {b:Nat} (h:Gw N n os ms ss) (hb:n<=b):Wk b os ms ss:=
 ⟨fun a ha=>(h.o a ha).elim (fun e=>⟨0,e⟩) fun e=>⟨1,e⟩,fun r hr=>let ⟨xs,e,a,b,_⟩:=h.m r hr;⟨xs,e,a,b⟩,fun r hr=>let ⟨ts,e,a,_⟩:=h.s r hr;⟨_,e,rowI_map,by rw [length_map];exact a⟩,by rw [h.lo];exact hb,by rw [h.lm];exact hb,by rw [h.ls];exact hb⟩
theorem Gw.isW {n:Nat} {os ms ss:List D} (h:Gw (n:Int) n os ms ss) (h1:1<=n) (h24:n<=24):isW os ms ss=true:=by
 unfold KC.isW bad
 rw [h.lo,h.lm,h.ls]
 have e1:decide ((n:Int)<1)=false:=decide_eq_false (by omega)
 have e2:decide ((24:Int)<n)=false:=decide_eq_false (by omega)
 rw [e1,e2]
 simp only [beq_self_eq_true,Bool.not_true,Bool.or_self,Bool.not_false,Bool.true_and,Bool.and_eq_true,all_eq_true]
 refine ⟨fun a ha=>?_,fun r hr=>?_,fun r hr=>?_⟩
 ·rcases h.o a ha with rfl | rfl<;>rfl
 ·obtain ⟨xs,_,_,_,e⟩:=h.m r hr
  exact e
 ·obtain ⟨ts,rfl,h2,h3,h4,h5⟩:=h.s r hr
  unfold sOk
  simp only [Bool.and_eq_true,decide_eq_true_eq,length_map,all_eq_true]
  refine ⟨by cases ts with | nil=>exact absurd rfl h3 | cons a r=>simp,fun a ha=>?_,rises_of h5⟩
  obtain ⟨t,ht,rfl⟩:=List.mem_map.mp ha
  have:=h4 t ht
  unfold inR
  simp only [Bool.and_eq_true,decide_eq_true_eq]
  exact this
theorem mOk8 (c0 c1 c2:Bool):mOk (.list (((if c0 then [PyData.str ⟨#[97]⟩] else [])++((if c1 then [PyData.str ⟨#[98]⟩] else [])++(if c2 then [PyData.str ⟨#[99]⟩] else [])))))=true:=by
 cases c0<;>cases c1<;>cases c2<;>decide +kernel
theorem abc3 (c:D->Bool):((rngD 0 3).filter c).map abc=((if c (.int 0) then [PyData.str ⟨#[97]⟩] else [])++((if c (.int 1) then [PyData.str ⟨#[98]⟩] else [])++(if c (.int 2) then [PyData.str ⟨#[99]⟩] else []))):=by
 have e:rngD 0 3=[.int 0,.int 1,.int 2]:=rfl
 rw [e]
 simp only [List.filter_cons,List.filter_nil]
 cases c (.int 0)<;>cases c (.int 1)<;>cases c (.int 2)<;>rfl
theorem rng_ts (n:Nat) (c:D->Bool):∃ts:List Int,((rngD 0 n).filter c).map (fun d=>d)=ts.map .int/\(∀t∈ts,0<=t/\t<(n:Int))/\ts.Pairwise (· < ·)/\ts.length<=n:=by
 refine ⟨((List.range n).map fun i=>(0:Int)+(i:Nat)).filter fun i=>c (.int i),?_,fun t ht=>?_,?_,?_⟩
 ·rw [List.map_id']
  unfold rngD
  rw [show (fun i:Nat=>PyData.int (0+(i:Int)))=(PyData.int∘fun i:Nat=>(0:Int)+(i:Nat)) from rfl,<-map_map,List.filter_map]
  rfl
 ·obtain ⟨h1,_⟩:=List.mem_filter.mp ht
  obtain ⟨i,hi,rfl⟩:=List.mem_map.mp h1
  rw [mem_range] at hi
  omega
 ·refine List.Pairwise.filter _ ?_
  rw [pairwise_map]
  exact List.pairwise_lt_range.imp fun h=>by omega
 ·refine Nat.le_trans (length_filter_le _ _) ?_
  simp
theorem body_world {xs:List D} {many:Int} {x8 x9:Option PV} (hx:RowI xs) (ha:0<=at') (hm:1<=many) (hm2:many<=24) (h:Gw many n os ms ss) (hn:n<=30) {r:Nat} :
  ∃os' ms' ss' x8' x9',eW [some ⟨.leaf,.list xs⟩,some ⟨.leaf,.int at'⟩,some ⟨.leaf,.int lim⟩,some ⟨.leaf,.int many⟩,some ⟨.lst .leaf,.list os⟩,some ⟨.lst .leaf,.list ms⟩,some ⟨.lst .leaf,.list ss⟩,some ⟨.leaf,.int (r:Nat)⟩,x8,x9,none,none]
   = .nx [some ⟨.leaf,.list xs⟩,some ⟨.leaf,.int at'⟩,some ⟨.leaf,.int lim⟩,some ⟨.leaf,.int many⟩,some ⟨.lst .leaf,.list os'⟩,some ⟨.lst .leaf,.list ms'⟩,some ⟨.lst .leaf,.list ss'⟩,some ⟨.leaf,.int (r:Nat)⟩,x8',x9',none,none]/\Gw many (n+1) os' ms' ss':=by
 obtain ⟨c,hc⟩:=den_cell hx (k:=at'+1+(r:Int)) (by omega)
 have lo:=h.lo
 have lm:=h.lm
 have ls:=h.ls
 have c5:∀(U:Ev),U.length=12->U[8]?=some (some ⟨.leaf,.int c⟩)->eComp .leaf 11 (iR1 (eCons (eK (.int 3)) eNil)) (bOf gBool (eOp gEq (eCall 3 m__law_draw (eCons (eVar 8) (eCons (eOp gAddI (eK (.int 1)) (eVar 11)) (eCons (eK (.int 2)) eNil)))) (eK (.int 1)))) (eIdx (eK (.str "abc")) (eVar 11)) U
   = .ok ⟨.lst .leaf,.list (((rngD 0 3).filter fun d=>match d with | .int k=>drw c (1+k) 2==1 | _=>false).map fun d=>abc d)⟩ U:=fun U hl h8=>by
  refine eComp_pure (c:=fun d=>match d with | .int k=>drw c (1+k) 2==1 | _=>false) (f:=fun d=>⟨.leaf,abc d⟩) (st:=true) (w_r1 (k:=3) (v_cons v_k v_nil) rfl (by omega) (by omega)) (by omega) rfl (by rw [rng_len];omega) (fun d hd=>?_) fun d hd _=>?_
  ·obtain ⟨k,hk,rfl⟩:=mem_rng hd
   have g11:(U.set 11 (some ⟨.leaf,.int (0+(k:Int))⟩))[11]?=some (some ⟨.leaf,.int (0+(k:Int))⟩):=by rw [getElem?_set_self (by omega)]
   have g8:(U.set 11 (some ⟨.leaf,.int (0+(k:Int))⟩))[8]?=some (some ⟨.leaf,.int c⟩):=by rw [getElem?_set_ne (by omega)];exact h8
   exact bb_bool (v_op (v_call (v_cons (v_leaf g8) (v_cons (v_op v_k (v_leaf g11) add_int') (v_cons v_k v_nil))) (den_drw (by omega) (by omega) (by omega) (by omega)) rfl rfl) v_k eq_int)
  ·obtain ⟨k,hk,rfl⟩:=mem_rng hd
   have g11:(U.set 11 (some ⟨.leaf,.int (0+(k:Int))⟩))[11]?=some (some ⟨.leaf,.int (0+(k:Int))⟩):=by rw [getElem?_set_self (by omega)]
   obtain ⟨z,hz,e1,e2⟩:=abc_ev hk
   rw [Int.zero_add] at g11 ⊢
   rw [e2]
   exact ⟨v_idxS v_k (v_leaf g11) abc_len e1,rfl⟩
 generalize hM:(((rngD 0 3).filter fun d=>match d with | .int k=>drw c (1+k) 2==1 | _=>false).map fun d=>abc d)=M at c5
 have rM:RowS M/\M.length<=30/\mOk (.list M)=true:=by
  refine ⟨?_,?_,?_⟩
  ·rw [<-hM]
   intro a ha
   obtain ⟨d,hd,rfl⟩:=List.mem_map.mp ha
   obtain ⟨k,hk,rfl⟩:=mem_rng (List.mem_filter.mp hd).1
   obtain ⟨z,hz,e1,e2⟩:=abc_ev hk
   rw [Int.zero_add,e2]
   exact ⟨_,rfl,ok_small hz⟩
  ·rw [<-hM,length_map]
   refine Nat.le_trans (length_filter_le _ _) ?_
   rw [rng_len]
   omega
  ·rw [<-hM]
   have:=abc3 (fun d=>match d with | .int k=>drw c (1+k) 2==1 | _=>false)
   rw [show (fun d=>abc d)=abc from rfl,this]
   exact mOk8 _ _ _
 have c6:∀(U:Ev),U.length=12->U[8]?=some (some ⟨.leaf,.int c⟩)->U[3]?=some (some ⟨.leaf,.int many⟩)->eComp .leaf 10 (iR1 (eCons (eVar 3) eNil)) (bOf gBool (eOp gEq (eCall 3 m__law_draw (eCons (eVar 8) (eCons (eOp gAddI (eK (.int 4)) (eVar 10)) (eCons (eOp gAddI (eK (.int 2)) (eCB gInt (eCons (eOp gGt (eVar 3) (eK (.int 3))) eNil))) eNil)))) (eK (.int 1)))) (eVar 10) U
   = .ok ⟨.lst .leaf,.list (((rngD 0 many.toNat).filter fun d=>match d with | .int k=>drw c (4+k) (2+(if decide (3<many) then 1 else 0))==1 | _=>false).map fun d=>d)⟩ U:=fun U hl h8 h3=>by
  refine eComp_pure (c:=fun d=>match d with | .int k=>drw c (4+k) (2+(if decide (3<many) then 1 else 0))==1 | _=>false) (f:=fun d=>⟨.leaf,d⟩) (st:=true) (w_r1 (k:=many) (v_cons (v_leaf h3) v_nil) rfl (by omega) (by omega)) (by omega) rfl (by rw [rng_len];omega) (fun d hd=>?_) fun d hd _=>?_
  ·obtain ⟨k,hk,rfl⟩:=mem_rng hd
   have g10:(U.set 10 (some ⟨.leaf,.int (0+(k:Int))⟩))[10]?=some (some ⟨.leaf,.int (0+(k:Int))⟩):=by rw [getElem?_set_self (by omega)]
   have g8:(U.set 10 (some ⟨.leaf,.int (0+(k:Int))⟩))[8]?=some (some ⟨.leaf,.int c⟩):=by rw [getElem?_set_ne (by omega)];exact h8
   have g3:(U.set 10 (some ⟨.leaf,.int (0+(k:Int))⟩))[3]?=some (some ⟨.leaf,.int many⟩):=by rw [getElem?_set_ne (by omega)];exact h3
   have b1:(1:Int)<=2+(if decide (3<many) then 1 else 0)/\(2:Int)+(if decide (3<many) then 1 else 0)<=1000:=by split<;>omega
   exact bb_bool (v_op (v_call (v_cons (v_leaf g8) (v_cons (v_op v_k (v_leaf g10) add_int') (v_cons (v_op v_k (v_cb (v_cons (v_op (v_leaf g3) v_k rfl) v_nil) rfl) add_int') v_nil))) (den_drw (by omega) (by omega) b1.1 b1.2) rfl rfl) v_k eq_int)
  ·obtain ⟨k,hk,rfl⟩:=mem_rng hd
   exact ⟨v_leaf (by rw [getElem?_set_self (by omega)]),rfl⟩
 obtain ⟨ts,hT,hts1,hts2,hts3⟩:=rng_ts many.toNat (fun d=>match d with | .int k=>drw c (4+k) (2+(if decide (3<many) then 1 else 0))==1 | _=>false)
 rw [hT] at c6
 have fin:∀(U:Ev) (T:List Int),(T.length<=30/\T≠[]/\(∀t∈T,0<=t/\t<many)/\T.Pairwise (· < ·))->U=[some ⟨.leaf,.list xs⟩,some ⟨.leaf,.int at'⟩,some ⟨.leaf,.int lim⟩,some ⟨.leaf,.int many⟩,some ⟨.lst .leaf,.list (os++[.int (drw c 0 2)])⟩,some ⟨.lst .leaf,.list (ms++[.list M])⟩,some ⟨.lst .leaf,.list ss⟩,some ⟨.leaf,.int (r:Nat)⟩,some ⟨.leaf,.int c⟩,some ⟨.leaf,.list (T.map .int)⟩,none,none] ->
   ∃os' ms' ss' x8' x9',sAppend 6 (eVar 9) U=.nx [some ⟨.leaf,.list xs⟩,some ⟨.leaf,.int at'⟩,some ⟨.leaf,.int lim⟩,some ⟨.leaf,.int many⟩,some ⟨.lst .leaf,.list os'⟩,some ⟨.lst .leaf,.list ms'⟩,some ⟨.lst .leaf,.list ss'⟩,some ⟨.leaf,.int (r:Nat)⟩,x8',x9',none,none]/\Gw many (n+1) os' ms' ss':=fun U T hT2 hU=>by
  subst hU
  refine ⟨os++[.int (drw c 0 2)],ms++[.list M],ss++[.list (T.map .int)],_,_,x_append rfl (v_leaf rfl) rfl (by omega),by simp;omega,by simp;omega,by simp;omega,fun a ha=>?_,fun a ha=>?_,fun a ha=>?_⟩
  ·rcases List.mem_append.mp ha with z | z
   ·exact h.o a z
   ·have:=drw_in (c:=c) (k:=0) (b:=2) (by omega) (by omega) (by omega) (by omega)
    rw [List.mem_singleton.mp z]
    rcases (by omega:drw c 0 2=0\/drw c 0 2=1) with e | e
    ·exact .inl (by rw [e])
    ·exact .inr (by rw [e])
  ·rcases List.mem_append.mp ha with z | z
   ·exact h.m a z
   ·exact ⟨M,List.mem_singleton.mp z,rM.1,rM.2.1,by rw [List.mem_singleton.mp z];exact rM.2.2⟩
  ·rcases List.mem_append.mp ha with z | z
   ·exact h.s a z
   ·exact ⟨T,List.mem_singleton.mp z,hT2⟩
 have e1:=x_setL (i:=8) (v_call (fl:=eCons (eVar 0) (eCons (eOp gAddI (eOp gAddI (eVar 1) (eK (.int 1))) (eVar 7)) eNil)) (U:=[some ⟨.leaf,.list xs⟩,some ⟨.leaf,.int at'⟩,some ⟨.leaf,.int lim⟩,some ⟨.leaf,.int many⟩,some ⟨.lst .leaf,.list os⟩,some ⟨.lst .leaf,.list ms⟩,some ⟨.lst .leaf,.list ss⟩,some ⟨.leaf,.int (r:Nat)⟩,x8,x9,none,none]) (v_cons (v_leaf rfl) (v_cons (v_op (v_op (v_leaf rfl) v_k add_int') (v_leaf rfl) add_int') v_nil)) hc rfl rfl) rfl (by simp)
 have e2:sAppend 4 (eCall 3 m__law_draw (eCons (eVar 8) (eCons (eK (.int 0)) (eCons (eK (.int 2)) eNil)))) [some ⟨.leaf,.list xs⟩,some ⟨.leaf,.int at'⟩,some ⟨.leaf,.int lim⟩,some ⟨.leaf,.int many⟩,some ⟨.lst .leaf,.list os⟩,some ⟨.lst .leaf,.list ms⟩,some ⟨.lst .leaf,.list ss⟩,some ⟨.leaf,.int (r:Nat)⟩,some ⟨.leaf,.int c⟩,x9,none,none]=_:=
  x_append rfl (v_call (v_cons (v_leaf rfl) (v_cons v_k (v_cons v_k v_nil))) (den_drw (by omega) (by omega) (by omega) (by omega)) rfl rfl) rfl (by omega)
 have e3:=x_append (i:=5) (U:=[some ⟨.leaf,.list xs⟩,some ⟨.leaf,.int at'⟩,some ⟨.leaf,.int lim⟩,some ⟨.leaf,.int many⟩,some ⟨.lst .leaf,.list (os++[.int (drw c 0 2)])⟩,some ⟨.lst .leaf,.list ms⟩,some ⟨.lst .leaf,.list ss⟩,some ⟨.leaf,.int (r:Nat)⟩,some ⟨.leaf,.int c⟩,x9,none,none]) rfl (c5 _ rfl rfl) rfl (by omega)
 have e4:=x_setL (i:=9) (U:=[some ⟨.leaf,.list xs⟩,some ⟨.leaf,.int at'⟩,some ⟨.leaf,.int lim⟩,some ⟨.leaf,.int many⟩,some ⟨.lst .leaf,.list (os++[.int (drw c 0 2)])⟩,some ⟨.lst .leaf,.list (ms++[.list M])⟩,some ⟨.lst .leaf,.list ss⟩,some ⟨.leaf,.int (r:Nat)⟩,some ⟨.leaf,.int c⟩,x9,none,none]) (c6 _ rfl rfl rfl) rfl (by simp)
 have t:bOf gBool (eOp gEq (eVar 9) (eList .leaf eNil)) [some ⟨.leaf,.list xs⟩,some ⟨.leaf,.int at'⟩,some ⟨.leaf,.int lim⟩,some ⟨.leaf,.int many⟩,some ⟨.lst .leaf,.list (os++[.int (drw c 0 2)])⟩,some ⟨.lst .leaf,.list (ms++[.list M])⟩,some ⟨.lst .leaf,.list ss⟩,some ⟨.leaf,.int (r:Nat)⟩,some ⟨.leaf,.int c⟩,some ⟨.leaf,.list (ts.map .int)⟩,none,none]
   = .ok (decide ((ts.map PyData.int).length=0)) _:=bb_bool (v_op (v_leaf rfl) (v_list (s:=.leaf) v_nil rfl rfl rfl) (eq_nil (sh_rowI rowI_map)))
 cases hz:decide ((ts.map PyData.int).length=0) with
 | true=>
  rw [hz] at t
  obtain ⟨o',m',s',y8,y9,f1,f2⟩:=fin _ [drw c (4+many) many] ⟨by simp,by simp,fun t ht=>by rw [List.mem_singleton.mp ht];exact drw_in (by omega) (by omega) (by omega) (by omega),List.pairwise_singleton _ _⟩ rfl
  exact ⟨o',m',s',y8,y9,x_seq e1 (x_seq e2 (x_seq e3 (x_seq e4 (x_seq (x_if t (fun _=>x_setL (v_list (s:=.leaf) (v_cons (v_call (v_cons (v_leaf rfl) (v_cons (v_op v_k (v_leaf rfl) add_int') (v_cons (v_leaf rfl) v_nil))) (den_drw (by omega) (by omega) (by omega) (by omega)) rfl rfl) v_nil) rfl rfl rfl) rfl (by simp)) nofun) f1)))),f2⟩
 | false=>
  rw [hz] at t
  obtain ⟨o',m',s',y8,y9,f1,f2⟩:=fin _ ts ⟨by omega,(fun z=>by rw [z] at hz;cases hz),(fun t ht=>by have:=hts1 t ht;omega),hts2⟩ rfl
  exact ⟨o',m',s',y8,y9,x_seq e1 (x_seq e2 (x_seq e3 (x_seq e4 (x_seq (x_if t nofun (fun _=>rfl)) f1)))),f2⟩
noncomputable abbrev W3:Sh:=.tup [.lst .leaf,.lst .leaf,.lst .leaf]
noncomputable abbrev tup3 (os ms ss:List D):D:=.tuple [.list os,.list ms,.list ss]
theorem den_world {xs:List D} (hx:RowI xs) (ha:0<=at') (hl:1<=lim) (hl2:lim<=24):∃(n:Nat) (os ms ss:List D),m__law_world [.list xs,.int at',.int lim]=.ok ⟨W3,tup3 os ms ss⟩/\Gw (n:Int) n os ms ss/\1<=n/\(n:Int)<=lim:=by
 obtain ⟨c,hc⟩:=den_cell hx (k:=at') ha
 have b0:0<=c % lim:=Int.emod_nonneg _ (by omega)
 have b1:c % lim<lim:=Int.emod_lt_of_pos _ (by omega)
 generalize hmm:1+c % lim=many at *
 have e0:sSet false 3 (eOp gAddI (eK (.int 1)) (eOp gMod (eCall 2 m__law_cell_at (eCons (eVar 0) (eCons (eVar 1) eNil))) (eVar 2))) [some ⟨.leaf,.list xs⟩,some ⟨.leaf,.int at'⟩,some ⟨.leaf,.int lim⟩,none,none,none,none,none,none,none,none,none]
   = .nx [some ⟨.leaf,.list xs⟩,some ⟨.leaf,.int at'⟩,some ⟨.leaf,.int lim⟩,some ⟨.leaf,.int many⟩,none,none,none,none,none,none,none,none]:=by
  rw [<-hmm]
  exact x_setL (v_op v_k (v_op (v_call (v_cons (v_leaf rfl) (v_cons (v_leaf rfl) v_nil)) hc rfl rfl) (v_leaf rfl) (mod_i (by omega))) add_int') rfl (by simp)
 obtain ⟨U',e,os,ms,ss,x7,x8,x9,hU,hw⟩:=forGo_ix (P:=fun n U=>∃os ms ss x7 x8 x9,U=[some ⟨.leaf,.list xs⟩,some ⟨.leaf,.int at'⟩,some ⟨.leaf,.int lim⟩,some ⟨.leaf,.int many⟩,some ⟨.lst .leaf,.list os⟩,some ⟨.lst .leaf,.list ms⟩,some ⟨.lst .leaf,.list ss⟩,x7,x8,x9,none,none]/\Gw many n os ms ss) (i:=7) (body:=eW) (rngD 0 many.toNat) 0
  [some ⟨.leaf,.list xs⟩,some ⟨.leaf,.int at'⟩,some ⟨.leaf,.int lim⟩,some ⟨.leaf,.int many⟩,some ⟨.lst .leaf,.list []⟩,some ⟨.lst .leaf,.list []⟩,some ⟨.lst .leaf,.list []⟩,none,none,none,none,none] ⟨[],[],[],none,none,none,rfl,rfl,rfl,rfl,fun a ha=>(nomatch ha),fun a ha=>(nomatch ha),fun a ha=>(nomatch ha)⟩ (fun m d U hd h1 h2 ⟨os,ms,ss,x7,x8,x9,hU,hw⟩=>by
   subst hU
   obtain ⟨k,hk,rfl⟩:=mem_rng hd
   rw [rng_len] at h2
   rw [Int.zero_add]
   obtain ⟨os',ms',ss',y8,y9,f1,f2⟩:=body_world (at':=at') (lim:=lim) (many:=many) (x8:=x8) (x9:=x9) hx ha (by omega) (by omega) hw (by omega) (r:=k)
   exact ⟨by simp,_,f1,os',ms',ss',_,y8,y9,rfl,f2⟩)
 subst hU
 rw [rng_len,Nat.zero_add] at hw
 have en:((many.toNat:Nat):Int)=many:=by omega
 refine ⟨many.toNat,os,ms,ss,rt_of (x_seq e0 (x_seq (x_setO (v_list (s:=.leaf) v_nil rfl rfl rfl) rfl (by simp)) (x_seq (x_setO (v_list (s:=.leaf) v_nil rfl rfl rfl) rfl (by simp)) (x_seq (x_setO (v_list (s:=.leaf) v_nil rfl rfl rfl) rfl (by simp)) (x_seq (x_for (w_r1 (k:=many) (v_cons (v_leaf rfl) v_nil) rfl (by omega) (by omega)) e) (x_ret (v_tup (v_cons (v_move (p:=⟨.lst .leaf,.list os⟩) rfl) (v_cons (v_move (p:=⟨.lst .leaf,.list ms⟩) rfl) (v_cons (v_move (p:=⟨.lst .leaf,.list ss⟩) rfl) v_nil))) rfl rfl) rfl)))))),by rw [en];exact hw,by omega,by omega⟩
theorem nx_of {ds:List D} (h:g (startD n ds)=.nx U):denOf n g ds=.ok ⟨.leaf,.none⟩:=by unfold denOf;rw [h]
theorem x_drop' {U1:Ev} {fa:F1} {p:PV} (h:fa U=.ok p U1):sDrop fa U=.nx U1:=by unfold sDrop sOf;rw [h]
theorem den_check {b:Nat} (h:Wk b os ms ss) (hb:b<=100) (hw:isW os ms ss=true):m_check_world [tup3 os ms ss]=.ok ⟨.leaf,.none⟩:=by
 have t:bNot (bOf gTru (eCall 3 m_is_world (eCons (eIdx (eVar 0) (eK (.int 0))) (eCons (eIdx (eVar 0) (eK (.int 1))) (eCons (eIdx (eVar 0) (eK (.int 2))) eNil))))) [some ⟨.leaf,tup3 os ms ss⟩]=.ok (!(isW os ms ss)) [some ⟨.leaf,tup3 os ms ss⟩]:=
  b_not (b_tru (v_call (v_cons (v_idxT (j:=0) (v_leaf rfl) v_k rfl rfl rfl) (v_cons (v_idxT (j:=1) (v_leaf rfl) v_k rfl rfl rfl) (v_cons (v_idxT (j:=2) (v_leaf rfl) v_k rfl rfl rfl) v_nil))) (den_is_world h hb) rfl rfl))
 rw [hw] at t
 exact nx_of (x_if t nofun (fun _=>rfl))
theorem eq_refl' {d:D} (h:shaped d=true):gEq d d=some (.bool true):=by
 unfold gEq
 rw [h,Bool.and_self,if_pos rfl,PySem.SeqAt.eqv_refl _ (canLay_of_shaped h)]
theorem ne_refl' {d:D} (h:shaped d=true):gNe d d=some (.bool false):=by
 unfold gNe
 rw [h,Bool.and_self,if_pos rfl,PySem.SeqAt.eqv_refl _ (canLay_of_shaped h)]
 rfl
theorem cl_I {xs:List D} (h:RowI xs):PyData.canLayAll0 xs=true/\PyData.depthAll xs=0:=by
 induction xs with
 | nil=>exact ⟨rfl,rfl⟩
 | cons a r ih=>
  obtain ⟨n,rfl⟩:=h a mem_cons_self
  have q:=ih fun x hx=>h x (mem_cons_of_mem _ hx)
  simp [PyData.canLayAll0,PyData.canLay0,PyData.depthAll,PyData.depth,q.1,q.2]
theorem cl_S {xs:List D} (h:RowS xs):PyData.canLayAll0 xs=true/\PyData.depthAll xs=0:=by
 induction xs with
 | nil=>exact ⟨rfl,rfl⟩
 | cons a r ih=>
  obtain ⟨n,rfl,hn⟩:=h a mem_cons_self
  have q:=ih fun x hx=>h x (mem_cons_of_mem _ hx)
  simp [PyData.canLayAll0,PyData.canLay0,PyData.depthAll,PyData.depth,q.1,q.2,hn]
theorem cl_rows (h:∀r∈ms,∃xs,r=.list xs/\PyData.canLayAll0 xs=true/\PyData.depthAll xs=0):PyData.canLayAll0 ms=true/\PyData.depthAll ms<=1:=by
 induction ms with
 | nil=>exact ⟨rfl,Nat.zero_le _⟩
 | cons a r ih=>
  obtain ⟨xs,rfl,h1,h2⟩:=h a mem_cons_self
  have q:=ih fun x hx=>h x (mem_cons_of_mem _ hx)
  refine ⟨by simp [PyData.canLayAll0,PyData.canLay0,q.1,h1],?_⟩
  rw [PyData.depthAll,PyData.depth,h2]
  exact Nat.max_le.mpr ⟨by omega,q.2⟩
end KC
namespace T
open PySem PySem.Spec L2
open PyProof.Rows hiding St
variable {α:Type} {b:Bool} {a:Int} {fl:FL} {fi:FI} {fe:F1} {U:Ev}
section
variable {U U1:Ev} {fa fb fc:F1} {fl:FL} {p:PV} {i n:Nat} {ga gb:FB} {g1 g2:FS}
@[simp] theorem r_line:sizeLine=16777216:=rfl
@[simp] theorem r_bind {β:Type} {a:α} {e:Ev} {k:α->Ev->Out β}:(Out.ok a e).bind k=k a e:=rfl
@[simp] theorem r_k {d:D}:eK d U=.ok ⟨.leaf,d⟩ U:=rfl
@[simp] theorem r_nil:eNil U=.ok [] U:=rfl
@[simp] theorem r_true:bTrue U=.ok true U:=rfl
@[simp] theorem r_next:sNext U=.nx U:=rfl
@[simp] theorem r_cons:eCons fa fl U=(fa U).bind fun p U1=>(fl U1).bind fun ps U2=>.ok (p::ps) U2:=rfl
@[simp] theorem r_op {g:D->D->Option D}:eOp g fa fb U=(fa U).bind fun p U1=>(fb U1).bind fun q U2=>match g p.d q.d with | some d=>.ok ⟨.leaf,d⟩ U2 | none=>.no:=rfl
@[simp] theorem r_cb {g:List D->Option D}:eCB g fl U=(fl U).bind fun ps U'=>match g (ps.map (·.d)) with | some d=>.ok ⟨.leaf,d⟩ U' | none=>.no:=rfl
@[simp] theorem r_bNot:bNot ga U=(ga U).bind fun c U'=>.ok (!c) U':=rfl
@[simp] theorem r_bOr:bOr ga gb U=(ga U).bind fun c U'=>if c then .ok true U' else gb U':=rfl
@[simp] theorem r_eIf:eIf ga fa fb U=(ga U).bind fun b U'=>if b then fa U' else fb U':=rfl
@[simp] theorem r_gBool:gBool (.bool b)=some b:=rfl
@[simp] theorem r_gTru:gTru (.bool b)=some b:=rfl
@[simp] theorem r_gTruL {xs:List D}:gTru (.list xs)=some (!xs.isEmpty):=rfl
noncomputable def pvV (p:PV):PV:=match p.s with
 | .leaf=>p
 | _=>⟨.view,p.d⟩
@[simp] theorem r_pv1 {d:D}:pvV ⟨.leaf,d⟩=⟨.leaf,d⟩:=rfl
@[simp] theorem r_pv2 {s:Sh} {d:D}:pvV ⟨.lst s,d⟩=⟨.view,d⟩:=rfl
@[simp] theorem r_pv3 {s:List Sh} {d:D}:pvV ⟨.tup s,d⟩=⟨.view,d⟩:=rfl
@[simp] theorem r_var:eVar i U=match U[i]? with | some (some p)=>.ok (pvV p) U | _=>.no:=by
 unfold eVar
 cases h:U[i]? with
 | none=>rfl
 | some o=>
  cases o with
  | none=>rfl
  | some p=>
   obtain ⟨s,d⟩:=p
   cases s<;>rfl
@[simp] theorem r_move:eMove i U=match U[i]? with | some (some p)=>.ok p (U.set i none) | _=>.no:=rfl
@[simp] theorem r_coer {d:D}:coer .leaf ⟨.leaf,d⟩=true:=rfl
@[simp] theorem r_coerL {s:Sh} {d:D}:coer .leaf ⟨.lst s,d⟩=true:=rfl
@[simp] theorem r_coerT {s:List Sh} {d:D}:coer .leaf ⟨.tup s,d⟩=true:=rfl
@[simp] theorem r_coerI {i:Int} {s:Sh}:coer .leaf ⟨s,.int i⟩=true:=by cases s<;>rfl
@[simp] theorem r_coerB {s:Sh}:coer .leaf ⟨s,.bool b⟩=true:=by cases s<;>rfl
@[simp] theorem r_isV1:Sh.isView .leaf=false:=rfl
@[simp] theorem r_isV2 {s:Sh}:Sh.isView (.lst s)=false:=rfl
@[simp] theorem r_isV3 {s:List Sh}:Sh.isView (.tup s)=false:=rfl
@[simp] theorem r_gAdd {b:Int}:gAddI (.int a) (.int b)=some (.int (a+b)):=rfl
@[simp] theorem r_gSub {b:Int}:gSub (.int a) (.int b)=some (.int (a-b)):=rfl
@[simp] theorem r_gLt {b:Int}:gLt (.int a) (.int b)=some (.bool (decide (a<b))):=rfl
@[simp] theorem r_gGt {b:Int}:gGt (.int a) (.int b)=some (.bool (decide (b<a))):=rfl
@[simp] theorem r_gLen {ds:List D}:gLen [.list ds]=some (.int ds.length):=rfl
@[simp] theorem r_gLenT {ds:List D}:gLen [.tuple ds]=some (.int ds.length):=rfl
noncomputable def idxV (p q:PV):Ev->Out PV:=eIdx (fun U=>.ok p U) (fun U=>.ok q U)
@[simp] theorem r_idx:eIdx fa fb U=(fa U).bind fun p U1=>(fb U1).bind fun q U2=>idxV p q U2:=by
 unfold idxV eIdx eBind
 cases fa U with
 | ok p U1=>simp only [r_bind]
 | er c U1=>rfl
 | no=>rfl
@[simp] theorem r_idT {ds:List D} {k:Int} {s:Sh}:idxV ⟨.leaf,.tuple ds⟩ ⟨s,.int k⟩ U=match atI ds k with | some d=>.ok ⟨.leaf,d⟩ U | none=>.no:=by
 unfold idxV eIdx eBind atI
 simp only [r_bind]
 cases h:ixN ds.length k with
 | none=>rfl
 | some j=>
  simp only [Option.bind_some]
  cases h2:ds[j]? with
  | none=>rfl
  | some d=>rfl
@[simp] theorem r_idL {ds:List D} {k:Int} {s:Sh}:idxV ⟨.leaf,.list ds⟩ ⟨s,.int k⟩ U=match atI ds k with | some d=>.ok ⟨.leaf,d⟩ U | none=>.no:=by
 unfold idxV eIdx eBind atI
 simp only [r_bind]
 cases h:ixN ds.length k with
 | none=>rfl
 | some j=>
  simp only [Option.bind_some]
  cases h2:ds[j]? with
  | none=>rfl
  | some d=>rfl
@[simp] theorem r_idV {ds:List D} {k:Int} {s:Sh}:idxV ⟨.view,.list ds⟩ ⟨s,.int k⟩ U=match atI ds k with | some d=>.ok ⟨if scalD d then .leaf else .view,d⟩ U | none=>.no:=by
 unfold idxV eIdx eBind atI
 simp only [r_bind]
 cases h:ixN ds.length k with
 | none=>rfl
 | some j=>
  simp only [Option.bind_some]
  cases h2:ds[j]? with
  | none=>rfl
  | some d=>rfl
@[simp] theorem r_at0 {a:α} {r:List α}:atI (a::r) 0=some a:=by
 simp [atI,ixN]
@[simp] theorem r_at1 {a b:α} {r:List α}:atI (a::b::r) 1=some b:=by
 have:(1:Int)<(r.length:Int)+1+1:=by omega
 simp [atI,ixN,this]
@[simp] theorem r_at2 {a b c:α} {r:List α}:atI (a::b::c::r) 2=some c:=by
 have:(2:Int)<(r.length:Int)+1+1+1:=by omega
 simp [atI,ixN,this]
theorem at_nat {xs:List α} {k:Nat} {x:α} (h:xs[k]?=some x):atI xs (k:Int)=some x:=by
 have hk:=(List.getElem?_eq_some_iff.mp h).1
 have:(k:Int)<(xs.length:Int):=by omega
 simp [atI,ixN,this,h]
end
section
variable {U:Ev} {fa fb:F1} {i:Nat}
@[simp] theorem r_list {s:Sh}:eList s fl U=(fl U).bind fun ps U'=>if !s.isView&&ps.all (T.coer s)&&decide (ps.length<=sizeLine) then .ok ⟨.lst s,.list (ps.map (·.d))⟩ U' else .no:=rfl
@[simp] theorem r_tup:eTup fl U=(fl U).bind fun ps U'=>if ps.all tok&&decide (ps.length<=sizeLine) then .ok ⟨.tup (ps.map tsh),.tuple (ps.map (·.d))⟩ U' else .no:=rfl
@[simp] theorem r_tokL {d:D}:tok ⟨.leaf,d⟩=true:=rfl
@[simp] theorem r_tokS {s:Sh} {d:D}:tok ⟨.lst s,d⟩=true:=rfl
@[simp] theorem r_tokT {s:List Sh} {d:D}:tok ⟨.tup s,d⟩=true:=rfl
@[simp] theorem r_iSeq:iSeq fa U=(fa U).bind fun p U'=>match p.d with | .list ds=>if okItems p ds then .ok ⟨ds,!p.s.isView⟩ U' else .no | _=>.no:=rfl
@[simp] theorem r_okI {d:D} {ds:List D}:okItems ⟨.leaf,d⟩ ds=true:=rfl
@[simp] theorem r_okL {s:Sh} {d:D} {ds:List D}:okItems ⟨.lst s,d⟩ ds=true:=rfl
@[simp] theorem r_okT {s:List Sh} {d:D} {ds:List D}:okItems ⟨.tup s,d⟩ ds=true:=rfl
theorem while_rel {β:Type} {c:FB} {g:FS} {G:β->Ev} {test:β->Bool} {Inv:β->Prop} {meas:β->Nat} (hc:∀b,Inv b->c (G b)=.ok (test b) (G b)) (hg:∀b,Inv b->test b=true->∃b',g (G b)=.nx (G b')/\Inv b'/\meas b'<meas b) :
  ∀(N:Nat) (b:β),Inv b->meas b<N->∃b',whileGo c g N (G b)=.nx (G b')/\Inv b'/\test b'=false
 | 0,b,_,h=>by omega
 | N+1,b,hi,hm=>by
  rw [whileGo,hc b hi]
  cases ht:test b with
  | false=>exact ⟨b,rfl,hi,ht⟩
  | true=>
   obtain ⟨b1,h1,h2,h3⟩:=hg b hi ht
   obtain ⟨b',e,q⟩:=while_rel hc hg N b1 h2 (by omega)
   refine ⟨b',?_,q⟩
   simp only [h1]
   exact e
end
theorem compGo_ty {α:Type} {en:α->D} {i:Nat} {fc:FB} {fe:F1} {s:Sh} {c:α->Bool} {f:α->PV} {U:Ev} (hU:U.set i none=U):∀(r:List α) (acc:List D),(∀x∈r,fc (U.set i (some ⟨.leaf,en x⟩))=.ok (c x) (U.set i (some ⟨.leaf,en x⟩))) ->
  (∀x∈r,c x=true->fe (U.set i (some ⟨.leaf,en x⟩))=.ok (f x) (U.set i (some ⟨.leaf,en x⟩))/\coer s (f x)=true)->acc.length+r.length<=sizeLine->compGo i fc fe s (r.map en) U acc=.ok (acc++((r.filter c).map fun x=>(f x).d)) U
 | [],acc,_,_,_=>by simp [compGo]
 | x::r,acc,hc,he,hl=>by
  have h1:=hc x mem_cons_self
  have hl1:acc.length<sizeLine:=by simp only [length_cons] at hl;omega
  have back:(U.set i (some ⟨.leaf,en x⟩)).set i none=U:=by rw [set_set];exact hU
  rw [map_cons,compGo,h1]
  cases hcd:c x with
  | false=>
   dsimp only
   rw [if_pos hl1,back,compGo_ty hU r acc (fun d hd=>hc d (mem_cons_of_mem _ hd)) (fun d hd=>he d (mem_cons_of_mem _ hd)) (by simp only [length_cons] at hl;omega)]
   rw [List.filter_cons_of_neg (by rw [hcd];exact Bool.false_ne_true)]
  | true=>
   obtain ⟨h2,h3⟩:=he x mem_cons_self hcd
   dsimp only
   rw [h2]
   dsimp only
   rw [h3,decide_eq_true hl1,Bool.and_self,if_pos rfl,back,compGo_ty hU r (acc++[(f x).d]) (fun d hd=>hc d (mem_cons_of_mem _ hd)) (fun d hd=>he d (mem_cons_of_mem _ hd)) (by simp only [length_cons,length_append,List.length_nil] at hl ⊢;omega)]
   rw [List.filter_cons_of_pos hcd,map_cons,append_assoc]
   rfl
theorem eComp_ty (en:α->D) (xs:List α) (c:α->Bool) (f:α->PV) {s:Sh} {i:Nat} {fc:FB} {st:Bool} (hi:fi U=.ok ⟨xs.map en,st⟩ U) (hl:i<U.length) (hs:s.isView=false) (hn:xs.length<=10000)
  (hc:∀x∈xs,fc (U.set i (some ⟨.leaf,en x⟩))=.ok (c x) (U.set i (some ⟨.leaf,en x⟩))) (he:∀x∈xs,c x=true->fe (U.set i (some ⟨.leaf,en x⟩))=.ok (f x) (U.set i (some ⟨.leaf,en x⟩))/\coer s (f x)=true) :
  eComp s i fi fc fe U=.ok ⟨.lst s,.list ((xs.filter c).map fun x=>(f x).d)⟩ U:=by
 have hb:(10000:Nat)<=sizeLine:=by decide
 unfold eComp
 rw [hi]
 unfold Out.bind
 dsimp only
 rw [compGo_ty (c:=c) (f:=f) (by rw [set_set]) xs [] (fun d hd=>by rw [set_set];exact hc d hd) (fun d hd=>by rw [set_set];exact he d hd) (by simp;omega)]
 dsimp only
 rw [hs,decide_eq_true hl]
 simp only [Bool.not_false,Bool.and_self,if_true,nil_append,set_set]
 have:U.set i (U.getD i none)=U:=by
  apply set_same
  rw [getD_eq_getElem?_getD,getElem?_eq_getElem hl]
  rfl
 rw [this]
theorem eComp_tyA (en:α->D) (xs:List α) (f:α->PV) {s:Sh} {i:Nat} {st:Bool} (hi:fi U=.ok ⟨xs.map en,st⟩ U) (hl:i<U.length) (hs:s.isView=false) (hn:xs.length<=10000)
  (he:∀x∈xs,fe (U.set i (some ⟨.leaf,en x⟩))=.ok (f x) (U.set i (some ⟨.leaf,en x⟩))/\coer s (f x)=true):eComp s i fi bTrue fe U=.ok ⟨.lst s,.list (xs.map fun x=>(f x).d)⟩ U:=by
 rw [eComp_ty (fc:=bTrue) en xs (fun _=>true) f hi hl hs hn (fun _ _=>rfl) fun x hx _=>he x hx,List.filter_eq_self.mpr fun _ _=>rfl]
end T
namespace KC
open PySem PySem.Spec L2 T PySem.SeqAt
open PyProof.Rows hiding St
noncomputable abbrev rm (t:Nat):D:=.int (t:Int)
noncomputable abbrev rms (r:List Nat):D:=.list (r.map rm)
theorem rng_rms {n:Nat}:rngD 0 n=(List.range n).map rm:=by
 unfold rngD
 simp
structure Wd where
 n:Nat
 os:List D
 m:List (List Str)
 s:List (List Nat)
noncomputable def txs (r:List Str):D:=.list (r.map .str)
noncomputable def Wd.enc (w:Wd):D:=tup3 w.os (w.m.map txs) (w.s.map rms)
structure Wd.Ok (w:Wd):Prop where
 g:Gw (w.n:Int) w.n w.os (w.m.map txs) (w.s.map rms)
 h1:1<=w.n
 h24:w.n<=24
 lm:w.m.length=w.n
 ls:w.s.length=w.n
 st:∀r∈w.s,r≠[]/\r.length<=30/\∀t∈r,t<w.n
 mc:∀r∈w.m,∀c∈r,PyData.strOk c=true
noncomputable def Wd.stp (w:Wd) (r:Nat):List Nat:=w.s.getD r []
noncomputable def Wd.mks (w:Wd) (r:Nat):List Str:=w.m.getD r []
theorem Wd.Ok.at2 {w:Wd} (h:w.Ok) {r:Nat} (hr:r<w.n):atI (w.s.map rms) (r:Int)=some (rms (w.stp r)):=by
 refine at_nat ?_
 unfold Wd.stp
 rw [getElem?_map,getD_eq_getElem?_getD,getElem?_eq_getElem (by rw [h.ls];exact hr)]
 rfl
theorem Wd.Ok.at1 {w:Wd} (h:w.Ok) {r:Nat} (hr:r<w.n):atI (w.m.map txs) (r:Int)=some (txs (w.mks r)):=by
 refine at_nat ?_
 unfold Wd.mks
 rw [getElem?_map,getD_eq_getElem?_getD,getElem?_eq_getElem (by rw [h.lm];exact hr)]
 rfl
theorem Wd.Ok.stp_lt {w:Wd} (h:w.Ok) {r t:Nat} (ht:t∈w.stp r):t<w.n:=by
 unfold Wd.stp at ht
 rw [getD_eq_getElem?_getD] at ht
 cases e:w.s[r]? with
 | none=>rw [e] at ht;simp at ht
 | some x=>rw [e] at ht;exact (h.st x (mem_of_getElem? e)).2.2 t ht
theorem Wd.Ok.stp_ne {w:Wd} (h:w.Ok) {r:Nat} (hr:r<w.n):w.stp r≠[]:=by
 unfold Wd.stp
 rw [getD_eq_getElem?_getD,getElem?_eq_getElem (by rw [h.ls];exact hr)]
 exact (h.st _ (getElem_mem _)).1
structure Wd.Ok0 (w:Wd):Prop where
 lo:w.os.length=w.n
 h24:w.n<=24
 ls:w.s.length=w.n
 st:∀r∈w.s,r.length<=30/\∀t∈r,t<w.n
theorem Wd.Ok.z {w:Wd} (h:w.Ok):w.Ok0:=⟨h.g.lo,h.h24,h.ls,fun r hr=>(h.st r hr).2⟩
noncomputable def chA (cl:List Bool) (r:Nat):Bool:=cl.getD r false
theorem stp_len {w:Wd} (ok:w.Ok) {r:Nat}:(w.stp r).length<=10000:=by
 unfold Wd.stp
 rw [getD_eq_getElem?_getD]
 cases e:w.s[r]? with
 | none=>simp
 | some x=>
  have:=(ok.st x (mem_of_getElem? e)).2.1
  simp only [Option.getD_some]
  omega
theorem v_LR {U U1:Ev} {fl:FL} {ps:List PV} {k:Int} (hl:fl U=.ok ps U1) (hp:ps.map (·.d)=[.int k]) (h0:0<=k) (h1:k<=1000):eLR fl U=.ok ⟨.lst .leaf,.list (rngD 0 k.toNat)⟩ U1:=by
 have h3:inRng k=true:=in_rng (by omega) (by omega)
 have hb:=line_big
 have h4:k<=(sizeLine:Int):=by omega
 unfold eLR;rw [hl];simp only [Out.bind,hp,rng1,h3,if_true,h4]
theorem Wd.Ok.check {w:Wd} (ok:w.Ok):m_check_world [w.enc]=.ok ⟨.leaf,.none⟩:=den_check (ok.g.wk (b:=24) ok.h24) (by omega) (ok.g.isW ok.h1 ok.h24)
end KC
namespace T
open PySem PySem.Spec L2
open PyProof.Rows hiding St
theorem forGo_inv {α:Type} (en:α->D) {i:Nat} {body:FS} {Inv:List α->Ev->Prop} (hb:∀a r U,Inv (a::r) U->i<U.length/\∃U',body (U.set i (some ⟨.leaf,en a⟩))=.nx U'/\Inv r U'):∀(xs:List α) (U:Ev),Inv xs U->∃U',forGo i body (xs.map en) U=.nx U'/\Inv [] U'
 | [],U,h=>⟨U,rfl,h⟩
 | a::r,U,h=>by
  obtain ⟨hi,U1,h1,h2⟩:=hb a r U h
  obtain ⟨U2,e,h3⟩:=forGo_inv en hb r U1 h2
  refine ⟨U2,?_,h3⟩
  rw [map_cons,forGo,if_pos hi,h1]
  exact e
theorem v_cat {U U1 U2:Ev} {fa fb:F1} {s s':Sh} {xs ys:List D} (ha:fa U=.ok ⟨s,.list xs⟩ U1) (hb:fb U1=.ok ⟨s',.list ys⟩ U2) (h1:okItems ⟨s,.list xs⟩ xs=true) (h2:okItems ⟨s',.list ys⟩ ys=true) (hn:xs.length+ys.length<=10000):eCat fa fb U=.ok ⟨.lst .leaf,.list (xs++ys)⟩ U2:=by
 have hb':(10000:Nat)<=sizeLine:=by decide
 have:xs.length+ys.length<=sizeLine:=Nat.le_trans hn hb'
 unfold eCat eBind
 rw [ha]
 simp only [r_bind]
 rw [hb]
 simp only [r_bind,h1,h2,decide_eq_true this,Bool.and_self,if_true]
end T
namespace KC
open PySem PySem.Spec L2 T PySem.SeqAt
open PyProof.Rows hiding St
variable {n:Nat} {fl:FL} {U:Ev} {fa:F1}
theorem to_wd {os ms ss:List D} (g:Gw (n:Int) n os ms ss) (h1:1<=n) (h24:n<=24):∃w:Wd,w.Ok/\w.enc=tup3 os ms ss/\w.n=n:=by
 have hm:∀l:List D,(∀r∈l,∃xs,r=.list xs/\RowS xs)->∃M:List (List Str),l=M.map txs/\∀r∈M,∀c∈r,PyData.strOk c=true:=by
  have one:∀xs:List D,RowS xs->∃r:List Str,xs=r.map .str/\∀c∈r,PyData.strOk c=true:=by
   intro xs
   induction xs with
   | nil=>intro _;exact ⟨[],rfl,by simp⟩
   | cons a r ih=>
    intro h
    obtain ⟨x,rfl,hx⟩:=h a mem_cons_self
    obtain ⟨t,rfl,ht⟩:=ih fun b hb=>h b (mem_cons_of_mem _ hb)
    exact ⟨x::t,rfl,fun c hc=>(List.mem_cons.mp hc).elim (fun e=>by rw [e];exact hx) (ht c)⟩
  intro l
  induction l with
  | nil=>intro _;exact ⟨[],rfl,by simp⟩
  | cons a r ih=>
   intro h
   obtain ⟨xs,rfl,hx⟩:=h a mem_cons_self
   obtain ⟨x,rfl,hx2⟩:=one xs hx
   obtain ⟨M,rfl,hM⟩:=ih fun b hb=>h b (mem_cons_of_mem _ hb)
   exact ⟨x::M,rfl,fun c hc=>(List.mem_cons.mp hc).elim (fun e=>by rw [e];exact hx2) (hM c)⟩
 have hs:∀l:List D,(∀r∈l,∃ts:List Int,r=.list (ts.map .int)/\ts.length<=30/\ts≠[]/\(∀t∈ts,0<=t/\t<(n:Int))/\ts.Pairwise (· < ·))->∃S:List (List Nat),l=S.map rms/\∀r∈S,r≠[]/\r.length<=30/\∀t∈r,t<n:=by
  have one:∀ts:List Int,(∀t∈ts,0<=t/\t<(n:Int))->∃r:List Nat,ts.map PyData.int=r.map rm/\r.length=ts.length/\∀t∈r,t<n:=by
   intro ts
   induction ts with
   | nil=>intro _;exact ⟨[],rfl,rfl,by simp⟩
   | cons a r ih=>
    intro h
    have ha:=h a mem_cons_self
    obtain ⟨t,e,el,ht⟩:=ih fun b hb=>h b (mem_cons_of_mem _ hb)
    refine ⟨a.toNat::t,?_,by simp [el],fun c hc=>(List.mem_cons.mp hc).elim (fun e=>by omega) (ht c)⟩
    rw [map_cons,map_cons,e]
    congr 2
    omega
  intro l
  induction l with
  | nil=>intro _;exact ⟨[],rfl,by simp⟩
  | cons a r ih=>
   intro h
   obtain ⟨ts,rfl,t1,t2,t3,_⟩:=h a mem_cons_self
   obtain ⟨x,e,el,hx⟩:=one ts t3
   obtain ⟨S,rfl,hS⟩:=ih fun b hb=>h b (mem_cons_of_mem _ hb)
   refine ⟨x::S,by rw [map_cons,e],fun c hc=>(List.mem_cons.mp hc).elim (fun e=>by
    subst e
    exact ⟨fun z=>t2 (List.length_eq_zero_iff.mp (by rw [<-el,z];rfl)),by omega,hx⟩) (hS c)⟩
 obtain ⟨M,eM,hM⟩:=hm ms fun r hr=>let ⟨xs,a,b,_⟩:=g.m r hr;⟨xs,a,b⟩
 obtain ⟨S,eS,hS⟩:=hs ss g.s
 subst eM eS
 refine ⟨⟨n,os,M,S⟩,⟨g,h1,h24,?_,?_,hS,hM⟩,rfl,rfl⟩
 ·have:=g.lm;simpa using this
 ·have:=g.ls;simpa using this
theorem intsOf_map (l:List Int):intsOf (l.map .int)=some l:=by
 induction l with
 | nil=>rfl
 | cons a r ih=>rw [map_cons,intsOf,ih];rfl
theorem rmap {α:Type} {l:List α} (d:α) (h:l.length=n):l=(List.range n).map fun r=>l.getD r d:=by
 apply ext_getElem?
 intro k
 rw [getElem?_map]
 by_cases hk:k<n
 ·rw [getElem?_range hk]
  show l[k]?=some (l.getD k d)
  rw [getD_eq_getElem?_getD,getElem?_eq_getElem (by omega)]
  rfl
 ·rw [getElem?_eq_none (by omega),getElem?_eq_none (by simp;omega)]
  rfl
theorem R1_of {s:Sh} (hn:n<=1000) (h:fl U=.ok [⟨s,.int (n:Int)⟩] U):iR1 fl U=.ok ⟨(List.range n).map rm,true⟩ U:=by
 rw [w_r1 (k:=(n:Int)) h rfl (by omega) (by omega),Int.toNat_natCast,rng_rms]
theorem LR_of {s:Sh} (hn:n<=1000) (h:fl U=.ok [⟨s,.int (n:Int)⟩] U):eLR fl U=.ok ⟨.lst .leaf,rms (List.range n)⟩ U:=by
 rw [v_LR (k:=(n:Int)) h rfl (by omega) (by omega),Int.toNat_natCast,rng_rms]
section
variable {i j:Nat} {fc:FB} {fe:F1} {s:Sh} {U:Ev} {e:Nat->D} {c:Nat->Bool} {f:Nat->PV}
noncomputable abbrev U2 (U:Ev) (i j:Nat) (e:Nat->D) (r:Nat):Ev:=(U.set i (some ⟨.leaf,.int (r:Nat)⟩)).set j (some ⟨.leaf,e r⟩)
theorem compGoE_ix (hij:i≠j) (hU:(U.set i none).set j none=U):∀(m k:Nat) (acc:List D),(∀r,k<=r->r<k+m->fc (U2 U i j e r)=.ok (c r) (U2 U i j e r)) ->
  (∀r,k<=r->r<k+m->c r=true->fe (U2 U i j e r)=.ok (f r) (U2 U i j e r)/\coer s (f r)=true)->acc.length+m<=sizeLine->compGoE i j fc fe s k ((List.range' k m).map e) U acc=.ok (acc++(((List.range' k m).filter c).map fun r=>(f r).d)) U
 | 0,k,acc,_,_,_=>by simp [compGoE]
 | m+1,k,acc,hc,he,hl=>by
  have h1:=hc k (Nat.le_refl _) (by omega)
  have hl1:acc.length<sizeLine:=by omega
  have back:((U2 U i j e k).set i none).set j none=U:=by
   unfold U2
   rw [List.set_comm _ _ (Ne.symm hij),set_set,set_set]
   exact hU
  rw [List.range'_succ,map_cons,compGoE]
  have h1:fc ((U.set i (some ⟨.leaf,.int (k:Nat)⟩)).set j (some ⟨.leaf,e k⟩))=_:=h1
  rw [h1]
  cases hcd:c k with
  | false=>
   dsimp only
   rw [if_pos hl1,back,compGoE_ix hij hU m (k+1) acc (fun r h1 h2=>hc r (by omega) (by omega)) (fun r h1 h2=>he r (by omega) (by omega)) (by omega)]
   rw [List.filter_cons_of_neg (by rw [hcd];exact Bool.false_ne_true)]
  | true=>
   obtain ⟨h2,h3⟩:=he k (Nat.le_refl _) (by omega) hcd
   dsimp only
   rw [h2]
   dsimp only
   rw [h3,decide_eq_true hl1,Bool.and_self,if_pos rfl,back,compGoE_ix hij hU m (k+1) (acc++[(f k).d]) (fun r h1 h2=>hc r (by omega) (by omega)) (fun r h1 h2=>he r (by omega) (by omega)) (by simp only [length_append,length_cons,List.length_nil];omega)]
   rw [List.filter_cons_of_pos hcd,map_cons,append_assoc]
   rfl
theorem eCompE_ix (e:Nat->D) (n:Nat) (c:Nat->Bool) (f:Nat->PV) {st:Bool} (hi:iSeq fa U=.ok ⟨(List.range n).map e,st⟩ U) (h1:U[i]?=some none) (h2:U[j]?=some none) (hij:i≠j) (hs:s.isView=false) (hn:n<=10000)
  (hc:∀r,r<n->fc (U2 U i j e r)=.ok (c r) (U2 U i j e r)) (he:∀r,r<n->c r=true->fe (U2 U i j e r)=.ok (f r) (U2 U i j e r)/\coer s (f r)=true) :
  eCompE s i j fa fc fe U=.ok ⟨.lst s,.list (((List.range n).filter c).map fun r=>(f r).d)⟩ U:=by
 have hb:(10000:Nat)<=sizeLine:=by decide
 unfold eCompE
 rw [hi]
 unfold Out.bind
 dsimp only
 rw [h1,h2,hs]
 have hU:(U.set i none).set j none=U:=by rw [set_same h1,set_same h2]
 rw [List.range_eq_range',compGoE_ix (c:=c) (f:=f) hij hU n 0 [] (fun r _ h=>hc r (by omega)) (fun r _ h=>he r (by omega)) (by simp;omega)]
 rfl
theorem eCompE_ixA (e:Nat->D) (n:Nat) (f:Nat->PV) {st:Bool} (hi:iSeq fa U=.ok ⟨(List.range n).map e,st⟩ U) (h1:U[i]?=some none) (h2:U[j]?=some none) (hij:i≠j) (hs:s.isView=false) (hn:n<=10000)
  (he:∀r,r<n->fe (U2 U i j e r)=.ok (f r) (U2 U i j e r)/\coer s (f r)=true) :
  eCompE s i j fa bTrue fe U=.ok ⟨.lst s,.list ((List.range n).map fun r=>(f r).d)⟩ U:=by
 have:=eCompE_ix (fc:=bTrue) e n (fun _=>true) f hi h1 h2 hij hs hn (fun _ _=>rfl) fun r hr _=>he r hr
 rw [this,List.filter_eq_self.mpr fun _ _=>rfl]
end
theorem rms_int {r:List Nat}:r.map rm=(r.map fun t:Nat=>(t:Int)).map PyData.int:=by rw [map_map];rfl
theorem Wd.Ok0.s_range {w:Wd} (ok:w.Ok0):w.s.map rms=(List.range w.n).map fun r=>rms (w.stp r):=by
 conv=>lhs;rw [rmap (l:=w.s) [] ok.ls]
 rw [map_map]
 rfl
noncomputable def isI (p:Int):D->Bool
 | .int o=>o==p
 | _=>false
noncomputable def own (w:Wd) (p:Int):Nat->Bool:=chA (w.os.map (isI p))
theorem Wd.Ok.o_at {w:Wd} (ok:w.Ok) {r:Nat} (hr:r<w.n):∃o:Int,(o=0\/o=1)/\atI w.os (r:Int)=some (.int o)/\∀p,own w p r=(o==p):=by
 have hl:r<w.os.length:=by rw [ok.g.lo];exact hr
 have hm:=ok.g.o _ (getElem_mem hl)
 have key:∀o:Int,w.os[r]=.int o->atI w.os (r:Int)=some (.int o)/\∀p,own w p r=(o==p):=fun o e=>by
  refine ⟨at_nat (by rw [getElem?_eq_getElem hl,e]),fun p=>?_⟩
  unfold own chA
  rw [getD_eq_getElem?_getD,getElem?_map,getElem?_eq_getElem hl,e]
  rfl
 rcases hm with e | e
 ·exact ⟨0,.inl rfl,key 0 e⟩
 ·exact ⟨1,.inr rfl,key 1 e⟩
end KC
namespace T
open PySem PySem.Spec L2
open PyProof.Rows hiding St
section
variable {K:Fg} {W:XW} {σ:St} {H:Hp} {Q:VK} {D:Ends} {fa fb:F1} {fl:FL}
def rInsert:V->List V->Hp->VK->Prop:=fun x vs H Q=>∃l xs,∃k:Nat,∃y,x=.ref l/\vs=[.int (k:Int),y]/\H l=some (.lst xs)/\k<=xs.length/\xs.length<10000/\Q .non (upd H l (.lst (xs.take k++y::xs.drop k)))
theorem mt_insert {X:Cx}:MtM X "list.insert" rInsert:=by
 intro pins s σ H x vs v us Q I rx rv h
 obtain ⟨l,xs,k,y,rfl,rfl,hH,hk,hz,q⟩:=h
 cases rx
 obtain ⟨u1,u,rfl,r1,ru⟩:∃u1 u2,us=[u1,u2]/\RelV (.int (k:Int)) u1/\RelV y u2:=by
  cases rv with
  | cons p q=>
   cases q with
   | cons p' q'=>
    cases q'
    exact ⟨_,_,rfl,p,p'⟩
 obtain ⟨t,rfl⟩:=r1
 obtain ⟨z,its,n,r,hl,e⟩:=I.lstM hH
 have hb:(10000:Nat)<=sizeLine:=by decide
 have hf:Builtin.List.listFitsIndex (k:Int)=true:=fitsIndex_both (by omega) (by omega)
 have hsz:its.toArray.size<=sizeLine:=by rw [size_toArray];omega
 generalize hkk:(k:Int)=kk at hf
 refine call_meets F.slot_list_insert ⟨_,e,rfl⟩ F.entry_list_insert (F.args_list_insert_3 _ _ _) (AutoSeq1.list_insert_list_int_val_1 l its.toArray n kk t u (by simp [hf]) hsz) ⟨e,?_⟩
 subst hkk
 refine ⟨.non,_,I.lset (its':=its.take k++u::its.drop k) hH e ?_ ((r.take k).append (.cons ru (r.drop k))) ?_,rfl,q⟩
 ·have hm:min (k:Int).toNat its.toArray.size=k:=by
   rw [Int.toNat_natCast,size_toArray]
   omega
  show (have k':=if (k:Int)<0 then ((k:Int)+((its.toArray.size:Nat):Int)).toNat else min (k:Int).toNat its.toArray.size;(its.toArray.extract 0 k').push u++its.toArray.extract k')=_
  simp only [if_neg (show ¬(k:Int)<0 by omega),hm]
  apply Array.ext'
  simp [List.extract_eq_take_drop,take_of_length_le]
 ·simp only [length_append,length_cons,length_take,List.length_drop]
  omega
def insK (i:Nat) (q p:PV) (U:Ev):OutS:=match U[i]? with
 | some (some ⟨.lst .leaf,.list ds⟩)=>(match q.d with
  | .int k=>if decide (0<=k)&&decide (k<=ds.length)&&decide (ds.length<10000)&&T.coer .leaf p then .nx (U.set i (some ⟨.lst .leaf,.list (ds.take k.toNat++p.d::ds.drop k.toNat)⟩)) else .no
  | _=>.no)
 | _=>.no
def sIns (i:Nat) (fl:FL):FS:=fun U=>if isOwnLf U[i]? then (match fl U with
 | .ok [q,p] U1=>insK i q p U1
 | .ok _ _=>.no
 | .er c U1=>.er c U1
 | .no=>.no) else .no
theorem rd_ins {i:Nat} (h:tS K W (sIns i fl) D σ H):tDrop (tBM K "list" rInsert (tVar i) (tA K W fl)) D σ H:=by
 obtain ⟨He,O,Fs,U,E,h⟩:=h
 unfold sIns at h
 cases ho:isOwnLf U[i]? with
 | false=>rw [ho] at h;exact h.elim
 | true=>
  rw [ho] at h
  obtain ⟨ds,e0⟩:=isOwnLf_eq ho
  obtain ⟨l,vs,h1,h2,h3,_,_⟩:=E.chgF e0
  refine ⟨.ref l,h1,.inl ⟨rfl,vs,.of h2⟩,He,O,Fs,U,E,?_⟩
  cases e:fl U with
  | er c U1=>rw [e] at h;exact fun H' Fs' s E'=>h σ H' Fs' E'
  | no=>rw [e] at h;exact h
  | ok ps U1=>
   rw [e] at h
   intro us H1 Gs Fs1 A
   match ps,h,A with
   | [q,p],h,A=>
    match us,A.len1,Gs,A.len2,A with
    | [v1,v2],_,[G1,G2],_,A=>
     have h:WantsS K W He O D (insK i q p U1):=h
     unfold insK at h
     split at h
     ·rename_i ds1 e1
      split at h
      ·rename_i k ek
       cases hc:(decide (0<=k)&&decide (k<=ds1.length)&&decide (ds1.length<10000)&&T.coer .leaf p) with
       | false=>rw [hc] at h;exact h.elim
       | true=>
        rw [hc] at h
        simp only [Bool.and_eq_true,decide_eq_true_eq] at hc
        obtain ⟨⟨⟨k0,k1⟩,kz⟩,hcp⟩:=hc
        obtain ⟨l1,vs1,q1,q2,q3,q4,q5⟩:=A.env.dropL.chgF e1
        rw [h1] at q1
        cases q1
        have hu:=(A.own 0 v1 q G1 rfl rfl rfl).rep
        rw [ek] at hu
        cases hu
        have nd:=A.env.nd
        have ov:Own K (O++Fs1.flatten) H1 .leaf [] v2 p.d:=by
         refine (A.own 1 v2 p G2 rfl rfl rfl).coer (s:=.leaf) hcp (fun a ha=>?_) fun a ha z=>?_
         ·rcases List.mem_append.mp ha with z | z
          ·exact mem_append_left _ (mem_append_right _ z)
          ·exact mem_append_right _ z
         ·exfalso
          have hg:a∈[G1,G2].flatten:=by simp [ha]
          obtain ⟨n1,n2,n3⟩:=List.nodup_append.mp nd
          rcases List.mem_append.mp z with y | y
          ·exact (List.nodup_append.mp n1).2.2 a hg a y rfl
          ·exact n3 a (mem_append_left _ hg) a y rfl
        cases ov with
        | leaf rv=>
         obtain ⟨kn,rfl⟩:∃kn:Nat,k=(kn:Int):=⟨k.toNat,by omega⟩
         rw [Int.toNat_natCast] at h
         have hkn:kn<=vs1.length:=by omega
         have E4:=q5 (vs1.take kn++v2::vs1.drop kn) (ds1.take kn++p.d::ds1.drop kn) (by simp;omega) fun n x d a1 a2=>by
          by_cases hn:n<kn
          ·rw [getElem?_append_left (by simp;omega),List.getElem?_take,if_pos hn] at a1
           rw [getElem?_append_left (by simp;omega),List.getElem?_take,if_pos hn] at a2
           exact q4 n x d a1 a2
          ·rw [getElem?_append_right (by simp;omega),length_take,Nat.min_eq_left hkn] at a1
           rw [getElem?_append_right (by simp;omega),length_take,Nat.min_eq_left (by omega)] at a2
           cases hm:n-kn with
           | zero=>
            rw [hm] at a1 a2
            cases a1
            cases a2
            exact rv
           | succ j=>
            rw [hm,List.getElem?_cons_succ,List.getElem?_drop] at a1 a2
            exact q4 _ x d a1 a2
         exact ⟨l,vs1,kn,v2,rfl,rfl,q2,hkn,by omega,h σ _ _ E4⟩
      ·exact h.elim
     ·exact h.elim
   | [],h,A=>exact h.elim
   | [_],h,A=>exact h.elim
   | _::_::_::_,h,A=>exact h.elim
end
section
variable {X:Cx} {N gl:List Str} {vs cs ls lo gs:List Nat} {W:XW} {a b c e:Expr} {es:List Expr} {pos p:Pos} {fa fb fc:F1} {fl:FL} {g:FS}
theorem cs_ins (S:Cp X N gl vs cs ls lo gs) (i:Nat) {x:Str} {apos cpos:Pos} (hi:N[i]?=some x) (hv:vs.contains i=true) (ha:PA X [a,b] (tA X.K W fl)) (hs:starEach [a,b] X.env=(false,eval a X.env)::starEach [b] X.env)
  (hbase:attributeBase (.Name x p) "insert" X.env (eval (.Name x p) X.env)=eval (.Name x p) X.env) (hline:(apos.endLine==cpos.line)=true)
  (hfew:((backTo cpos (starEach [a,b] X.env)).all (fun x=>!x.1)&&(backToKw cpos (keywordEach [] X.env)).all (fun x=>x.1.isSome)
   && decide ([a,b].length+([]:List Keyword).length+(if ([]:List Keyword).isEmpty then 0 else 1)<30))=true) (hpl:(backTo cpos (starEach [b] X.env)).any (·.1)=false)
  (hsw:swapsWith (.Call (.Attribute (.Name x p) "insert" apos) [a,b] [] cpos) none pos.line X.env=pure false) :
  PS X (.Expr (.Call (.Attribute (.Name x p) "insert" apos) [a,b] [] cpos) pos) (tS X.K W (sIns i fl)):=by
 have m:=S.nm x (mem_of_getElem? hi)
 exact PSimp (ps_expr (pe_bm PySem.F.plainAttrs_list PySem.F.slot_list_insert PySem.F.type_list_insert mt_insert (pe_var (by rw [S.hN];exact hi) (S.vis i x hi hv) m.1 m.2) ha hbase hfew hline hs hpl) hsw) fun _ _ _=>rd_ins
end
end T
namespace TQ
open PySem PySem.Spec L2 T
open PyProof.Rows hiding St
section
variable {X:Cx} {N gl:List Str} {vs cs ls lo gs:List Nat} {W:XW} {a b c e:Expr} {es:List Expr} {pos p:Pos} {fa fb fc:F1} {fl:FL} {ga gb:FB} {g1 g2 g:FS}
theorem w_cs_ins (S:Cp X N gl vs cs ls lo gs) (i:Nat) {x:Str} {apos cpos:Pos} (hi:N[i]?=some x) (hv:vs.contains i=true) (ha:Q (PA X [a,b] (tA X.K W fl))) (hs:starEach [a,b] X.env=(false,eval a X.env)::starEach [b] X.env) (hbase:attributeBase (.Name x p) "insert" X.env (eval (.Name x p) X.env)=eval (.Name x p) X.env) (hline:(apos.endLine==cpos.line)=true) (hfew:((backTo cpos (starEach [a,b] X.env)).all (fun x=>!x.1)&&(backToKw cpos (keywordEach [] X.env)).all (fun x=>x.1.isSome)
   && decide ([a,b].length+([]:List Keyword).length+(if ([]:List Keyword).isEmpty then 0 else 1)<30))=true) (hpl:(backTo cpos (starEach [b] X.env)).any (·.1)=false) (hsw:swapsWith (.Call (.Attribute (.Name x p) "insert" apos) [a,b] [] cpos) none pos.line X.env=pure false):Q (PS X (.Expr (.Call (.Attribute (.Name x p) "insert" apos) [a,b] [] cpos) pos) (tS X.K W (sIns i fl))):=⟨T.cs_ins S i hi hv ha.p hs hbase hline hfew hpl hsw⟩
end
end TQ
namespace KC
open PySem PySem.Spec L2 T PySem.SeqAt
open PyProof.Rows hiding St
theorem x_unpN {is:List Nat} {f:F1} {U U1 U':Ev} {p:PV} {ps:List PV} (h:f U=.ok p U1) (hu:unpN p=some ps) (hl:ps.length=is.length) (hp:putN is ps U1=some U'):sUnpN is f U=.nx U':=by
 unfold sUnpN sOf
 rw [h]
 simp only [hu,hl,if_true,hp]
theorem sh_rms' {r:List Nat}:shaped (rms r)=true:=sh_rowI fun a ha=>by
 obtain ⟨t,_,e⟩:=List.mem_map.mp ha
 exact ⟨(t:Int),e.symm⟩
theorem len_nd:∀{n:Nat} {p:List Nat},p.Nodup->(∀x∈p,x<n)->p.length<=n
 | 0,[],_,_=>Nat.le_refl _
 | 0,a::p,_,h=>absurd (h a (by simp)) (Nat.not_lt_zero _)
 | n+1,p,nd,h=>by
  by_cases hn:n∈p
  ·have:=len_nd (n:=n) (nd.erase n) fun x hx=>by
    obtain ⟨h1,h2⟩:=nd.mem_erase_iff.mp hx
    have:=h x h2
    omega
   rw [length_erase_of_mem hn] at this
   omega
  ·have:=len_nd (n:=n) nd fun x hx=>by
    have h1:=h x hx
    have:x≠n:=fun e=>hn (e▸hx)
    omega
   omega
end KC
namespace KC
open PySem PySem.Spec L2 T
open PyProof.Rows hiding St
noncomputable def d_check_size:FS:=(sIf (bOf gBool (eOp gGt (eVar 0) (eK k_MOST_ROOMS))) sNo sNext)
noncomputable def m_check_size:List PySem.PyData->Res:=denOf 1 d_check_size
noncomputable def d_moved_on:FS:=(sRet (eComp .leaf 2 (iSeq (eVar 0)) bTrue (eOp gAddI (eVar 2) (eVar 1))))
noncomputable def m_moved_on:List PySem.PyData->Res:=denOf 3 d_moved_on
noncomputable def d_beside:FS:=(sSeq (sDrop (eCall 1 m_check_world (eCons (eVar 0) eNil)))
  (sSeq (sDrop (eCall 1 m_check_world (eCons (eVar 1) eNil)))
  (sSeq (sSet false 2 (eCB gLen (eCons (eIdx (eVar 0) (eK (.int 0))) eNil)))
  (sSeq (sDrop (eCall 1 m_check_size (eCons (eOp gAddI (eVar 2) (eCB gLen (eCons (eIdx (eVar 1) (eK (.int 0))) eNil))) eNil)))
  (sSeq (sSet false 3 (eCat (eIdx (eVar 0) (eK (.int 0))) (eIdx (eVar 1) (eK (.int 0)))))
  (sSeq (sSet false 4 (eComp .leaf 6 (iSeq (eCat (eIdx (eVar 0) (eK (.int 1))) (eIdx (eVar 1) (eK (.int 1))))) bTrue (eListOf (eVar 6))))
  (sSeq (sSet false 5 (eCat (eComp .leaf 6 (iSeq (eIdx (eVar 0) (eK (.int 2)))) bTrue (eListOf (eVar 6))) (eComp .leaf 6 (iSeq (eIdx (eVar 1) (eK (.int 2)))) bTrue (eCall 2 m_moved_on (eCons (eVar 6) (eCons (eVar 2) eNil))))))
  (sRet (eTup (eCons (eVar 3) (eCons (eVar 4) (eCons (eVar 5) eNil))))))))))))
noncomputable def m_beside:List PySem.PyData->Res:=denOf 7 d_beside
open PySem.SeqAt
theorem size_ev {w:Wd} (ok:w.Ok) {U:Ev} {i:Nat} (h0:U[i]?=some (some ⟨.leaf,w.enc⟩)):eCB gLen (eCons (eIdx (eVar i) (eK (.int 0))) eNil) U=.ok ⟨.leaf,.int (w.n:Int)⟩ U:=by
 have e:eIdx (eVar i) (eK (.int 0)) U=.ok ⟨.leaf,.list w.os⟩ U:=by
  rw [r_idx,v_leaf h0]
  simp only [Out.bind,v_k,Wd.enc,tup3,r_idT,r_at0]
 refine v_cb (v_cons e v_nil) ?_
 simp [ok.g.lo]
noncomputable def bes (w v:Wd):Wd:=⟨w.n+v.n,w.os++v.os,w.m++v.m,w.s++v.s.map fun r=>r.map (·+w.n)⟩
section
variable {w v:Wd}
theorem bes_ok (ok:w.Ok) (ov:v.Ok) (h:w.n+v.n<=24):(bes w v).Ok:=by
 have h1:=ok.h1
 refine ⟨⟨by simp [bes,ok.g.lo,ov.g.lo],by simp [bes,ok.lm,ov.lm],by simp [bes,ok.ls,ov.ls],fun a ha=>?_,fun r hr=>?_,fun r hr=>?_⟩,by show 1<=w.n+v.n;omega,h,by simp [bes,ok.lm,ov.lm],by simp [bes,ok.ls,ov.ls],fun r hr=>?_,fun r hr=>?_⟩
 ·rcases List.mem_append.mp ha with z | z
  ·exact ok.g.o a z
  ·exact ov.g.o a z
 ·have hr:r∈w.m.map txs++v.m.map txs:=by simpa [bes] using hr
  rcases List.mem_append.mp hr with z | z
  ·exact ok.g.m r z
  ·exact ov.g.m r z
 ·have hr:r∈w.s.map rms\/r∈v.s.map fun r=>rms (r.map (·+w.n)):=by simpa [bes] using hr
  rcases hr with z | z
  ·obtain ⟨ts,e,a,b,c,d⟩:=ok.g.s r z
   refine ⟨ts,e,a,b,fun t ht=>?_,d⟩
   have:=c t ht
   show (0:Int)<=t/\t<((w.n+v.n:Nat):Int)
   omega
  ·obtain ⟨x,hx,rfl⟩:=List.mem_map.mp z
   obtain ⟨ts,e,a,b,c,d⟩:=ov.g.s (rms x) (List.mem_map.mpr ⟨x,hx,rfl⟩)
   have ex:ts=x.map fun t:Nat=>(t:Int):=by
    have e1:x.map rm=ts.map PyData.int:=by injection e
    rw [rms_int] at e1
    have inj:∀(a b:List Int),a.map PyData.int=b.map PyData.int->a=b:=by
     intro a
     induction a with
     | nil=>intro b hb;cases b with
      | nil=>rfl
      | cons y ys=>simp at hb
     | cons y ys ih=>intro b hb;cases b with
      | nil=>simp at hb
      | cons z zs=>simp at hb;rw [hb.1,ih zs (by simpa using hb.2)]
    exact (inj _ _ e1).symm
   refine ⟨ts.map (·+(w.n:Int)),?_,by simpa using a,by simpa using b,fun t ht=>?_,?_⟩
   ·rw [ex]
    simp [rms,Function.comp_def]
   ·obtain ⟨u,hu,rfl⟩:=List.mem_map.mp ht
    have:=c u hu
    show (0:Int)<=u+(w.n:Int)/\u+(w.n:Int)<((w.n+v.n:Nat):Int)
    omega
   ·rw [pairwise_map]
    exact d.imp fun {a b} hab=>by omega
 ·rcases List.mem_append.mp hr with z | z
  ·obtain ⟨a,b,c⟩:=ok.st r z
   exact ⟨a,b,fun t ht=>by have:=c t ht;show t<w.n+v.n;omega⟩
  ·obtain ⟨x,hx,rfl⟩:=List.mem_map.mp z
   obtain ⟨a,b,c⟩:=ov.st x hx
   refine ⟨by simpa using a,by simpa using b,fun t ht=>?_⟩
   obtain ⟨u,hu,rfl⟩:=List.mem_map.mp ht
   have:=c u hu
   show u+w.n<w.n+v.n
   omega
 ·rcases List.mem_append.mp hr with z | z
  ·exact ok.mc r z
  ·exact ov.mc r z
theorem bes_stp1 (ok:w.Ok) {r:Nat} (hr:r<w.n):(bes w v).stp r=w.stp r:=by
 unfold Wd.stp bes
 simp only
 rw [getD_eq_getElem?_getD,getElem?_append_left (by rw [ok.ls];exact hr),<-getD_eq_getElem?_getD]
theorem bes_stp2 (ok:w.Ok) {r:Nat}:(bes w v).stp (r+w.n)=(v.stp r).map (·+w.n):=by
 unfold Wd.stp bes
 simp only
 rw [getD_eq_getElem?_getD,getElem?_append_right (by rw [ok.ls];omega),ok.ls,Nat.add_sub_cancel,getElem?_map,getD_eq_getElem?_getD]
 cases v.s[r]?<;>rfl
theorem bes_mks1 (ok:w.Ok) {r:Nat} (hr:r<w.n):(bes w v).mks r=w.mks r:=by
 unfold Wd.mks bes
 simp only
 rw [getD_eq_getElem?_getD,getElem?_append_left (by rw [ok.lm];exact hr),<-getD_eq_getElem?_getD]
theorem bes_mks2 (ok:w.Ok) {r:Nat}:(bes w v).mks (r+w.n)=v.mks r:=by
 unfold Wd.mks bes
 simp only
 rw [getD_eq_getElem?_getD,getElem?_append_right (by rw [ok.lm];omega),ok.lm,Nat.add_sub_cancel,<-getD_eq_getElem?_getD]
theorem bes_own1 (ok:w.Ok) {p:Int} {r:Nat} (hr:r<w.n):own (bes w v) p r=own w p r:=by
 have lo:=ok.g.lo
 unfold own chA bes
 simp only
 rw [map_append,getD_eq_getElem?_getD,getElem?_append_left (by rw [length_map,lo];exact hr),<-getD_eq_getElem?_getD]
theorem bes_own2 (ok:w.Ok) {p:Int} {r:Nat}:own (bes w v) p (r+w.n)=own v p r:=by
 have lo:=ok.g.lo
 unfold own chA bes
 simp only
 rw [map_append,getD_eq_getElem?_getD,getElem?_append_right (by rw [length_map,lo];omega),length_map,lo,Nat.add_sub_cancel,<-getD_eq_getElem?_getD]
theorem den_moved {l:List Nat} {n:Nat} (hl:l.length<=1000):m_moved_on [rms l,.int (n:Int)]=.ok ⟨.lst .leaf,rms (l.map (·+n))⟩:=by
 have e:eComp .leaf 2 (iSeq (eVar 0)) bTrue (eOp gAddI (eVar 2) (eVar 1)) (startD 3 [rms l,.int (n:Int)])=.ok ⟨.lst .leaf,.list (l.map fun x=>rm (x+n))⟩ (startD 3 [rms l,.int (n:Int)]):=by
  refine eComp_tyA rm l (fun x=>⟨.leaf,rm (x+n)⟩) (st:=true) (w_seq (v_leaf rfl) rfl) (by simp [startD]) rfl (by omega) fun x hx=>⟨?_,rfl⟩
  refine (v_op (v_leaf rfl) (v_leaf rfl) KC.add_int').trans ?_
  simp
 refine rt_of ((x_ret e rfl).trans ?_)
 simp [rms,Function.comp_def]
theorem den_beside (ok:w.Ok) (ov:v.Ok) (h:w.n+v.n<=24):m_beside [w.enc,v.enc]=.ok ⟨.tup [.leaf,.leaf,.leaf],(bes w v).enc⟩:=by
 have lw:=ok.g.lo
 have lv:=ov.g.lo
 have cs:m_check_size [.int ((w.n:Int)+(v.n:Int))]=.ok ⟨.leaf,.none⟩:=by
  refine nx_of (U:=startD 1 [.int ((w.n:Int)+(v.n:Int))]) ?_
  refine x_if (t:=false) (bb_bool (s:=.leaf) ?_) nofun fun _=>rfl
  refine (v_op (v_leaf rfl) v_k (d:=.bool (decide ((24:Int)<(w.n:Int)+(v.n:Int)))) rfl).trans ?_
  rw [decide_eq_false (by omega)]
 refine rt_of ?_
 have i0:∀(U:Ev) (i:Nat) (u:Wd),U[i]?=some (some ⟨.leaf,u.enc⟩)->eIdx (eVar i) (eK (.int 0)) U=.ok ⟨.leaf,.list u.os⟩ U:=fun U i u h=>by
  rw [r_idx,v_leaf h]
  simp only [Out.bind,v_k,Wd.enc,tup3,r_idT,r_at0]
 have i1:∀(U:Ev) (i:Nat) (u:Wd),U[i]?=some (some ⟨.leaf,u.enc⟩)->eIdx (eVar i) (eK (.int 1)) U=.ok ⟨.leaf,.list (u.m.map txs)⟩ U:=fun U i u h=>by
  rw [r_idx,v_leaf h]
  simp only [Out.bind,v_k,Wd.enc,tup3,r_idT,r_at1]
 have i2:∀(U:Ev) (i:Nat) (u:Wd),U[i]?=some (some ⟨.leaf,u.enc⟩)->eIdx (eVar i) (eK (.int 2)) U=.ok ⟨.leaf,.list (u.s.map rms)⟩ U:=fun U i u h=>by
  rw [r_idx,v_leaf h]
  simp only [Out.bind,v_k,Wd.enc,tup3,r_idT,r_at2]
 refine x_seq (x_drop' (v_call (v_cons (v_leaf rfl) v_nil) ok.check rfl rfl)) ?_
 refine x_seq (x_drop' (v_call (v_cons (v_leaf rfl) v_nil) ov.check rfl rfl)) ?_
 refine x_seq (U1:=[some ⟨.leaf,w.enc⟩,some ⟨.leaf,v.enc⟩,some ⟨.leaf,.int (w.n:Int)⟩,none,none,none,none]) (x_setL (size_ev ok rfl) rfl (by simp [startD])) ?_
 refine x_seq (x_drop' (v_call (v_cons (v_op (v_leaf rfl) (size_ev ov rfl) KC.add_int') v_nil) cs rfl rfl)) ?_
 refine x_seq (U1:=[some ⟨.leaf,w.enc⟩,some ⟨.leaf,v.enc⟩,some ⟨.leaf,.int (w.n:Int)⟩,some ⟨.leaf,.list (w.os++v.os)⟩,none,none,none]) (x_setL (v_cat (i0 _ 0 w rfl) (i0 _ 1 v rfl) rfl rfl (by omega)) rfl (by simp)) ?_
 have ct:eCat (eIdx (eVar 0) (eK (.int 1))) (eIdx (eVar 1) (eK (.int 1))) [some ⟨.leaf,w.enc⟩,some ⟨.leaf,v.enc⟩,some ⟨.leaf,.int (w.n:Int)⟩,some ⟨.leaf,.list (w.os++v.os)⟩,none,none,none]=.ok ⟨.lst .leaf,.list ((w.m++v.m).map txs)⟩ [some ⟨.leaf,w.enc⟩,some ⟨.leaf,v.enc⟩,some ⟨.leaf,.int (w.n:Int)⟩,some ⟨.leaf,.list (w.os++v.os)⟩,none,none,none]:=by
  rw [map_append]
  exact v_cat (i1 _ 0 w rfl) (i1 _ 1 v rfl) rfl rfl (by simp [ok.lm,ov.lm];omega)
 have mm:eComp .leaf 6 (iSeq (eCat (eIdx (eVar 0) (eK (.int 1))) (eIdx (eVar 1) (eK (.int 1))))) bTrue (eListOf (eVar 6)) [some ⟨.leaf,w.enc⟩,some ⟨.leaf,v.enc⟩,some ⟨.leaf,.int (w.n:Int)⟩,some ⟨.leaf,.list (w.os++v.os)⟩,none,none,none]=.ok ⟨.lst .leaf,.list ((w.m++v.m).map txs)⟩ [some ⟨.leaf,w.enc⟩,some ⟨.leaf,v.enc⟩,some ⟨.leaf,.int (w.n:Int)⟩,some ⟨.leaf,.list (w.os++v.os)⟩,none,none,none]:=
  eComp_tyA txs (w.m++v.m) (fun x=>⟨.lst .leaf,txs x⟩) (st:=true) (w_seq (s:=.lst .leaf) ct rfl) (by simp) rfl (by simp [ok.lm,ov.lm];omega) fun x hx=>⟨v_listOf (v_leaf rfl) rfl,rfl⟩
 refine x_seq (U1:=[some ⟨.leaf,w.enc⟩,some ⟨.leaf,v.enc⟩,some ⟨.leaf,.int (w.n:Int)⟩,some ⟨.leaf,.list (w.os++v.os)⟩,some ⟨.leaf,.list ((w.m++v.m).map txs)⟩,none,none]) (x_setL mm rfl (by simp)) ?_
 have st1:eComp .leaf 6 (iSeq (eIdx (eVar 0) (eK (.int 2)))) bTrue (eListOf (eVar 6)) [some ⟨.leaf,w.enc⟩,some ⟨.leaf,v.enc⟩,some ⟨.leaf,.int (w.n:Int)⟩,some ⟨.leaf,.list (w.os++v.os)⟩,some ⟨.leaf,.list ((w.m++v.m).map txs)⟩,none,none]=.ok ⟨.lst .leaf,.list (w.s.map rms)⟩ [some ⟨.leaf,w.enc⟩,some ⟨.leaf,v.enc⟩,some ⟨.leaf,.int (w.n:Int)⟩,some ⟨.leaf,.list (w.os++v.os)⟩,some ⟨.leaf,.list ((w.m++v.m).map txs)⟩,none,none]:=
  eComp_tyA rms w.s (fun x=>⟨.lst .leaf,rms x⟩) (st:=true) (w_seq (s:=.leaf) (i2 _ 0 w rfl) rfl) (by simp) rfl (by rw [ok.ls];omega) fun x hx=>⟨v_listOf (v_leaf rfl) rfl,rfl⟩
 have st2:eComp .leaf 6 (iSeq (eIdx (eVar 1) (eK (.int 2)))) bTrue (eCall 2 m_moved_on (eCons (eVar 6) (eCons (eVar 2) eNil))) [some ⟨.leaf,w.enc⟩,some ⟨.leaf,v.enc⟩,some ⟨.leaf,.int (w.n:Int)⟩,some ⟨.leaf,.list (w.os++v.os)⟩,some ⟨.leaf,.list ((w.m++v.m).map txs)⟩,none,none]=.ok ⟨.lst .leaf,.list (v.s.map fun x=>rms (x.map (·+w.n)))⟩ [some ⟨.leaf,w.enc⟩,some ⟨.leaf,v.enc⟩,some ⟨.leaf,.int (w.n:Int)⟩,some ⟨.leaf,.list (w.os++v.os)⟩,some ⟨.leaf,.list ((w.m++v.m).map txs)⟩,none,none]:=
  eComp_tyA rms v.s (fun x=>⟨.lst .leaf,rms (x.map (·+w.n))⟩) (st:=true) (w_seq (s:=.leaf) (i2 _ 1 v rfl) rfl) (by simp) rfl (by rw [ov.ls];omega) fun x hx=>⟨v_call (v_cons (v_leaf rfl) (v_cons (v_leaf rfl) v_nil)) (den_moved (by have:=(ov.st x hx).2.1;omega)) rfl rfl,rfl⟩
 have e:=v_cat st1 st2 rfl rfl (by simp [ok.ls,ov.ls];omega)
 rw [show w.s.map rms++(v.s.map fun x=>rms (x.map (·+w.n)))=(bes w v).s.map rms by simp [bes,Function.comp_def]] at e
 refine x_seq (U1:=[some ⟨.leaf,w.enc⟩,some ⟨.leaf,v.enc⟩,some ⟨.leaf,.int (w.n:Int)⟩,some ⟨.leaf,.list (w.os++v.os)⟩,some ⟨.leaf,.list ((w.m++v.m).map txs)⟩,some ⟨.leaf,.list ((bes w v).s.map rms)⟩,none]) (x_setL e rfl (by simp)) ?_
 exact x_ret (v_tup (v_cons (v_leaf rfl) (v_cons (v_leaf rfl) (v_cons (v_leaf rfl) v_nil))) rfl rfl) rfl
end
end KC
namespace KC
structure Mor (n1:Nat) (st1:Nat->List Nat) (f:Nat->Nat) (n:Nat) (st:Nat->List Nat):Prop where
 cl:∀r t,t∈st1 r->t<n1
 lt:∀r,r<n1->f r<n
 up:∀r,r<n1->∀t∈st1 r,f t∈st (f r)
 dn:∀r,r<n1->∀c∈st (f r),∃t∈st1 r,f t=c
open PySem PySem.Spec L2 T PySem.SeqAt
open PyProof.Rows hiding St
theorem v_ifz {c:FB} {fa fb:F1} {U:Ev} {t:Bool} {p:PV} (hc:c U=.ok t U) (ha:t=true->fa U=.ok p U) (hb:t=false->fb U=.ok p U):eIf c fa fb U=.ok p U:=by
 unfold eIf;rw [hc];simp only [r_bind]
 cases t with
 | true=>exact ha rfl
 | false=>exact hb rfl
end KC
namespace T
open PySem
variable {n ep sl:Nat} {b:Bool} {t:SetTable} {h h':Heap} {a:Addr} {S:Int->Bool} {ns:List Int} {α:Type} {M:Model} {p2 pos2:Pos}
theorem below_at {xs:Array Nat} {j p:Nat} (hp:∀k,k<xs.size->(xs.getD k j<j↔k<p)):∀(fuel lo hi:Nat),lo<=p->p<=hi->hi<=xs.size->hi-lo<=fuel->SetTable.below.go xs j fuel lo hi=p
 | 0,lo,hi,h1,h2,h3,h4=>by
  unfold SetTable.below.go
  omega
 | n+1,lo,hi,h1,h2,h3,h4=>by
  unfold SetTable.below.go
  by_cases c:lo<hi
  ·rw [if_pos c]
   have hm:=hp ((lo+hi) / 2) (by omega)
   simp only
   by_cases d:xs.getD ((lo+hi) / 2) j<j
   ·rw [if_pos d]
    have:=hm.mp d
    exact below_at hp n _ _ (by omega) h2 h3 (by omega)
   ·rw [if_neg d]
    have:¬(lo+hi) / 2<p:=fun z=>d (hm.mpr z)
    exact below_at hp n _ _ h1 (by omega) (by omega) (by omega)
  ·rw [if_neg c]
   omega
theorem below_is {xs:Array Nat} {j p:Nat} (hp:∀k,k<xs.size->(xs.getD k j<j↔k<p)) (hs:p<=xs.size):SetTable.below xs j=p:=below_at hp xs.size 0 xs.size (Nat.zero_le _) hs (Nat.le_refl _) (by omega)
def Rs (xs:Array Nat):Prop:=xs.toList.Pairwise (· < ·)
theorem Rs.lt {xs:Array Nat} (h:Rs xs) {i k:Nat} (hi:i<xs.size) (hk:k<xs.size) (hik:i<k):xs[i]<xs[k]:=by
 have:=(List.pairwise_iff_getElem.mp h) i k (by simpa using hi) (by simpa using hk) hik
 simpa using this
theorem below_zero {xs:Array Nat}:SetTable.below xs 0=0:=below_is (fun k _=>by simp) (Nat.zero_le _)
theorem getD_in {xs:Array Nat} {k j:Nat} (hk:k<xs.size):xs.getD k j=xs[k]:=by
 unfold Array.getD
 rw [dif_pos hk]
 rfl
theorem below_next {xs:Array Nat} (h:Rs xs) {i:Nat} (hi:i<xs.size):SetTable.below xs (xs[i]+1)=i+1:=by
 refine below_is (fun k hk=>?_) (by omega)
 rw [getD_in hk]
 rcases Nat.lt_trichotomy k i with c | c | c
 ·have:=h.lt hk hi c
  omega
 ·subst c
  omega
 ·have:=h.lt hi hk c
  omega
theorem part_point (j:Nat):∀(l:List Nat),l.Pairwise (· < ·)->∀k,k<l.length->(l.getD k j<j↔k<l.countP (·<j))
 | [],_,k,hk=>by simp at hk
 | a::l,h,k,hk=>by
  obtain ⟨h1,h2⟩:=List.pairwise_cons.mp h
  rw [List.countP_cons]
  by_cases c:a<j
  ·simp only [c,decide_true,if_true]
   cases k with
   | zero=>simpa using c
   | succ k=>
    have:=part_point j l h2 k (by simpa using hk)
    simp only [List.getD_cons_succ]
    omega
  ·have z:l.countP (·<j)=0:=List.countP_eq_zero.mpr fun b hb=>by
    have:=h1 b hb
    simp
    omega
   simp only [c,decide_false,Bool.false_eq_true,if_false,z]
   cases k with
   | zero=>simp;omega
   | succ k=>
    have hk':k<l.length:=by simpa using hk
    simp only [List.getD_cons_succ]
    rw [getD_eq_getElem?_getD,getElem?_eq_getElem hk']
    have:=h1 _ (getElem_mem hk')
    simp only [Option.getD_some]
    omega
theorem Rs.point {xs:Array Nat} (h:Rs xs) (j:Nat):(∀k,k<xs.size->(xs.getD k j<j↔k<SetTable.below xs j))/\SetTable.below xs j<=xs.size:=by
 have hp:∀k,k<xs.size->(xs.getD k j<j↔k<xs.toList.countP (·<j)):=fun k hk=>by
  have:=part_point j xs.toList h k (by simpa using hk)
  rw [getD_eq_getElem?_getD,getElem?_eq_getElem (by simpa using hk)] at this
  rw [getD_in hk]
  simpa using this
 have hc:xs.toList.countP (·<j)<=xs.size:=by
  have:=List.countP_le_length (p:=(·<j)) (l:=xs.toList)
  simpa using this
 rw [below_is hp hc]
 exact ⟨hp,hc⟩
theorem Rs.insert {xs:Array Nat} (h:Rs xs) {j:Nat} (hj:xs[SetTable.below xs j]?≠some j):Rs (SetTable.insertAt xs (SetTable.below xs j) j):=by
 obtain ⟨hp,hs⟩:=h.point j
 generalize SetTable.below xs j=p at hp hs hj
 unfold Rs SetTable.insertAt
 have e:(((xs.extract 0 p).push j)++xs.extract p xs.size).toList=xs.toList.take p++[j]++xs.toList.drop p:=by
  simp [Array.toList_extract,List.extract]
  rw [take_of_length_le (by simp)]
 rw [e,append_assoc,List.pairwise_append]
 have low:∀a∈xs.toList.take p,a<j:=fun a ha=>by
  obtain ⟨k,hk,rfl⟩:=getElem_of_mem ha
  rw [length_take] at hk
  have hk':k<xs.size:=by
   have:k<xs.toList.length:=by omega
   simpa using this
  have:=(hp k hk').mpr (by omega)
  rw [getD_in hk'] at this
  simpa using this
 have up:∀a∈xs.toList.drop p,j<a:=fun a ha=>by
  obtain ⟨k,hk,rfl⟩:=getElem_of_mem ha
  rw [List.length_drop,Array.length_toList] at hk
  have hk':p+k<xs.size:=by omega
  have q:¬xs.getD (p+k) j<j:=fun z=>by have:=(hp (p+k) hk').mp z;omega
  rw [getD_in hk'] at q
  have e1:(xs.toList.drop p)[k]=xs[p+k]:=by simp
  rw [e1]
  have hne:xs[p+k]≠j:=fun z=>by
   cases k with
   | zero=>
    simp only [Nat.add_zero] at z
    exact hj (by rw [Array.getElem?_eq_getElem (by omega),z])
   | succ k=>
    have hp':p<xs.size:=by omega
    have q0:¬xs.getD p j<j:=fun z=>by have:=(hp p hp').mp z;omega
    rw [getD_in hp'] at q0
    have:=h.lt hp' hk' (by omega)
    omega
  omega
 refine ⟨h.sublist (List.take_sublist _ _),?_,fun a ha b hb=>?_⟩
 ·rw [List.singleton_append,List.pairwise_cons]
  exact ⟨up,h.sublist (List.drop_sublist _ _)⟩
 ·have l1:=low a ha
  rw [List.singleton_append] at hb
  rcases List.mem_cons.mp hb with rfl | hb
  ·exact l1
  ·have:=up b hb
   omega
theorem rs_range:Rs (Array.range n):=by
 unfold Rs
 rw [Array.toList_range]
 exact pairwise_lt_range
structure Tb (b:Bool) (t:SetTable):Prop where
 led:b=false->t.led=true
 rs:Rs t.place
 nd:t.dummies=#[]
theorem Tb.fresh:Tb b (.fresh 0 0 (!b)):=⟨fun e=>by rw [e];rfl,List.Pairwise.nil,rfl⟩
theorem Tb.standIn (h:Tb b t) (n:Nat):Tb b (t.standIn n):=⟨h.led,rs_range,rfl⟩
theorem Tb.orStandIn (h:Tb b t) (n:Nat):Tb b (t.orStandIn n):=by
 unfold SetTable.orStandIn
 split
 ·exact h
 ·exact h.standIn n
theorem Tb.plain {b:Bool} {t:SetTable} (h:Tb b t) (p:Bool):Tb b { t with plain:=p }:=⟨h.led,h.rs,h.nd⟩
theorem no_dummy {j:Nat}:SetTable.has #[] j=false:=by
 unfold SetTable.has
 simp
theorem Tb.put (h:Tb b t) {j:Nat} (hj:t.place[SetTable.below t.place j]?≠some j):Tb b (t.put j).1:=by
 refine ⟨h.led,h.rs.insert hj,?_⟩
 show (if SetTable.has t.dummies j=true then _ else t.dummies)=#[]
 rw [h.nd,no_dummy]
 rfl
theorem probe_empty {b:Bool} {t:SetTable} (h:Tb b t) {ha:Nat->Int} {k:Int}:∀(fuel:Nat) (p:SetTable.Probe),p.dummy=none->∀j d,SetTable.probe.go t ha k fuel p=some (.empty j d)->d=none/\t.place[SetTable.below t.place j]?≠some j
 | 0,p,_,j,d,e=>by unfold SetTable.probe.go at e;cases e
 | n+1,p,hp,j,d,e=>by
  unfold SetTable.probe.go at e
  have adv:(t.advance p).dummy=none:=by
   unfold SetTable.advance
   split
   ·exact hp
   ·exact hp
  cases q:t.slot p.j with
  | empty=>
   rw [q] at e
   simp only [Option.some.injEq,SetTable.Met.empty.injEq] at e
   obtain ⟨rfl,rfl⟩:=e
   refine ⟨hp,fun z=>?_⟩
   unfold SetTable.slot at q
   simp only [z,beq_self_eq_true,if_true] at q
   cases q
  | dummy=>
   unfold SetTable.slot at q
   simp only [h.nd,no_dummy] at q
   split at q<;>simp at q
  | live i=>
   rw [q] at e
   simp only at e
   split at e
   ·cases e
   ·exact probe_empty h n _ adv j d e
theorem Tb.free (h:Tb b t) {k:Int} {j:Nat} {d:Bool} (e:t.freeSlot k=some (j,d)):t.place[SetTable.below t.place j]?≠some j:=by
 unfold SetTable.freeSlot at e
 cases q:t.probe (fun _=>k+1) k (t.probeStart k) with
 | none=>rw [q] at e;cases e
 | some m=>
  rw [q] at e
  cases m with
  | candidate _ _ _=>cases e
  | empty i x=>
   obtain ⟨rfl,hi⟩:=probe_empty h _ _ rfl i x q
   simp only [Option.some.injEq,Prod.mk.injEq] at e
   obtain ⟨rfl,_⟩:=e
   exact hi
theorem Tb.layNew (h:Tb b t) (es:Array (Int×Value)) (k:Int) (x:Value):Tb b (PySem.layNew t es k x).2.1:=by
 unfold PySem.layNew
 cases e:t.freeSlot k with
 | none=>exact h.standIn _
 | some jd=>
  obtain ⟨j,d⟩:=jd
  exact (h.put (h.free e)).orStandIn _
theorem laid_tb {led plain:Bool} {mask fg mv:Nat} {hs:Array Int} {o:Array Nat} (hl:b=false->led=true) (e:SetTable.laid mask fg mv led plain hs=some (t,o)):Tb b t:=by
 unfold SetTable.laid at e
 cases q:SetTable.layClean mask hs with
 | none=>rw [q] at e;cases e
 | some ow=>
  rw [q] at e
  simp only [Option.bind_eq_bind,Option.bind_some,Option.pure_def,Option.some.injEq,Prod.mk.injEq] at e
  obtain ⟨rfl,_⟩:=e
  refine ⟨hl,?_,rfl⟩
  unfold Rs
  simp only [List.toList_toArray]
  rw [pairwise_map]
  refine List.Pairwise.filterMap _ (R:=(· < ·)) (fun a a' haa' c hc c' hc'=>?_) pairwise_lt_range
  cases x:ow.getD a none with
  | none=>rw [x] at hc;cases hc
  | some y=>
   cases x':ow.getD a' none with
   | none=>rw [x'] at hc';cases hc'
   | some y'=>
    rw [x] at hc
    rw [x'] at hc'
    cases hc
    cases hc'
    exact haa'
theorem Tb.relay (h:Tb b t) (es:Array (Int×Value)) (n:Nat):Tb b (relayAll t es n).2.1:=by
 unfold relayAll
 cases e:t.relaid (es.map (·.1)) n with
 | none=>exact h.standIn _
 | some to=>
  obtain ⟨t',o⟩:=to
  simp only
  split
  ·unfold SetTable.relaid at e
   exact laid_tb h.led e
  ·exact h.standIn _
open PySem.Spec L2
open PyProof.Rows hiding St
abbrev byTx (w:World):Bool:=w.params.followText "set-order"
def SetT (P:Program) (w:World) (h:Heap) (a:Addr) (S:Int->Bool) (n:Nat):Prop:=
 ∃o es ep t,h.get? a=some o/\o.ExactSet/\o.data=.set es ep t/\ElemsOf (intKind P w) es.toList/\(∀k,S k=true↔∃e∈es.toList,(intKind P w).is k e.2=true)/\es.size<scanBound/\t.fits es.size=true/\es.size=n/\Tb (byTx w) t
section
variable {P:Program} {w:World} {A:Around} {E:Value->Shared->Prop} {s:Shared}
theorem SetT.at (x:SetT P w h a S n) (k:∀o,h.get? a=some o->h'.get? a=some o):SetT P w h' a S n:=by
 obtain ⟨o,es,ep,t,ho,r⟩:=x
 exact ⟨o,es,ep,t,k o ho,r⟩
theorem SetT.congr {S':Int->Bool} {n':Nat} (x:SetT P w h a S n) (e:∀k,S k=S' k) (en:n=n'):SetT P w h a S' n':=by
 have:S=S':=funext e
 subst this en
 exact x
theorem store_t {o:Obj} {es es':Array (Int×Value)} {t':SetTable} (ho:h.get? a=some o) (hex:o.ExactSet) (hd:o.data=.set es ep t) (hel:ElemsOf (intKind P w) es'.toList) (hm:∀k,S k=true↔∃e∈es'.toList,(intKind P w).is k e.2=true) (hb:es'.size<scanBound) (hf:t'.fits es'.size=true) (tb:Tb (byTx w) t') :
  (h.update a (Obj.putSet es' t')).get? a=some { o with data:=.set es' (ep+1) t' }/\SetT P w (h.update a (Obj.putSet es' t')) a S es'.size:=by
 have q:=(SetOf_store (knd:=intKind P w) ho hex hd hel hm hb hf).1
 exact ⟨q,_,es',ep+1,t',q,hex,rfl,hel,hm,hb,hf,rfl,tb⟩
theorem add_t {k:Int} {x:Value} {Q:Bool->Shared->Prop} (hk:(intKind P w).is k x=true) (hx:x.scannable=true) (hS:SetT P w s.heap a S n) (hr:n+1<scanBound)
  (h:∀h',Heap.SameBut a s.heap h'->SetT P w h' a (fun i=>S i||decide (i=k)) (if S k then n else n+1)->∀b,Q b { s with heap:=h' }):wpAny (model P w) A (setAddHashed a x ((intKind P w).hash k)) Q E s:=by
 obtain ⟨o,es,ep,t,ho,hex,hd,hel,hm,hb,hf,hn,tb⟩:=hS
 unfold setAddHashed setAddHashedIn
 refine wpAny_holding (wpAny_bind (wpAny_setState_of ho hd hf ?_))
 dsimp only
 rw [byScan_of hx hb hel,if_pos rfl]
 unfold setAddByScan
 refine wpAny_bind (wpAny_bind (wpAny_rule (wpAny_bind (wpAny_setScan_of hk ho hd hf hel ?_))))
 cases q:List.findIdx? (fun e=>(intKind P w).is k e.2) es.toList with
 | some j=>
  dsimp only
  obtain ⟨hj,hp,_⟩:=List.findIdx?_eq_some_iff_getElem.mp q
  have sk:S k=true:=(hm k).mpr ⟨_,getElem_mem hj,hp⟩
  refine wpAny_pure (wpAny_pure ?_)
  have z:=h s.heap (Heap.SameBut.refl a s.heap) ⟨o,es,ep,t,ho,hex,hd,hel,fun i=>?_,hb,hf,by rw [sk];exact hn,tb⟩ false
  ·have es':s={ s with heap:=s.heap }:=by cases s;rfl
   rw [es']
   exact z
  ·rw [Bool.or_eq_true,decide_eq_true_eq,<-hm i]
   exact ⟨fun y=>y.elim id fun e=>e▸sk,.inl⟩
 | none=>
  dsimp only
  have sk:S k=false:=by
   cases e:S k with
   | false=>rfl
   | true=>
    obtain ⟨y,hy,hp⟩:=(hm k).mp e
    have:=List.findIdx?_eq_none_iff.mp q y hy
    rw [hp] at this
    cases this
  have pm:=layNew_perm t es ((intKind P w).hash k) x
  have ft:=layNew_fits t es ((intKind P w).hash k) x
  have tb1:=tb.layNew es ((intKind P w).hash k) x
  generalize layNew t es ((intKind P w).hash k) x=L at pm ft tb1 ⊢
  obtain ⟨e1,t1,wd,gv⟩:=L
  dsimp only at pm ft tb1 ⊢
  rw [Array.toList_push] at pm
  have el1:ElemsOf (intKind P w) e1.toList:=(hel.push hk hx).perm pm
  have m1:=fun i=>mem_push_iff hk hm pm i
  have sz:e1.size=n+1:=by rw [<-Array.length_toList,pm.length_eq,length_append,Array.length_toList,hn];rfl
  have b1:e1.size<scanBound:=by rw [sz];exact hr
  have gw:∀(b:Bool) {s1:Shared} {R:Unit->Shared->Prop},R () s1->wpAny (model P w) A (match b with | true=>rule "set.scan.the-table-gave-way" | false=>pure ()) R E s1:=fun b s1 R y=>by
   cases b
   ·exact wpAny_pure y
   ·exact wpAny_rule y
  have fin:∀h',Heap.SameBut a s.heap h'->SetT P w h' a (fun i=>S i||decide (i=k)) e1.size->∀b,Q b { s with heap:=h' }:=fun h' sb y=>by
   have:=h h' sb
   rw [sk] at this
   rw [sz] at y
   exact this y
  have tail:∀t2:SetTable,t2.fits e1.size=true->Tb (byTx w) t2->∀{R:Option Bool->Shared->Prop},(∀h',(∀b,Q b { s with heap:=h' })->R (some true) { s with heap:=h' })->wpAny (model P w) A (do
    storeSet a e1 t2
    if (!wd&&t2.tooFull)=true then do
      (match (relayAll t2 e1 (SetTable.grown e1.size)).2.2 with | true=>rule "set.scan.the-table-gave-way" | false=>pure ())
      storeSet a (relayAll t2 e1 (SetTable.grown e1.size)).1 (relayAll t2 e1 (SetTable.grown e1.size)).2.1
      pure (some true)
     else pure (some true)) R E s:=fun t2 f2 tb2 R hR=>by
   refine wpAny_bind (wpAny_storeSet_of ho hd ?_ (fits_of_scanBound b1))
   obtain ⟨g1,s1⟩:=store_t ho hex hd el1 m1 b1 f2 tb2
   have sb1:=Heap.SameBut.update s.heap a (Obj.putSet e1 t2)
   split
   ·have pr:=relayAll_perm t2 e1 (SetTable.grown e1.size)
    have fr:=relayAll_fits t2 e1 (SetTable.grown e1.size)
    have tr:=tb2.relay e1 (SetTable.grown e1.size)
    generalize relayAll t2 e1 (SetTable.grown e1.size)=Rl at pr fr tr ⊢
    obtain ⟨e2,t3,g2⟩:=Rl
    dsimp only at pr fr tr ⊢
    have sz2:e2.size=e1.size:=by rw [<-Array.length_toList,pr.length_eq,Array.length_toList]
    have b2:e2.size<scanBound:=by rw [sz2];exact b1
    refine wpAny_bind (gw _ (wpAny_bind (wpAny_storeSet_of g1 rfl ?_ (fits_of_scanBound b2))))
    obtain ⟨_,s2⟩:=store_t (P:=P) (S:=fun i=>S i||decide (i=k)) g1 hex rfl (el1.perm pr) (fun i=>(m1 i).trans ⟨fun ⟨e,he,y⟩=>⟨e,pr.mem_iff.mpr he,y⟩,fun ⟨e,he,y⟩=>⟨e,pr.mem_iff.mp he,y⟩⟩) b2 fr tr
    rw [sz2] at s2
    exact wpAny_pure (hR _ (fin _ (sb1.trans (Heap.SameBut.update _ a _)) s2))
   ·exact wpAny_pure (hR _ (fin _ sb1 s1))
  refine wpAny_bind (gw _ ?_)
  split
  ·refine wpAny_bind ?_
   rw [hashByValue_scannable 8 hx]
   refine wpAny_pure ?_
   refine tail _ ?_ ?_ fun h' y=>?_
   ·split
    ·exact ft
    ·exact SetTable.fits_plain_off ft
   ·split
    ·exact tb1
    ·exact tb1.plain false
   ·exact wpAny_pure (y true)
  ·refine wpAny_bind (wpAny_pure ?_)
   simp only [if_true]
   exact tail _ ft tb1 fun h' y=>wpAny_pure (y true)
end
section
variable {P:Program} {w:World} {A:Around} {R:Result->Shared->Prop} {I:Addr} {fp wr:List Addr} {G:Array GenState->Array GenState->Prop} {n:Nat} {Pr:Nat->Value->Prop} {Sn:Nat->Shared->Prop}
theorem upd_t (W:WalksS P w A.in1 I fp wr G n Pr Sn) (S:Addr) (hS:S∉fp) (val:Nat->Int) (hv:∀i v,Pr i v->∃t,v=.int (val i) t) (hb:n+1<scanBound):∀(k i:Nat) (s:Shared),n-i=k->i<=n->Sn i s->SetT P w s.heap S (fun z=>(firstMet val i).any (·==z)) (firstMet val i).length ->
   (∀s',Moved (S::wr) G s s'->SetT P w s'.heap S (fun z=>(firstMet val n).any (·==z)) (firstMet val n).length->R (.ok (.ret .none)) s')->codeAny (model P w) A (.builtin "set.update.loop" ⟨[.ref S,.ref I],[]⟩) R s:=by
 have hw:S∉wr:=fun z=>hS (W.sub _ z)
 have sub:∀b∈wr,b∈S::wr:=fun b z=>mem_cons_of_mem _ z
 intro k
 induction k with
 | zero=>
  intro i s hk hi st x hR
  obtain rfl:i=n:=by omega
  refine codeAny_builtin F.entry_set_update_loop ?_
  rw [Around.under_plainId F.plain_set_update_loop _]
  refine wpAny_bind (W.done s _ _ st fun s' mv=>?_)
  exact wpAny_pure (hR s' (mv.mono sub) (x.at fun o e=>mv.heap S o hw e))
 | succ k ih=>
  intro i s hk hi st x hR
  have lt:i<n:=by omega
  refine codeAny_builtin F.entry_set_update_loop ?_
  rw [Around.under_plainId F.plain_set_update_loop _]
  refine wpAny_bind (W.item i s _ _ lt st fun v s' pv st' mv=>?_)
  obtain ⟨t,rfl⟩:=hv i v pv
  have x':=x.at fun o e=>mv.heap S o hw e
  refine wpAny_bind (wpAny_holding ?_)
  unfold setAdd
  refine wpAny_holding (wpAny_bind ((intKind P w).pyHash (k:=val i) (intKind_is _ _ _ _) ?_))
  have room:(firstMet val i).length+1<scanBound:=by have:=firstMet_length_le val i;omega
  refine add_t (s:={ s' with toks:=s'.toks+1 }) (intKind_is _ _ _ _) rfl x' room fun h' sb x2 b=>?_
  have x3:SetT P w h' S (fun z=>(firstMet val (i+1)).any (·==z)) (firstMet val (i+1)).length:=x2.congr (fun z=>by rw [firstMet_succ,step_any]) (by rw [firstMet_succ,step_length])
  refine wpAny_pure ⟨plainId_quiet F.plain_set_update_loop _,ih (i+1) _ (by omega) lt (W.frame _ s' _ _ st' (Nat.le_succ _) fun c hc o e=>?_) x3 fun s2 mv2 x4=>?_⟩
  ·rw [sb.2 c fun z=>hS (by rw [<-z];exact hc)]
   exact e
  ·refine hR s2 (Moved.trans W.gtrans ((mv.mono sub).then_heap (Nat.le_succ _) fun c o hc e=>?_) mv2) x4
   rw [sb.2 c fun z=>hc (by rw [z];exact mem_cons_self)]
   exact e
end
section
variable {P:Program} {w:World} {A:Around} {E:Value->Shared->Prop} {s:Shared}
abbrev newO (w:World):Obj:={ cls:=.type "set",dict:=none,data:=.set #[] 0 (.fresh 0 0 (!byTx w)) }
theorem new_t (a:Value) {Q:Value->Shared->Prop} (h:Q (.ref s.heap.objs.size) { s with heap:=s.heap.push (newO w) }):codeAny (model P w) A (.call (.builtin "set.__new__") ⟨[.type "set",a],[]⟩) (wants Q E) s:=by
 refine codeAny_of_tree ?_
 refine wpAny_bind (wpAny_of_eq (F.newCall_set_1 a) (wpAny_pure ⟨plainId_quiet F.plain_set_new _,codeAny_builtin F.entry_set_new ?_⟩))
 rw [Around.under_plainId F.plain_set_new _]
 unfold Builtin.«set.__new__» Builtin.Frozenset.newClass
 have sub:=sub_set_self
 obtain ⟨hp,g,d,tk,os⟩:=s
 dsimp only
 wp_walk
 refine wpAny_askSetting (wpAny_pure ?_)
 dsimp only
 simp only [newObj]
 exact wpAny_bind (wpAny_alloc (wpAny_pure (wpAny_pure h)))
theorem fresh_t (e:h.get? a=some (newO w)):SetT P w h a (fun _=>false) 0:=
 ⟨_,#[],0,_,e,⟨rfl,rfl,rfl⟩,rfl,fun e he=>by simp at he,fun k=>by simp,by decide,rfl,rfl,Tb.fresh⟩
theorem call_set_t {l:Addr} {its:Array Value} {Q:Value->Shared->Prop} (hh:A.handled=none) (hl:s.heap.IsList l its) (hi:IntsAre its.toList ns) (hb:its.size+1<scanBound)
  (h:∀(h':Heap) (tk:Nat),SetT P w h' s.heap.objs.size (fun z=>(firstMet (fun i=>ns.getD i 0) its.size).any (·==z)) (firstMet (fun i=>ns.getD i 0) its.size).length->(∀b o,s.heap.get? b=some o->h'.get? b=some o)->Q (.ref s.heap.objs.size) { s with heap:=h',toks:=tk }) :
  wpAny (model P w) A (call (.type "set") [.ref l]) Q E s:=by
 obtain ⟨c,tl,mro⟩:=F.called_set.mro
 have made:=F.called_set.made
 have sub:=F.called_set.sub
 refine wpAny_call (codeAny_of_tree ?_)
 show wpAny _ _ (callAny (.type "set") _) _ _ _
 refine wpAny_pure ⟨Code.quiet_builtin _ (by decide +kernel),codeAny_builtin F.entry_type_call ?_⟩
 rw [Around.under_plain (weight_type_call_type "set" [.ref l] []) rfl]
 have h1:=F.called_set.notType
 have h2:=F.called_set.canCreate
 have ct:=F.typeCall_set_1 (.ref l)
 repeat (any_goals (first | assumption | wp_step))
 refine codeAny_mono (new_t (.ref l) (E:=E) (Q:=fun ob s1=>ob=.ref s.heap.objs.size/\s1={ s with heap:=s.heap.push (newO w) }) ⟨rfl,rfl⟩) fun r s1 hr=>?_
 cases r with
 | error e=>exact hr
 | ok fl=>
  cases fl with
  | ret ob=>
   obtain ⟨rfl,rfl⟩:=hr
   have gS:(s.heap.push (newO w)).get? s.heap.objs.size=some (newO w):=Heap.get?_push_size _ rfl
   have ty:Shared.TypeIs { s with heap:=s.heap.push (newO w) } (.ref s.heap.objs.size) "set":=⟨_,gS,rfl⟩
   have li:=F.called_set.init.lookup
   have bi:=F.called_set.init.bind (.ref s.heap.objs.size)
   repeat (any_goals (first | assumption | wp_step))
   refine codeAny_mono (codeAny_call_builtin (R:=wants (fun r s2=>r=.none/\∃h' tk,s2={ s with heap:=h',toks:=tk }/\SetT P w h' s.heap.objs.size (fun z=>(firstMet (fun i=>ns.getD i 0) its.size).any (·==z)) (firstMet (fun i=>ns.getD i 0) its.size).length/\(∀b o,s.heap.get? b=some o->h'.get? b=some o)) E) F.called_set.init.plain F.entry_set_init (check_set_init_1 ty ?_)) fun r2 s2 hr2=>?_
   ·have hl':=hl
    obtain ⟨ol,gl,cl,nl,dl⟩:=hl
    obtain ⟨oc,od,odt,os⟩:=ol
    simp only at cl dl
    subst cl dl
    have gl':(s.heap.push (newO w)).get? l=some { cls:=.type "list",dict:=od,data:=.seq its nl,slots:=os }:=Heap.get?_push_of_some _ gl
    have s1:=F.sub_list_set
    have s2:=F.sub_list_frozenset
    have ne:(Value.type "list"==Value.type "dict")=false:=by decide
    have l1:(s.heap.push (newO w)).IsList l its:=⟨_,gl',rfl,nl,rfl⟩
    unfold Builtin.«set.__init__» noKeywords Builtin.Frozenset.updateFrom
    generalize hPI:pyIter=PI
    wp_walk
    subst hPI
    refine wpAny_pyIter_list l1 (wpAny_bind (wpAny_runValue ?_))
    have lS:l<s.heap.objs.size:=Heap.lt_size gl
    have h3:A.in1.in1.in1.handled=none:=by simp [hh]
    have nI:l≠(s.heap.push (newO w)).objs.size:=by
     rw [Heap.size_push]
     exact Nat.ne_of_lt (Nat.lt_succ_of_lt lS)
    have nf:s.heap.objs.size∉[(s.heap.push (newO w)).objs.size,l]:=by
     rw [Heap.size_push]
     simp only [mem_cons,not_mem_nil,or_false,not_or]
     exact ⟨Nat.ne_of_lt (Nat.lt_succ_self _),Nat.ne_of_gt lS⟩
    refine upd_t ((Walks.list h3 _ l nI its).toS) s.heap.objs.size nf (fun i=>ns.getD i 0) (fun i v e=>IntsAre.int_at hi i v (by rw [Array.getElem?_toList];exact e)) hb (its.size-0) 0 _ (by omega) (Nat.zero_le _) ⟨⟨_,Heap.get?_push_size _ rfl,rfl,rfl⟩,l1.push _⟩ ?_ fun s' mv x=>?_
    ·exact (fresh_t (Heap.get?_push_of_some _ gS)).congr (fun _=>rfl) rfl
    ·obtain ⟨h',g',d',tk',os'⟩:=s'
     have e1:g'=s.gens:=mv.gens
     have e2:d'=s.drawn:=mv.drawn
     have e3:os'=s.os:=mv.os
     subst e1 e2 e3
     refine wpAny_pure (wpAny_pure ⟨rfl,h',tk',rfl,x,fun b o e=>?_⟩)
     have hb1:b≠s.heap.objs.size:=Nat.ne_of_lt (Heap.lt_size e)
     have hb2:b≠(s.heap.push (newO w)).objs.size:=by
      rw [Heap.size_push]
      exact Nat.ne_of_lt (Nat.lt_succ_of_lt (Heap.lt_size e))
     exact mv.heap b o (by simp only [mem_cons,not_mem_nil,or_false,not_or];exact ⟨hb1,hb2⟩) (Heap.get?_push_of_some _ (Heap.get?_push_of_some _ e))
   ·cases r2 with
    | error e=>exact hr2
    | ok f2=>
     cases f2 with
     | ret r=>
      obtain ⟨rfl,h',tk,rfl,x,kp⟩:=hr2
      repeat (any_goals (first | assumption | wp_step))
      exact h _ _ x kp
     | _=>exact hr2.elim
  | _=>exact hr.elim
end
theorem entry_set_it:entryFor table "set.__iter__"=some Builtin.«frozenset.__iter__»:=entryFor_alias (id' := "frozenset.__iter__") (by kernel_rfl) rfl (by decide +kernel) (by kernel_rfl)
theorem slot_si_next:Slot "set_iterator" "__next__" "set_iterator.__next__":=
 .of (owner := "set_iterator") (n := "__next__") (by rw [typeLookup_type,builtinLookup_eq_fast];kernel_rfl) (by decide +kernel) (by decide +kernel) (by decide +kernel) (by first | exact .inl (by decide +kernel) | exact .inr (by decide +kernel)) (by rw [isSubtype_type];kernel_rfl)
theorem entry_si_next:entryFor table "set_iterator.__next__"=some Builtin.«set_iterator.__next__»:=entryFor_of_tree (by kernel_rfl)
theorem args_si_next (a:Value):argsOk "set_iterator.__next__" ⟨[a],[]⟩:=by
 unfold argsOk
 rw [signature?_of (id := "set_iterator.__next__") (n:=['_','_','t','x','e','n','_','_']) (o:=['r','o','t','a','r','e','t','i','_','t','e','s']) (by kernel_rfl) (show Manifest.owners.lookup (String.ofList ['r','o','t','a','r','e','t','i','_','t','e','s'].reverse)=some Manifest.sig_set_iterator by kernel_rfl)]
 kernel_rfl
theorem pick_go {α:Type} (next:Nat->Nat):∀(fuel k:Nat) (l:List α) (out:Array α),l.length=fuel->(pickOrder.go next fuel k l out).toList.Perm (out.toList++l)
 | 0,k,l,out,h=>by
  unfold pickOrder.go
  rw [List.length_eq_zero_iff.mp h,append_nil]
 | n+1,k,l,out,h=>by
  unfold pickOrder.go
  have lt:next k % l.length<l.length:=Nat.mod_lt _ (by omega)
  generalize next k % l.length=j at lt
  rw [getElem?_eq_getElem lt]
  simp only
  have ih:=pick_go next n (k+1) (l.eraseIdx j) (out.push l[j]) (by rw [List.length_eraseIdx_of_lt lt];omega)
  refine ih.trans ?_
  rw [Array.toList_push,append_assoc]
  refine List.Perm.append_left _ ?_
  rw [List.singleton_append]
  rw [List.eraseIdx_eq_take_drop_succ]
  have e:l=l.take j++l[j]::l.drop (j+1):=by rw [List.getElem_cons_drop,take_append_drop]
  conv=>rhs;rw [e]
  exact List.perm_middle.symm
theorem pick_perm (next:Nat->Nat) (xs:Array α):(pickOrder next xs).toList.Perm xs.toList:=by
 unfold pickOrder
 have:=pick_go next xs.size 0 xs.toList #[] (by simp)
 simpa using this
section
variable {P:Program} {w:World} {A:Around} {E:Value->Shared->Prop} {s:Shared} {S it:Addr} {o:Obj} {es:Array (Int×Value)} {ep:Nat} {t:SetTable}
theorem next_tx (ht:byTx w=true) (ho:s.heap.get? S=some o) (hd:o.data=.set es ep t) (hf:t.fits es.size=true) {i:Nat} {Q:Option (Value×Nat)->Shared->Prop} (h:Q (((pickOrder (w.params.setOrder S ep) es)[i]?).map fun e=>(e.2,sl)) s):wpAny (model P w) A (setNext S sl i ep) Q E s:=by
 unfold setNext
 refine wpAny_bind (wpAny_setState_of ho hd hf ?_)
 dsimp only
 refine wpAny_bind ?_
 unfold setsByText
 refine wpAny_bind (wpAny_askSetting (wpAny_pure ?_))
 show wpAny (model P w) A (if byTx w=true then _ else _) Q E s
 rw [if_pos ht]
 simp only [bne_self_eq_false,Bool.false_eq_true,if_false]
 refine wpAny_bind ?_
 unfold setWalk
 refine wpAny_bind (wpAny_setState_of ho hd hf ?_)
 dsimp only
 refine wpAny_bind ?_
 unfold setsByText
 refine wpAny_bind (wpAny_askSetting (wpAny_pure ?_))
 show wpAny (model P w) A (if byTx w=true then _ else _) _ E s
 rw [if_pos ht]
 exact wpAny_bind (wpAny_askSetting (wpAny_pure (wpAny_pure h)))
theorem fits_size (hf:t.fits es.size=true):t.place.size=es.size:=by
 unfold SetTable.fits at hf
 rw [Bool.and_eq_true,beq_iff_eq] at hf
 exact hf.1
theorem next_pl (ht:byTx w=false) (tb:Tb (byTx w) t) (hp:(!t.plain&&decide (es.size>1))=false) (ho:s.heap.get? S=some o) (hd:o.data=.set es ep t) (hf:t.fits es.size=true) {i:Nat} {Q:Option (Value×Nat)->Shared->Prop}
  (h:Q (match es[SetTable.below t.place sl]?,t.place[SetTable.below t.place sl]? with | some (_,x),some j=>some (x,j+1) | _,_=>none) s):wpAny (model P w) A (setNext S sl i ep) Q E s:=by
 have led:=tb.led ht
 unfold setNext
 refine wpAny_bind (wpAny_setState_of ho hd hf ?_)
 dsimp only
 refine wpAny_bind ?_
 unfold setsByText
 refine wpAny_bind (wpAny_askSetting (wpAny_pure ?_))
 show wpAny (model P w) A (if byTx w=true then _ else _) Q E s
 rw [if_neg (by rw [ht];exact Bool.false_ne_true)]
 show wpAny (model P w) A (if (!t.plain&&decide (es.size>1))=true then _ else _) Q E s
 rw [if_neg (by rw [hp];exact Bool.false_ne_true)]
 show wpAny (model P w) A ((if (!t.led&&!es.isEmpty)=true then _ else _) >>= _) Q E s
 rw [if_neg (by rw [led];simp)]
 exact wpAny_bind (wpAny_pure (wpAny_pure h))
end
def SetIt (h:Heap) (it S:Addr) (f:Value) (i n ep:Nat):Prop:=∃o,h.get? it=some o/\o.cls=.type "set_iterator"/\o.data=.fields #[f,.int i 0,.ref S,.int n 0,.int ep 0]
theorem SetIt.at {it S:Addr} {f:Value} {i:Nat} (x:SetIt h it S f i n ep) (k:∀o,h.get? it=some o->h'.get? it=some o):SetIt h' it S f i n ep:=let ⟨o,a,b⟩:=x;⟨o,k o a,b⟩
section
variable {P:Program} {w:World} {A:Around} {E:Value->Shared->Prop} {s:Shared} {S it:Addr} {o:Obj} {es:Array (Int×Value)} {ep:Nat} {t:SetTable} {i n sl nx:Nat} {x:Value} {Q:Option Value->Shared->Prop}
theorem item_int (hit:SetIt s.heap it S (.int sl 0) i n ep) (ho:s.heap.get? S=some o) (hd:o.data=.set es ep t) (hf:t.fits es.size=true) (hn:es.size=n)
  (hN:∀(A:Around) (E:Value->Shared->Prop) (R:Option (Value×Nat)->Shared->Prop),R (some (x,nx)) s->wpAny (model P w) A (setNext S sl i ep) R E s)
  (hQ:∀h',SetIt h' it S (.int nx 0) (i+1) n ep->Heap.SameBut it s.heap h'->Q (some x) { s with heap:=h' }):wpAny (model P w) A (pyNext (.ref it)) Q E s:=by
 obtain ⟨oi,gi,ci,di⟩:=hit
 have ty:s.TypeIs (.ref it) "set_iterator":=⟨oi,gi,ci⟩
 unfold pyNext
 refine wpAny_bind (wpAny_attempt (wpAny_callSpecial?_slot (name:=Str.ofString "__next__") ty slot_si_next (wpAny_call_entry slot_si_next ty entry_si_next ?_ (args_si_next _))))
 unfold Builtin.«set_iterator.__next__»
 refine wpAny_bind (wpAny_pure ?_)
 refine wpAny_bind (wpAny_fieldsOf gi di ?_)
 dsimp only
 refine wpAny_bind (wpAny_setEntries_of ho hd hf ?_)
 rw [if_neg (by rw [hn];simp)]
 simp only [Int.toNat_natCast]
 refine wpAny_bind (hN _ _ _ ?_)
 dsimp only
 refine wpAny_bind (wpAny_setField gi di (by simp) ?_)
 have g1:=Heap.get?_update_self (Obj.mapFields (·.setIfInBounds 0 (rawInt nx))) gi (Obj.isFreed_of_fields (Obj.data_mapFields di _))
 have d1:=Obj.data_mapFields di (·.setIfInBounds 0 (rawInt nx))
 refine wpAny_bind (wpAny_setField g1 d1 (by simp) (wpAny_pure ⟨x,rfl,wpAny_pure (hQ _ ?_ ((Heap.SameBut.update ..).trans (Heap.SameBut.update ..)))⟩))
 refine ⟨_,Heap.get?_update_self _ g1 (Obj.isFreed_of_fields (Obj.data_mapFields d1 _)),(Obj.cls_mapFields ..).trans ((Obj.cls_mapFields ..).trans ci),?_⟩
 rw [Obj.data_mapFields d1]
 simp [rawInt]
theorem end_int (hh:A.handled=none) (hit:SetIt s.heap it S (.int sl 0) i n ep) (ho:s.heap.get? S=some o) (hd:o.data=.set es ep t) (hf:t.fits es.size=true) (hn:es.size=n)
  (hN:∀(A:Around) (E:Value->Shared->Prop) (R:Option (Value×Nat)->Shared->Prop),R none s->wpAny (model P w) A (setNext S sl i ep) R E s)
  (hQ:∀h',Heap.ExtBut it s.heap h'->Q none { s with heap:=h' }):wpAny (model P w) A (pyNext (.ref it)) Q E s:=by
 obtain ⟨oi,gi,ci,di⟩:=hit
 have ty:s.TypeIs (.ref it) "set_iterator":=⟨oi,gi,ci⟩
 unfold pyNext
 refine wpAny_bind (wpAny_attempt (wpAny_callSpecial?_slot (name:=Str.ofString "__next__") ty slot_si_next (wpAny_call_entry slot_si_next ty entry_si_next ?_ (args_si_next _))))
 unfold Builtin.«set_iterator.__next__»
 refine wpAny_bind (wpAny_pure ?_)
 refine wpAny_bind (wpAny_fieldsOf gi di ?_)
 dsimp only
 refine wpAny_bind (wpAny_setEntries_of ho hd hf ?_)
 rw [if_neg (by rw [hn];simp)]
 simp only [Int.toNat_natCast]
 refine wpAny_bind (hN _ _ _ ?_)
 dsimp only
 refine wpAny_bind (wpAny_setField gi di (by simp) ?_)
 refine wpAny_bind ?_
 simp only [newExc,newTuple]
 refine wpAny_bind (wpAny_newObj_type ?_ (by size_fits))
 refine wpAny_bind (m:=firstArgMember _ _) (wpAny_of_eq (a:=Value.none) (by first | rfl | (simp only [firstArgMember];rfl)) ?_)
 refine wpAny_newObj_type ?_ (by size_fits)
 simp only [raiseNew]
 refine wpAny_bind (wpAny_handled ?_)
 rw [show A.in1.handled=none from hh]
 refine wpAny_bind (wpAny_pure (wpAny_throw ?_))
 refine wpAny_bind (wpAny_isInstance (T := "StopIteration") (b:=true) ⟨_,Heap.get?_push_size _ rfl,rfl⟩ isSubtype_stop ?_)
 exact wpAny_pure (hQ _ (((Heap.SameBut.update ..).extBut.push _).push _))
end
theorem slot_si_iter:Slot "set_iterator" "__iter__" "set_iterator.__iter__":=
 .of (owner := "set_iterator") (n := "__iter__") (by rw [typeLookup_type,builtinLookup_eq_fast];kernel_rfl) (by decide +kernel) (by decide +kernel) (by decide +kernel) (by first | exact .inl (by decide +kernel) | exact .inr (by decide +kernel)) (by rw [isSubtype_type];kernel_rfl)
theorem entry_si_iter:entryFor table "set_iterator.__iter__"=some Builtin.«dict_keyiterator.__iter__»:=entryFor_alias (id' := "dict_keyiterator.__iter__") (by kernel_rfl) (by first | rfl | decide +kernel) (by decide +kernel) (by kernel_rfl)
theorem args_si_iter (a:Value):argsOk "set_iterator.__iter__" ⟨[a],[]⟩:=by
 unfold argsOk
 rw [signature?_of (id := "set_iterator.__iter__") (n:=['_','_','r','e','t','i','_','_']) (o:=['r','o','t','a','r','e','t','i','_','t','e','s']) (by kernel_rfl) (show Manifest.owners.lookup (String.ofList ['r','o','t','a','r','e','t','i','_','t','e','s'].reverse)=some Manifest.sig_set_iterator by kernel_rfl)]
 kernel_rfl
section
variable {P:Program} {w:World} {A:Around} {E:Value->Shared->Prop} {s:Shared} {S it:Addr} {o:Obj} {es:Array (Int×Value)} {ep:Nat} {t:SetTable} {i n:Nat} {f:Value}
theorem self_si {Q:Value->Shared->Prop} (hit:SetIt s.heap it S f i n ep) (h:Q (.ref it) s):wpAny (model P w) A (pyIter (.ref it)) Q E s:=by
 obtain ⟨oi,gi,ci,_⟩:=hit
 have ty:s.TypeIs (.ref it) "set_iterator":=⟨oi,gi,ci⟩
 refine wpAny_pyIter_slot ty slot_si_iter (wpAny_call_entry slot_si_iter ty entry_si_iter ?_ (args_si_iter _))
 show wpAny _ _ (ret (.ref it)) _ _ s
 exact wpAny_pure ⟨_,rfl, "set_iterator",_,ty,slot_si_next.lookup,h⟩
theorem walk_tx (hh:A.handled=none) (ht:byTx w=true) (hne:S≠it) (hd:o.data=.set es ep t) (hf:t.fits es.size=true) (hn:es.size=n) :
  Walks P w A it [it,S] [it] n (fun i v=>((pickOrder (w.params.setOrder S ep) es).toList.map (·.2))[i]?=some v) (fun i h=>SetIt h it S (.int 0 0) i n ep/\h.get? S=some o) where
 sub:=fun b hb=>by simp at hb;simp [hb]
 frame:=fun _ _ _ st hk=>⟨st.1.at fun o e=>hk it (by simp) o e,hk S (by simp) o st.2⟩
 item:=fun i s Q E hi st hQ=>by
  have hl:(pickOrder (w.params.setOrder S ep) es).size=n:=by rw [<-Array.length_toList,(pick_perm _ es).length_eq,Array.length_toList,hn]
  have hi':i<(pickOrder (w.params.setOrder S ep) es).size:=by rw [hl];exact hi
  refine item_int (x:=((pickOrder (w.params.setOrder S ep) es)[i]).2) (nx:=0) st.1 st.2 hd hf hn (fun A E R h=>next_tx ht st.2 hd hf (by rw [Array.getElem?_eq_getElem hi'];exact h)) fun h' it' sb=>?_
  exact hQ _ h' s.toks (by rw [getElem?_map,Array.getElem?_toList,Array.getElem?_eq_getElem hi'];rfl) ⟨it',sb.extBut S o hne st.2⟩ fun b o hb e=>sb.extBut b o (fun z=>hb (by simp [z])) e
 done:=fun s Q E st hQ=>by
  have hl:(pickOrder (w.params.setOrder S ep) es).size=n:=by rw [<-Array.length_toList,(pick_perm _ es).length_eq,Array.length_toList,hn]
  exact end_int hh st.1 st.2 hd hf hn (fun A E R h=>next_tx ht st.2 hd hf (by rw [Array.getElem?_eq_none (by omega)];exact h)) fun h' eb=>hQ h' s.toks fun b o hb e=>eb b o (fun z=>hb (by simp [z])) e
 self:=fun _ _ _ _ st hQ=>self_si st.1 hQ
abbrev slAt (t:SetTable) (i:Nat):Nat:=if i=0 then 0 else t.place.getD (i-1) 0+1
theorem sl_below (tb:Tb (byTx w) t) (hf:t.fits es.size=true) (hi:i<=es.size):SetTable.below t.place (slAt t i)=i:=by
 have hs:=fits_size hf
 unfold slAt
 by_cases c:i=0
 ·rw [if_pos c,c]
  exact below_zero
 ·rw [if_neg c,getD_in (by omega),below_next tb.rs (by omega)]
  omega
theorem walk_pl (hh:A.handled=none) (ht:byTx w=false) (tb:Tb (byTx w) t) (hp:(!t.plain&&decide (es.size>1))=false) (hne:S≠it) (hd:o.data=.set es ep t) (hf:t.fits es.size=true) (hn:es.size=n) :
  Walks P w A it [it,S] [it] n (fun i v=>(es.toList.map (·.2))[i]?=some v) (fun i h=>SetIt h it S (.int (slAt t i) 0) i n ep/\h.get? S=some o) where
 sub:=fun b hb=>by simp at hb;simp [hb]
 frame:=fun _ _ _ st hk=>⟨st.1.at fun o e=>hk it (by simp) o e,hk S (by simp) o st.2⟩
 item:=fun i s Q E hi st hQ=>by
  have hs:=fits_size hf
  have hi':i<es.size:=by omega
  have hi2:i<t.place.size:=by omega
  refine item_int (x:=(es[i]).2) (nx:=slAt t (i+1)) st.1 st.2 hd hf hn (fun A E R h=>next_pl ht tb hp st.2 hd hf ?_) fun h' it' sb=>?_
  ·rw [sl_below tb hf (by omega),Array.getElem?_eq_getElem hi',Array.getElem?_eq_getElem hi2]
   have e:slAt t (i+1)=t.place[i]+1:=by
    unfold slAt
    rw [if_neg (by omega),Nat.add_sub_cancel,getD_in hi2]
   rw [e] at h
   exact h
  ·exact hQ _ h' s.toks (by rw [getElem?_map,Array.getElem?_toList,Array.getElem?_eq_getElem hi'];rfl) ⟨it',sb.extBut S o hne st.2⟩ fun b o hb e=>sb.extBut b o (fun z=>hb (by simp [z])) e
 done:=fun s Q E st hQ=>by
  refine end_int hh st.1 st.2 hd hf hn (fun A E R h=>next_pl ht tb hp st.2 hd hf ?_) fun h' eb=>hQ h' s.toks fun b o hb e=>eb b o (fun z=>hb (by simp [z])) e
  rw [sl_below tb hf (by omega),Array.getElem?_eq_none (by omega)]
  exact h
 self:=fun _ _ _ _ st hQ=>self_si st.1 hQ
theorem ask_choose {src:Source} {Q:Nat->Shared->Prop} (hn:n≠0) (h:Q (M.w.draws src (s.drawn.get src) % n) { s with drawn:=s.drawn.bump src }):wpAny M A (choose src n) Q E s:=fun _ _ _=>⟨hn,h⟩
theorem draw_perm (n:Nat):∀(l:List α) (s:Shared) {Q:List α->Shared->Prop},l.length=n->(∀l' d,l'.Perm l->Q l' { s with drawn:=d })->wpAny M A (drawOrder n l) Q E s:=by
 induction n with
 | zero=>
  intro l s Q hl h
  rw [List.length_eq_zero_iff.mp hl] at h ⊢
  have:=h [] s.drawn (List.Perm.refl _)
  have e:s={ s with drawn:=s.drawn }:=by cases s;rfl
  unfold drawOrder
  rw [e]
  exact wpAny_pure this
 | succ n ih=>
  intro l s Q hl h
  cases l with
  | nil=>cases hl
  | cons a l=>
   unfold drawOrder
   refine wpAny_bind (ask_choose (by simp) ?_)
   have lt:M.w.draws Source.order (s.drawn.get Source.order) % (a::l).length<(a::l).length:=Nat.mod_lt _ (by simp)
   generalize M.w.draws Source.order (s.drawn.get Source.order) % (a::l).length=j at lt
   rw [getElem?_eq_getElem lt]
   dsimp only
   refine wpAny_bind (ih _ _ (by rw [List.length_eraseIdx_of_lt lt];omega) fun l' d pm=>wpAny_pure (h _ d ?_))
   refine (List.Perm.cons _ pm).trans ?_
   rw [List.eraseIdx_eq_take_drop_succ]
   have e:(a::l)=(a::l).take j++(a::l)[j]::(a::l).drop (j+1):=by rw [List.getElem_cons_drop,take_append_drop]
   conv=>rhs;rw [e]
   exact List.perm_middle.symm
end
section
variable {P:Program} {w:World} {A:Around} {E:Value->Shared->Prop} {s:Shared} {S it T:Addr} {o oT:Obj} {es:Array (Int×Value)} {ep c:Nat} {t:SetTable} {i n:Nat} {x:Value} {pl:List Nat} {Q:Option Value->Shared->Prop}
abbrev plV (pl:List Nat):Array Value:=(pl.map fun (i:Nat)=>rawInt i).toArray
theorem item_dr (hit:SetIt s.heap it S (.ref T) i n ep) (ho:s.heap.get? S=some o) (hd:o.data=.set es ep t) (hf:t.fits es.size=true) (hn:es.size=n) (hT:s.heap.get? T=some oT) (dT:oT.data=.seq (plV pl) c)
  {p:Nat} {e:Int×Value} (hp:pl[i]?=some p) (he:es[p]?=some e)
  (hQ:∀h',SetIt h' it S (.ref T) (i+1) n ep->Heap.SameBut it s.heap h'->Q (some e.2) { s with heap:=h' }):wpAny (model P w) A (pyNext (.ref it)) Q E s:=by
 obtain ⟨oi,gi,ci,di⟩:=hit
 have ty:s.TypeIs (.ref it) "set_iterator":=⟨oi,gi,ci⟩
 unfold pyNext
 refine wpAny_bind (wpAny_attempt (wpAny_callSpecial?_slot (name:=Str.ofString "__next__") ty slot_si_next (wpAny_call_entry slot_si_next ty entry_si_next ?_ (args_si_next _))))
 unfold Builtin.«set_iterator.__next__»
 refine wpAny_bind (wpAny_pure ?_)
 refine wpAny_bind (wpAny_fieldsOf gi di ?_)
 dsimp only
 refine wpAny_bind (wpAny_setEntries_of ho hd hf ?_)
 rw [if_neg (by rw [hn];simp)]
 refine wpAny_bind (wpAny_seqItems hT dT ?_)
 have e1:(plV pl)[Int.toNat (i:Int)]?=some (rawInt p):=by
  rw [Int.toNat_natCast,getElem?_toArray,getElem?_map,hp]
  rfl
 dsimp only
 rw [e1]
 simp only [rawInt,Int.toNat_natCast]
 refine wpAny_bind ?_
 unfold setNextDrawn
 refine wpAny_bind (wpAny_setState_of ho hd hf ?_)
 dsimp only
 simp only [bne_self_eq_false,Bool.false_eq_true,if_false]
 rw [he]
 refine wpAny_pure ?_
 refine wpAny_bind (wpAny_setField gi di (by simp) (wpAny_pure ⟨e.2,rfl,wpAny_pure (hQ _ ?_ (Heap.SameBut.update ..))⟩))
 refine ⟨_,Heap.get?_update_self _ gi (Obj.isFreed_of_fields (Obj.data_mapFields di _)),(Obj.cls_mapFields ..).trans ci,?_⟩
 rw [Obj.data_mapFields di]
 simp [rawInt]
theorem end_dr (hh:A.handled=none) (hit:SetIt s.heap it S (.ref T) i n ep) (ho:s.heap.get? S=some o) (hd:o.data=.set es ep t) (hf:t.fits es.size=true) (hn:es.size=n) (hT:s.heap.get? T=some oT) (dT:oT.data=.seq (plV pl) c)
  (hp:pl[i]?=none) (hQ:∀h',Heap.ExtBut it s.heap h'->Q none { s with heap:=h' }):wpAny (model P w) A (pyNext (.ref it)) Q E s:=by
 obtain ⟨oi,gi,ci,di⟩:=hit
 have ty:s.TypeIs (.ref it) "set_iterator":=⟨oi,gi,ci⟩
 unfold pyNext
 refine wpAny_bind (wpAny_attempt (wpAny_callSpecial?_slot (name:=Str.ofString "__next__") ty slot_si_next (wpAny_call_entry slot_si_next ty entry_si_next ?_ (args_si_next _))))
 unfold Builtin.«set_iterator.__next__»
 refine wpAny_bind (wpAny_pure ?_)
 refine wpAny_bind (wpAny_fieldsOf gi di ?_)
 dsimp only
 refine wpAny_bind (wpAny_setEntries_of ho hd hf ?_)
 rw [if_neg (by rw [hn];simp)]
 refine wpAny_bind (wpAny_seqItems hT dT ?_)
 have e1:(plV pl)[Int.toNat (i:Int)]?=none:=by
  rw [Int.toNat_natCast,getElem?_toArray,getElem?_map,hp]
  rfl
 dsimp only
 rw [e1]
 dsimp only
 refine wpAny_bind (wpAny_setField gi di (by simp) ?_)
 have g1:=Heap.get?_update_self (Obj.mapFields (·.setIfInBounds 0 (rawInt 0))) gi (Obj.isFreed_of_fields (Obj.data_mapFields di _))
 have d1:=Obj.data_mapFields di (·.setIfInBounds 0 (rawInt 0))
 refine wpAny_bind (wpAny_setField g1 d1 (by simp) ?_)
 refine wpAny_bind ?_
 simp only [newExc,newTuple]
 refine wpAny_bind (wpAny_newObj_type ?_ (by size_fits))
 refine wpAny_bind (m:=firstArgMember _ _) (wpAny_of_eq (a:=Value.none) (by first | rfl | (simp only [firstArgMember];rfl)) ?_)
 refine wpAny_newObj_type ?_ (by size_fits)
 simp only [raiseNew]
 refine wpAny_bind (wpAny_handled ?_)
 rw [show A.in1.handled=none from hh]
 refine wpAny_bind (wpAny_pure (wpAny_throw ?_))
 refine wpAny_bind (wpAny_isInstance (T := "StopIteration") (b:=true) ⟨_,Heap.get?_push_size _ rfl,rfl⟩ isSubtype_stop ?_)
 exact wpAny_pure (hQ _ ((((Heap.SameBut.update ..).trans (Heap.SameBut.update ..)).extBut.push _).push _))
theorem walk_dr (hh:A.handled=none) (hne:S≠it) (hneT:T≠it) (hd:o.data=.set es ep t) (hf:t.fits es.size=true) (hn:es.size=n) (dT:oT.data=.seq (plV pl) c) (hl:pl.length=n) (hm:∀p∈pl,p<n) :
  Walks P w A it [it,S,T] [it] n (fun i v=>(pl.map fun p=>(es.getD p (0,.none)).2)[i]?=some v) (fun i h=>SetIt h it S (.ref T) i n ep/\h.get? S=some o/\h.get? T=some oT) where
 sub:=fun b hb=>by simp at hb;simp [hb]
 frame:=fun _ _ _ st hk=>⟨st.1.at fun o e=>hk it (by simp) o e,hk S (by simp) o st.2.1,hk T (by simp) oT st.2.2⟩
 item:=fun i s Q E hi st hQ=>by
  have hi':i<pl.length:=by omega
  have hp:pl[i]<es.size:=by
   rw [hn]
   exact hm _ (getElem_mem hi')
  refine item_dr st.1 st.2.1 hd hf hn st.2.2 dT (getElem?_eq_getElem hi') (Array.getElem?_eq_getElem hp) fun h' it' sb=>?_
  refine hQ _ h' s.toks ?_ ⟨it',sb.extBut S o hne st.2.1,sb.extBut T oT hneT st.2.2⟩ fun b o hb e=>sb.extBut b o (fun z=>hb (by simp [z])) e
  rw [getElem?_map,getElem?_eq_getElem hi']
  simp [Array.getD,hp]
 done:=fun s Q E st hQ=>end_dr hh st.1 st.2.1 hd hf hn st.2.2 dT (getElem?_eq_none (by omega)) fun h' eb=>hQ h' s.toks fun b o hb e=>eb b o (fun z=>hb (by simp [z])) e
 self:=fun _ _ _ _ st hQ=>self_si st.1 hQ
end
section
variable {P:Program} {w:World} {A:Around} {E:Value->Shared->Prop} {s:Shared} {S:Addr} {o:Obj} {es:Array (Int×Value)} {ep:Nat} {t:SetTable} {Q:Value->Shared->Prop}
theorem map_range_getD (es:Array (Int×Value)):(List.range es.size).map (fun p=>(es.getD p (0,.none)).2)=es.toList.map (·.2):=by
 apply ext_getElem
 ·simp
 ·intro i h1 h2
  have hi:i<es.size:=by simpa using h1
  simp [Array.getD,hi]
theorem iter_set (hh:A.handled=none) (ho:s.heap.get? S=some o) (hc:o.cls=.type "set") (hd:o.data=.set es ep t) (hf:t.fits es.size=true) (hb:es.size<scanBound) (tb:Tb (byTx w) t)
  (h:∀(h':Heap) (dr:Drawn) (it:Addr) (fp:List Addr) (us:List Value) (St:Nat->Heap->Prop),(∀b o,s.heap.get? b=some o->h'.get? b=some o)->us.Perm (es.toList.map (·.2))->s.heap.objs.size<=it->(∀b∈fp,b<h'.objs.size/\(b=S\/s.heap.objs.size<=b)) ->
   Walks P w A it fp [it] es.size (fun i v=>us[i]?=some v) St->St 0 h'->Q (.ref it) { s with heap:=h',drawn:=dr }) :
  wpAny (model P w) A (pyIter (.ref S)) Q E s:=by
 have ty:s.TypeIs (.ref S) "set":=⟨o,ho,hc⟩
 have lS:S<s.heap.objs.size:=Heap.lt_size ho
 refine wpAny_pyIter_slot ty F.slot_set_iter (wpAny_call_entry F.slot_set_iter ty entry_set_it ?_ (F.args_set_iter_1 _))
 unfold Builtin.«frozenset.__iter__»
 refine wpAny_bind (wpAny_pure ?_)
 refine wpAny_bind ?_
 unfold Builtin.Frozenset.sizeOf
 refine wpAny_bind (wpAny_setEntries_of ho hd hf (wpAny_pure ?_))
 have hsz:es.size<=sizeLine:=Nat.le_of_lt (Nat.lt_of_lt_of_le hb (by decide))
 have fin:∀(first:Value) (s':Shared) (h1:s'.heap.get? S=some o),Q (.ref s'.heap.objs.size) { s' with heap:=s'.heap.push { cls:=.type "set_iterator",data:=.fields #[first,.int 0 0,.ref S,.int es.size 0,.int ep 0] } } ->
   wpAny (model P w) A.in1 (do
    let e <-setEpoch S
    let r <-newFields "set_iterator" [first,rawInt 0,Value.ref S,rawInt ↑es.size,rawInt ↑e]
    ret r) (fun fin s'=>∃v,fin=Fin.done (Flow.ret v)/\∃T' r,s'.TypeIs v T'/\typeLookup (Value.type T') (Str.ofString "__next__")=pure (some r)/\Q v s') E s':=by
  intro first s' h1 q
  refine wpAny_bind ?_
  unfold setEpoch
  refine wpAny_bind (wpAny_setState_of h1 hd hf (wpAny_pure ?_))
  refine wpAny_bind ?_
  unfold newFields
  refine wpAny_newObj_type (wpAny_pure ⟨_,rfl, "set_iterator",_,⟨_,Heap.get?_push_size _ rfl,rfl⟩,slot_si_next.lookup,?_⟩) (by size_fits)
  exact q
 refine wpAny_bind ?_
 unfold setDrawn
 refine wpAny_bind (wpAny_setState_of ho hd hf ?_)
 dsimp only
 refine wpAny_bind ?_
 unfold setsByText
 refine wpAny_bind (wpAny_askSetting (wpAny_pure ?_))
 refine wpAny_pure ?_
 show wpAny (model P w) A.in1 (if (!byTx w&&(!t.plain&&decide (es.size>1)))=true then _ else _) _ E s
 by_cases hdr:(!byTx w&&(!t.plain&&decide (es.size>1)))=true
 ·rw [if_pos hdr]
  refine wpAny_bind (draw_perm es.size (List.range es.size) s (by simp) fun pl dr pm=>?_)
  have hl:pl.length=es.size:=by rw [pm.length_eq,length_range]
  refine wpAny_bind (wpAny_newTuple ?_ (by rw [length_map,hl];exact hsz))
  refine fin _ _ (Heap.get?_push_of_some _ ho) ?_
  have gT:(s.heap.push { cls:=.type "tuple",data:=.seq (plV pl) }).get? s.heap.objs.size=some { cls:=.type "tuple",data:=.seq (plV pl) }:=Heap.get?_push_size _ rfl
  have eI:(s.heap.push { cls:=.type "tuple",data:=.seq (plV pl) }).objs.size=s.heap.objs.size+1:=Heap.size_push ..
  have gI:=Heap.get?_push_size (o:={ cls:=.type "set_iterator",data:=.fields #[.ref s.heap.objs.size,.int 0 0,.ref S,.int es.size 0,.int ep 0] }) (s.heap.push { cls:=.type "tuple",data:=.seq (plV pl) }) rfl
  have W:=walk_dr (P:=P) (w:=w) (A:=A) (it:=(s.heap.push { cls:=.type "tuple",data:=.seq (plV pl) }).objs.size) (S:=S) (T:=s.heap.objs.size) (o:=o) (t:=t) (ep:=ep) (pl:=pl) (c:=0) hh (by rw [eI];exact Nat.ne_of_lt (Nat.lt_succ_of_lt lS)) (by rw [eI];exact Nat.ne_of_lt (Nat.lt_succ_self _)) hd hf rfl (oT:={ cls:=.type "tuple",data:=.seq (plV pl) }) rfl hl fun p hp=>by simpa using pm.mem_iff.mp hp
  refine h _ dr _ [(s.heap.push { cls:=.type "tuple",data:=.seq (plV pl) }).objs.size,S,s.heap.objs.size] (pl.map fun p=>(es.getD p (0,.none)).2) _ (fun b o e=>Heap.get?_push_of_some _ (Heap.get?_push_of_some _ e)) ?_ ?_ ?_ W ⟨⟨_,gI,rfl,rfl⟩,Heap.get?_push_of_some _ (Heap.get?_push_of_some _ ho),Heap.get?_push_of_some _ gT⟩
  ·rw [<-map_range_getD]
   exact pm.map _
  ·show s.heap.objs.size<=(s.heap.push _).objs.size
   rw [Heap.size_push]
   omega
  ·intro b hb
   show b<((s.heap.push _).push _).objs.size/\_
   rw [Heap.size_push,Heap.size_push]
   simp only [mem_cons,not_mem_nil,or_false] at hb
   rcases hb with rfl | rfl | rfl
   ·exact ⟨by rw [eI];exact Nat.lt_succ_self _,.inr (by rw [eI];exact Nat.le_succ _)⟩
   ·exact ⟨Nat.lt_succ_of_lt (Nat.lt_succ_of_lt lS),.inl rfl⟩
   ·exact ⟨Nat.lt_succ_of_lt (Nat.lt_succ_self _),.inr (Nat.le_refl _)⟩
 ·rw [if_neg hdr]
  refine wpAny_bind (wpAny_pure ?_)
  refine fin _ _ ho ?_
  have kp:∀b o,s.heap.get? b=some o->(s.heap.push { cls:=.type "set_iterator",data:=.fields #[.int 0 0,.int 0 0,.ref S,.int es.size 0,.int ep 0] }).get? b=some o:=fun b o e=>Heap.get?_push_of_some _ e
  have fpl:∀b∈[s.heap.objs.size,S],b<(s.heap.push { cls:=.type "set_iterator",data:=.fields #[.int 0 0,.int 0 0,.ref S,.int es.size 0,.int ep 0] }).objs.size/\(b=S\/s.heap.objs.size<=b):=by
   intro b hb
   rw [Heap.size_push]
   simp only [mem_cons,not_mem_nil,or_false] at hb
   rcases hb with rfl | rfl
   ·exact ⟨Nat.lt_succ_self _,.inr (Nat.le_refl _)⟩
   ·exact ⟨Nat.lt_succ_of_lt lS,.inl rfl⟩
  have si:SetIt (s.heap.push { cls:=.type "set_iterator",data:=.fields #[.int 0 0,.int 0 0,.ref S,.int es.size 0,.int ep 0] }) s.heap.objs.size S (.int 0 0) 0 es.size ep:=⟨_,Heap.get?_push_size _ rfl,rfl,rfl⟩
  by_cases ht:byTx w=true
  ·exact h _ s.drawn _ [s.heap.objs.size,S] _ _ kp ((pick_perm (w.params.setOrder S ep) es).map _) (Nat.le_refl _) fpl (walk_tx (o:=o) hh ht (Nat.ne_of_lt lS) hd hf rfl) ⟨si,kp S o ho⟩
  ·have ht':byTx w=false:=by simpa using ht
   rw [ht'] at hdr
   have hp:(!t.plain&&decide (es.size>1))=false:=by simpa using hdr
   exact h _ s.drawn _ [s.heap.objs.size,S] _ _ kp (List.Perm.refl _) (Nat.le_refl _) fpl (walk_pl (o:=o) hh ht' tb hp (Nat.ne_of_lt lS) hd hf rfl) ⟨si,kp S o ho⟩
end
section
variable {P:Program} {w:World} {A:Around} {E:Value->Shared->Prop} {s:Shared} {r:Addr}
theorem hint_set {Q:Bool->Shared->Prop} (hT:s.TypeIs (.ref r) "set") (h:Q false s):wpAny (model P w) A (Builtin.List.listLengthHint (.ref r)) Q E s:=by
 unfold Builtin.List.listLengthHint
 refine wpAny_bind (wpAny_specialOf hT PySem.F.slot_set_len.lookup ?_)
 generalize hid:("set.__len__":String)=id0
 wp_delta
 rw [show splitId id0=some ("set", "__len__") from by subst hid;decide +kernel]
 subst hid
 refine wpAny_bind (wpAny_isInstance (T := "set") (b:=true) hT (by rw [isSubtype_type];kernel_rfl) ?_)
 refine wpAny_ite_split (fun hab=>absurd hab (by decide)) (fun _=>?_)
 refine wpAny_ite_split (fun _=>?_) (fun hab=>absurd (by decide +kernel) hab)
 refine wpAny_bind (wpAny_typeOf hT ?_)
 exact wpAny_pure h
variable {o:Obj} {es:Array (Int×Value)} {ep:Nat} {t:SetTable}
theorem ext_set {R:Result->Shared->Prop} (hh:A.handled=none) (ho:s.heap.get? r=some o) (hc:o.cls=.type "set") (hd:o.data=.set es ep t) (hf:t.fits es.size=true) (hb:es.size<scanBound) (tb:Tb (byTx w) t) (S:Addr) (hSr:S≠r) (res:Value) (hS:s.heap.get? S=some { cls:=.type "list",data:=.seq #[] 0 })
  (hR:∀h' tk dr acc' c',(∀b o,b≠S->s.heap.get? b=some o->h'.get? b=some o)->h'.get? S=some { cls:=.type "list",dict:=none,data:=.seq acc' c',slots:=#[] }->acc'.toList.Perm (es.toList.map (·.2))->R (.ok (.ret res)) { s with heap:=h',toks:=tk,drawn:=dr }) :
  wpAny (model P w) A.in1 (Builtin.List.listExtendWith (.ref S) (.ref r) res)
   (fun fin s'=>match fin with | .done f=>R (.ok f) s' | .again c'=>c'.quiet=true/\codeAny (model P w) A c' R s') (fun e s'=>R (.error e) s') s:=by
 have lS:=Heap.lt_size hS
 have hsz:es.size<=sizeLine:=Nat.le_of_lt (Nat.lt_of_lt_of_le hb (by decide))
 unfold Builtin.List.listExtendWith
 refine wpAny_bind (wpAny_typeOf (T := "set") ⟨o,ho,hc⟩ ?_)
 have h1:Builtin.List.listSameRef (.ref S) (.ref r)=false:=by simp [Builtin.List.listSameRef,hSr]
 have n1:(Value.type "set"==Value.type "list")=false:=by decide
 have n2:(Value.type "set"==Value.type "tuple")=false:=by decide
 simp only [h1,n1,n2,Bool.or_false,Bool.false_eq_true,if_false]
 refine wpAny_bind (iter_set hh ho hc hd hf hb tb fun h' dr it fp us St kp pm lI hfp W st=>?_)
 have hSf:S∉fp:=fun hm=>by
  rcases (hfp S hm).2 with e | e
  ·exact hSr e
  ·exact absurd lS (Nat.not_lt_of_le e)
 have hS₁:=kp S _ hS
 have key:∀(h2:Heap) (c₁:Nat),St 0 h2->(∀b o,b≠S->s.heap.get? b=some o->h2.get? b=some o) ->
   h2.get? S=some { cls:=.type "list",data:=.seq #[] c₁ }->codeAny (model P w) A (.builtin "list.extend.loop" ⟨[.ref S,.ref it,res],[]⟩) R { s with heap:=h2,drawn:=dr }:=by
  intro h2 c₁ hst hk hS₁
  refine codeAny_extend_loopS W.toS hsz S hSf res es.size 0 _ #[] c₁ rfl (Nat.zero_le _) hst hS₁ (ItemsOf.nil _) fun s' acc' c' hm hS' hacc=>?_
  have e:acc'.toList=us:=by
   apply ext_getElem?
   intro i
   have lu:us.length=es.size:=by rw [pm.length_eq,length_map,Array.length_toList]
   by_cases hi:i<acc'.size
   ·have:=hacc.2 i acc'[i] (Array.getElem?_eq_getElem hi)
    rw [Array.getElem?_toList,Array.getElem?_eq_getElem hi,this]
   ·rw [Array.getElem?_toList,Array.getElem?_eq_none (by omega),getElem?_eq_none (by have:=hacc.1;omega)]
  rw [Moved.eq_with hm]
  refine hR s'.heap s'.toks dr acc' c' (fun b o hb e=>hm.heap b o (fun hmem=>?_) (hk b o hb e)) hS' (by rw [e];exact pm)
  rcases List.mem_cons.mp hmem with e' | hmem
  ·exact hb e'
  ·exact absurd (Heap.lt_size e) (by rw [List.mem_singleton.mp hmem];exact Nat.not_lt_of_le lI)
 refine wpAny_bind (wpAny_holding (hint_set (r:=r) ⟨o,kp r o ho,hc⟩ ?_))
 refine wpAny_ite_split (fun _=>?_) (fun _=>wpAny_pure ⟨plainId_quiet PySem.F.plain_extend_loop _,key _ 0 st (fun b o _ e=>kp b o e) hS₁⟩)
 refine wpAny_bind (wpAny_rule ?_)
 refine wpAny_bind ?_
 show wpAny _ _ (updateSeq S (·.push .none) >>= fun _=>updateSeq S (·.pop)) _ _ _
 refine wpAny_bind (wpAny_updateSeq hS₁ rfl ?_)
 have hS₂:=Heap.get?_update_self (Obj.mapSeq (·.push Value.none)) hS₁ rfl
 refine wpAny_updateSeq (hz:=by seq_fits) hS₂ rfl ?_
 have hS₃:=Heap.get?_update_self (Obj.mapSeq (·.pop)) hS₂ rfl
 refine wpAny_pure ⟨plainId_quiet PySem.F.plain_extend_loop _,key _ _ ?_ (fun b o hb e=>?_) hS₃⟩
 ·refine W.frame 0 _ _ st fun b hb o e=>?_
  have hbS:b≠S:=fun h=>hSf (h▸hb)
  exact (Heap.get?_update_other _ _ (Ne.symm hbS)).trans ((Heap.get?_update_other _ _ (Ne.symm hbS)).trans e)
 ·exact (Heap.get?_update_other _ _ (Ne.symm hb)).trans ((Heap.get?_update_other _ _ (Ne.symm hb)).trans (kp b o e))
theorem collect_set {R:List Value->Shared->Prop} (hh:A.handled=none) (ho:s.heap.get? r=some o) (hc:o.cls=.type "set") (hd:o.data=.set es ep t) (hf:t.fits es.size=true) (hb:es.size<scanBound) (tb:Tb (byTx w) t)
  (h:∀(h':Heap) (tk:Nat) (dr:Drawn) (us:List Value),(∀b o,s.heap.get? b=some o->h'.get? b=some o)->us.Perm (es.toList.map (·.2))->R us { s with heap:=h',toks:=tk,drawn:=dr }) :
  wpAny (model P w) A (collect (.ref r)) R E s:=by
 have lr:=Heap.lt_size ho
 unfold collect
 refine wpAny_bind (wpAny_runValue (codeAny_builtin entry_proto_collect' ?_))
 rw [Around.under_plainId PySem.F.plain_proto_collect _]
 show wpAny _ A.in1 (newList [] >>= fun l=>again (.builtin "list.__iadd__" ⟨[l,.ref r],[]⟩)) _ _ s
 refine wpAny_bind (wpAny_newObj_type ?_)
 refine wpAny_pure ⟨plainId_quiet PySem.F.plain_list_iadd _,codeAny_builtin entry_list_iadd' ?_⟩
 rw [Around.under_plainId PySem.F.plain_list_iadd _]
 have hS₁:(s.heap.push { cls:=.type "list",data:=.seq ([]:List Value).toArray }).get? s.heap.objs.size=some { cls:=.type "list",data:=.seq #[] }:=Heap.get?_push_size _ rfl
 show wpAny _ A.in1 (Builtin.List.listExtendWith (.ref s.heap.objs.size) (.ref r) (.ref s.heap.objs.size)) _ _ _
 have key:=ext_set (P:=P) (w:=w) (A:=A) (s:={ s with heap:=s.heap.push { cls:=.type "list",data:=.seq ([]:List Value).toArray } })
  (R:=fun (q:Result) (s':Shared)=>∃(h':Heap) (tk:Nat) (dr:Drawn) (acc':Array Value) (c':Nat),q=.ok (.ret (.ref s.heap.objs.size))/\s'={ s with heap:=h',toks:=tk,drawn:=dr } /\
   (∀b o,s.heap.get? b=some o->h'.get? b=some o)/\h'.get? s.heap.objs.size=some { cls:=.type "list",dict:=none,data:=.seq acc' c',slots:=#[] }/\acc'.toList.Perm (es.toList.map (·.2)))
  hh (Heap.get?_push_of_some _ ho) hc hd hf hb tb s.heap.objs.size (Nat.ne_of_gt lr) (.ref s.heap.objs.size) hS₁
  (fun h' tk dr acc' c' hk hS' hacc=>⟨h',tk,dr,acc',c',rfl,rfl,fun b o e=>hk b o (Nat.ne_of_lt (Heap.lt_size e)) (Heap.get?_push_of_some _ e),hS',hacc⟩)
 refine wpAny_mono key (fun fin s' x=>?_) fun e s' x=>?_
 ·cases fin with
  | done f=>
   obtain ⟨h',tk,dr,acc',c',e,rfl,hk,hS',hacc⟩:=x
   cases e
   show wpAny _ A (load s.heap.objs.size >>= _) _ _ _
   refine wpAny_bind (wpAny_load hS' ?_)
   exact wpAny_pure (h h' tk dr acc'.toList hk hacc)
  | again c₁=>
   refine ⟨x.1,codeAny_mono x.2 fun q s₂ y=>?_⟩
   obtain ⟨h',tk,dr,acc',c',rfl,rfl,hk,hS',hacc⟩:=y
   show wpAny _ A (load s.heap.objs.size >>= _) _ _ _
   refine wpAny_bind (wpAny_load hS' ?_)
   exact wpAny_pure (h h' tk dr acc'.toList hk hacc)
 ·obtain ⟨_,_,_,_,_,e',_⟩:=x
  cases e'
end
def ddp (ns:List Int):List Int:=firstMet (fun i=>ns.getD i 0) ns.length
theorem perm_of_sub:∀(l m:List Int),l.Nodup->(∀x∈l,x∈m)->m.length=l.length->m.Perm l
 | [],m,_,_,h=>by rw [List.length_eq_zero_iff.mp h]
 | a::l,m,nd,hm,h=>by
  have ha:a∈m:=hm a mem_cons_self
  obtain ⟨na,nl⟩:=List.nodup_cons.mp nd
  have ih:=perm_of_sub l (m.erase a) nl (fun x hx=>(mem_erase_of_ne (fun e:x=a=>na (e▸hx))).mpr (hm x (mem_cons_of_mem _ hx))) (by rw [length_erase_of_mem ha,h,length_cons];omega)
  exact (List.perm_cons_erase ha).trans (ih.cons a)
theorem met_nodup (val:Nat->Int):∀i,(firstMet val i).Nodup
 | 0=>nodup_nil
 | i+1=>by
  rw [firstMet_succ]
  unfold step_dedup
  split
  ·exact met_nodup val i
  ·rename_i h
   rw [List.nodup_append]
   refine ⟨met_nodup val i,by simp,fun a ha b hb e=>h ?_⟩
   rw [List.mem_singleton] at hb
   subst hb e
   simpa using ha
theorem ddp_nodup (ns:List Int):(ddp ns).Nodup:=met_nodup _ _
theorem ddp_mem {k:Int}:k∈ddp ns↔k∈ns:=by
 have:=firstMet_any (fun i=>ns.getD i 0) ns.length k
 have e:(List.range ns.length).map (fun i=>ns.getD i 0)=ns:=by
  apply ext_getElem
  ·simp
  ·intro i h1 h2
   simp [List.getD,h2]
 rw [e] at this
 unfold ddp
 rw [<-any_eq_true (p:=(·==k)) |>.trans ⟨fun ⟨x,h,e⟩=>by rwa [<-eq_of_beq e],fun h=>⟨k,h,by simp⟩⟩,this]
 exact List.any_eq_true.trans ⟨fun ⟨x,h,e⟩=>by rwa [<-eq_of_beq e],fun h=>⟨k,h,by simp⟩⟩
theorem ints_some {P:Program} {w:World}:∀(us:List Value),(∀u∈us,∃k,(intKind P w).is k u=true)->∃ns,IntsAre us ns
 | [],_=>⟨[],.nil⟩
 | u::us,h=>by
  obtain ⟨k,e⟩:=h u mem_cons_self
  obtain ⟨t,rfl⟩:=Value.isInt_shape e
  obtain ⟨ns,x⟩:=ints_some us fun v hv=>h v (mem_cons_of_mem _ hv)
  exact ⟨_,.cons _ _ x⟩
theorem ints_mem {P:Program} {w:World} {k:Int}:∀{us:List Value} {ns:List Int},IntsAre us ns->(∃u∈us,(intKind P w).is k u=true)->k∈ns
 | _,_,.nil,⟨u,hu,_⟩=>by cases hu
 | _,_,.cons i t x,⟨u,hu,e⟩=>by
  rcases List.mem_cons.mp hu with rfl | hu
  ·obtain ⟨t',e'⟩:=Value.isInt_shape (show Value.isInt k (Value.int i t)=true from e)
   cases e'
   exact mem_cons_self
  ·exact mem_cons_of_mem _ (ints_mem x ⟨u,hu,e⟩)
theorem ints_len:∀{us:List Value} {ns:List Int},IntsAre us ns->us.length=ns.length
 | _,_,.nil=>rfl
 | _,_,.cons _ _ x=>by rw [length_cons,length_cons,ints_len x]
theorem L2Inv.drawn {X:Cx} {pins:List (Addr×Obj)} {σ:List (Option V)} {H:Hp} {s:Shared} (I:L2.Inv X pins σ H s) (d:Drawn):L2.Inv X pins σ H { s with drawn:=d }:=
 ⟨I.ok,I.os,I.bare,I.base,I.loc,I.cell,I.free,I.freeC,I.pin,I.hok,I.len⟩
theorem b_set:bootBuiltins "set"=some (.type "set"):=by decide +kernel
def tSS (K:Fg) (ta:TA):TE:=fun σ H Q=>ta σ H fun vs H1=>∃(p:Addr) (ns:List Int),vs=[.ref p]/\SqL K H1 p (ns.map V.int)/\ns.length<4000/\(ddp ns).length<64/\∀l,H1 l=none->Q (.ref l) (upd H1 l (.lst ((PySem.W.sortI (ddp ns)).map V.int)))
theorem pe_sortSet {X:Cx} {a:Expr} {ta:TA} {p pos:Pos} (hg:Gl X "sorted") (hm:X.mg "sorted"=none) (hg2:Gl X "set") (hm2:X.mg "set"=none) (hc:X.calm=true) (ha:PA X [a] ta) (hs:starEach [a] X.env=[(false,eval a X.env)])
  (hs1:starEach [.Call (.Name "set" p2) [a] [] pos2] X.env=[(false,eval (.Call (.Name "set" p2) [a] [] pos2) X.env)]):PE X (.Call (.Name "sorted" p) [.Call (.Name "set" p2) [a] [] pos2] [] pos) (tSS X.K ta):=by
 intro pins s σ H Q I h
 refine wpAny_Call_Name_kw (ld_blt I hg hm b_sorted (PyProof.Rows.callWith_builtin1 ?_ hs1 rfl))
 rw [hs1]
 show wpAny _ _ (spliced ((false,eval (.Call (.Name "set" p2) [a] [] pos2) X.env)::[])) _ _ s
 refine Calls.spliced_cons (Call_ (ld_blt I hg2 hm2 b_set (PyProof.Rows.callWith_type1 (thn (ha pos2 pins s σ H _ I h) fun us s1 ⟨vs,H1,I1,r1,q1⟩=>?_) hs rfl)))
 obtain ⟨pa,ns,e,hS,q1,q2,q⟩:=q1
 subst e
 obtain ⟨u,rfl,ru⟩:=r1.one
 cases ru
 obtain ⟨its,r,pl,hz⟩:=I1.list hS
 have hI:=ints_of r
 have hl:its.length=ns.length:=by rw [<-r.length,length_map]
 have hl':its.toArray.size=ns.length:=by rw [size_toArray,hl]
 refine call_set_t (ns:=ns) (I.ok.hd hc) pl.isList (by simpa using hI) (by rw [hl'];have:scanBound=4096:=rfl;omega) fun h1 tk1 st kp1=>?_
 rw [hl'] at st
 refine Calls.spliced_nil ?_
 have I2:L2.Inv X pins σ H1 { s1 with heap:=h1,toks:=tk1 }:=I1.kept (t':=tk1) kp1
 obtain ⟨o,es,ep,t,ho,hex,hd,hel,hmem,hb,hf,hn,tb⟩:=st
 refine Calls.call_function_entry kind_sorted plain_sorted entry_sorted (args_sorted1 _) ?_
 unfold Builtin.«sorted»
 refine wpAny_bind (m:=checkCount "sorted" 1 1 _) (wpAny_pure ?_)
 refine wpAny_bind (collect_set (I.ok.hd hc) ho hex.1 hd hf hb tb fun h' tk dr us hk pm=>?_)
 have hlu:us.length=(ddp ns).length:=by
  rw [pm.length_eq,length_map,Array.length_toList,hn]
  rfl
 obtain ⟨zs,hZ⟩:=ints_some (P:=X.prog) (w:=X.w) us fun u hu=>by
  obtain ⟨e,he,rfl⟩:=List.mem_map.mp (pm.mem_iff.mp hu)
  obtain ⟨k,hk,_⟩:=(hel e he).1
  exact ⟨k,hk⟩
 have hpz:zs.Perm (ddp ns):=by
  refine perm_of_sub (ddp ns) zs (ddp_nodup ns) (fun k hk=>?_) ?_
  ·obtain ⟨e,he,hx⟩:=(hmem k).mp (List.any_eq_true.mpr ⟨k,hk,by simp⟩)
   exact ints_mem (P:=X.prog) (w:=X.w) hZ ⟨e.2,pm.mem_iff.mpr (List.mem_map.mpr ⟨e,he,rfl⟩),hx⟩
  ·rw [<-hlu,ints_len hZ]
 have hb2:=small1000 (n:=(ddp ns).length) (by omega)
 refine wpAny_bind (wpAny_newList ?_ (by rw [hlu];omega))
 have hoL:(h'.push { cls:=.type "list",data:=.seq us.toArray }).get? h'.objs.size=some (seqObj "list" us.toArray 0):=Heap.get?_push_size _ rfl
 refine wpAny_bind (wpAny_holding (wpAny_call_entry slot_list_sort ⟨_,hoL,rfl⟩ entry_list_sort (list_sort_tree hoL hZ (by rw [hlu];exact q2) fun out ns' a1 a2 a3=>⟨_,rfl,?_⟩) (args_list_sort _)))
 have e:=PySem.W.eq_sortI (a2.trans hpz) a3
 subst e
 have hlen:(PySem.W.sortI (ddp ns)).length=(ddp ns).length:=(PySem.W.sortI_perm _).length_eq
 obtain ⟨n,ho'⟩:=sortedHeap_at (out:=out) hoL
 have I3:L2.Inv X pins σ H1 { s1 with heap:=h',toks:=tk,drawn:=dr }:=L2Inv.drawn (I2.kept (t':=tk) hk) dr
 have kk:∀b o,h'.get? b=some o->(sortedHeap (h'.push { cls:=.type "list",data:=.seq us.toArray }) h'.objs.size us out).get? b=some o:=fun b o e=>by
  have hlt:=Heap.lt_size e
  rw [sortedHeap_old (Nat.ne_of_lt hlt) (by rw [Heap.size_push];exact Nat.lt_succ_of_lt hlt)]
  exact Heap.get?_push_of_some _ e
 exact wpAny_pure ⟨_,rfl,.ref h'.objs.size,upd H1 h'.objs.size (.lst ((PySem.W.sortI (ddp ns)).map V.int)),I3.laid (t':=tk) kk (Nat.le_refl _) ⟨by rw [length_map,hlen];omega,out.toList,n,vals_of a1,by simpa [seqObj] using ho'⟩,rfl,q _ (I3.hok.fresh (Nat.le_refl _))⟩
section
variable {K:Fg} {W:XW} {σ:St} {H:Hp} {Q:VK} {fa:F1} {fl:FL}
def eSortS (fl:FL):F1:=fun U=>(fl U).bind fun ps U'=>match sortArg (ps.map (·.d)) with
 | some ns=>if ns.length<4000/\(ddp ns).length<64 then .ok ⟨.lst .leaf,.list ((PySem.W.sortI (ddp ns)).map .int)⟩ U' else .no
 | none=>.no
theorem rd_sortS (h:tE K W (eSortS fl) σ H Q):tSS K (tA K W fl) σ H Q:=by
 obtain ⟨He,O,Fs,U,E,h⟩:=h
 refine ⟨He,O,Fs,U,E,?_⟩
 unfold eSortS at h
 cases e:fl U with
 | er c U'=>rw [e] at h;exact h
 | no=>rw [e] at h;exact h
 | ok ps U1=>
  rw [e] at h
  intro vs H1 Gs Fs1 A
  have r:=A.reps
  have h:Wants K W He O Fs H σ Q (match sortArg (ps.map (·.d)) with | some ns=>if ns.length<4000/\(ddp ns).length<64 then .ok ⟨.lst .leaf,.list ((PySem.W.sortI (ddp ns)).map .int)⟩ U1 else .no | none=>.no):=h
  cases ei:sortArg (ps.map (·.d)) with
   | none=>rw [ei] at h;exact h.elim
   | some ns=>
    rw [ei] at h
    rw [sortArg_eq ei] at r
    have h:Wants K W He O Fs H σ Q (if ns.length<4000/\(ddp ns).length<64 then .ok ⟨.lst .leaf,.list ((PySem.W.sortI (ddp ns)).map .int)⟩ U1 else .no):=h
    by_cases hn:ns.length<4000/\(ddp ns).length<64
    ·rw [if_pos hn] at h
     have hl:=r.1
     match vs,hl with
     | [v],_=>
      have q:=r.2 0 v (.list (ns.map .int)) rfl rfl
      cases q with
      | @lst p ws _ hq hwl hw=>
       have ew:ws=ns.map V.int:=by
        apply ext_getElem?
        intro i
        by_cases hi:i<ws.length
        ·have hi2:i<ns.length:=by rw [length_map] at hwl;omega
         have q:=hw i (ws[i]'hi) (.int (ns[i]'hi2)) (getElem?_eq_getElem _) (by rw [getElem?_map,getElem?_eq_getElem hi2];rfl)
         rw [getElem?_eq_getElem hi,getElem?_map,getElem?_eq_getElem hi2]
         generalize ws[i]'hi=u at q
         cases q
         rfl
        ·rw [getElem?_eq_none (by omega),getElem?_eq_none (by rw [length_map] at hwl ⊢;omega)]
       rw [ew] at hq
       refine ⟨p,ns,rfl,hq,hn.1,hn.2,fun l hl=>h _ _ _ _ (A.newSc E.ndO hl (by simp) fun i v d a1 a2=>?_)⟩
       rw [getElem?_map] at a1 a2
       cases e3:(PySem.W.sortI (ddp ns))[i]? with
       | none=>rw [e3] at a1;cases a1
       | some z=>
        rw [e3] at a1 a2
        cases a1
        cases a2
        exact .int z
    ·rw [if_neg hn] at h;exact h.elim
end
section
variable {X:Cx} {N gl:List Str} {vs cs ls lo gs:List Nat} {W:XW} {a:Expr} {p pos:Pos} {fl:FL}
theorem cb_sortSet (S:Cp X N gl vs cs ls lo gs) (j k:Nat) (hj:gl[j]?=some ("sorted":Str)) (hg:gs.contains j=true) (hm:X.mg "sorted"=none) (hk:gl[k]?=some ("set":Str)) (hg2:gs.contains k=true) (hm2:X.mg "set"=none) (ha:PA X [a] (tA X.K W fl)) (hs:starEach [a] X.env=[(false,eval a X.env)])
  (hs1:starEach [.Call (.Name "set" p2) [a] [] pos2] X.env=[(false,eval (.Call (.Name "set" p2) [a] [] pos2) X.env)]):PE X (.Call (.Name "sorted" p) [.Call (.Name "set" p2) [a] [] pos2] [] pos) (tE X.K W (eSortS fl)):=
 PEimp (pe_sortSet (S.g hj hg).1 hm (S.g hk hg2).1 hm2 S.calm ha hs hs1) fun _ _ _=>rd_sortS
end
end T
namespace TQ
open PySem PySem.Spec L2 T
open PyProof.Rows hiding St
section
variable {X:Cx} {N gl:List Str} {vs cs ls lo gs:List Nat} {W:XW} {a:Expr} {p pos:Pos} {fl:FL}
theorem w_cb_sortSet {p2 pos2:Pos} (S:Cp X N gl vs cs ls lo gs) (j k:Nat) (hj:gl[j]?=some ("sorted":Str)) (hg:gs.contains j=true) (hm:X.mg "sorted"=none) (hk:gl[k]?=some ("set":Str)) (hg2:gs.contains k=true) (hm2:X.mg "set"=none) (ha:Q (PA X [a] (tA X.K W fl))) (hs:starEach [a] X.env=[(false,eval a X.env)])
  (hs1:starEach [.Call (.Name "set" p2) [a] [] pos2] X.env=[(false,eval (.Call (.Name "set" p2) [a] [] pos2) X.env)]):Q (PE X (.Call (.Name "sorted" p) [.Call (.Name "set" p2) [a] [] pos2] [] pos) (tE X.K W (eSortS fl))):=⟨T.cb_sortSet S j k hj hg hm hk hg2 hm2 ha.p hs hs1⟩
end
end TQ
namespace KC
open PySem PySem.Spec L2 T PySem.SeqAt
open PyProof.Rows hiding St
variable {n:Nat} {l:List Nat}
theorem ddp_len (h:∀x∈l,x<n):(ddp (l.map fun t:Nat=>(t:Int))).length<=n:=by
 have nd:=ddp_nodup (l.map fun t:Nat=>(t:Int))
 have m:∀x∈ddp (l.map fun t:Nat=>(t:Int)),0<=x/\x.toNat<n:=fun x hx=>by
  obtain ⟨t,ht,rfl⟩:=List.mem_map.mp (ddp_mem.mp hx)
  exact ⟨by omega,by simpa using h t ht⟩
 have:=len_nd (n:=n) (p:=(ddp (l.map fun t:Nat=>(t:Int))).map Int.toNat) ?_ ?_
 ·rwa [length_map] at this
 ·rw [List.Nodup,pairwise_map]
  exact List.Pairwise.imp_of_mem (fun ha hb hab e=>hab (by have:=m _ ha;have:=m _ hb;omega)) nd
 ·intro x hx
  obtain ⟨t,ht,rfl⟩:=List.mem_map.mp hx
  exact (m t ht).2
theorem sort_set (h:∀x∈l,x<n):PySem.W.sortI (ddp (l.map fun t:Nat=>(t:Int)))=((List.range n).filter fun r=>l.contains r).map fun t:Nat=>(t:Int):=by
 refine (PySem.W.eq_sortI ?_ ?_).symm
 ·refine (perm_ext_iff_of_nodup ?_ (ddp_nodup _)).mpr fun x=>?_
  ·rw [List.Nodup,pairwise_map]
   exact (List.nodup_range.filter _).imp fun h e=>h (by omega)
  ·rw [ddp_mem,mem_map,mem_map]
   constructor
   ·rintro ⟨t,ht,rfl⟩
    exact ⟨t,by simpa using (List.mem_filter.mp ht).2,rfl⟩
   ·rintro ⟨t,ht,rfl⟩
    exact ⟨t,List.mem_filter.mpr ⟨List.mem_range.mpr (h t ht),by simpa using ht⟩,rfl⟩
 ·rw [pairwise_map]
  exact (List.pairwise_lt_range.filter _).imp fun h=>by omega
theorem v_sortS {U:Ev} {fl:FL} {s:Sh} (hl:fl U=.ok [⟨s,rms l⟩] U) (h:∀x∈l,x<n) (hn:n<64) (h4:l.length<4000):eSortS fl U=.ok ⟨.lst .leaf,rms ((List.range n).filter fun r=>l.contains r)⟩ U:=by
 unfold eSortS
 rw [hl]
 have e:T.sortArg ([(⟨s,rms l⟩:PV)].map (·.d))=some (l.map fun t:Nat=>(t:Int)):=by
  show T.intsOf (l.map rm)=_
  rw [rms_int,intsOf_map]
 have c:(l.map fun t:Nat=>(t:Int)).length<4000/\(ddp (l.map fun t:Nat=>(t:Int))).length<64:=⟨by rw [length_map];exact h4,Nat.lt_of_le_of_lt (ddp_len h) hn⟩
 show (match T.sortArg ([(⟨s,rms l⟩:PV)].map (·.d)) with | some ns=>if ns.length<4000/\(ddp ns).length<64 then Out.ok (⟨.lst .leaf,.list ((PySem.W.sortI (ddp ns)).map .int)⟩:PV) U else .no | none=>.no)=_
 rw [e]
 dsimp only
 rw [if_pos c,sort_set h,<-rms_int]
end KC
namespace T
open PySem PySem.Spec L2
open PyProof.Rows hiding St
def mxI:List Int->Int
 | []=>0
 | a::r=>r.foldl (fun x y=>if x<y then y else x) a
theorem mx_fold:∀(r:List Int) (a:Int),(r.foldl (fun x y=>if x<y then y else x) a=a\/r.foldl (fun x y=>if x<y then y else x) a∈r)/\a<=r.foldl (fun x y=>if x<y then y else x) a/\∀b∈r,b<=r.foldl (fun x y=>if x<y then y else x) a
 | [],a=>⟨.inl rfl,Int.le_refl _,fun b hb=>by cases hb⟩
 | c::r,a=>by
  rw [foldl_cons]
  obtain ⟨h1,h2,h3⟩:=mx_fold r (if a<c then c else a)
  have e:a<=(if a<c then c else a)/\c<=(if a<c then c else a)/\((if a<c then c else a)=a\/(if a<c then c else a)=c):=by split<;>omega
  refine ⟨?_,by omega,fun b hb=>?_⟩
  ·rcases h1 with h1 | h1
   ·rw [h1]
    rcases e.2.2 with z | z
    ·exact .inl z
    ·exact .inr (by rw [z];exact mem_cons_self)
   ·exact .inr (mem_cons_of_mem _ h1)
  ·rcases List.mem_cons.mp hb with rfl | hb
   ·omega
   ·exact h3 b hb
theorem mxI_is {ns:List Int} {M:Int} (h1:M∈ns) (h2:∀a∈ns,a<=M):mxI ns=M:=by
 cases ns with
 | nil=>cases h1
 | cons a r=>
  obtain ⟨g1,g2,g3⟩:=mx_fold r a
  show r.foldl _ a=M
  have u:r.foldl (fun x y=>if x<y then y else x) a<=M:=by
   rcases g1 with g1 | g1
   ·rw [g1];exact h2 a (by simp)
   ·exact h2 _ (mem_cons_of_mem _ g1)
  have l:M<=r.foldl (fun x y=>if x<y then y else x) a:=by
   rcases List.mem_cons.mp h1 with rfl | h1
   ·exact g2
   ·exact g3 M h1
  omega
def gMaxL:List PySem.PyData->Option PySem.PyData
 | [.list ds]=>match intsOf ds with
  | some (a::r)=>some (.int (mxI (a::r)))
  | _=>none
 | _=>none
def rMaxL (K:Fg):List V->Hp->VK->Prop:=fun xs H Q=>∃(p:Addr) (ns:List Int),xs=[.ref p]/\SqL K H p (ns.map V.int)/\0<ns.length/\Q (.int (mxI ns)) H
theorem gc_maxL {K:Fg}:GCall K (rMaxL K) gMaxL:=by
 intro vs H Q ds d r e k
 unfold gMaxL at e
 split at e
 ·rename_i es
  split at e
  ·rename_i a q ei
   cases e
   rw [intsOf_eq ei] at r
   have hl:=r.1
   match vs,hl with
   | [v],_=>
    have z:=r.2 0 v (.list ((a::q).map .int)) rfl rfl
    cases z with
    | @lst p ws _ hq hwl hw=>
     have ew:=reps_ints (K:=K) (H:=H) ⟨hwl,hw⟩
     rw [ew] at hq
     exact ⟨p,a::q,rfl,hq,by simp,k _ (.int _)⟩
  ·cases e
 ·cases e
theorem call_maxL {X:Cx} (hc:X.calm=true):CallR X (.builtin "max") (rMaxL X.K):=by
 intro pins s σ H vs us Q I rv h
 obtain ⟨p,ns,rfl,hq,hne,q⟩:=h
 obtain ⟨u,rfl,ru⟩:=vals1 rv
 cases ru
 obtain ⟨its,rv,pl,hz⟩:=I.list hq
 have hi:=ints_of rv
 obtain ⟨xs,ex⟩:=(hi.allInts:AllInts its.toArray).items
 have en:ns=xs.toList.map (·.1):=by
  rw [<-nums_intItems,<-ex]
  exact hi.numsOf.symm
 have hl:=pl.isList
 rw [ex] at hl
 have hsz:0<xs.size:=by
  have h3:=hne
  rw [en,length_map,Array.length_toList] at h3
  exact h3
 refine max_intList (I.ok.hd hc) hl hsz fun v h' tk hv hk=>?_
 obtain ⟨t,rfl⟩:=intItems_at hv
 obtain ⟨h1,h2⟩:=argBest_gt (numAt xs) (xs.size-1)
 have eM:mxI ns=numAt xs (argBest (fun i j=>decide (numAt xs i>numAt xs j)) (xs.size-1)):=by
  refine mxI_is ?_ fun a ha=>?_
  ·rw [en,numAt_eq]
   exact getD_mem (by rw [length_map,Array.length_toList];omega)
  ·rw [en] at ha
   obtain ⟨j,hj,rfl⟩:=mem_getD ha
   rw [length_map,Array.length_toList] at hj
   rw [<-numAt_eq]
   exact h2 j (by omega)
 rw [eM] at q
 exact ⟨.int (numAt xs (argBest (fun i j=>decide (numAt xs i>numAt xs j)) (xs.size-1))),H,I.kept (h':=h') (t':=tk) hk,⟨_,rfl⟩,q⟩
section
variable {X:Cx} {N gl:List Str} {vs cs ls lo gs:List Nat} {W:XW} {e:Expr} {es:List Expr} {pos p:Pos} {fl:FL}
theorem cb_maxL (S:Cp X N gl vs cs ls lo gs) (j:Nat) (hj:gl[j]?=some ("max":Str)) (hg:gs.contains j=true) (hm:X.mg "max"=none) (ha:PA X (e::es) (tA X.K W fl)) (he:starEach (e::es) X.env=(false,eval e X.env)::starEach es X.env) (hpl:(backTo pos (starEach es X.env)).any (·.1)=false) :
  PE X (.Call (.Name "max" p) (e::es) [] pos) (tE X.K W (eCB gMaxL fl)):=de_bi (call_maxL S.calm) gc_maxL b_max hm ha (S.g hj hg).1 (S.g hj hg).2.2 (S.g hj hg).2.1 he hpl
end
end T
namespace TQ
open PySem PySem.Spec L2 T
open PyProof.Rows hiding St
section
variable {X:Cx} {N gl:List Str} {vs cs ls lo gs:List Nat} {W:XW} {e:Expr} {es:List Expr} {pos p:Pos} {fl:FL}
theorem w_cb_maxL (S:Cp X N gl vs cs ls lo gs) (j:Nat) (hj:gl[j]?=some ("max":Str)) (hg:gs.contains j=true) (hm:X.mg "max"=none) (ha:Q (PA X (e::es) (tA X.K W fl))) (he:starEach (e::es) X.env=(false,eval e X.env)::starEach es X.env) (hpl:(backTo pos (starEach es X.env)).any (·.1)=false) :
  Q (PE X (.Call (.Name "max" p) (e::es) [] pos) (tE X.K W (eCB gMaxL fl))):=⟨T.cb_maxL S j hj hg hm ha.p he hpl⟩
end
end TQ
namespace T
open PySem PySem.Spec L2
open PyProof.Rows hiding St
variable {b a c:Addr} {h h':Heap} {x y:List It} {us:List Value} {o:Obj} {es:Array DictEntry} {ep n:Nat} {K:Fg} {H':Hp} {X:Cx} {pins:List (Addr×Obj)} {σ:St} {sh:List Bool} {kvs:List (List It×V)} {acc:List (List It)}
abbrev It:=Key ⊕ List Key
section
variable {prog:Program} {w:World}
inductive Its2 (h:Heap):List It->List Value->Prop
 | nil:Its2 h [] []
 | v {k:Key} {u:Value} {ks:List It} {us:List Value}:(mixKind prog w).is k u=true->Its2 h ks us->Its2 h (.inl k::ks) (u::us)
 | t {l:List Key} {b:Addr} {ks:List It} {us:List Value}:IsTupleKey (mixKind prog w) h l b->Its2 h ks us->Its2 h (.inr l::ks) (.ref b::us)
variable (prog w)
def Is2 (h:Heap) (ks:List It) (a:Addr):Prop:=∃o items n,h.get? a=some o/\o.cls=.type "tuple"/\o.data=.seq items n/\Its2 (prog:=prog) (w:=w) h ks items.toList
variable {prog w}
theorem key_ref {k:Key}:(mixKind prog w).is k (.ref b)=true->False:=fun h=>by
 rcases keyIs_shape h with ⟨i,t,_,e⟩ | ⟨x,t,_,e⟩<;>cases e
theorem Its2.inj (hx:Its2 (prog:=prog) (w:=w) h x us) (hy:Its2 (prog:=prog) (w:=w) h y us):x=y:=by
 induction hx generalizing y with
 | nil=>cases hy;rfl
 | v h1 _ ih=>
  cases hy with
  | v h2 t2=>rw [(mixKind prog w).inj _ _ _ h1 h2,ih t2]
  | t h2 t2=>exact (key_ref h1).elim
 | t h1 _ ih=>
  cases hy with
  | v h2 t2=>exact (key_ref h2).elim
  | t h2 t2=>rw [h1.inj h2,ih t2]
theorem Is2.typeIs {s:Shared} {ks:List It} (x:Is2 prog w s.heap ks a):s.TypeIs (.ref a) "tuple":=let ⟨o,_,_,ho,hc,_⟩:=x;⟨o,ho,hc⟩
theorem Is2.inj (hx:Is2 prog w h x a) (hy:Is2 prog w h y a):x=y:=by
 obtain ⟨o,items,n,ho,_,hd,hi⟩:=hx
 obtain ⟨o',items',n',ho',_,hd',hi'⟩:=hy
 obtain rfl:o=o':=Option.some.inj (ho.symm.trans ho')
 rw [hd] at hd'
 injection hd' with h1 _
 subst h1
 exact hi.inj hi'
theorem Its2.keeps {ks:List It} {d:Addr} (x:Its2 (prog:=prog) (w:=w) h ks us) (ho:h.get? d=some o) (hd:o.data=.dict es ep) (hs:Heap.SameBut d h h'):Its2 (prog:=prog) (w:=w) h' ks us:=by
 induction x with
 | nil=>exact .nil
 | v h1 _ ih=>exact .v h1 ih
 | t h1 _ ih=>exact .t (h1.keeps ho hd hs) ih
theorem Is2.keeps {ks:List It} {d:Addr} (x:Is2 prog w h ks a) (ho:h.get? d=some o) (hd:o.data=.dict es ep) (hs:Heap.SameBut d h h'):Is2 prog w h' ks a:=by
 obtain ⟨o',items,n,ho',hc,hd',hi⟩:=x
 have hne:a≠d:=by
  rintro rfl
  obtain rfl:o'=o:=Option.some.inj (ho'.symm.trans ho)
  rw [hd] at hd'
  exact nomatch hd'
 exact ⟨o',items,n,(hs.2 a hne).trans ho',hc,hd',hi.keeps ho hd hs⟩
def hI (w:World):It->Int
 | .inl k=>keyH w k
 | .inr l=>reduceHash (Builtin.Tuple.tupleHashOf (l.map (keyH w)))
def dI:It->Nat
 | .inl _=>1
 | .inr l=>l.length+1
def h2H (w:World) (ks:List It):Int:=reduceHash (Builtin.Tuple.tupleHashOf (ks.map (hI w)))
def dr2 (ks:List It):Nat:=(ks.map dI).sum+1
variable {A:Around} {E:Value->Shared->Prop} {s:Shared}
theorem hash2 {ks:List It} {Q:Int->Shared->Prop} (hu:A.units+1<cLine) (hk:Is2 prog w s.heap ks a) (h:Q (h2H w ks) { s with toks:=s.toks+dr2 ks }):wpAny (model prog w) A (pyHash (.ref a)) Q E s:=by
 have hT:=hk.typeIs
 obtain ⟨o,items,n,ho,_,hd,hi⟩:=hk
 unfold pyHash
 first | unfold pyHashByItsType | skip
 first | refine wpAny_bind (wpAny_cRoomFor_or (.inr (by omega)) ?_) | skip
 refine wpAny_bind (wpAny_specialOf hT PySem.F.slot_tuple_hash.lookup ?_)
 show wpAny _ _ (if (some (Value.builtin "tuple.__hash__")==some Value.none)=true then _ else _) Q E s
 rw [if_neg (by rw [beq_builtin_none];exact Bool.false_ne_true)]
 refine wpAny_bind (wpAny_specialOf hT PySem.F.slot_tuple_hash.lookup ?_)
 show wpAny _ _ (callSpecialIfBoundUnlessNone? (.ref a) "__hash__" _ >>= _) Q E s
 refine wpAny_bind (wpAny_callSpecialIfBoundUnlessNone?_slot hT PySem.F.slot_tuple_hash (wpAny_call_entry PySem.F.slot_tuple_hash hT PySem.F.entry_tuple_hash ?_ (PySem.F.args_tuple_hash_1 _)))
 show wpAny _ _ (Builtin.Tuple.tupleItemsOf (.ref a) >>= _) _ _ s
 refine wpAny_bind (wpAny_tupleItemsOf ho hd ?_)
 refine wpAny_bind ?_
 rw [<-Array.forIn_toList]
 refine wpAny_forIn_list _
  (fun rest (b:Array Int) s'=>∃done left,ks=done++left/\Its2 (prog:=prog) (w:=w) s.heap left rest/\b.toList=done.map (hI w)/\s'={ s with toks:=s.toks+(done.map dI).sum })
  _ ?_ ?_ _ _ ⟨[],ks,rfl,hi,rfl,rfl⟩
 ·rintro x rest b s' ⟨done,left,rfl,hl,hb,rfl⟩
  cases hl with
  | @v k _ ks' _ h1 hl'=>
   refine wpAny_bind ((mixKind prog w).pyHash h1 ?_)
   first
    | exact wpAny_pure ⟨done++[.inl k],ks',by simp,hl',by simp [hb];rfl,by simp [Nat.add_assoc,dI]⟩
    | exact wpAny_bind (wpAny_pure (wpAny_pure ⟨done++[.inl k],ks',by simp,hl',by simp [hb];rfl,by simp [Nat.add_assoc,dI]⟩))
  | @t l q ks' _ h1 hl'=>
   refine wpAny_bind (wpAny_pyHash_tuple (knd:=mixKind prog w) (by simp;omega) h1 ?_)
   first
    | exact wpAny_pure ⟨done++[.inr l],ks',by simp,hl',by simp [hb];rfl,by simp [Nat.add_assoc,dI]⟩
    | exact wpAny_bind (wpAny_pure (wpAny_pure ⟨done++[.inr l],ks',by simp,hl',by simp [hb];rfl,by simp [Nat.add_assoc,dI]⟩))
 ·rintro b s' ⟨done,left,rfl,hl,hb,rfl⟩
  cases hl
  rw [append_nil] at h
  show wpAny _ _ (retInt (Builtin.Tuple.tupleHashOf b.toList)) _ _ _
  rw [hb]
  refine wpAny_ret_mkInt ?_
  show wpAny _ _ (if (decide (-(2:Int) ^ 63<=Builtin.Tuple.tupleHashOf (done.map (hI w)))&&decide (Builtin.Tuple.tupleHashOf (done.map (hI w))<2 ^ 63))=true then _ else _) Q E _
  unfold h2H reduceHash dr2 at h
  by_cases hr:(decide (-(2:Int) ^ 63<=Builtin.Tuple.tupleHashOf (done.map (hI w)))&&decide (Builtin.Tuple.tupleHashOf (done.map (hI w))<2 ^ 63))=true
  ·rw [if_pos hr]
   rw [if_pos hr] at h
   exact wpAny_pure (by simpa [Nat.add_assoc] using h)
  ·rw [if_neg hr]
   rw [if_neg hr] at h
   exact wpAny_bind (wpAny_rule (wpAny_pure (by simpa [Nat.add_assoc] using h)))
def isT:It->Bool
 | .inl _=>false
 | .inr _=>true
theorem eq_tree2 {P:Fin->Shared->Prop} (hu:A.units<cLine) (hsh:x.map isT=y.map isT) (hx:Is2 prog w s.heap x a) (hy:Is2 prog w s.heap y b) (h:P (.done (.ret (.bool (decide (x=y))))) s) :
  wpAny (model prog w) A (Builtin.«tuple.__eq__» ⟨[.ref a,.ref b],[]⟩) P E s:=by
 have hTb:=hy.typeIs
 obtain ⟨oa,xs,na,hoa,_,hda,hia⟩:=hx
 obtain ⟨ob,ys,nb,hob,_,hdb,hib⟩:=hy
 show wpAny _ _ (isInstance (.ref b) (.type "tuple") >>= _) _ _ s
 refine wpAny_bind (wpAny_isInstance hTb isSubtype_tuple_tuple ?_)
 simp only [Bool.not_true,Bool.false_eq_true,if_false]
 refine wpAny_bind (wpAny_tupleItemsOf hoa hda ?_)
 refine wpAny_bind (wpAny_tupleItemsOf hob hdb ?_)
 refine wpAny_bind ?_
 refine wpAny_forIn_list _
  (fun rest r s'=>r.1=none/\s'=s/\∃x' y' xs' ys',rest=List.zip xs' ys'/\x'.map isT=y'.map isT/\Its2 (prog:=prog) (w:=w) s.heap x' xs'/\Its2 (prog:=prog) (w:=w) s.heap y' ys'/\decide (x'=y')=decide (x=y)/\(xs'.length==ys'.length)=(xs.size==ys.size))
  _ ?_ ?_ _ _ ⟨rfl,rfl,x,y,xs.toList,ys.toList,rfl,hsh,hia,hib,rfl,by simp⟩
 ·rintro ⟨u,v⟩ rest r s' ⟨hr,rfl,x',y',xs',ys',hz,hsh',hx',hy',hdec,hlen⟩
  cases hx' with
  | nil=>simp at hz
  | @v k1 u' x'' xs'' h1 hx''=>
   cases hy' with
   | nil=>simp at hz
   | t h2 hy''=>simp [isT] at hsh'
   | @v k2 v' y'' ys'' h2 hy''=>
    simp only [List.zip_cons_cons,List.cons.injEq,Prod.mk.injEq] at hz
    obtain ⟨⟨rfl,rfl⟩,rfl⟩:=hz
    refine wpAny_bind ((mixKind prog w).eqBool (a:=k1) (b:=k2) h1 h2 ?_)
    by_cases hk:k1=k2
    ·subst hk
     rw [decide_eq_true rfl]
     simp only [Bool.not_true,Bool.false_eq_true,if_false]
     refine wpAny_pure ⟨rfl,rfl,x'',y'',xs'',ys'',rfl,by simpa using hsh',hx'',hy'',?_,by simpa using hlen⟩
     rw [<-hdec]
     by_cases hxy:x''=y''
     ·simp [hxy]
     ·simp [hxy]
    ·rw [decide_eq_false hk]
     simp only [Bool.not_false,if_true]
     have hf:decide (x=y)=false:=by rw [<-hdec];simp [hk]
     rw [hf] at h
     exact wpAny_bind (wpAny_pure (wpAny_pure (wpAny_pure h)))
  | @t l1 b1 x'' xs'' h1 hx''=>
   cases hy' with
   | nil=>simp at hz
   | v h2 hy''=>simp [isT] at hsh'
   | @t l2 b2 y'' ys'' h2 hy''=>
    simp only [List.zip_cons_cons,List.cons.injEq,Prod.mk.injEq] at hz
    obtain ⟨⟨rfl,rfl⟩,rfl⟩:=hz
    refine wpAny_bind (wpAny_eqBool_tuple (knd:=mixKind prog w) hu h1 h2 ?_)
    by_cases hk:l1=l2
    ·subst hk
     rw [decide_eq_true rfl]
     simp only [Bool.not_true,Bool.false_eq_true,if_false]
     refine wpAny_pure ⟨rfl,rfl,x'',y'',xs'',ys'',rfl,by simpa using hsh',hx'',hy'',?_,by simpa using hlen⟩
     rw [<-hdec]
     by_cases hxy:x''=y''
     ·simp [hxy]
     ·simp [hxy]
    ·rw [decide_eq_false hk]
     simp only [Bool.not_false,if_true]
     have hf:decide (x=y)=false:=by rw [<-hdec];simp [hk]
     rw [hf] at h
     exact wpAny_bind (wpAny_pure (wpAny_pure (wpAny_pure h)))
 ·rintro ⟨r1,r2⟩ s' ⟨hr,rfl,x',y',xs',ys',hz,hsh',hx',hy',hdec,hlen⟩
  simp only at hr
  subst hr
  refine wpAny_pure ?_
  have hfin:(xs.size==ys.size)=decide (x=y):=by
   rw [<-hdec,<-hlen]
   cases hx' with
   | nil=>
    cases hy' with
    | nil=>simp
    | v _ _=>simp at hsh'
    | t _ _=>simp at hsh'
   | v _ _=>
    cases hy' with
    | nil=>simp at hsh'
    | v _ _=>simp at hz
    | t _ _=>simp at hz
   | t _ _=>
    cases hy' with
    | nil=>simp at hsh'
    | v _ _=>simp at hz
    | t _ _=>simp at hz
  show P (.done (.ret (.bool (xs.size==ys.size)))) s'
  rw [hfin];exact h
theorem eqb2 {Q:Bool->Shared->Prop} (hu:A.units+1<cLine) (hsh:x.map isT=y.map isT) (hx:Is2 prog w s.heap x a) (hy:Is2 prog w s.heap y b) (h:Q (decide (x=y)) s) :
  wpAny (model prog w) A (eqBool (.ref a) (.ref b)) Q E s:=by
 unfold eqBool
 try with_reducible refine wpAny_holding ?_
 show wpAny _ _ (if (Value.ref a==Value.ref b)=true then _ else _) Q E s
 by_cases hab:(Value.ref a==Value.ref b)=true
 ·rw [if_pos hab]
  have e:a=b:=by have:=eq_of_beq hab;injection this
  subst e
  obtain rfl:=hx.inj hy
  exact wpAny_bind (wpAny_rule (wpAny_pure (by simpa using h)))
 ·rw [if_neg hab]
  exact wpAny_bind (wpAny_richCompare_same_room (op:=.Eq) hx.typeIs hy.typeIs PySem.F.slot_tuple_eq
   (wpAny_call_entry PySem.F.slot_tuple_eq hx.typeIs PySem.F.entry_tuple_eq (eq_tree2 (by simp;omega) hsh hx hy ⟨_,rfl,(fun e=>nomatch e),wpAny_truthy_bool h⟩) (PySem.F.args_tuple_eq_2 _ _)) (by omega))
theorem quiet1 {ks:List Key} {Q:Bool->Shared->Prop} (hk:IsTupleKey (mixKind prog w) s.heap ks a) (h:Q true s):wpAny (model prog w) A (eqIsQuiet (n+1) (.ref a)) Q E s:=by
 have hT:=hk.typeIs
 obtain ⟨o,items,m,ho,_,hd,hi⟩:=hk
 unfold eqIsQuiet
 refine wpAny_bind (wpAny_specialOf hT PySem.F.slot_tuple_eq.lookup ?_)
 show wpAny _ _ (isInstance (.ref a) (.type "tuple") >>= _) _ _ s
 refine wpAny_bind (wpAny_isInstance hT isSubtype_tuple_tuple ?_)
 simp only [Bool.not_true,Bool.false_eq_true,if_false]
 refine wpAny_bind (wpAny_seqItems ho hd ?_)
 refine wpAny_bind ?_
 show wpAny _ _ (forIn items _ _) _ _ s
 rw [<-Array.forIn_toList]
 refine wpAny_forIn_list _ (fun rest r s'=>r.1=none/\s'=s/\∀v∈rest,carriedByValue v=true) _ ?_ ?_ _ _ ⟨rfl,rfl,hi.byValue⟩
 ·rintro v rest r s' ⟨hr,rfl,hall⟩
  rw [eqIsQuiet_byValue _ (hall v mem_cons_self)]
  refine wpAny_bind (wpAny_pure ?_)
  simp only [Bool.not_true,Bool.false_eq_true,if_false]
  exact wpAny_pure ⟨rfl,rfl,fun u hu'=>hall u (mem_cons_of_mem _ hu')⟩
 ·rintro ⟨r1,r2⟩ s' ⟨hr,rfl,_⟩
  simp only at hr
  subst hr
  exact wpAny_pure h
theorem quiet2 {ks:List It} {Q:Bool->Shared->Prop} (hk:Is2 prog w s.heap ks a) (h:Q true s):wpAny (model prog w) A (eqIsQuiet (n+2) (.ref a)) Q E s:=by
 have hT:=hk.typeIs
 obtain ⟨o,items,m,ho,_,hd,hi⟩:=hk
 unfold eqIsQuiet
 refine wpAny_bind (wpAny_specialOf hT PySem.F.slot_tuple_eq.lookup ?_)
 show wpAny _ _ (isInstance (.ref a) (.type "tuple") >>= _) _ _ s
 refine wpAny_bind (wpAny_isInstance hT isSubtype_tuple_tuple ?_)
 simp only [Bool.not_true,Bool.false_eq_true,if_false]
 refine wpAny_bind (wpAny_seqItems ho hd ?_)
 refine wpAny_bind ?_
 show wpAny _ _ (forIn items _ _) _ _ s
 rw [<-Array.forIn_toList]
 refine wpAny_forIn_list _ (fun rest r s'=>r.1=none/\s'=s/\∃ks,Its2 (prog:=prog) (w:=w) s.heap ks rest) _ ?_ ?_ _ _ ⟨rfl,rfl,ks,hi⟩
 ·rintro v rest r s' ⟨hr,rfl,ks,hall⟩
  cases hall with
  | @v k _ ks' _ h1 hl'=>
   rw [eqIsQuiet_byValue _ ((mixKind prog w).byValue _ _ h1)]
   refine wpAny_bind (wpAny_pure ?_)
   simp only [Bool.not_true,Bool.false_eq_true,if_false]
   exact wpAny_pure ⟨rfl,rfl,ks',hl'⟩
  | @t l q ks' _ h1 hl'=>
   refine wpAny_bind (quiet1 h1 ?_)
   simp only [Bool.not_true,Bool.false_eq_true,if_false]
   exact wpAny_pure ⟨rfl,rfl,ks',hl'⟩
 ·rintro ⟨r1,r2⟩ s' ⟨hr,rfl,_⟩
  simp only at hr
  subst hr
  exact wpAny_pure h
end
def kind2 (prog:Program) (w:World) (sh:List Bool):HeapKind prog w (List It) where
 is:=fun h ks a=>Is2 prog w h ks a/\ks.map isT=sh
 hash:=h2H w
 draws:=dr2
 room:=fun A=>A.units+1<cLine
 inj:=fun hx hy=>hx.1.inj hy.1
 keeps:=fun x ho hd hs=>⟨x.1.keeps ho hd hs,x.2⟩
 pyHash:=fun hu hk h=>hash2 hu hk.1 h
 eqBool:=fun hu hx hy h=>eqb2 hu (hx.2.trans hy.2.symm) hx.1 hy.1 h
 quiet:=fun hk h=>quiet2 hk.1 h
def itV (K:Fg) (H:Hp):It->V->Prop
 | .inl k,v=>v=kV k
 | .inr l,v=>∃c,v=.ref c/\SqT K H c (l.map kV)
def K2 (K:Fg) (H:Hp) (ks:List It) (b:Addr):Prop:=∃vs,SqT K H b vs/\Paired (itV K H) ks vs
theorem K2.mono {H:Hp} {ks:List It} (k:K2 K H ks b) (m:∀c xs,SqT K H c xs->SqT K H' c xs):K2 K H' ks b:=by
 obtain ⟨vs,h,p⟩:=k
 refine ⟨vs,m _ _ h,?_⟩
 clear h
 induction p with
 | nil=>exact .nil
 | @cons a v l l' q _ ih=>
  refine .cons ?_ ih
  cases a with
  | inl k=>exact q
  | inr l=>obtain ⟨c,e,h⟩:=q;exact ⟨c,e,m _ _ h⟩
theorem tkey_of {H:Hp} {s:Shared} {l:List Key} (I:L2.Inv X pins σ H s) (h:SqT X.K H c (l.map kV)):IsTupleKey (mixKind X.prog X.w) s.heap l c:=by
 obtain ⟨its,r,⟨o,h1,h2,n,h3⟩,_⟩:=I.tuple h
 exact ⟨o,its.toArray,n,h1,h2,h3,by simpa using items_are r⟩
theorem key2_of {H:Hp} {s:Shared} {ks:List It} (I:L2.Inv X pins σ H s) (k:K2 X.K H ks b):Is2 X.prog X.w s.heap ks b:=by
 obtain ⟨vs,h,p⟩:=k
 obtain ⟨its,r,⟨o,h1,h2,n,h3⟩,_⟩:=I.tuple h
 refine ⟨o,its.toArray,n,h1,h2,h3,?_⟩
 show Its2 s.heap ks its.toArray.toList
 rw [List.toList_toArray]
 have key:∀{ks:List It} {vs:List V} {us:List Value},Paired (itV X.K H) ks vs->Vals vs us->Its2 (prog:=X.prog) (w:=X.w) s.heap ks us:=by
  intro ks vs us p
  induction p generalizing us with
  | nil=>intro r;cases r;exact .nil
  | @cons a v l l' q _ ih=>
   intro r
   cases r with
   | cons rv r=>
    cases a with
    | inl k=>
     cases (show v=kV k from q)
     exact .v (kV_is rv) (ih r)
    | inr m=>
     obtain ⟨c,e,hc⟩:=q
     subst e
     rename_i u _
     cases (show u=Value.ref c from rv)
     exact .t (tkey_of I hc) (ih r)
 exact key p r
def oD2 (P:Program) (w:World) (sh:List Bool) (a:Addr) (xs:List (List It×Addr×Value)):HO:=.ext fun h=>∃o es ep,h.get? a=some o/\o.ExactDict/\o.data=.dict es ep/\es.toList=xs.map (entryOfKey (kind2 P w sh))
abbrev KX (K:Fg) (H:Hp) (sh:List Bool):List (List It×V)->List (List It×Addr×Value)->Prop:=Paired fun p q=>p.1=q.1/\p.1.map isT=sh/\K2 K H p.1 q.2.1/\RelV p.2 q.2.2
def D2 (P:Program) (w:World) (K:Fg) (H:Hp) (sh:List Bool) (a:Addr) (kvs:List (List It×V)):Prop:=
 ∃xs,H a=some (oD2 P w sh a xs)/\KX K H sh kvs xs/\(xs.map (·.1)).Nodup/\xs.length<=1000/\(a==sysModules)=false
theorem KX.mono {H:Hp} {xs:List (List It×Addr×Value)} (k:KX K H sh kvs xs) (m:∀c xs,SqT K H c xs->SqT K H' c xs):KX K H' sh kvs xs:=by
 induction k with
 | nil=>exact .nil
 | cons q _ ih=>exact .cons ⟨q.1,q.2.1,q.2.2.1.mono m,q.2.2.2⟩ ih
theorem KX.val {H:Hp} {xs:List (List It×Addr×Value)} (r:KX K H sh kvs xs) (k:List It):RelO (valV kvs k) ((atKey xs k).map (·.2)):=by
 induction r with
 | nil=>exact trivial
 | @cons p q l l' h _ ih=>
  by_cases e:p.1=k
  ·rw [valV_pos e]
   have:atKey (q::l') k=some q.2:=by simp [atKey,find?_cons,<-h.1,e]
   rw [this]
   exact h.2.2.2
  ·rw [valV_neg e]
   have:atKey (q::l') k=atKey l' k:=by
    have e':¬q.1=k:=fun z=>e (h.1.trans z)
    simp [atKey,find?_cons,e']
   rw [this]
   exact ih
theorem KX.len {H:Hp} {xs:List (List It×Addr×Value)} (r:KX K H sh kvs xs):kvs.length=xs.length:=Paired.length r
theorem dict2_of {H:Hp} {s:Shared} {xs:List (List It×Addr×Value)} (I:L2.Inv X pins σ H s) (e:H a=some (oD2 X.prog X.w sh a xs)) (r:KX X.K H sh kvs xs) (nd:(xs.map (·.1)).Nodup):s.heap.DictOfH (kind2 X.prog X.w sh) a xs:=by
 obtain ⟨⟨o,es,ep,h1,h2,h3,h4⟩,_⟩:=(show ObjOk X.prog X.w H s.heap a (oD2 X.prog X.w sh a xs) from I.hok a _ e)
 refine ⟨o,es,ep,h1,h2,h3,h4,fun x hx=>?_,nd⟩
 have all:∀{l:List (List It×V)} {m:List (List It×Addr×Value)},KX X.K H sh l m->∀x∈m,(kind2 X.prog X.w sh).is s.heap x.1 x.2.1:=by
  intro l m q
  induction q with
  | nil=>intro x hx;exact nomatch hx
  | @cons p q ps qs hq t ih=>
   intro x hx
   rcases List.mem_cons.mp hx with e | hx
   ·subst e
    exact ⟨by rw [<-hq.1];exact key2_of I hq.2.2.1,by rw [<-hq.1];exact hq.2.1⟩
   ·exact ih x hx
 exact all r x hx
theorem room2 {P:Program} {w:World} {A:Around} (hu:A.units+2<cLine):(kind2 P w sh).room A.in1:=by
 show A.in1.units+1<cLine
 simp
 omega
section
variable {prog:Program} {w:World} {K:Type} [DecidableEq K] {knd:HeapKind prog w K} {A:Around} {E:Value->Shared->Prop} {s:Shared}
theorem len_heap {d:Addr} {xs:List (K×Addr×Value)} {Q:Value->Shared->Prop} (hd:(d==sysModules)=false) (hm:s.heap.DictOfH knd d xs) (hfit:(xs.length:Int)<2 ^ 63)
  (h:Q (.int xs.length (s.toks+1)) { s with toks:=s.toks+1+1 }):wpAny (model prog w) A (call (.builtin "len") [.ref d]) Q E s:=by
 refine Calls.call_function_entry kind_len plain_len entry_len (args_len1 _) ?_
 have hm':=hm
 obtain ⟨o,es,ep,ho,hc,hdat,hk,hp,hn⟩:=hm'
 have hz:es.size=xs.length:=size_of_entries hk
 unfold Builtin.«len»
 refine wpAny_bind (m:=oneArg "len" _) (wpAny_pure ?_)
 refine wpAny_bind (m:=callSpecial? (.ref d) (Str.ofString "__len__")) (wpAny_callSpecial?_slot (name:=Str.ofString "__len__") hm.typeIs PySem.F.slot_dict_len
  (wpAny_call_entry PySem.F.slot_dict_len hm.typeIs PySem.F.entry_dict_len ?_ (PySem.F.args_dict_len_1 _)))
 show wpAny _ _ (dictSize d >>= _) _ _ s
 unfold dictSize
 refine wpAny_bind (wpAny_bind (wpAny_dictEntries ho hdat (wpAny_pure ?_)))
 show wpAny _ _ (Builtin.Dict.pendingCount d >>= _) _ _ s
 refine wpAny_bind (wpAny_pendingCount_other hd ?_)
 refine wpAny_ret_mkInt ?_
 rw [show ((es.size:Int)+((0:Nat):Int))=(xs.length:Int) by rw [hz];simp]
 show wpAny _ _ _ _ _ { s with toks:=s.toks+1 }
 refine wpAny_bind (wpAny_holding (wpAny_pure ?_))
 refine wpAny_bind (wpAny_letGo ?_)
 show wpAny _ _ (if ((xs.length:Nat):Int)<0 then _ else _) _ _ _
 rw [if_neg (by omega)]
 show wpAny _ _ (if ((xs.length:Nat):Int)≥2 ^ 63 then _ else _) _ _ _
 rw [if_neg (by omega)]
 exact wpAny_bind (wpAny_mkInt (wpAny_pure ⟨_,rfl,h⟩))
end
def tD2Get (P:Program) (w:World) (K:Fg) (td ty:TE):TE:=fun σ H Q=>td σ H fun x H1=>ty σ H1 fun y H2=>∃a b sh kvs ks v,x=.ref a/\y=.ref b/\D2 P w K H2 sh a kvs/\K2 K H2 ks b/\ks.map isT=sh/\valV kvs ks=some v/\Q v H2
def tD2NotIn (P:Program) (w:World) (K:Fg) (ty td:TE):TE:=fun σ H Q=>ty σ H fun y H1=>td σ H1 fun x H2=>∃a b sh kvs ks,x=.ref a/\y=.ref b/\D2 P w K H2 sh a kvs/\K2 K H2 ks b/\ks.map isT=sh/\Q (.bl (!(valV kvs ks).isSome)) H2
def sD2Put (P:Program) (w:World) (K:Fg) (td ty tv:TE):TS:=fun D σ H=>tv σ H fun v H1=>td σ H1 fun x H2=>ty σ H2 fun y H3=>∃a b sh kvs ks,x=.ref a/\y=.ref b/\D2 P w K H3 sh a kvs/\K2 K H3 ks b/\ks.map isT=sh/\kvs.length<1000/\valV kvs ks=none /\
 ∀ob,D2 P w K (upd H3 a ob) sh a (kvs++[(ks,v)])->D.nx σ (upd H3 a ob)
def tD2New (P:Program) (w:World) (K:Fg) (sh:List Bool):TE:=fun _ H Q=>∀p ob,H p=none->D2 P w K (upd H p ob) sh p []->Q (.ref p) (upd H p ob)
def rD2Len (P:Program) (w:World) (K:Fg):List V->Hp->VK->Prop:=fun xs H Q=>∃a sh kvs,xs=[.ref a]/\D2 P w K H sh a kvs/\Q (.int (kvs.length:Int)) H
theorem oD2_ok {P:Program} {w:World} {H:Hp} {xs:List (List It×Addr×Value)} (x:∃o es ep,h.get? a=some o/\o.ExactDict/\o.data=.dict es ep/\es.toList=xs.map (entryOfKey (kind2 P w sh))):ObjOk P w H h a (oD2 P w sh a xs):=by
 refine ⟨x,let ⟨o,_,_,ho,_⟩:=x;⟨o,ho⟩,fun h1 h2 ⟨o,es,ep,ho,r⟩ k=>⟨o,es,ep,k o ho,r⟩⟩
section
variable {X:Cx} {o i e value:Expr} {pos pos' tpos:Pos} {td ty tv:TE}
theorem pe_d2get (hu:X.A.units+2<cLine) (ho:PE X o td) (hi:PE X i ty) (hs:NoSl i):PE X (.Subscript o i pos) (tD2Get X.prog X.w X.K td ty):=by
 intro pins s σ H Q I h
 refine subD_of PySem.F.slot_dict_getitem.lookup hs (thn (ho pins s σ H _ I h) fun u s1 ⟨x,H1,I1,rx,q1⟩=>thn (hi pins s1 σ H1 _ I1 q1) fun iv s2 ⟨y,H2,I2,ry,a,b,sh,kvs,ks,v,ex,ey,⟨xs,e,r,nd,hz,hd⟩,k,hsh,hv,q2⟩=>?_)
 subst ex ey
 obtain rfl:u=Value.ref a:=rx
 obtain rfl:iv=Value.ref b:=ry
 have dd:=dict2_of I2 e r nd
 refine ⟨dd.typeIs,?_⟩
 obtain ⟨w',hw,rw'⟩:=RelO.some_of (v:=v) (o:=(atKey xs ks).map (·.2)) (by rw [<-hv];exact r.val ks)
 obtain ⟨p,hp,hp2⟩:=Option.map_eq_some_iff.mp hw
 refine wpAny_getItem_heap (room2 hu) ⟨key2_of I2 k,hsh⟩ dd hp ?_
 rw [hp2]
 exact ⟨v,H2,I2.tok _,rw',q2⟩
theorem pc_d2notin (hu:X.A.units+2<cLine) (hi:PE X i ty) (ho:PE X o td):PC X .NotIn i o (tD2NotIn X.prog X.w X.K ty td):=by
 intro pins s σ H Q I h
 refine thn (hi pins s σ H _ I h) fun iv s1 ⟨y,H1,I1,ry,q1⟩=>thn (ho pins s1 σ H1 _ I1 q1) fun u s2 ⟨x,H2,I2,rx,a,b,sh,kvs,ks,ex,ey,⟨xs,e,r,nd,hz,hd⟩,k,hsh,q2⟩=>?_
 subst ex ey
 obtain rfl:u=Value.ref a:=rx
 obtain rfl:iv=Value.ref b:=ry
 have dd:=dict2_of I2 e r nd
 refine wpAny_notIn_heap (room2 hu) ⟨key2_of I2 k,hsh⟩ hd dd ?_
 have q:=(r.val ks).isSome_eq
 rw [Option.isSome_map] at q
 rw [<-q]
 exact ⟨.bl (!(valV kvs ks).isSome),H2,I2.tok _,rfl,q2⟩
theorem ps_d2put (hu:X.A.units+2<cLine) (ho:PE X o td) (hi:PE X i ty) (hv:PE X value tv) (hs:swapsWith value (some (.Subscript o i pos')) pos.line X.env=pure false) :
  PS X (.Assign [.Subscript o i pos'] value pos) (sD2Put X.prog X.w X.K td ty tv):=by
 intro pins s σ H D I h
 refine wpAny_Assign_Subscript (thn (hv pins s σ H _ I h) fun r s1 ⟨v,H1,I1,rv,q1⟩=>thn (ho pins s1 σ H1 _ I1 q1) fun u s2 ⟨x,H2,I2,rx,q2⟩=>thn (hi pins s2 σ H2 _ I2 q2) fun iv s3 ⟨y,H3,I3,ry,a,b,sh,kvs,ks,ex,ey,⟨xs,e,rr,nd,hz,hd⟩,k,hsh,hl,hn,q3⟩=>?_) hs
 subst ex ey
 obtain rfl:u=Value.ref a:=rx
 obtain rfl:iv=Value.ref b:=ry
 have dd:=dict2_of I3 e rr nd
 have hb:(1000:Nat)<=sizeLine:=by decide
 have hat:atKey xs ks=none:=by
  have q:=(rr.val ks).isSome_eq
  rw [hn,Option.isSome_map] at q
  cases z:atKey xs ks with
  | none=>rfl
  | some _=>rw [z] at q;cases q
 refine wpAny_setItem_heap (hsz:=by omega) (room2 hu) ⟨key2_of I3 k,hsh⟩ dd fun h' dd' hs'=>?_
 rw [storedH_new hat] at dd'
 obtain ⟨q,es,ep,hq,h2,h3,h4,_,h5⟩:=dd'
 have m:∀c ys,SqT X.K H3 c ys->SqT X.K (upd H3 a (oD2 X.prog X.w sh a (xs++[(ks,b,r)]))) c ys:=fun c ys hc=>by
  rcases hc with hc | hc
  ·left
   rcases hc with hc | ⟨o',hc⟩
   ·exact .inl (by rw [upd_ne (fun z=>by subst z;rw [e] at hc;cases hc)];exact hc)
   ·exact .inr ⟨o',by rw [upd_ne (fun z=>by subst z;rw [e] at hc;cases hc)];exact hc⟩
  ·exact .inr hc
 have I4:=d_write (t':=s3.toks+(kind2 X.prog X.w sh).draws ks) (ob:=oD2 X.prog X.w sh a (xs++[(ks,b,r)])) I3 (by rw [e];exact True.intro) hs' ⟨q,hq⟩ (oD2_ok ⟨q,es,ep,hq,h2,h3,h4⟩)
 refine ⟨σ,_,I4,q3 _ ⟨xs++[(ks,b,r)],upd_same,?_,h5,?_,hd⟩⟩
 ·exact Paired.snoc (rr.mono m) ⟨rfl,hsh,k.mono m,rv⟩
 ·rw [length_append,length_singleton,<-rr.len]
  omega
theorem pe_d2new (sh:List Bool):PE X (.Dict [] [] pos) (tD2New X.prog X.w X.K sh):=fun pins s σ H Q I h=>by
 have hp:=I.hok.fresh (Nat.le_refl s.heap.objs.size)
 refine wpAny_Dict_empty ⟨.ref s.heap.objs.size,_,I.laid (a:=s.heap.objs.size) (o:=oD2 X.prog X.w sh s.heap.objs.size []) (t':=s.toks) (fun _ _ q=>Heap.get?_push_of_some _ q) (Nat.le_refl _) (oD2_ok ⟨_,#[],0,Heap.get?_push_size _ rfl,⟨rfl,rfl,rfl⟩,rfl,rfl⟩),rfl,h _ _ hp ⟨[],upd_same,.nil,nodup_nil,by simp,beq_eq_false_iff_ne.mpr (Ne.symm (Nat.ne_of_lt I.big))⟩⟩
theorem call_d2len:CallR X (.builtin "len") (rD2Len X.prog X.w X.K):=by
 intro pins s σ H xs us Q I rv h
 obtain ⟨a,sh,kvs,rfl,⟨xs,e,r,nd,hz,hd⟩,q⟩:=h
 obtain ⟨u,rfl,ru⟩:=rv.one
 cases ru
 have dd:=dict2_of I e r nd
 refine len_heap hd dd (by omega) ?_
 rw [<-r.len]
 exact ⟨.int (kvs.length:Int),H,I.tok _,⟨_,rfl⟩,q⟩
end
def toKey:PySem.PyData->Option Key
 | .int n=>some (.inl n)
 | .str x=>some (.inr x)
 | _=>none
def toKeys:List PySem.PyData->Option (List Key)
 | []=>some []
 | d::r=>match toKey d,toKeys r with
  | some k,some ks=>some (k::ks)
  | _,_=>none
def toIt:PySem.PyData->Option It
 | .tuple ds=>(toKeys ds).map .inr
 | d=>(toKey d).map .inl
def toIts:List PySem.PyData->Option (List It)
 | []=>some []
 | d::r=>match toIt d,toIts r with
  | some k,some ks=>some (k::ks)
  | _,_=>none
def toK:PySem.PyData->Option (List It)
 | .tuple ds=>toIts ds
 | _=>none
def toKs:List PySem.PyData->Option (List (List It))
 | []=>some []
 | d::r=>match toK d,toKs r with
  | some k,some ks=>some (k::ks)
  | _,_=>none
def memB (k:List It) (acc:List (List It)):Bool:=acc.any fun a=>decide (a=k)
theorem memB_iff {k:List It}:memB k acc=true↔k∈acc:=by
 unfold memB
 rw [any_eq_true]
 exact ⟨fun ⟨x,h,e⟩=>by rw [<-of_decide_eq_true e];exact h,fun h=>⟨k,h,decide_eq_true rfl⟩⟩
def dstep (acc:List (List It)) (k:List It):List (List It):=if memB k acc then acc else acc++[k]
def dst (ks:List (List It)):List (List It):=ks.foldl dstep []
def ixK (k:List It):List (List It)->Nat
 | []=>0
 | a::r=>if a=k then 0 else ixK k r+1
def nums (ks:List (List It)):List Int:=ks.map fun k=>(ixK k (dst ks):Int)
def shOk (ks:List (List It)):Bool:=ks.all fun k=>decide (k.map isT=(ks.headD []).map isT)
def m_numbered:List PySem.PyData->Res
 | [.list ds]=>match toKs ds with
  | some ks=>if ks.length<=900/\shOk ks=true then .ok ⟨.lst .leaf,.list ((nums ks).map .int)⟩ else .no
  | none=>.no
 | _=>.no
theorem dst_take {ks:List (List It)} {i:Nat} (h:i<ks.length):dst (ks.take (i+1))=dstep (dst (ks.take i)) ks[i]:=by
 unfold dst
 rw [take_succ,getElem?_eq_getElem h,List.foldl_append]
 rfl
theorem dst_len {ks:List (List It)}:∀i,i<=ks.length->(dst (ks.take i)).length<=i
 | 0,_=>by simp [dst]
 | i+1,h=>by
  have:=dst_len (ks:=ks) i (by omega)
  rw [dst_take (by omega)]
  unfold dstep
  split
  ·omega
  ·rw [length_append,length_singleton];omega
theorem mem_dstep {k:List It}:x∈dstep acc k↔x∈acc\/x=k:=by
 unfold dstep
 split
 ·rename_i h
  exact ⟨.inl,fun z=>z.elim id fun e=>by rw [e];exact memB_iff.mp h⟩
 ·simp
theorem mem_fold:∀{ks acc:List (List It)} {x:List It},x∈ks.foldl dstep acc↔x∈acc\/x∈ks
 | [],acc,x=>by simp
 | k::ks,acc,x=>by
  rw [foldl_cons,mem_fold,mem_dstep,mem_cons,or_assoc]
theorem mem_dst {ks:List (List It)}:x∈dst ks↔x∈ks:=by
 unfold dst
 rw [mem_fold]
 simp
def kvN:Nat->List (List It)->List (List It×V)
 | _,[]=>[]
 | i,k::r=>(k,.int (i:Int))::kvN (i+1) r
theorem kvN_len:∀{l:List (List It)} {i:Nat},(kvN i l).length=l.length
 | [],_=>rfl
 | _::l,i=>by rw [kvN,length_cons,kvN_len,length_cons]
theorem kvN_snoc:∀{l:List (List It)} {i:Nat} {k:List It},kvN i (l++[k])=kvN i l++[(k,.int ((i+l.length:Nat):Int))]
 | [],i,k=>by simp [kvN]
 | a::l,i,k=>by
  rw [cons_append,kvN,kvN_snoc,kvN,cons_append,length_cons,show i+1+l.length=i+(l.length+1) by omega]
theorem kvN_in:∀{l:List (List It)} {i:Nat} {k:List It},k∈l->valV (kvN i l) k=some (.int ((i+ixK k l:Nat):Int))
 | a::l,i,k,h=>by
  by_cases e:a=k
  ·subst e
   rw [kvN,valV_pos rfl,ixK,if_pos rfl]
   rfl
  ·rw [kvN,valV_neg e,ixK,if_neg e,kvN_in ((List.mem_cons.mp h).resolve_left (Ne.symm e)),show i+1+ixK k l=i+(ixK k l+1) by omega]
theorem kvN_out:∀{l:List (List It)} {i:Nat} {k:List It},k∉l->valV (kvN i l) k=none
 | [],_,_,_=>rfl
 | a::l,i,k,h=>by
  have e:¬a=k:=fun e=>h (by rw [e];exact mem_cons_self)
  rw [kvN,valV_neg e,kvN_out fun z=>h (mem_cons_of_mem _ z)]
section
variable {K:Fg} {H:Hp}
theorem rep_key {v:V} {d:PySem.PyData} {k:Key} (r:Rep K H v d) (e:toKey d=some k):v=kV k:=by
 cases r<;>simp only [toKey] at e<;>cases e<;>rfl
theorem reps_keys:∀{vs:List V} {ds:List PySem.PyData} {ks:List Key},vs.length=ds.length->(∀(i:Nat) v d,vs[i]?=some v->ds[i]?=some d->Rep K H v d)->toKeys ds=some ks->vs=ks.map kV
 | [],[],ks,_,_,e=>by cases e;rfl
 | v::vs,d::ds,ks,hl,hr,e=>by
  unfold toKeys at e
  split at e
  ·rename_i k ks' e1 e2
   cases e
   have h1:=rep_key (hr 0 v d rfl rfl) e1
   have h2:vs=ks'.map kV:=reps_keys (by simpa using hl) (fun i v d a b=>hr (i+1) v d (by simpa using a) (by simpa using b)) e2
   rw [h1,h2]
   rfl
  ·cases e
 | [],_::_,_,hl,_,_=>by simp at hl
 | _::_,[],_,hl,_,_=>by simp at hl
theorem rep_it {v:V} {d:PySem.PyData} {k:It} (r:Rep K H v d) (e:toIt d=some k):itV K H k v:=by
 cases r with
 | tup h hl hr=>
  simp only [toIt] at e
  obtain ⟨l,hl',rfl⟩:=Option.map_eq_some_iff.mp e
  exact ⟨_,rfl,by rw [<-reps_keys hl hr hl'];exact h⟩
 | int i=>simp only [toIt,toKey] at e;cases e;rfl
 | str x=>simp only [toIt,toKey] at e;cases e;rfl
 | lst _ _ _=>simp only [toIt,toKey] at e;cases e
 | non=>simp only [toIt,toKey] at e;cases e
 | bl b=>simp only [toIt,toKey] at e;cases e
theorem reps_its:∀{vs:List V} {ds:List PySem.PyData} {ks:List It},vs.length=ds.length->(∀(i:Nat) v d,vs[i]?=some v->ds[i]?=some d->Rep K H v d)->toIts ds=some ks->Paired (itV K H) ks vs
 | [],[],ks,_,_,e=>by cases e;exact .nil
 | v::vs,d::ds,ks,hl,hr,e=>by
  unfold toIts at e
  split at e
  ·rename_i k ks' e1 e2
   cases e
   exact .cons (rep_it (hr 0 v d rfl rfl) e1) (reps_its (by simpa using hl) (fun i v d a b=>hr (i+1) v d (by simpa using a) (by simpa using b)) e2)
  ·cases e
 | [],_::_,_,hl,_,_=>by simp at hl
 | _::_,[],_,hl,_,_=>by simp at hl
theorem rep_K2 {v:V} {d:PySem.PyData} {k:List It} (r:Rep K H v d) (e:toK d=some k):∃b,v=.ref b/\K2 K H k b:=by
 cases r with
 | @tup p vs ds h hl hr=>exact ⟨p,rfl,vs,h,reps_its hl hr e⟩
 | _=>cases e
theorem toKs_at:∀{ds:List PySem.PyData} {ks:List (List It)},toKs ds=some ks->ks.length=ds.length/\∀(i:Nat) d,ds[i]?=some d->∃k,ks[i]?=some k/\toK d=some k
 | [],ks,e=>by cases e;exact ⟨rfl,fun i d h=>by simp at h⟩
 | d::ds,ks,e=>by
  unfold toKs at e
  split at e
  ·rename_i k ks' e1 e2
   cases e
   obtain ⟨a,b⟩:=toKs_at e2
   refine ⟨by simp [a],fun i d' h=>?_⟩
   cases i with
   | zero=>cases h;exact ⟨k,rfl,e1⟩
   | succ i=>exact b i d' (by simpa using h)
  ·cases e
theorem sqt_upd {o o':HO} {xs:List V} (e:H a=some o) (h1:∀xs,o≠.tup xs) (h2:∀b xs,o≠.frz b (.tup xs)) (h:SqT K H c xs):SqT K (upd H a o') c xs:=by
 rcases h with h | h
 ·left
  rcases h with h | ⟨b,h⟩
  ·exact .inl (by rw [upd_ne (fun z=>by subst z;rw [e] at h;exact h1 xs (Option.some.inj h))];exact h)
  ·exact .inr ⟨b,by rw [upd_ne (fun z=>by subst z;rw [e] at h;exact h2 b xs (Option.some.inj h))];exact h⟩
 ·exact .inr h
theorem D2.mono {P:Program} {w:World} (x:D2 P w K H sh a kvs) (e:H' a=H a) (m:∀c xs,SqT K H c xs->SqT K H' c xs):D2 P w K H' sh a kvs:=by
 obtain ⟨xs,h1,h2,h3⟩:=x
 exact ⟨xs,e.trans h1,h2.mono m,h3⟩
end
abbrev N_num:List Str:=["keys", "numbers", "key"]
abbrev G_num:List Str:=["len"]
def tbN (P:Program) (w:World) (K:Fg):TS:=tIfS (tB (tD2NotIn P w K (tVar 2) (tVar 1))) (sD2Put P w K (tVar 1) (tVar 2) (tCB (rD2Len P w K) (tCons (tVar 1) tNil))) tNext
def tNum (P:Program) (w:World) (K:Fg) (sh:List Bool):TS:=
 tSeq (tAsg (tD2New P w K sh) (gName 1)) (tSeq (tFor (iList K (tVar 0)) (gName 2) (tbN P w K)) (tRet (tComp [2] (iList K (tVar 0)) (gName 2) tTrue (tD2Get P w K (tVar 1) (tVar 2)))))
theorem iteT' {A B:Bool->Hp->Prop} {H:Hp} (h:A true H):tTrue σ H fun b H=>if b=true then A b H else B b H:=by
 show (if true=true then A true H else B true H)
 rw [if_pos rfl]
 exact h
theorem rd_num {P:Program} {w:World} {H:Hp} {O:List Addr} {vs:List V} {ds:List PySem.PyData} {ks:List (List It)} {Q:VK} {Qn:St->Hp->Prop} (nd:O.Nodup) (inH:∀a∈O,H a≠none) (rs:Reps K (hid H O) vs [.list ds])
  (hk:toKs ds=some ks) (hn:ks.length<=900) (hsh:∀k∈ks,k.map isT=sh)
  (q:∀v H' G,RetOk K H O ⟨.lst .leaf,.list ((nums ks).map .int)⟩ v H' G->Q v H'):tNum P w K sh { nx:=Qn,rt:=Q } (L2.start N_num vs) H:=by
 have hvl:vs.length=1:=rs.1
 match vs,hvl,rs with
 | [v0],_,rs=>
 have r0:=rs.2 0 v0 (.list ds) rfl rfl
 cases r0 with
 | @lst p ws _ hq hl hr=>
 obtain ⟨kl,kat⟩:=toKs_at hk
 have hb:(1000:Nat)<=sizeLine:=by decide
 have hs0:Same (hid H O) H:=hid_le
 intro d ob hd dd
 have sHd:Same H (upd H d ob):=same_upd hd
 have hbd:hid H O d=none:=by unfold hid;split<;>first | rfl | exact hd
 refine ⟨.ref p,rfl,p,rfl,⟨ws,(hs0.trans sHd).seq hq⟩,fun k m σ' H'=>m=ws.length-k/\k<=ws.length/\(∃x2,σ'=[some (.ref p),some (.ref d),x2])/\D2 P w K H' sh d (kvN 0 (dst (ks.take k)))/\Same H H',⟨ws.length,by simp,Nat.zero_le _,⟨none,rfl⟩,by simpa [dst,kvN] using dd,sHd⟩,?_⟩
 have keyAt:∀(k:Nat),k<ws.length->∀H',Same H H'->∃x b,ws[k]?=some (.ref b)/\ks[k]?=some x/\K2 K H' x b/\x.map isT=sh:=fun k hk' H' sH=>by
  have hkd:k<ds.length:=by omega
  obtain ⟨x,e1,e2⟩:=kat k ds[k] (getElem?_eq_getElem hkd)
  obtain ⟨b,e3,e4⟩:=rep_K2 (hr k ws[k] ds[k] (getElem?_eq_getElem hk') (getElem?_eq_getElem hkd)) e2
  exact ⟨x,b,by rw [getElem?_eq_getElem hk',e3],e1,e4.mono fun c xs h=>SameT (hs0.trans sH) h,hsh x (mem_of_getElem? e1)⟩
 rintro k m σ' H' ⟨rfl,hk',⟨x2,rfl⟩,hD,sH⟩
 have hP:SqL K H' p ws:=(hs0.trans sH).seq hq
 by_cases hlt:k<ws.length
 case pos=>
  right
  obtain ⟨x,b,e1,e2,e3,e4⟩:=keyAt k hlt H' sH
  have hkk:k<ks.length:=by omega
  have ex:ks[k]=x:=by rw [getElem?_eq_getElem hkk] at e2;exact Option.some.inj e2
  refine ⟨⟨ws,_,hP,e1⟩,fun σ2 H2=>(∃x2,σ2=[some (.ref p),some (.ref d),x2])/\D2 P w K H2 sh d (kvN 0 (dst (ks.take (k+1))))/\Same H H2,fun σ2 H2 q2=>⟨ws.length-(k+1),by omega,rfl,hlt,q2⟩,?_⟩
  rintro v H2 ⟨rfl,hv⟩
  have ev:v=.ref b:=Option.some.inj ((hv ws hP).symm.trans e1)
  subst ev
  rw [dst_take hkk,ex]
  show tbN P w K _ [some (.ref p),some (.ref d),some (.ref b)] H2
  refine ⟨.ref b,rfl,.ref d,rfl,d,b,sh,_,x,rfl,rfl,hD,e3,e4,_,rfl,?_⟩
  by_cases hm:x∈dst (ks.take k)
  ·rw [kvN_in hm]
   refine iteF ⟨⟨_,rfl⟩,?_,sH⟩
   unfold dstep
   rw [if_pos (memB_iff.mpr hm)]
   exact hD
  ·rw [kvN_out hm]
   have hln:=dst_len (ks:=ks) k (by omega)
   refine iteT ⟨.ref d,rfl,d,sh,_,rfl,hD,.ref d,rfl,.ref b,rfl,d,b,sh,_,x,rfl,rfl,hD,e3,e4,by rw [kvN_len];omega,kvN_out hm,fun ob' hD'=>⟨⟨_,rfl⟩,?_,fun c o hc=>?_⟩⟩
   ·unfold dstep
    rw [if_neg (fun z=>hm (memB_iff.mp z)),kvN_snoc]
    rw [kvN_len] at hD'
    simpa using hD'
   ·rw [upd_ne (fun z=>by subst z;rw [hd] at hc;cases hc)]
    exact sH c o hc
 case neg=>
  left
  refine ⟨⟨ws,hP,by omega⟩,?_⟩
  have hke:ks.take k=ks:=take_of_length_le (by omega)
  rw [hke] at hD
  show tComp [2] (iList K (tVar 0)) (gName 2) tTrue (tD2Get P w K (tVar 1) (tVar 2)) [some (.ref p),some (.ref d),x2] H' Q
  refine ⟨.ref p,rfl,p,rfl,⟨ws,hP⟩,fun L hL=>?_⟩
  have hbl:blank [2] [some (.ref p),some (.ref d),x2]=[some (.ref p),some (.ref d),none]:=by simp [blank]
  have hdL:d≠L:=fun z=>by
   subst z
   obtain ⟨_,e,_⟩:=hD
   rw [e] at hL
   cases hL
  have HL:H L=none:=sH.free hL
  refine ⟨fun i m ys H2=>m=ws.length-i/\i<=ws.length/\ys=((nums ks).take i).map V.int/\H2 L=some (.lst ys)/\D2 P w K H2 sh d (kvN 0 (dst ks))/\Same H H2,⟨ws.length,by simp,Nat.zero_le _,by simp,upd_same,hD.mono (upd_ne hdL) fun c xs h=>SameT (same_upd hL) h,sH.trans (same_upd hL)⟩,?_⟩
  rintro i m ys H2 ⟨rfl,hi,rfl,hLs,hD2,sH2⟩
  refine ⟨hLs,?_⟩
  have hP2:SqL K H2 p ws:=(hs0.trans sH2).seq hq
  have nl:(nums ks).length=ws.length:=by unfold nums;rw [length_map];omega
  by_cases hlt2:i<ws.length
  case neg=>
   left
   refine ⟨⟨ws,hP2,by omega⟩,q _ _ [L] ⟨sH2,fun a ha=>by rw [List.mem_singleton.mp ha];exact HL,fun a ha=>by rw [List.mem_singleton.mp ha,hLs];exact Option.some_ne_none _,by simp,?_,rfl⟩⟩
   have ht:(nums ks).take i=nums ks:=take_of_length_le (by omega)
   rw [ht] at hLs
   refine Own.mkLeaves hLs (by simp) fun j u d' h1 h2=>?_
   rw [getElem?_map] at h1 h2
   cases e3:(nums ks)[j]? with
   | none=>rw [e3] at h1;cases h1
   | some z=>
    rw [e3] at h1 h2
    cases h1
    cases h2
    exact .int z
  case pos=>
   right
   obtain ⟨x,b,e1,e2,e3,e4⟩:=keyAt i hlt2 H2 sH2
   refine ⟨⟨ws,_,hP2,e1⟩,by rw [length_map,length_take];omega,?_⟩
   rintro v H3 ⟨rfl,hv⟩
   have ev:v=.ref b:=Option.some.inj ((hv ws hP2).symm.trans e1)
   subst ev
   rw [hbl]
   show LeS [some (.ref p),some (.ref d),none] [some (.ref p),some (.ref d),some (.ref b)]/\_
   refine ⟨⟨rfl,fun j u h=>?_⟩,?_⟩
   ·match j,h with
    | 0,h=>exact h
    | 1,h=>exact h
    | 2,h=>cases h
    | j+3,h=>cases h
   refine iteT' ?_
   have hm:x∈dst ks:=mem_dst.mpr (mem_of_getElem? e2)
   refine ⟨.ref d,rfl,.ref b,rfl,d,b,sh,_,x,_,rfl,rfl,hD2,e3,e4,kvN_in hm,hLs,ws.length-(i+1),by omega,rfl,hlt2,?_,upd_same,hD2.mono (upd_ne hdL) fun c xs h=>sqt_upd hLs (fun xs z=>by cases z) (fun b xs z=>by cases z) h,fun c o hc=>?_⟩
   ·rw [take_succ,map_append]
    have:(nums ks)[i]?=some ((ixK x (dst ks):Nat):Int):=by unfold nums;rw [getElem?_map,e2];rfl
    rw [this]
    simp
   ·rw [upd_ne (fun z=>by subst z;rw [HL] at hc;cases hc)]
    exact sH2 c o hc
theorem m_numbered_ok {ds:List PySem.PyData} {p:PV} (h:m_numbered ds=.ok p):∃xs ks,ds=[.list xs]/\toKs xs=some ks/\ks.length<=900/\shOk ks=true/\p=⟨.lst .leaf,.list ((nums ks).map .int)⟩:=by
 unfold m_numbered at h
 split at h
 ·rename_i xs
  split at h
  ·rename_i ks e
   split at h
   ·rename_i c
    cases h
    exact ⟨xs,ks,rfl,e,c.1,c.2,rfl⟩
   ·cases h
  ·cases h
 ·cases h
theorem ok_num {P:Program} {w:World} {mg:Str->Option Value} {base:Heap} {f:Addr} {fd:FuncData} {k:Nat} {s_num:Stmt} (F:Fun K "numbered" "numbered" s_num f fd) (hm:mg "numbered"=some (.ref f)) (b:Binds K fd ["keys"] []) (n_len:mg "len"=none)
  (sc:FnScope N_num ["keys"] (defScope s_num)) (cp:cpB N_num G_num [0,1,2] [1] [0,1,2] [0,2] [0] (defScope s_num)=true) (nm:nmB N_num G_num=true)
  (bd:∀{X:Cx} (sh:List Bool),Cp X N_num G_num [0,1,2] [1] [0,1,2] [0,2] [0]->Rm X->PassesOwn (model X.prog X.w) X.A X.env X.xe->X.mg "len"=none->PSs X (defBody s_num) (tNum X.prog X.w X.K sh)):DefOk P w K mg base (k+1) "numbered" 1 m_numbered:=by
 refine ⟨f,fd,["keys"],F.ok sc (fun vs H Q E h=>h.1) (fun cdv A outer s H vs Q E hr h=>?_),hm,F.kp,b⟩
 obtain ⟨hl,O,ds,nd,inH,rs,w'⟩:=h
 cases e:m_numbered ds with
 | er c=>rw [e] at w';exact w'.elim
 | no=>rw [e] at w';exact w'.elim
 | ok p=>
  rw [e] at w'
  obtain ⟨xs,ks,rfl,e1,e2,e3,rfl⟩:=m_numbered_ok e
  exact ⟨_,bd ((ks.headD []).map isT) (Cp.fn cp nm) hr.units PassesOwn.never n_len,rd_num nd inH rs e1 e2 (fun k hk=>of_decide_eq_true (List.all_eq_true.mp e3 k hk)) w'⟩
end T
namespace KC
open PySem PySem.Spec L2 T
open PyProof.Rows hiding St
variable {X:Cx}
noncomputable def s_numbered:Stmt:=sTm 16
theorem sc_numbered:FnScope N_num ["keys"] (defScope s_numbered):=⟨rfl,rfl,rfl,by decide +kernel,rfl,by decide +kernel,by decide +kernel⟩
theorem cp_numbered:cpB N_num G_num [0,1,2] [1] [0,1,2] [0,2] [0] (defScope s_numbered)=true:=by kernel_rfl
theorem nm_numbered:nmB N_num G_num=true:=by kernel_rfl
theorem nv {gl:List Str} {vs cs ls lo gs:List Nat} (S:Cp X N_num gl vs cs ls lo gs) (i:Nat) (x:Str) (pos:Pos) (e:N_num[i]?=some x) (hi:vs.contains i=true):PE X (.Name x pos) (tVar i):=by
 have m:=S.nm x (mem_of_getElem? e)
 exact pe_var (by rw [S.hN];exact e) (S.vis i x e hi) m.1 m.2
theorem num_comp {scope:Scope} {p1 p2 p3 p4 p5 pos:Pos} (S:Cp X N_num G_num [0,1,2] [1] [0,1,2] [0,2] [0]) (hu:X.A.units+2<cLine) (h1:compBL N_num [2] [1] scope=true) (h2:cpB N_num G_num [1,2] [1] [2] [] [] scope=true) (hs:∀x,foldedSetIterable (.Name "keys" p5) X.env x=pure x) :
  PE X (.ListComp (.Subscript (.Name "numbers" p1) (.Name "key" p2) p3) [⟨.Name "key" p4,.Name "keys" p5,[],0⟩] scope pos) (tComp [2] (iList X.K (tVar 0)) (gName 2) tTrue (tD2Get X.prog X.w X.K (tVar 1) (tVar 2))):=by
 have hN:X.N.Nodup:=by rw [S.hN];exact S.nd
 have B:=fun cells C s₀ H₀ ex=>S.blk h2 cells C s₀ H₀ ex
 exact pe_comp (compBL_ok S h1) S.calm (pi_list (nv S 0 _ _ rfl rfl))
  (fun cells C s₀ H₀ ex=>pg_name (X:=L2.blk X scope cells C s₀ H₀ ex) (i:=2) hN (by show X.N[2]?=_;rw [S.hN];rfl) ((B cells C s₀ H₀ ex).loc 2 _ rfl rfl).1 ((B cells C s₀ H₀ ex).loc 2 _ rfl rfl).2)
  (fun cells C s₀ H₀ ex=>pf_nil)
  (fun cells C s₀ H₀ ex=>pe_d2get (X:=L2.blk X scope cells C s₀ H₀ ex) hu (nv (B cells C s₀ H₀ ex) 1 _ _ rfl rfl) (nv (B cells C s₀ H₀ ex) 2 _ _ rfl rfl) (fun _ _=>rfl)) hs
theorem bd_numbered (sh:List Bool) (S:Cp X N_num G_num [0,1,2] [1] [0,1,2] [0,2] [0]) (R:Rm X) (hp:PassesOwn (model X.prog X.w) X.A X.env X.xe) (n_len:X.mg "len"=none):PSs X (defBody s_numbered) (tNum X.prog X.w X.K sh):=by
 have hN:X.N.Nodup:=by rw [S.hN];exact S.nd
 have hu:X.A.units+2<cLine:=Nat.lt_of_le_of_lt (by omega) R
 have g:∀(i:Nat) (x:Str),N_num[i]?=some x->X.N[i]?=some x:=fun i x e=>by rw [S.hN];exact e
 have lc:∀(i:Nat) (x:Str),N_num[i]?=some x->[0,1,2].contains i=true->Loc X.env.scope x/\(X.fn x=true\/X.env.scope.names.lookup x=some .local):=fun i x e hi=>S.loc i x e hi
 refine pss_cons (ps_set hN (g 1 _ rfl) (lc 1 _ rfl rfl).1 (pe_d2new sh) rfl (lc 1 _ rfl rfl).2) ?_
 refine pss_cons (ps_for hp S.calm (pi_list (nv S 0 _ _ rfl rfl)) (pg_name hN (g 2 _ rfl) (lc 2 _ rfl rfl).1 (lc 2 _ rfl rfl).2) ?_ (fun _=>rfl)) ?_
 ·refine pss_one (ps_if (pt_cmp (pc_d2notin hu (nv S 2 _ _ rfl rfl) (nv S 1 _ _ rfl rfl)) (by with_unfolding_all rfl)) ?_ pss_nil)
  exact pss_one (ps_d2put hu (nv S 1 _ _ rfl rfl) (nv S 2 _ _ rfl rfl) (pe_callB call_d2len (S.g (j:=0) rfl rfl).1 n_len b_len (pa_cons (nv S 1 _ _ rfl rfl) pa_nil (star_cons rfl)) (S.g (j:=0) rfl rfl).2.2 (S.g (j:=0) rfl rfl).2.1 (star_cons rfl) rfl) rfl)
 ·exact pss_one (ps_ret (num_comp S hu (by kernel_rfl) (by kernel_rfl) (fun _=>rfl)))
theorem ok_numbered {P:Program} {w:World} {K:Fg} {mg:Str->Option Value} {base:Heap} {f:Addr} {fd:FuncData} {k:Nat} (F:Fun K "numbered" "numbered" s_numbered f fd) (hm:mg "numbered"=some (.ref f)) (b:Binds K fd ["keys"] []) (n_len:mg "len"=none):DefOk P w K mg base (k+1) "numbered" 1 m_numbered:=
 ok_num F hm b n_len sc_numbered cp_numbered nm_numbered fun sh S R hp n=>bd_numbered sh S R hp n
noncomputable def d_look_of:FS:=(sSeq (sSet false 3 (eTupOf (eIdx (eIdx (eVar 0) (eK (.int 1))) (eVar 1))))
  (sRet (eIf (bOf gTru (eVar 2)) (eTup (eCons (eVar 3) (eCons (eIdx (eIdx (eVar 0) (eK (.int 0))) (eVar 1)) eNil))) (eTup (eCons (eVar 3) eNil)))))
noncomputable def m_look_of:List PySem.PyData->Res:=denOf 4 d_look_of
noncomputable def d_classes_ahead:FS:=(sRet (eSortS (eCons (eComp .leaf 2 (iSeq (eVar 1)) bTrue (eIdx (eVar 0) (eVar 2))) eNil)))
noncomputable def m_classes_ahead:List PySem.PyData->Res:=denOf 3 d_classes_ahead
noncomputable def d_parted_by_steps:FS:=(sRet (eCall 1 m_numbered (eCons (eCompE .leaf 2 3 (eIdx (eVar 0) (eK (.int 2))) bTrue (eTup (eCons (eIdx (eVar 1) (eVar 2)) (eCons (eTupOf (eCall 2 m_classes_ahead (eCons (eVar 1) (eCons (eVar 3) eNil)))) eNil)))) eNil)))
noncomputable def m_parted_by_steps:List PySem.PyData->Res:=denOf 4 d_parted_by_steps
noncomputable def d_class_numbers:FS:=(sSeq (sSet false 2 (eCall 1 m_numbered (eCons (eComp .leaf 4 (iR1 (eCons (eCB gLen (eCons (eIdx (eVar 0) (eK (.int 0))) eNil)) eNil)) bTrue (eCall 3 m_look_of (eCons (eVar 0) (eCons (eVar 4) (eCons (eVar 1) eNil))))) eNil)))
  (sSeq (sSet false 3 (eCall 2 m_parted_by_steps (eCons (eVar 0) (eCons (eVar 2) eNil))))
  (sSeq (sWhile 1000 (bOf gBool (eOp gNe (eVar 3) (eVar 2)))
  (sSeq (sSet false 2 (eVar 3))
  (sSet false 3 (eCall 2 m_parted_by_steps (eCons (eVar 0) (eCons (eVar 2) eNil))))))
  (sRet (eVar 2)))))
noncomputable def m_class_numbers:List PySem.PyData->Res:=denOf 5 d_class_numbers
noncomputable def d_grouped:FS:=(sSeq (sSet true 1 (eComp (.lst .leaf) 3 (iR1 (eCons (eOp gAddI (eCB gMaxL (eCons (eVar 0) eNil)) (eK (.int 1))) eNil)) bTrue (eList .leaf eNil)))
  (sSeq (sForE 2 3 (eVar 0)
  (sAppAt 1 (eVar 3) (eVar 2)))
  (sRet (eMove 1))))
noncomputable def m_grouped:List PySem.PyData->Res:=denOf 4 d_grouped
noncomputable def d_classes:FS:=(sSeq (sDrop (eCall 1 m_check_world (eCons (eVar 0) eNil)))
  (sRet (eCall 1 m_grouped (eCons (eCall 2 m_class_numbers (eCons (eVar 0) (eCons (eVar 1) eNil))) eNil))))
noncomputable def m_classes:List PySem.PyData->Res:=denOf 2 d_classes
noncomputable def d_least_world:FS:=(sSeq (sDrop (eCall 1 m_check_world (eCons (eVar 0) eNil)))
  (sSeq (sSet false 2 (eCall 2 m_class_numbers (eCons (eVar 0) (eCons (eVar 1) eNil))))
  (sSeq (sSet false 3 (eComp .leaf 7 (iSeq (eCall 1 m_grouped (eCons (eVar 2) eNil))) bTrue (eIdx (eVar 7) (eK (.int 0)))))
  (sSeq (sSet false 4 (eComp .leaf 8 (iSeq (eVar 3)) bTrue (eIdx (eIdx (eVar 0) (eK (.int 0))) (eVar 8))))
  (sSeq (sSet false 5 (eComp .leaf 8 (iSeq (eVar 3)) bTrue (eListOf (eIdx (eIdx (eVar 0) (eK (.int 1))) (eVar 8)))))
  (sSeq (sSet false 6 (eComp .leaf 8 (iSeq (eVar 3)) bTrue (eCall 2 m_classes_ahead (eCons (eVar 2) (eCons (eIdx (eIdx (eVar 0) (eK (.int 2))) (eVar 8)) eNil)))))
  (sRet (eTup (eCons (eTup (eCons (eVar 4) (eCons (eVar 5) (eCons (eVar 6) eNil)))) (eCons (eVar 2) eNil))))))))))
noncomputable def m_least_world:List PySem.PyData->Res:=denOf 9 d_least_world
noncomputable def d__law_twin:FS:=(sRet (eTup (eCons (eListOf (eIdx (eVar 0) (eK (.int 0)))) (eCons (eComp .leaf 1 (iSeq (eIdx (eVar 0) (eK (.int 1)))) bTrue (eListOf (eVar 1))) (eCons (eComp .leaf 1 (iSeq (eIdx (eVar 0) (eK (.int 2)))) bTrue (eListOf (eVar 1))) eNil)))))
noncomputable def m__law_twin:List PySem.PyData->Res:=denOf 2 d__law_twin
noncomputable def d__law_like_world:FS:=(sSeq (sSet false 3 (eCall 3 m__law_world (eCons (eVar 0) (eCons (eVar 1) (eCons (eVar 2) eNil)))))
  (sSeq (sSet false 4 (eCall 2 m__law_cell_at (eCons (eVar 0) (eCons (eOp gAddI (eOp gAddI (eVar 1) (eK (.int 1))) (eVar 2)) eNil))))
  (sSeq (sIf (bOf gBool (eOp gGt (eOp gMod (eVar 4) (eK (.int 3))) (eK (.int 0)))) (sSeq (sSet false 5 (eList .leaf (eCons (eList .leaf (eCons (eK (.str "a")) eNil)) (eCons (eList .leaf (eCons (eK (.str "a")) eNil)) (eCons (eList .leaf (eCons (eK (.str "b")) eNil)) eNil)))))
  (sSet false 3 (eTup (eCons (eIdx (eVar 3) (eK (.int 0))) (eCons (eComp .leaf 6 (iR1 (eCons (eCB gLen (eCons (eIdx (eVar 3) (eK (.int 0))) eNil)) eNil)) bTrue (eIdx (eVar 5) (eCall 3 m__law_draw (eCons (eVar 4) (eCons (eVar 6) (eCons (eK (.int 3)) eNil)))))) (eCons (eIdx (eVar 3) (eK (.int 2))) eNil)))))) sNext)
  (sSeq (sIf (bOf gBool (eOp gEq (eOp gMod (eVar 4) (eK (.int 4))) (eK (.int 1)))) (sSet false 3 (eTup (eCons (eComp .leaf 6 (iR1 (eCons (eCB gLen (eCons (eIdx (eVar 3) (eK (.int 0))) eNil)) eNil)) bTrue (eOp gDiv (eCall 3 m__law_draw (eCons (eVar 4) (eCons (eOp gAddI (eK (.int 30)) (eVar 6)) (eCons (eK (.int 9)) eNil)))) (eK (.int 8)))) (eCons (eIdx (eVar 3) (eK (.int 1))) (eCons (eIdx (eVar 3) (eK (.int 2))) eNil))))) sNext)
  (sRet (eCall 1 m__law_twin (eCons (eVar 3) eNil)))))))
noncomputable def m__law_like_world:List PySem.PyData->Res:=denOf 7 d__law_like_world
end KC
namespace T
open PySem PySem.Spec L2
open PyProof.Rows hiding St
theorem ixK_lt:∀{l:List (List It)} {k:List It},k∈l->ixK k l<l.length
 | a::l,k,h=>by
  unfold ixK
  split
  ·simp
  ·rename_i e
   have:=ixK_lt ((List.mem_cons.mp h).resolve_left (fun z=>e z.symm))
   simp
   exact this
theorem ixK_get:∀{l:List (List It)} {k:List It},k∈l->l[ixK k l]?=some k
 | a::l,k,h=>by
  unfold ixK
  split
  ·rename_i e;simp [e]
  ·rename_i e
   rw [List.getElem?_cons_succ]
   exact ixK_get ((List.mem_cons.mp h).resolve_left (fun z=>e z.symm))
theorem ixK_inj {l:List (List It)} {a b:List It} (ha:a∈l) (hb:b∈l) (e:ixK a l=ixK b l):a=b:=by
 have h1:=ixK_get ha
 rw [e,ixK_get hb] at h1
 exact (Option.some.inj h1).symm
theorem ixK_app:∀{l m:List (List It)} {k:List It},k∈l->ixK k (l++m)=ixK k l
 | a::l,m,k,h=>by
  rw [cons_append]
  unfold ixK
  split
  ·rfl
  ·rename_i e
   rw [ixK_app ((List.mem_cons.mp h).resolve_left (fun z=>e z.symm))]
theorem ixK_new:∀{l:List (List It)} {k:List It},k∉l->ixK k (l++[k])=l.length
 | [],k,_=>by simp [ixK]
 | a::l,k,h=>by
  rw [cons_append]
  unfold ixK
  rw [if_neg (fun e=>h (by rw [e];exact mem_cons_self)),ixK_new (fun z=>h (mem_cons_of_mem _ z)),length_cons]
theorem dst_nodup_ix:∀{ks:List (List It)} (m:Nat),m<=ks.length->∀(c:Nat) x,(dst (ks.take m))[c]?=some x->ixK x (dst (ks.take m))=c
 | ks,0,_,c,x,h=>by simp [dst] at h
 | ks,m+1,hm,c,x,h=>by
  have ih:=dst_nodup_ix (ks:=ks) m (by omega)
  rw [dst_take (by omega)] at h ⊢
  unfold dstep at h ⊢
  split at h
  ·rename_i z
   rw [if_pos z]
   exact ih c x h
  ·rename_i z
   rw [if_neg z]
   have hn:ks[m]∉dst (ks.take m):=fun y=>z (memB_iff.mpr y)
   rw [List.getElem?_append] at h
   split at h
   ·rename_i lt
    rw [ixK_app (mem_of_getElem? h)]
    exact ih c x h
   ·rename_i lt
    rcases (by omega:c-(dst (ks.take m)).length=0\/0<c-(dst (ks.take m)).length) with e | e
    ·rw [e] at h
     cases h
     rw [ixK_new hn]
     omega
    ·rw [getElem?_eq_none (by simp;omega)] at h
     cases h
theorem nums_pat {ks ks':List (List It)} (hl:ks.length=ks'.length) (h:∀i j (hi:i<ks.length) (hj:j<ks.length),ks[i]=ks[j]↔ks'[i]'(by omega)=ks'[j]'(by omega)):nums ks=nums ks':=by
 have key:∀m,m<=ks.length->(dst (ks.take m)).length=(dst (ks'.take m)).length/\∀i (hi:i<m) (hi1:i<ks.length) (hi2:i<ks'.length),ixK ks[i] (dst (ks.take m))=ixK ks'[i] (dst (ks'.take m)):=by
  intro m
  induction m with
  | zero=>intro _;exact ⟨by simp [dst],fun i hi=>by omega⟩
  | succ m ih=>
   intro hm
   obtain ⟨e1,e2⟩:=ih (by omega)
   have hk:m<ks.length:=by omega
   have hk':m<ks'.length:=by omega
   have inTake:∀{l:List (List It)} {x:List It},x∈dst (l.take m)↔∃i,∃(hi:i<l.length),i<m/\l[i]=x:=fun {l x}=>by
    rw [mem_dst,List.mem_take_iff_getElem]
    constructor
    ·rintro ⟨i,hi,e⟩
     exact ⟨i,by omega,by omega,e⟩
    ·rintro ⟨i,hi,hi2,e⟩
     exact ⟨i,by omega,e⟩
   have mem:ks[m]∈dst (ks.take m)↔ks'[m]∈dst (ks'.take m):=by
    rw [inTake,inTake]
    constructor
    ·rintro ⟨i,hi,hi2,e⟩
     exact ⟨i,by omega,hi2,(h i m hi hk).mp e⟩
    ·rintro ⟨i,hi,hi2,e⟩
     exact ⟨i,by omega,hi2,(h i m (by omega) hk).mpr e⟩
   rw [dst_take hk,dst_take hk']
   unfold dstep
   by_cases c:ks[m]∈dst (ks.take m)
   ·have c':=mem.mp c
    rw [if_pos (memB_iff.mpr c),if_pos (memB_iff.mpr c')]
    refine ⟨e1,fun i hi hi1 hi2=>?_⟩
    by_cases e:i=m
    ·subst e
     obtain ⟨j,hj,hj2,ej⟩:=inTake.mp c
     have ej':=(h j i hj hk).mp ej
     rw [<-ej,<-ej']
     exact e2 j hj2 hj (by omega)
    ·exact e2 i (by omega) hi1 hi2
   ·have c':ks'[m]∉dst (ks'.take m):=fun z=>c (mem.mpr z)
    rw [if_neg (fun z=>c (memB_iff.mp z)),if_neg (fun z=>c' (memB_iff.mp z))]
    refine ⟨by rw [length_append,length_append,e1];rfl,fun i hi hi1 hi2=>?_⟩
    by_cases e:i=m
    ·subst e
     rw [ixK_new c,ixK_new c',e1]
    ·rw [ixK_app (inTake.mpr ⟨i,hi1,by omega,rfl⟩),ixK_app (inTake.mpr ⟨i,hi2,by omega,rfl⟩)]
     exact e2 i (by omega) hi1 hi2
 obtain ⟨_,e2⟩:=key ks.length (Nat.le_refl _)
 rw [take_of_length_le (Nat.le_refl _),take_of_length_le (by omega)] at e2
 unfold nums
 apply ext_getElem
 ·simp [hl]
 ·intro i h1 h2
  have h1':i<ks.length:=by simpa using h1
  simp only [getElem_map]
  rw [e2 i h1' h1' (by omega)]
noncomputable def numN (ks:List (List It)):List Nat:=ks.map fun k=>ixK k (dst ks)
theorem nums_N {ks:List (List It)}:nums ks=(numN ks).map fun n:Nat=>(n:Int):=by
 unfold nums numN
 rw [map_map]
 rfl
theorem numN_eq {ks:List (List It)} {i j:Nat} (hi:i<ks.length) (hj:j<ks.length):(numN ks).getD i 0=(numN ks).getD j 0↔ks[i]=ks[j]:=by
 have e:∀{a:Nat} (ha:a<ks.length),(numN ks).getD a 0=ixK ks[a] (dst ks):=fun {a} ha=>by
  unfold numN
  simp [List.getD,ha]
 rw [e hi,e hj]
 exact ⟨fun z=>ixK_inj (mem_dst.mpr (getElem_mem hi)) (mem_dst.mpr (getElem_mem hj)) z,fun z=>by rw [z]⟩
theorem numN_lt {ks:List (List It)} {i:Nat} (hi:i<ks.length):(numN ks).getD i 0<(dst ks).length:=by
 unfold numN
 simp [List.getD,hi]
 exact ixK_lt (mem_dst.mpr (getElem_mem hi))
theorem numN_onto {ks:List (List It)} {c:Nat} (h:c<(dst ks).length):∃i,i<ks.length/\(numN ks).getD i 0=c:=by
 obtain ⟨i,hi,e⟩:=getElem_of_mem (mem_dst.mp (getElem_mem h))
 refine ⟨i,hi,?_⟩
 have:=dst_nodup_ix (ks:=ks) ks.length (Nat.le_refl _) c (dst ks)[c] (by rw [take_of_length_le (Nat.le_refl _)];exact getElem?_eq_getElem h)
 rw [take_of_length_le (Nat.le_refl _)] at this
 unfold numN
 simp [List.getD,hi,e,this]
end T
namespace KC
open PySem PySem.Spec L2 T PySem.SeqAt
open PyProof.Rows hiding St
variable {U U1:Ev} {fa fb:F1} {o:Bool} {n c:Nat} {N:List Nat}
theorem eqv_rmsL:∀a b:List Nat,PyData.eqvAll (a.map rm) (b.map rm)=(a==b)
 | [],[]=>by simp [PyData.eqvAll]
 | [],y::b=>by simp [PyData.eqvAll]
 | x::a,[]=>by simp [PyData.eqvAll]
 | x::a,y::b=>by
  rw [map_cons,map_cons,PyData.eqvAll,eqv_rmsL a b,PyData.eqv]
  have:((x:Int)==(y:Int))=(x==y):=by
   rw [Bool.eq_iff_iff]
   simp only [beq_iff_eq]
   omega
  rw [this]
  rfl
theorem ne_rmsL {a b:List Nat}:gNe (rms a) (rms b)=some (.bool (!(a==b))):=by
 show (if shaped (rms a)&&shaped (rms b) then some (PyData.bool (!PyData.eqv (.list (a.map rm)) (.list (b.map rm)))) else none)=_
 rw [sh_rms',sh_rms',Bool.and_self,if_pos rfl,PyData.eqv,eqv_rmsL]
theorem v_tupOfL {s:Sh} {ds:List D} (ha:fa U=.ok ⟨s,.list ds⟩ U1) (h1:okItems ⟨s,.list ds⟩ ds=true):eTupOf fa U=.ok ⟨.leaf,.tuple ds⟩ U1:=by
 unfold eTupOf eBind
 rw [ha]
 simp only [Out.bind]
 rw [if_pos h1]
noncomputable def owI (w:Wd) (r:Nat):Int:=if own w 0 r then 0 else 1
noncomputable def lkD (w:Wd) (o:Bool) (r:Nat):D:=.tuple (.tuple ((w.mks r).map .str)::if o then [.int (owI w r)] else [])
noncomputable def lkK (w:Wd) (o:Bool) (r:Nat):List T.It:=.inr ((w.mks r).map .inr)::if o then [.inl (.inl (owI w r))] else []
theorem keys_str:∀{l:List Str},toKeys (l.map .str)=some (l.map .inr)
 | []=>rfl
 | a::l=>by
  rw [map_cons,toKeys,keys_str]
  rfl
theorem keys_rm:∀{l:List Nat},toKeys (l.map rm)=some (l.map fun n:Nat=>.inl (n:Int))
 | []=>rfl
 | a::l=>by
  rw [map_cons,toKeys,keys_rm]
  rfl
theorem lk_K {w:Wd} {r:Nat}:toK (lkD w o r)=some (lkK w o r):=by
 unfold lkD lkK toK
 cases o with
 | false=>simp only [Bool.false_eq_true,if_false,toIts,toIt,keys_str,Option.map_some]
 | true=>simp only [if_true,toIts,toIt,toKey,keys_str,Option.map_some]
theorem toKs_map {d:Nat->D} {k:Nat->List T.It}:∀{l:List Nat},(∀r∈l,toK (d r)=some (k r))->toKs (l.map d)=some (l.map k)
 | [],_=>rfl
 | a::l,h=>by
  rw [map_cons,toKs,h a (by simp),toKs_map fun r hr=>h r (by simp [hr])]
  rfl
theorem den_num {d:Nat->D} {k:Nat->List T.It} (hn:n<=900) (h:∀r,r<n->toK (d r)=some (k r)) (sh:List Bool) (hs:∀r,r<n->(k r).map T.isT=sh):m_numbered [.list ((List.range n).map d)]=.ok ⟨.lst .leaf,rms (numN ((List.range n).map k))⟩:=by
 unfold m_numbered
 dsimp only
 rw [toKs_map fun r hr=>h r (List.mem_range.mp hr)]
 have c:((List.range n).map k).length<=900/\shOk ((List.range n).map k)=true:=by
  refine ⟨by simpa using hn,List.all_eq_true.mpr fun x hx=>?_⟩
  obtain ⟨r,hr,rfl⟩:=List.mem_map.mp hx
  have hr:=List.mem_range.mp hr
  apply decide_eq_true
  have:(((List.range n).map k).headD []).map T.isT=sh:=by
   cases n with
   | zero=>omega
   | succ n=>
    rw [List.range_succ_eq_map]
    exact hs 0 (by omega)
  rw [this]
  exact hs r hr
 dsimp only
 rw [if_pos c,nums_N,<-rms_int]
section
variable {w:Wd}
theorem own_ev (ok:w.Ok) {i:Nat} {s:Sh} {r:Nat} (h0:U[i]?=some (some ⟨.leaf,w.enc⟩)) (hb:fb U=.ok ⟨s,rm r⟩ U) (hr:r<w.n):eIdx (eIdx (eVar i) (eK (.int 0))) fb U=.ok ⟨.leaf,.int (owI w r)⟩ U:=by
 obtain ⟨o,ho,e,h⟩:=ok.o_at hr
 have:owI w r=o:=by
  unfold owI
  rw [h 0]
  rcases ho with rfl | rfl<;>rfl
 rw [this,r_idx,r_idx,v_leaf h0]
 simp only [Out.bind,v_k,Wd.enc,tup3,r_idT,r_at0]
 rw [hb]
 simp only [r_idL]
 rw [e]
theorem mks_ev (ok:w.Ok) {i:Nat} {s:Sh} {r:Nat} (h0:U[i]?=some (some ⟨.leaf,w.enc⟩)) (hb:fb U=.ok ⟨s,rm r⟩ U) (hr:r<w.n):eIdx (eIdx (eVar i) (eK (.int 1))) fb U=.ok ⟨.leaf,txs (w.mks r)⟩ U:=by
 rw [r_idx,r_idx,v_leaf h0]
 simp only [Out.bind,v_k,Wd.enc,tup3,r_idT,r_at1]
 rw [hb]
 simp only [r_idL]
 rw [ok.at1 hr]
theorem den_look2 (ok:w.Ok) {r:Nat} (hr:r<w.n):∃sh,m_look_of [w.enc,rm r,.bool o]=.ok ⟨sh,lkD w o r⟩/\sh=if o then .tup [.leaf,.leaf] else .tup [.leaf]:=by
 have m:=mks_ev ok (U:=startD 4 [w.enc,rm r,.bool o]) (i:=0) (fb:=eVar 1) (s:=.leaf) rfl (v_leaf rfl) hr
 have s1:=x_setL (i:=3) (v_tupOfL m rfl) rfl (by simp [startD])
 have ow:=own_ev ok (U:=(startD 4 [w.enc,rm r,.bool o]).set 3 (some ⟨.leaf,.tuple ((w.mks r).map .str)⟩)) (i:=0) (fb:=eVar 1) (s:=.leaf) rfl (v_leaf rfl) hr
 cases o with
 | true=>
  exact ⟨.tup [.leaf,.leaf],rt_of (x_seq s1 (x_ret (v_ifz (t:=true) (b_tru (s:=.leaf) (v_leaf (i:=2) rfl)) (fun _=>v_tup (v_cons (v_leaf (i:=3) rfl) (v_cons ow v_nil)) rfl rfl) nofun) rfl)),rfl⟩
 | false=>
  exact ⟨.tup [.leaf],rt_of (x_seq s1 (x_ret (v_ifz (t:=false) (b_tru (s:=.leaf) (v_leaf (i:=2) rfl)) nofun (fun _=>v_tup (v_cons (v_leaf (i:=3) rfl) v_nil) rfl rfl)) rfl)),rfl⟩
noncomputable def nA (N:List Nat) (r:Nat):Nat:=N.getD r 0
noncomputable def cla (w:Wd) (N:List Nat) (r:Nat):List Nat:=(List.range w.n).filter fun c=>((w.stp r).map (nA N)).contains c
theorem mem_cla (hN:∀r,r<w.n->nA N r<w.n) (ok:w.Ok) {r:Nat}:c∈cla w N r↔∃t∈w.stp r,nA N t=c:=by
 unfold cla
 rw [mem_filter,contains_iff_mem,mem_map,mem_range]
 exact ⟨fun z=>z.2,fun ⟨t,h,e⟩=>⟨by rw [<-e];exact hN t (ok.stp_lt h),t,h,e⟩⟩
theorem nA_ev {i:Nat} {s:Sh} {r:Nat} (h0:U[i]?=some (some ⟨.leaf,rms N⟩)) (hb:fb U=.ok ⟨s,rm r⟩ U) (hr:r<N.length):eIdx (eVar i) fb U=.ok ⟨.leaf,rm (nA N r)⟩ U:=by
 refine v_idxL (j:=r) (v_leaf h0) hb (ix_nat (by rw [length_map];exact hr)) ?_ rfl
 rw [getElem?_map,getElem?_eq_getElem hr]
 simp [nA,List.getD,hr]
theorem den_ahead (ok:w.Ok) (hl:N.length=w.n) (hN:∀r,r<w.n->nA N r<w.n) {r:Nat} (hr:r<w.n):m_classes_ahead [rms N,rms (w.stp r)]=.ok ⟨.lst .leaf,rms (cla w N r)⟩:=by
 have h24:=ok.h24
 have sl:=stp_len ok (r:=r)
 have c:=eComp_tyA (U:=startD 3 [rms N,rms (w.stp r)]) (s:=.leaf) (i:=2) (fi:=iSeq (eVar 1)) (fe:=eIdx (eVar 0) (eVar 2)) rm (w.stp r) (fun t=>⟨.leaf,rm (nA N t)⟩) (st:=true) (w_seq (s:=.leaf) (v_leaf rfl) rfl) (by simp [startD]) rfl (by omega) fun t ht=>⟨nA_ev rfl (v_leaf rfl) (by rw [hl];exact ok.stp_lt ht),rfl⟩
 have l30:(w.stp r).length<=30:=by
  have:w.stp r∈w.s:=by
   unfold Wd.stp
   rw [getD_eq_getElem?_getD,getElem?_eq_getElem (by rw [ok.ls];exact hr)]
   exact getElem_mem _
  exact (ok.st _ this).2.1
 have e:PyData.list ((w.stp r).map fun t=>rm (nA N t))=rms ((w.stp r).map (nA N)):=by
  show PyData.list _=PyData.list _
  rw [map_map]
  rfl
 refine rt_of (x_ret (v_sortS (s:=.lst .leaf) (l:=(w.stp r).map (nA N)) (n:=w.n) (v_cons (c.trans (by rw [e])) v_nil) (fun x hx=>?_) (by omega) (by rw [length_map];omega)) rfl)
 obtain ⟨t,ht,rfl⟩:=List.mem_map.mp hx
 exact hN t (ok.stp_lt ht)
noncomputable def skD (w:Wd) (N:List Nat) (r:Nat):D:=.tuple [rm (nA N r),.tuple ((cla w N r).map rm)]
noncomputable def skK (w:Wd) (N:List Nat) (r:Nat):List T.It:=[.inl (.inl (nA N r:Int)),.inr ((cla w N r).map fun n:Nat=>.inl (n:Int))]
theorem sk_K {r:Nat}:toK (skD w N r)=some (skK w N r):=by
 unfold skD skK toK
 simp only [toIts,toIt,toKey,keys_rm,Option.map_some]
theorem den_parted (ok:w.Ok) (hl:N.length=w.n) (hN:∀r,r<w.n->nA N r<w.n):m_parted_by_steps [w.enc,rms N]=.ok ⟨.lst .leaf,rms (numN ((List.range w.n).map (skK w N)))⟩:=by
 have h24:=ok.h24
 have c:=eCompE_ixA (U:=startD 4 [w.enc,rms N]) (s:=.leaf) (i:=2) (j:=3) (fa:=eIdx (eVar 0) (eK (.int 2))) (fe:=eTup (eCons (eIdx (eVar 1) (eVar 2)) (eCons (eTupOf (eCall 2 m_classes_ahead (eCons (eVar 1) (eCons (eVar 3) eNil)))) eNil))) (fun r=>rms (w.stp r)) w.n (fun r=>⟨.tup [.leaf,.leaf],skD w N r⟩) (st:=true) (by simp [startD,Wd.enc,tup3,ok.z.s_range]) rfl rfl (by omega) rfl (by omega) fun r hr=>⟨v_tup (v_cons (nA_ev (i:=1) rfl (v_leaf (d:=rm r) rfl) (by omega)) (v_cons (v_tupOfL (s:=.lst .leaf) (v_call (v_cons (v_leaf rfl) (v_cons (v_leaf rfl) v_nil)) (den_ahead ok hl hN hr) rfl rfl) rfl) v_nil)) rfl rfl,rfl⟩
 exact rt_of (x_ret (v_call (v_cons c v_nil) (den_num (by omega) (fun r _=>sk_K) [false,true] fun r _=>rfl) rfl rfl) rfl)
theorem map_key_inj:∀{a b:List Nat},(a.map fun n:Nat=>(.inl (n:Int):Key))=(b.map fun n:Nat=>(.inl (n:Int):Key))->a=b
 | [],[],_=>rfl
 | [],_::_,h=>by cases h
 | _::_,[],h=>by cases h
 | x::a,y::b,h=>by
  rw [map_cons,map_cons] at h
  injection h with h1 h2
  injection h1 with h1
  rw [map_key_inj h2,Int.ofNat.inj h1]
structure CN (w:Wd) (o:Bool) (N:List Nat) (m:Nat):Prop where
 len:N.length=w.n
 m1:1<=m
 mn:m<=w.n
 lt:∀r,r<w.n->nA N r<m
 onto:∀c,c<m->∃r,r<w.n/\nA N r=c
 look:∀i j,i<w.n->j<w.n->nA N i=nA N j->lkK w o i=lkK w o j
 st:∀i j,i<w.n->j<w.n->nA N i=nA N j->∀t∈w.stp i,∃t'∈w.stp j,nA N t=nA N t'
structure GdN (w:Wd) (o:Bool) (N:List Nat):Prop where
 ks:∃ks:List (List T.It),ks.length=w.n/\N=numN ks
 look:∀i j,i<w.n->j<w.n->nA N i=nA N j->lkK w o i=lkK w o j
theorem numN_len {ks:List (List T.It)}:(numN ks).length=ks.length:=by unfold numN;rw [length_map]
theorem dst_le {ks:List (List T.It)}:(dst ks).length<=ks.length:=by
 have:=dst_len (ks:=ks) ks.length (Nat.le_refl _)
 rwa [take_of_length_le (Nat.le_refl _)] at this
theorem GdN.len (g:GdN w o N):N.length=w.n:=by
 obtain ⟨ks,h,rfl⟩:=g.ks
 rw [numN_len,h]
theorem GdN.lt (g:GdN w o N):∀r,r<w.n->nA N r<w.n:=fun r hr=>by
 obtain ⟨ks,h,rfl⟩:=g.ks
 have:=numN_lt (ks:=ks) (i:=r) (by omega)
 have:=dst_le (ks:=ks)
 show (numN ks).getD r 0<w.n
 omega
theorem nA_map {k:Nat->List T.It} {i j:Nat} (hi:i<w.n) (hj:j<w.n):nA (numN ((List.range w.n).map k)) i=nA (numN ((List.range w.n).map k)) j↔k i=k j:=by
 have:=numN_eq (ks:=(List.range w.n).map k) (i:=i) (j:=j) (by simpa using hi) (by simpa using hj)
 rw [getElem_map,getElem_map,getElem_range,getElem_range] at this
 exact this
noncomputable def prL (n:Nat):List (Nat×Nat):=(List.range n).flatMap fun i=>(List.range n).map fun j=>(i,j)
theorem mem_prL {i j:Nat}:(i,j)∈prL n↔i<n/\j<n:=by
 unfold prL
 simp
noncomputable def eqs (n:Nat) (N:List Nat):List (Nat×Nat):=(prL n).filter fun p=>nA N p.1==nA N p.2
theorem prL_len (h:n<=24):(prL n).length<=576:=by
 unfold prL
 rw [List.length_flatMap]
 simp only [length_map,length_range]
 have:((List.range n).map fun _=>n).sum=n*n:=by
  rw [List.map_const',List.sum_replicate_nat,length_range]
 rw [this]
 exact Nat.mul_le_mul h h
theorem less_eqs (g:GdN w o N) (ne:numN ((List.range w.n).map (skK w N))≠N):(eqs w.n (numN ((List.range w.n).map (skK w N)))).length<(eqs w.n N).length:=by
 have sub:∀i j,i<w.n->j<w.n->nA (numN ((List.range w.n).map (skK w N))) i=nA (numN ((List.range w.n).map (skK w N))) j->nA N i=nA N j:=fun i j hi hj e=>by
  have:=(nA_map hi hj).mp e
  unfold skK at this
  injection this with h1 _
  injection h1 with h1
  injection h1 with h1
  omega
 have ex:∃p∈eqs w.n N,¬((nA (numN ((List.range w.n).map (skK w N))) p.1==nA (numN ((List.range w.n).map (skK w N))) p.2)=true):=by
  refine Classical.byContradiction fun z=>ne ?_
  obtain ⟨ks,hk,rfl⟩:=g.ks
  have pat:nums ((List.range w.n).map (skK w (numN ks)))=nums ks:=nums_pat (by simp [hk]) fun i j hi hj=>by
   have hi':i<w.n:=by simpa using hi
   have hj':j<w.n:=by simpa using hj
   have a:=nA_map (w:=w) (k:=skK w (numN ks)) hi' hj'
   have b:nA (numN ks) i=nA (numN ks) j↔ks[i]=ks[j]:=numN_eq (by omega) (by omega)
   simp only [getElem_map,getElem_range]
   rw [<-a,<-b]
   refine ⟨sub i j hi' hj',fun e=>Classical.byContradiction fun q=>z ⟨(i,j),List.mem_filter.mpr ⟨mem_prL.mpr ⟨hi',hj'⟩,by simpa using e⟩,by simpa using q⟩⟩
  rw [nums_N,nums_N] at pat
  exact map_inj_right (f:=fun n:Nat=>(n:Int)) (fun a b e=>by omega) |>.mp pat
 have e:eqs w.n (numN ((List.range w.n).map (skK w N)))=(eqs w.n N).filter fun p=>nA (numN ((List.range w.n).map (skK w N))) p.1==nA (numN ((List.range w.n).map (skK w N))) p.2:=by
  unfold eqs
  rw [List.filter_filter]
  apply List.filter_congr
  rintro ⟨i,j⟩ h
  obtain ⟨hi,hj⟩:=mem_prL.mp h
  cases c:(nA (numN ((List.range w.n).map (skK w N))) i==nA (numN ((List.range w.n).map (skK w N))) j) with
  | false=>simp [c]
  | true=>
   have:=sub i j hi hj (eq_of_beq c)
   simp [c,this]
 rw [e]
 exact List.length_filter_lt_length_iff_exists.mpr ex
noncomputable abbrev GC (w:Wd) (o:Bool) (b:List Nat×List Nat):Ev:=[some ⟨.leaf,w.enc⟩,some ⟨.leaf,.bool o⟩,some ⟨.leaf,rms b.1⟩,some ⟨.leaf,rms b.2⟩,none]
end
theorem forGoE_atL {P:Nat->Ev->Prop} {i j:Nat} {body:FS}:∀(ds:List D) (n:Nat) (U:Ev),P n U->(∀k d U,n<=k->ds[k-n]?=some d->P k U->(i<U.length/\j<U.length)/\∃U',body ((U.set i (some ⟨.leaf,.int (k:Nat)⟩)).set j (some ⟨.leaf,d⟩))=.nx U'/\P (k+1) U')->∃U',forGoE i j body n ds U=.nx U'/\P (n+ds.length) U'
 | [],n,U,h,_=>⟨U,rfl,h⟩
 | d::r,n,U,h,st=>by
  obtain ⟨hi,U1,e1,h1⟩:=st n d U (Nat.le_refl _) (by simp) h
  obtain ⟨U2,e2,h2⟩:=forGoE_atL r (n+1) U1 h1 fun k d U a b c=>st k d U (by omega) (by rw [show k-n=(k-(n+1))+1 by omega];simpa using b) c
  refine ⟨U2,?_,?_⟩
  ·rw [forGoE,if_pos hi,e1]
   exact e2
  ·rw [length_cons,show n+(r.length+1)=n+1+r.length by omega]
   exact h2
theorem x_appAtL {fk:F1} {p:PV} {s:Sh} {i j:Nat} {k:Int} {ds es:List D} (ho:U[i]?=some (some ⟨.lst (.lst .leaf),.list ds⟩)) (hk:fk U=.ok ⟨s,.int k⟩ U) (hi:ixN ds.length k=some j) (hd:ds[j]?=some (.list es)) (h:fa U=.ok p U) (hc:coer .leaf p=true) (hn:es.length<=900) :
  sAppAt i fk fa U=.nx (U.set i (some ⟨.lst (.lst .leaf),.list (ds.set j (.list (es++[p.d])))⟩)):=by
 have h2:es.length<sizeLine:=Nat.lt_of_lt_of_le (by omega:es.length<1000) (by decide)
 have o:okAt i ⟨s,.int k⟩ U=true:=by unfold okAt;rw [ho];simp only [hi,hd]
 unfold sAppAt isOwnLL
 rw [ho]
 simp only [if_true]
 unfold sOf
 rw [hk]
 simp only [o,if_true]
 rw [h]
 simp only
 unfold appAtK
 rw [ho]
 simp only [hi,hd,hc,decide_eq_true h2,Bool.and_self,if_true]
theorem x_forEL {body:FS} {ds:List D} {o:OutS} {i j:Nat} (h:iSeq fa U=.ok ⟨ds,true⟩ U1) (hg:forGoE i j body 0 ds U1=o):sForE i j fa body U=o:=by unfold sForE;rw [h];exact hg
section
variable {w:Wd} {o:Bool} {N:List Nat} {m:Nat}
noncomputable def grp (N:List Nat) (k c:Nat):List Nat:=(List.range k).filter fun r=>nA N r==c
theorem grp_succ {k:Nat}:grp N (k+1) c=grp N k c++if nA N k==c then [k] else []:=by
 unfold grp
 rw [List.range_succ,List.filter_append]
 congr 1
 rw [List.filter_cons,List.filter_nil]
theorem grp_len {k:Nat}:(grp N k c).length<=k:=by
 have:=length_filter_le (fun r=>nA N r==c) (List.range k)
 rwa [length_range] at this
theorem den_grouped (g:CN w o N m) (h24:w.n<=24):m_grouped [rms N]=.ok ⟨.lst (.lst .leaf),.list ((List.range m).map fun c=>rms (grp N w.n c))⟩:=by
 have hm:=g.mn
 have h1:=g.m1
 have hl:=g.len
 have mx:gMaxL [rms N]=some (.int ((m-1:Nat):Int)):=by
  have e:T.intsOf (N.map rm)=some (N.map fun n:Nat=>(n:Int)):=by rw [rms_int,intsOf_map]
  show (match T.intsOf (N.map rm) with | some (a::r)=>some (PyData.int (mxI (a::r))) | _=>none)=_
  rw [e]
  have is:mxI (N.map fun n:Nat=>(n:Int))=((m-1:Nat):Int):=by
   refine mxI_is ?_ fun a ha=>?_
   ·obtain ⟨r,hr,e⟩:=g.onto (m-1) (by omega)
    refine List.mem_map.mpr ⟨m-1,?_,rfl⟩
    rw [<-e]
    unfold nA
    rw [getD_eq_getElem?_getD,getElem?_eq_getElem (by omega)]
    exact getElem_mem _
   ·obtain ⟨x,hx,rfl⟩:=List.mem_map.mp ha
    obtain ⟨i,hi,rfl⟩:=getElem_of_mem hx
    have:=g.lt i (by omega)
    unfold nA at this
    rw [getD_eq_getElem?_getD,getElem?_eq_getElem hi] at this
    simp at this
    omega
  cases N with
  | nil=>simp at hl;omega
  | cons a r=>
   simp only [map_cons] at is ⊢
   rw [is]
 have c1:eComp (.lst .leaf) 3 (iR1 (eCons (eOp gAddI (eCB gMaxL (eCons (eVar 0) eNil)) (eK (.int 1))) eNil)) bTrue (eList .leaf eNil) (startD 4 [rms N])=.ok ⟨.lst (.lst .leaf),.list ((List.range m).map fun c=>rms (grp N 0 c))⟩ (startD 4 [rms N]):=by
  refine eComp_tyA rm (List.range m) (fun _=>⟨.lst .leaf,.list []⟩) (st:=true) (R1_of (s:=.leaf) (n:=m) (by omega) (v_cons ((v_op (g:=gAddI) (v_cb (v_cons (v_leaf rfl) v_nil) mx) (v_k (d:=.int 1)) add_int').trans (by congr 3;omega)) v_nil)) (by simp [startD]) rfl (by simp;omega) fun r hr=>⟨v_list (s:=.leaf) v_nil rfl rfl rfl,rfl⟩
 obtain ⟨U1,e1,x2,x3,hU⟩:=forGoE_atL (i:=2) (j:=3) (body:=sAppAt 1 (eVar 3) (eVar 2)) (P:=fun k U=>∃x2 x3,U=[some ⟨.leaf,rms N⟩,some ⟨.lst (.lst .leaf),.list ((List.range m).map fun c=>rms (grp N k c))⟩,x2,x3]) (N.map rm) 0 [some ⟨.leaf,rms N⟩,some ⟨.lst (.lst .leaf),.list ((List.range m).map fun c=>rms (grp N 0 c))⟩,none,none] ⟨none,none,rfl⟩
  (fun k d U _ hd ⟨x2,x3,e⟩=>by
   subst e
   have hk:k<N.length:=by
    have:=(List.getElem?_eq_some_iff.mp hd).1
    simp at this
    exact this
   have ed:d=rm (nA N k):=by
    rw [Nat.sub_zero,getElem?_map,getElem?_eq_getElem hk] at hd
    cases hd
    simp [nA,List.getD,hk]
   subst ed
   have lt:=g.lt k (by omega)
   have st:=x_appAtL (i:=1) (j:=nA N k) (s:=.leaf) (fk:=eVar 3) (fa:=eVar 2) (ds:=(List.range m).map fun c=>rms (grp N k c)) (es:=(grp N k (nA N k)).map rm) (p:=⟨.leaf,rm k⟩) (U:=[some ⟨.leaf,rms N⟩,some ⟨.lst (.lst .leaf),.list ((List.range m).map fun c=>rms (grp N k c))⟩,some ⟨.leaf,rm k⟩,some ⟨.leaf,rm (nA N k)⟩]) rfl (v_leaf rfl) (ix_nat (by simpa using lt)) (by rw [getElem?_map,getElem?_range lt];rfl) (v_leaf rfl) rfl (by rw [length_map];have:=grp_len (N:=N) (k:=k) (c:=nA N k);omega)
   refine ⟨⟨by simp,by simp⟩,_,st,some ⟨.leaf,rm k⟩,some ⟨.leaf,rm (nA N k)⟩,?_⟩
   have eq:((List.range m).map fun c=>rms (grp N k c)).set (nA N k) (.list ((grp N k (nA N k)).map rm++[rm k]))=(List.range m).map fun c=>rms (grp N (k+1) c):=by
    apply ext_getElem
    ·simp
    ·intro c h1 h2
     rw [List.getElem_set]
     simp only [getElem_map,getElem_range]
     rw [grp_succ]
     by_cases e:nA N k=c
     ·rw [if_pos e]
      subst e
      simp [rms]
     ·rw [if_neg e]
      have:(nA N k==c)=false:=by simpa using e
      simp [this]
   rw [<-eq]
   rfl)
 subst hU
 rw [length_map,Nat.zero_add,hl] at e1
 refine rt_of (x_seq (x_setO c1 rfl (by simp [startD])) (x_seq (x_forEL (w_seq (s:=.leaf) (v_leaf rfl) rfl) e1) (x_ret (v_move (p:=⟨.lst (.lst .leaf),.list ((List.range m).map fun c=>rms (grp N w.n c))⟩) rfl) rfl)))
end
section
variable {w:Wd} {o:Bool} {N:List Nat} {m:Nat}
noncomputable def lea (N:List Nat) (n c:Nat):Nat:=(grp N n c).headD 0
theorem lea_is (g:CN w o N m) (hc:c<m):∃t,grp N w.n c=lea N w.n c::t/\lea N w.n c<w.n/\nA N (lea N w.n c)=c:=by
 obtain ⟨r,hr,e⟩:=g.onto c hc
 have hm:r∈grp N w.n c:=List.mem_filter.mpr ⟨List.mem_range.mpr hr,by simpa using e⟩
 unfold lea
 cases q:grp N w.n c with
 | nil=>rw [q] at hm;cases hm
 | cons a t=>
  have ha:a∈grp N w.n c:=by rw [q];exact mem_cons_self
  obtain ⟨h1,h2⟩:=List.mem_filter.mp ha
  exact ⟨t,rfl,List.mem_range.mp h1,by simpa using h2⟩
noncomputable def LV (w:Wd) (N:List Nat) (m:Nat):List Nat:=(List.range m).map (lea N w.n)
noncomputable def lsW (w:Wd) (N:List Nat) (m:Nat):Wd:=⟨m,(LV w N m).map fun x=>.int (owI w x),(LV w N m).map w.mks,(LV w N m).map (cla w N)⟩
theorem LV_lt (g:CN w o N m):∀x∈LV w N m,x<w.n:=fun x hx=>by
 obtain ⟨c,hc,rfl⟩:=List.mem_map.mp hx
 exact (lea_is g (List.mem_range.mp hc)).choose_spec.2.1
theorem CN.ltn (g:CN w o N m):∀r,r<w.n->nA N r<w.n:=fun r hr=>Nat.lt_of_lt_of_le (g.lt r hr) g.mn
theorem cla_lt (g:CN w o N m) (ok:w.Ok) {r:Nat} (h:c∈cla w N r):c<m:=by
 obtain ⟨t,ht,e⟩:=(mem_cla g.ltn ok).mp h
 rw [<-e]
 exact g.lt t (ok.stp_lt ht)
theorem cla_ne (g:CN w o N m) (ok:w.Ok) {r:Nat} (hr:r<w.n):cla w N r≠[]:=fun z=>by
 obtain ⟨t,ht⟩:=List.exists_mem_of_ne_nil _ (ok.stp_ne hr)
 have:=(mem_cla g.ltn ok).mpr ⟨t,ht,rfl⟩
 rw [z] at this
 cases this
theorem cla_len (h24:w.n<=24) {r:Nat}:(cla w N r).length<=30:=by
 have:=length_filter_le (fun c=>((w.stp r).map (nA N)).contains c) (List.range w.n)
 rw [length_range] at this
 exact Nat.le_trans this (by omega)
theorem mks_row (ok:w.Ok) {r:Nat} (hr:r<w.n):w.mks r∈w.m:=by
 unfold Wd.mks
 rw [getD_eq_getElem?_getD,getElem?_eq_getElem (by rw [ok.lm];exact hr)]
 exact getElem_mem _
theorem lst_ok (ok:w.Ok) (g:CN w o N m):(lsW w N m).Ok:=by
 have h24:=ok.h24
 have mn:=g.mn
 have ll:(LV w N m).length=m:=by unfold LV;simp
 refine ⟨⟨by simp [lsW,ll],by simp [lsW,ll],by simp [lsW,ll],fun a ha=>?_,fun a ha=>?_,fun a ha=>?_⟩,g.m1,by show m<=24;omega,by simp [lsW,ll],by simp [lsW,ll],fun a ha=>?_,fun a ha c hc=>?_⟩
 ·obtain ⟨x,_,rfl⟩:=List.mem_map.mp ha
  unfold owI
  split
  ·exact .inl rfl
  ·exact .inr rfl
 ·obtain ⟨b,hb,rfl⟩:=List.mem_map.mp ha
  obtain ⟨x,hx,rfl⟩:=List.mem_map.mp hb
  exact ok.g.m _ (List.mem_map.mpr ⟨_,mks_row ok (LV_lt g x hx),rfl⟩)
 ·obtain ⟨b,hb,rfl⟩:=List.mem_map.mp ha
  obtain ⟨x,hx,rfl⟩:=List.mem_map.mp hb
  have hxn:=LV_lt g x hx
  refine ⟨(cla w N x).map fun t:Nat=>(t:Int),by rw [<-rms_int],by rw [length_map];exact cla_len h24,fun z=>cla_ne g ok hxn (List.map_eq_nil_iff.mp z),fun t ht=>?_,?_⟩
  ·obtain ⟨c,hc,rfl⟩:=List.mem_map.mp ht
   have:=cla_lt g ok hc
   show 0<=(c:Int)/\(c:Int)<((lsW w N m).n:Int)
   have e:(lsW w N m).n=m:=rfl
   rw [e]
   omega
  ·rw [pairwise_map]
   exact (List.pairwise_lt_range.filter _).imp fun h=>by omega
 ·obtain ⟨x,hx,rfl⟩:=List.mem_map.mp ha
  exact ⟨cla_ne g ok (LV_lt g x hx),cla_len h24,fun t ht=>cla_lt g ok ht⟩
 ·obtain ⟨x,hx,rfl⟩:=List.mem_map.mp ha
  exact ok.mc _ (mks_row ok (LV_lt g x hx)) c hc
theorem lst_at (hc:c<m):(lsW w N m).mks c=w.mks (lea N w.n c)/\(lsW w N m).stp c=cla w N (lea N w.n c):=by
 constructor
 ·show ((LV w N m).map w.mks).getD c []=_
  unfold LV
  rw [getD_eq_getElem?_getD,getElem?_map,getElem?_map,getElem?_range hc]
  rfl
 ·show ((LV w N m).map (cla w N)).getD c []=_
  unfold LV
  rw [getD_eq_getElem?_getD,getElem?_map,getElem?_map,getElem?_range hc]
  rfl
theorem stpL_ev (ok:w.Ok) {i:Nat} {s:Sh} {r:Nat} (h0:U[i]?=some (some ⟨.leaf,w.enc⟩)) (hb:fb U=.ok ⟨s,rm r⟩ U) (hr:r<w.n):eIdx (eIdx (eVar i) (eK (.int 2))) fb U=.ok ⟨.leaf,rms (w.stp r)⟩ U:=by
 rw [r_idx,r_idx,v_leaf h0]
 simp only [Out.bind,v_k,Wd.enc,tup3,r_idT,r_at2]
 rw [hb]
 simp only [r_idL]
 rw [ok.at2 hr]
theorem den_least (ok:w.Ok) (g:CN w o N m) (eN:m_class_numbers [w.enc,.bool o]=.ok ⟨.leaf,rms N⟩):m_least_world [w.enc,.bool o]=.ok ⟨.tup [.tup [.leaf,.leaf,.leaf],.leaf],.tuple [(lsW w N m).enc,rms N]⟩:=by
 have h24:=ok.h24
 have mn:=g.mn
 have c0:=ok.check
 have ll:(LV w N m).length=m:=by unfold LV;simp
 have s3:eComp .leaf 7 (iSeq (eCall 1 m_grouped (eCons (eVar 2) eNil))) bTrue (eIdx (eVar 7) (eK (.int 0))) [some ⟨.leaf,w.enc⟩,some ⟨.leaf,.bool o⟩,some ⟨.leaf,rms N⟩,none,none,none,none,none,none]=.ok ⟨.lst .leaf,rms (LV w N m)⟩ [some ⟨.leaf,w.enc⟩,some ⟨.leaf,.bool o⟩,some ⟨.leaf,rms N⟩,none,none,none,none,none,none]:=by
  have e:rms (LV w N m)=.list ((List.range m).map fun c=>rm (lea N w.n c)):=by unfold LV;show PyData.list _=_;rw [map_map];rfl
  rw [e]
  refine eComp_tyA (fun c=>rms (grp N w.n c)) (List.range m) (fun c=>⟨.leaf,rm (lea N w.n c)⟩) (st:=true) (w_seq (s:=.lst (.lst .leaf)) (v_call (v_cons (v_leaf rfl) v_nil) (den_grouped g h24) rfl rfl) rfl) (by simp) rfl (by simp;omega) fun c hc=>⟨?_,rfl⟩
  obtain ⟨t,e,_⟩:=lea_is g (List.mem_range.mp hc)
  exact v_idxL (j:=0) (ds:=(grp N w.n c).map rm) (v_leaf rfl) v_k (ix_nat (by rw [e];simp)) (by rw [e];rfl) rfl
 have s4:=eComp_tyA (U:=[some ⟨.leaf,w.enc⟩,some ⟨.leaf,.bool o⟩,some ⟨.leaf,rms N⟩,some ⟨.leaf,rms (LV w N m)⟩,none,none,none,none,none]) (s:=.leaf) (i:=8) (fi:=iSeq (eVar 3)) (fe:=eIdx (eIdx (eVar 0) (eK (.int 0))) (eVar 8)) rm (LV w N m) (fun x=>⟨.leaf,.int (owI w x)⟩) (st:=true) (w_seq (s:=.leaf) (v_leaf rfl) rfl) (by simp) rfl (by omega) fun x hx=>⟨own_ev ok (i:=0) (s:=.leaf) rfl (v_leaf rfl) (LV_lt g x hx),rfl⟩
 have s5:=eComp_tyA (U:=[some ⟨.leaf,w.enc⟩,some ⟨.leaf,.bool o⟩,some ⟨.leaf,rms N⟩,some ⟨.leaf,rms (LV w N m)⟩,some ⟨.leaf,.list ((LV w N m).map fun x=>.int (owI w x))⟩,none,none,none,none]) (s:=.leaf) (i:=8) (fi:=iSeq (eVar 3)) (fe:=eListOf (eIdx (eIdx (eVar 0) (eK (.int 1))) (eVar 8))) rm (LV w N m) (fun x=>⟨.lst .leaf,txs (w.mks x)⟩) (st:=true) (w_seq (s:=.leaf) (v_leaf rfl) rfl) (by simp) rfl (by omega) fun x hx=>⟨v_listOf (mks_ev ok (i:=0) (s:=.leaf) rfl (v_leaf rfl) (LV_lt g x hx)) rfl,rfl⟩
 have s6:=eComp_tyA (U:=[some ⟨.leaf,w.enc⟩,some ⟨.leaf,.bool o⟩,some ⟨.leaf,rms N⟩,some ⟨.leaf,rms (LV w N m)⟩,some ⟨.leaf,.list ((LV w N m).map fun x=>.int (owI w x))⟩,some ⟨.leaf,.list ((LV w N m).map fun x=>txs (w.mks x))⟩,none,none,none]) (s:=.leaf) (i:=8) (fi:=iSeq (eVar 3)) (fe:=eCall 2 m_classes_ahead (eCons (eVar 2) (eCons (eIdx (eIdx (eVar 0) (eK (.int 2))) (eVar 8)) eNil))) rm (LV w N m) (fun x=>⟨.lst .leaf,rms (cla w N x)⟩) (st:=true) (w_seq (s:=.leaf) (v_leaf rfl) rfl) (by simp) rfl (by omega) fun x hx=>⟨v_call (v_cons (v_leaf rfl) (v_cons (stpL_ev ok (i:=0) (s:=.leaf) rfl (v_leaf rfl) (LV_lt g x hx)) v_nil)) (den_ahead ok g.len g.ltn (LV_lt g x hx)) rfl rfl,rfl⟩
 have ee:(lsW w N m).enc=.tuple [.list ((LV w N m).map fun x=>.int (owI w x)),.list ((LV w N m).map fun x=>txs (w.mks x)),.list ((LV w N m).map fun x=>rms (cla w N x))]:=by
  unfold Wd.enc tup3 lsW
  simp only [map_map]
  rfl
 rw [ee]
 exact rt_of (x_seq (x_drop' (v_call (v_cons (v_leaf rfl) v_nil) c0 rfl rfl)) (x_seq (x_setL (v_call (v_cons (v_leaf rfl) (v_cons (v_leaf rfl) v_nil)) eN rfl rfl) rfl (by simp [startD])) (x_seq (x_setL s3 rfl (by simp [startD])) (x_seq (x_setL s4 rfl (by simp [startD])) (x_seq (x_setL s5 rfl (by simp [startD])) (x_seq (x_setL s6 rfl (by simp [startD])) (x_ret (v_tup (v_cons (v_tup (v_cons (v_leaf (i:=4) rfl) (v_cons (v_leaf (i:=5) rfl) (v_cons (v_leaf (i:=6) rfl) v_nil))) rfl rfl) (v_cons (v_leaf (i:=2) rfl) v_nil)) rfl rfl) rfl)))))))
theorem lst_mor (ok:w.Ok) (g:CN w o N m):(∀r,r<w.n->w.mks r=(lsW w N m).mks (nA N r))/\(∀r,r<w.n->∀t∈w.stp r,nA N t∈(lsW w N m).stp (nA N r))/\∀r,r<w.n->∀c∈(lsW w N m).stp (nA N r),∃t∈w.stp r,nA N t=c:=by
 have at_:∀r,r<w.n->∃l,l<w.n/\nA N l=nA N r/\(lsW w N m).mks (nA N r)=w.mks l/\(lsW w N m).stp (nA N r)=cla w N l:=fun r hr=>by
  have hc:=g.lt r hr
  obtain ⟨_,_,h1,h2⟩:=lea_is g hc
  exact ⟨_,h1,h2,(lst_at hc).1,(lst_at hc).2⟩
 refine ⟨fun r hr=>?_,fun r hr t ht=>?_,fun r hr c hc=>?_⟩
 ·obtain ⟨l,hl,e,e1,_⟩:=at_ r hr
  rw [e1]
  have:=g.look r l hr hl e.symm
  unfold lkK at this
  injection this with h1 _
  injection h1 with h1
  have:∀{a b:List Str},a.map (Sum.inr:Str->Key)=b.map Sum.inr->a=b:=fun {a b} h=>by
   induction a generalizing b with
   | nil=>cases b with | nil=>rfl | cons _ _=>cases h
   | cons x a ih=>
    cases b with
    | nil=>cases h
    | cons y b=>
     rw [map_cons,map_cons] at h
     injection h with h1 h2
     injection h1 with h1
     rw [h1,ih h2]
  exact this h1
 ·obtain ⟨l,hl,e,_,e2⟩:=at_ r hr
  rw [e2]
  obtain ⟨t',h1,h2⟩:=g.st r l hr hl e.symm t ht
  exact (mem_cla g.ltn ok).mpr ⟨t',h1,h2.symm⟩
 ·obtain ⟨l,hl,e,_,e2⟩:=at_ r hr
  rw [e2] at hc
  obtain ⟨t,h1,h2⟩:=(mem_cla g.ltn ok).mp hc
  obtain ⟨t',h3,h4⟩:=g.st l r hl hr e t h1
  exact ⟨t',h3,by rw [<-h4,h2]⟩
end
theorem den_twinQ {w:Wd} (ok:w.Ok):m__law_twin [w.enc]=.ok ⟨W3,w.enc⟩:=by
 have i0:eIdx (eVar 0) (eK (.int 0)) [some ⟨.leaf,w.enc⟩,none]=.ok ⟨.leaf,.list w.os⟩ [some ⟨.leaf,w.enc⟩,none]:=v_idxT (j:=0) (v_leaf rfl) v_k rfl rfl rfl
 have i1:eIdx (eVar 0) (eK (.int 1)) [some ⟨.leaf,w.enc⟩,none]=.ok ⟨.leaf,.list (w.m.map txs)⟩ [some ⟨.leaf,w.enc⟩,none]:=v_idxT (j:=1) (v_leaf rfl) v_k rfl rfl rfl
 have i2:eIdx (eVar 0) (eK (.int 2)) [some ⟨.leaf,w.enc⟩,none]=.ok ⟨.leaf,.list (w.s.map rms)⟩ [some ⟨.leaf,w.enc⟩,none]:=v_idxT (j:=2) (v_leaf rfl) v_k rfl rfl rfl
 have h24:=ok.h24
 have c1:eComp .leaf 1 (iSeq (eIdx (eVar 0) (eK (.int 1)))) bTrue (eListOf (eVar 1)) [some ⟨.leaf,w.enc⟩,none]=.ok ⟨.lst .leaf,.list (w.m.map txs)⟩ [some ⟨.leaf,w.enc⟩,none]:=
  eComp_tyA txs w.m (fun x=>⟨.lst .leaf,txs x⟩) (st:=true) (w_seq (s:=.leaf) i1 rfl) (by simp) rfl (by rw [ok.lm];omega) fun x hx=>⟨v_listOf (v_leaf rfl) rfl,rfl⟩
 have c2:eComp .leaf 1 (iSeq (eIdx (eVar 0) (eK (.int 2)))) bTrue (eListOf (eVar 1)) [some ⟨.leaf,w.enc⟩,none]=.ok ⟨.lst .leaf,.list (w.s.map rms)⟩ [some ⟨.leaf,w.enc⟩,none]:=
  eComp_tyA rms w.s (fun x=>⟨.lst .leaf,rms x⟩) (st:=true) (w_seq (s:=.leaf) i2 rfl) (by simp) rfl (by rw [ok.ls];omega) fun x hx=>⟨v_listOf (v_leaf rfl) rfl,rfl⟩
 exact rt_of (x_ret (v_tup (v_cons (v_listOf i0 rfl) (v_cons c1 (v_cons c2 v_nil))) rfl rfl) rfl)
noncomputable def fewR (j:Int):D:=if j=2 then .list [.str "b"] else .list [.str "a"]
noncomputable abbrev fewD:D:=.list [.list [.str "a"],.list [.str "a"],.list [.str "b"]]
theorem few_row {j:Int}:∃xs,fewR j=.list xs/\RowS xs/\xs.length<=30/\mOk (fewR j)=true:=by
 unfold fewR
 split
 ·exact ⟨_,rfl,fun d hd=>⟨"b",List.mem_singleton.mp hd,by decide +kernel⟩,by simp,by decide +kernel⟩
 ·exact ⟨_,rfl,fun d hd=>⟨"a",List.mem_singleton.mp hd,by decide +kernel⟩,by simp,by decide +kernel⟩
noncomputable abbrev GKa (a l:Int) (xs os ms ss:List D) (c:Int) (x5:Option PV):Ev:=[some ⟨.leaf,.list xs⟩,some ⟨.leaf,.int a⟩,some ⟨.leaf,.int l⟩,some ⟨.leaf,tup3 os ms ss⟩,some ⟨.leaf,.int c⟩,x5,none]
theorem den_likeA {xs:List D} (hx:RowI xs) {a l:Int} (ha:0<=a) (hl:1<=l) (hl2:l<=24):∃w:Wd,w.Ok/\(w.n:Int)<=l/\m__law_like_world [.list xs,.int a,.int l]=.ok ⟨W3,w.enc⟩:=by
 obtain ⟨n,os,ms,ss,e0,g,h1,h6⟩:=den_world hx (at':=a) (lim:=l) ha hl hl2
 obtain ⟨c,hc⟩:=den_cell hx (k:=a+1+l) (by omega)
 have len:∀(os ms ss:List D) (x5:Option PV),os.length=n->eCB gLen (eCons (eIdx (eVar 3) (eK (.int 0))) eNil) (GKa a l xs os ms ss c x5)=.ok ⟨.leaf,.int (n:Int)⟩ (GKa a l xs os ms ss c x5):=fun os ms ss x5 h=>v_cb (v_cons (v_idxT (j:=0) (s2:=.leaf) (v_leaf rfl) v_k rfl rfl rfl) v_nil) (by simp [h])
 have st1:∃ms' x5,Gw (n:Int) n os ms' ss/\sIf (bOf gBool (eOp gGt (eOp gMod (eVar 4) (eK (.int 3))) (eK (.int 0)))) (sSeq (sSet false 5 (eList .leaf (eCons (eList .leaf (eCons (eK (.str "a")) eNil)) (eCons (eList .leaf (eCons (eK (.str "a")) eNil)) (eCons (eList .leaf (eCons (eK (.str "b")) eNil)) eNil)))))
  (sSet false 3 (eTup (eCons (eIdx (eVar 3) (eK (.int 0))) (eCons (eComp .leaf 6 (iR1 (eCons (eCB gLen (eCons (eIdx (eVar 3) (eK (.int 0))) eNil)) eNil)) bTrue (eIdx (eVar 5) (eCall 3 m__law_draw (eCons (eVar 4) (eCons (eVar 6) (eCons (eK (.int 3)) eNil)))))) (eCons (eIdx (eVar 3) (eK (.int 2))) eNil)))))) sNext (GKa a l xs os ms ss c none)=.nx (GKa a l xs os ms' ss c x5):=by
  have t:bOf gBool (eOp gGt (eOp gMod (eVar 4) (eK (.int 3))) (eK (.int 0))) (GKa a l xs os ms ss c none)=.ok (decide ((0:Int)<c % 3)) (GKa a l xs os ms ss c none):=bb_bool (s:=.leaf) (v_op (v_op (v_leaf rfl) v_k (mod_i (by omega))) v_k rfl)
  cases q:decide ((0:Int)<c % 3) with
  | false=>
   rw [q] at t
   exact ⟨ms,none,g,x_if t nofun fun _=>rfl⟩
  | true=>
   rw [q] at t
   have cm:eComp .leaf 6 (iR1 (eCons (eCB gLen (eCons (eIdx (eVar 3) (eK (.int 0))) eNil)) eNil)) bTrue (eIdx (eVar 5) (eCall 3 m__law_draw (eCons (eVar 4) (eCons (eVar 6) (eCons (eK (.int 3)) eNil))))) (GKa a l xs os ms ss c (some ⟨.leaf,fewD⟩))=.ok ⟨.lst .leaf,.list ((List.range n).map fun r:Nat=>fewR (drw c (r:Int) 3))⟩ (GKa a l xs os ms ss c (some ⟨.leaf,fewD⟩)):=by
    refine eComp_tyA rm (List.range n) (fun r=>⟨.leaf,fewR (drw c (r:Int) 3)⟩) (st:=true) (R1_of (s:=.leaf) (n:=n) (by omega) (v_cons (len os ms ss _ g.lo) v_nil)) (by simp) rfl (by simp;omega) fun r hr=>⟨?_,rfl⟩
    have hr:=List.mem_range.mp hr
    have d:=den_drw (c:=c) (k:=(r:Int)) (b:=3) (by omega) (by omega) (by omega) (by omega)
    have i:=drw_in (c:=c) (k:=(r:Int)) (b:=3) (by omega) (by omega) (by omega) (by omega)
    have cl:=v_call (n:=3) (fl:=eCons (eVar 4) (eCons (eVar 6) (eCons (eK (.int 3)) eNil))) (U:=(GKa a l xs os ms ss c (some ⟨.leaf,fewD⟩)).set 6 (some ⟨.leaf,rm r⟩)) (v_cons (v_leaf (i:=4) rfl) (v_cons (v_leaf (i:=6) rfl) (v_cons v_k v_nil))) d rfl rfl
    generalize drw c (r:Int) 3=z at cl i
    rcases (by omega:z=0\/z=1\/z=2) with rfl | rfl | rfl
    ·exact v_idxL (j:=0) (v_leaf (i:=5) rfl) cl rfl rfl rfl
    ·exact v_idxL (j:=1) (v_leaf (i:=5) rfl) cl rfl rfl rfl
    ·exact v_idxL (j:=2) (v_leaf (i:=5) rfl) cl rfl rfl rfl
   refine ⟨(List.range n).map fun r:Nat=>fewR (drw c (r:Int) 3),some ⟨.leaf,fewD⟩,⟨g.lo,by simp,g.ls,g.o,fun a ha=>?_,g.s⟩,x_if t (fun _=>x_seq (x_setL (v_list (s:=.leaf) (v_cons (v_list (s:=.leaf) (v_cons v_k v_nil) rfl rfl rfl) (v_cons (v_list (s:=.leaf) (v_cons v_k v_nil) rfl rfl rfl) (v_cons (v_list (s:=.leaf) (v_cons v_k v_nil) rfl rfl rfl) v_nil))) rfl rfl rfl) rfl (by simp)) (x_setL (v_tup (v_cons (v_idxT (j:=0) (s2:=.leaf) (v_leaf rfl) v_k rfl rfl rfl) (v_cons cm (v_cons (v_idxT (j:=2) (s2:=.leaf) (v_leaf rfl) v_k rfl rfl rfl) v_nil))) rfl rfl) rfl (by simp))) nofun⟩
   obtain ⟨r,_,rfl⟩:=List.mem_map.mp ha
   exact few_row
 obtain ⟨ms1,x5,g1,e1⟩:=st1
 have st2:∃os',Gw (n:Int) n os' ms1 ss/\sIf (bOf gBool (eOp gEq (eOp gMod (eVar 4) (eK (.int 4))) (eK (.int 1)))) (sSet false 3 (eTup (eCons (eComp .leaf 6 (iR1 (eCons (eCB gLen (eCons (eIdx (eVar 3) (eK (.int 0))) eNil)) eNil)) bTrue (eOp gDiv (eCall 3 m__law_draw (eCons (eVar 4) (eCons (eOp gAddI (eK (.int 30)) (eVar 6)) (eCons (eK (.int 9)) eNil)))) (eK (.int 8)))) (eCons (eIdx (eVar 3) (eK (.int 1))) (eCons (eIdx (eVar 3) (eK (.int 2))) eNil))))) sNext (GKa a l xs os ms1 ss c x5)=.nx (GKa a l xs os' ms1 ss c x5):=by
  have t:bOf gBool (eOp gEq (eOp gMod (eVar 4) (eK (.int 4))) (eK (.int 1))) (GKa a l xs os ms1 ss c x5)=.ok (c % 4==1) (GKa a l xs os ms1 ss c x5):=bb_bool (s:=.leaf) (v_op (v_op (v_leaf rfl) v_k (mod_i (by omega))) v_k KC.eq_int)
  cases q:(c % 4==1) with
  | false=>
   rw [q] at t
   exact ⟨os,g1,x_if t nofun fun _=>rfl⟩
  | true=>
   rw [q] at t
   have cm:eComp .leaf 6 (iR1 (eCons (eCB gLen (eCons (eIdx (eVar 3) (eK (.int 0))) eNil)) eNil)) bTrue (eOp gDiv (eCall 3 m__law_draw (eCons (eVar 4) (eCons (eOp gAddI (eK (.int 30)) (eVar 6)) (eCons (eK (.int 9)) eNil)))) (eK (.int 8))) (GKa a l xs os ms1 ss c x5)=.ok ⟨.lst .leaf,.list ((List.range n).map fun r:Nat=>PyData.int (drw c (30+(r:Int)) 9 / 8))⟩ (GKa a l xs os ms1 ss c x5):=by
    refine eComp_tyA rm (List.range n) (fun r=>⟨.leaf,.int (drw c (30+(r:Int)) 9 / 8)⟩) (st:=true) (R1_of (s:=.leaf) (n:=n) (by omega) (v_cons (len os ms1 ss _ g1.lo) v_nil)) (by simp) rfl (by simp;omega) fun r hr=>⟨?_,rfl⟩
    have hr:=List.mem_range.mp hr
    exact v_op (v_call (v_cons (v_leaf (i:=4) rfl) (v_cons (v_op v_k (v_leaf (i:=6) rfl) add_int') (v_cons v_k v_nil))) (den_drw (c:=c) (k:=30+(r:Int)) (b:=9) (by omega) (by omega) (by omega) (by omega)) rfl rfl) v_k (div_i (by omega) (by omega))
   refine ⟨(List.range n).map fun r:Nat=>PyData.int (drw c (30+(r:Int)) 9 / 8),⟨by simp,g1.lm,g1.ls,fun a ha=>?_,g1.m,g1.s⟩,x_if t (fun _=>x_setL (v_tup (v_cons cm (v_cons (v_idxT (j:=1) (s2:=.leaf) (v_leaf rfl) v_k rfl rfl rfl) (v_cons (v_idxT (j:=2) (s2:=.leaf) (v_leaf rfl) v_k rfl rfl rfl) v_nil))) rfl rfl) rfl (by simp)) nofun⟩
   obtain ⟨r,hr,rfl⟩:=List.mem_map.mp ha
   have hr:=List.mem_range.mp hr
   have i:=drw_in (c:=c) (k:=30+(r:Int)) (b:=9) (by omega) (by omega) (by omega) (by omega)
   rcases (by omega:drw c (30+(r:Int)) 9 / 8=0\/drw c (30+(r:Int)) 9 / 8=1) with e | e
   ·exact .inl (by rw [e])
   ·exact .inr (by rw [e])
 obtain ⟨os2,g2,e2⟩:=st2
 obtain ⟨w,ok,ew,en⟩:=to_wd g2 h1 (by omega)
 refine ⟨w,ok,by rw [en];exact h6,?_⟩
 have eT:=den_twinQ ok
 rw [ew] at eT ⊢
 exact rt_of (x_seq (x_setL (v_call (v_cons (v_leaf rfl) (v_cons (v_leaf rfl) (v_cons (v_leaf rfl) v_nil))) e0 rfl rfl) rfl (by simp [startD])) (x_seq (U1:=GKa a l xs os ms ss c none) (x_setL (v_call (v_cons (v_leaf rfl) (v_cons (v_op (v_op (v_leaf rfl) v_k add_int') (v_leaf rfl) add_int') v_nil)) hc rfl rfl) rfl (by simp [startD])) (x_seq e1 (x_seq e2 (x_ret (v_call (v_cons (v_leaf (i:=3) rfl) v_nil) eT rfl rfl) rfl)))))
end KC
namespace T
open PySem PySem.Spec L2
open PyProof.Rows hiding St
variable {K:Fg} {fd:FuncData} {ps:List Str}
abbrev BindsP (x:Str) (s:Stmt) (ps:List Str) (us:List Value):Prop:=∀(kV doc pm:Value) (an:Option Addr) (cdv ct:Value),bindArgs (PySem.W.fnOf x x (defArgs s) (defBody s) (defScope s) .none kV doc pm an cdv ct) ⟨us,[]⟩=pure (ps.zip us)
abbrev BindsA (x:Str) (s:Stmt) (ps:List Str):Prop:=∀us:List Value,us.length=ps.length->BindsP x s ps us
section
variable {x:Str} {s:Stmt} {p1 p2 p3 p4 p5 p6:Str}
theorem bn1 (h:∀a,BindsP x s [p1] [a]:=by exact fun _ _ _ _ _ _ _=>rfl):BindsA x s [p1]:=fun us hl=>match us,hl with | [_],_=>h _
theorem bn2 (h:∀a b,BindsP x s [p1,p2] [a,b]:=by exact fun _ _ _ _ _ _ _ _=>rfl):BindsA x s [p1,p2]:=fun us hl=>match us,hl with | [_,_],_=>h _ _
theorem bn3 (h:∀a b c,BindsP x s [p1,p2,p3] [a,b,c]:=by exact fun _ _ _ _ _ _ _ _ _=>rfl):BindsA x s [p1,p2,p3]:=fun us hl=>match us,hl with | [_,_,_],_=>h _ _ _
end
def Ft (K:Fg) (mg:Str->Option Value) (n:Str) (s:Stmt):Prop:=∃f fd,mg n=some (.ref f)/\Fun K n n s f fd
theorem ft {h:Heap} {mg:Str->Option Value} {n:Str} {s:Stmt} {f:Addr} {od an:Option Addr} {sl:Array (Option Value)} {oc kV dc pm cd ct:Value} (X:K.In h) (G:h.Ns mainGlobals mg) (a:PySem.W.nsIn K mainGlobals n=some (some (.ref f))) (l:K.lookup f=some ⟨oc,od,.func (PySem.W.fnOf n n (defArgs s) (defBody s) (defScope s) .none kV dc pm an cd ct),sl⟩) (c:PySem.W.codeIn K cd n=true) (k:PySem.W.keepIn K (.ref f)=true):Ft K mg n s:=⟨f,_,PySem.W.mg_of X G a,fun_mk (st:=s) l c k⟩
theorem bindsF {x:Str} {st:Stmt} {f:Addr} (F:Fun K x x st f fd) (b:BindsA x st ps):Binds K fd ps []:=F.binds fun kV doc pm an cdv ct us hl=>b us hl kV doc pm an cdv ct
def lsOf (vs cs:List Nat):List Nat:=vs.filter fun i=>!cs.contains i
def fB (N gl ps:List Str) (vs cs gs:List Nat) (s:Stmt):Bool:=cpB N gl vs cs vs (lsOf vs cs) gs (defScope s)&&nmB N gl&&(!(defScope s).isCoroutine&&!(defScope s).isGenerator&&decide (N.take ps.length=ps)&&(ps.all fun x=>kindIn (defScope s) [.local,.cell] (some x))&&((defScope s).names.all fun y=>!decide (y.2=.free)))
theorem fB_ok {N gl:List Str} {vs cs gs:List Nat} {s:Stmt} (h:fB N gl ps vs cs gs s=true):cpB N gl vs cs vs (lsOf vs cs) gs (defScope s)=true/\nmB N gl=true/\FnScope N ps (defScope s):=by
 unfold fB at h
 simp only [Bool.and_eq_true,decide_eq_true_eq,all_eq_true,Bool.not_eq_true',decide_eq_false_iff_not] at h
 obtain ⟨⟨h1,h2⟩,⟨⟨⟨h3,h4⟩,h5⟩,h6⟩,h7⟩:=h
 refine ⟨h1,h2,(cpB_ok h1).kind,h3,h4,(nmB_ok h2).1,h5,fun x hx=>?_,h7⟩
 obtain ⟨k,hk,q⟩:=kindIn_some (h6 x hx)
 simp only [mem_cons,not_mem_nil,or_false] at hk
 rcases hk with rfl | rfl
 ·exact .inl q
 ·exact .inr q
structure In (p:Fg->(Str->Option Value)->Prop) (X:Cx) (P:Program) (w:World) (K:Fg) (mg:Str->Option Value) (base:Heap) (k:Nat):Prop where
 e1:X.prog=P
 e2:X.w=w
 e3:X.K=K
 e4:X.mg=mg
 e5:X.base=base
 rm:Room k X.A
 pp:p K mg
section
variable {p:Fg->(Str->Option Value)->Prop} {X Y:Cx} {P:Program} {w:World} {K:Fg} {mg:Str->Option Value} {base:Heap} {j k n:Nat} {x:Str} {s:Stmt} {ps:List Str} {g:FS} {den:List PySem.PyData->Res} {ss:List Sh}
theorem In.r (I:In p X P w K mg base k):Rm X:=I.rm.units
theorem In.e (I:In p X P w K mg base k):p X.K X.mg:=by rw [I.e3,I.e4];exact I.pp
theorem In.c (I:In p X P w K mg base k) (h:DefOk P w K mg base j x n den) (hj:decide (j<=k)=true:=by first | exact rfl | exact decide_eq_true (by omega)):Cal X x n den:=by
 obtain ⟨rfl,rfl,rfl,rfl,rfl,r,_⟩:=I
 exact h.cal r hj
theorem Fx.i (F:Fx X Y) (I:In p X P w K mg base k):In p Y P w K mg base k:=⟨F.prog.trans I.e1,F.w.trans I.e2,F.K.trans I.e3,F.mg.trans I.e4,F.base.trans I.e5,by rw [F.A];exact I.rm,I.pp⟩
abbrev Bd (p:Fg->(Str->Option Value)->Prop) (P:Program) (w:World) (K:Fg) (mg:Str->Option Value) (base:Heap) (k:Nat) (N gl:List Str) (vs cs gs:List Nat) (s:Stmt) (g:FS):Prop:=∀X:Cx,Cp X N gl vs cs vs (lsOf vs cs) gs->In p X P w K mg base k->PassesOwn (model X.prog X.w) X.A X.env X.xe->TQ.Q (PSs X (defBody s) (tS X.K W0 g))
theorem mk1 {f:Addr} (F:Fun K x x s f fd) (e:p K mg) (N gl:List Str) (vs cs gs:List Nat) (h:fB N gl ps vs cs gs s=true) (hb:Bd p P w K mg base k N gl vs cs gs s g):FnOk P w K mg base CX0 (k+1) f fd ps (spD K ps.length (denOf N.length g)):=by
 obtain ⟨h1,h2,h3⟩:=fB_ok h
 exact fn_den F h3 fun cdv A outer s H E hr=>(hb _ (Cp.fn h1 h2) ⟨rfl,rfl,rfl,rfl,rfl,hr,e⟩ PassesOwn.never).p
theorem mk (F:Ft K mg x s) (e:p K mg) (ps:List Str) (b:BindsA x s ps) (rs gl:List Str) (vs cs gs:List Nat) (hb:Bd p P w K mg base k (ps++rs) gl vs cs gs s g) (h:fB (ps++rs) gl ps vs cs gs s=true:=by kernel_rfl):DefOk P w K mg base (k+1) x ps.length (denOf (ps++rs).length g):=by
 obtain ⟨f,fd,hm,F⟩:=F
 exact ⟨f,fd,ps,mk1 F e _ gl vs cs gs h hb,hm,F.kp,bindsF F b⟩
theorem mkL {fa:Addr} (F:Ft K mg x s) (e:p K mg) (q:Str) (b:BindsA x s [q]) (hfa:mg x=some (.ref fa)) (rs gl:List Str) (vs cs gs:List Nat) (hb:∀base,Bd p P w K mg base k ([q]++rs) gl vs cs gs s g) (h:fB ([q]++rs) gl [q] vs cs gs s=true:=by kernel_rfl) :
  ∃fd:FuncData,(∀(s:Shared) (v:Value),BindsTo s fd ⟨[v],[]⟩ [(q,v)])/\∀base:Heap,K.In base->base.Ns mainGlobals mg->FnOk P w K mg base CX0 (k+1) fa fd [q] (spD K 1 (denOf ([q]++rs).length g)):=by
 obtain ⟨f,fd,hm,F⟩:=F
 have e':=hfa.symm.trans hm
 cases e'
 refine ⟨fd,fun s v=>?_,fun base _ _=>mk1 F e _ gl vs cs gs h (hb base)⟩
 obtain ⟨oc,od,kV,doc,pm,an,cdv,ct,osl,rfl,lk,hcd⟩:=F.ex
 exact .of_eq (b [v] rfl kV doc pm an cdv ct)
section
variable {h:Heap} {a:Addr} {dd:Option Addr} {its:Array Value} {n:Nat} {sl:Array (Option Value)} {ds:List PySem.PyData} (KX:K.In h) (G:h.Ns mainGlobals mg)
include KX G
theorem gn (z:PySem.W.nsIn K mainGlobals x=some none):mg x=none:=PySem.W.mg_none_of KX G z
theorem gi {i:Int} {t:Tok} (z:PySem.W.nsIn K mainGlobals x=some (some (.int i t))):ConK K mg x (.int i):=con_int (PySem.W.mg_of KX G z)
theorem gt (z:PySem.W.nsIn K mainGlobals x=some (some (.ref a))) (l:K.lookup a=some ⟨.type "tuple",dd,.seq its n,sl⟩) (c:chkT its ds=true):ConK K mg x (.tuple ds):=con_tup (PySem.W.mg_of KX G z) l c
end
theorem walkG {m:List PySem.PyData->Res} {l:PySem.W.OpenLaw} {q:Program} {loose:List Str} {XP:(Str->Option Value)->Heap->Prop} {YP:World->Heap->Prop} {d:DefRec} {K:Params->Fg} (lt:∀ns:List Int,ns.length<=63->m [.list (ns.map .int)]=.ok ⟨.leaf,.bool true⟩) (hr:Room j callerA) (hn:l.most=some 63) (hdf:d.params.defaults=[])
  (hY:∀(w:World) (h:Heap),YP w h->(K w.params).In h)
  (F:∀(w:World) (mg:Str->Option Value) (fa:Addr) (h:Heap),(K w.params).In h->h.Ns mainGlobals mg->mg d.name=some (.ref fa) ->
   ∃fd:FuncData,(∀(s:Shared) (u:Value),BindsTo s fd ⟨[u],[]⟩ [("script",u)])/\∀base:Heap,(K w.params).In base->base.Ns mainGlobals mg->FnOk l.prog w (K w.params) mg base CX0 j fa fd ["script"] (spD (K w.params) 1 m)) :
  PySem.W.WalkO q loose XP YP l.row.toRowW d [] (fun f vs=>PySem.call f vs):=
 L2.walk_of (n:=63) (k:=j) (x := "script") (CX:=fun _=>CX0) (sp:=fun w=>spD (K w.params) 1 m) hn (by decide) hdf hr hY F (fun _ _ a ns hl _ hS=>law_sp (lt ns hl) hS) fun _ _ _ _ _ z=>z
end
end T
namespace TQ
open PySem PySem.Spec L2 T
open PyProof.Rows hiding St
variable {x:Str}
section
variable {X:Cx} {N gl:List Str} {vs cs ls lo gs:List Nat} {W:XW} {a b c e:Expr} {es:List Expr} {pos p:Pos} {fa fb fc:F1} {fl:FL} {ga gb:FB} {g1 g2 g:FS}
theorem u_v (S:Cp X N gl vs cs ls lo gs) (i:Nat) (hN:N[i]?=some x:=by exact rfl) (hv:vs.contains i=true:=by exact rfl):Q (PE X (.Name x pos) (tE X.K W (eVar i))):=w_cv S i hN hv
theorem u_c (ha:Q (PE X e (tE X.K W fa))) (hr:Q (PA X es (tA X.K W fl))) (hs:isStar e=false:=by exact rfl):Q (PA X (e::es) (tA X.K W (eCons fa fl))):=w_da_cons ha hr (star_cons hs)
theorem u_1 (ha:Q (PE X e (tE X.K W fa))) (hs:isStar e=false:=by exact rfl):Q (PA X [e] (tA X.K W (eCons fa eNil))):=w_da_cons ha w_da_nil (star_cons hs)
theorem u_x (ha:Q (PE X a (tE X.K W fa))) (hb:Q (PE X b (tE X.K W fb))) (hs:PlainIx b:=by exact fun _ _=>rfl):Q (PE X (.Subscript a b pos) (tE X.K W (eIdx fa fb))):=w_de_idx ha hb hs
theorem u_f {n:Nat} {den:List PySem.PyData->Res} (S:Cp X N gl vs cs ls lo gs) (j:Nat) (C:Cal X x n den) (ha:Q (PA X (e::es) (tA X.K W fl))) (hj:gl[j]?=some x:=by exact rfl) (hg:gs.contains j=true:=by exact rfl) (he:isStar e=false:=by exact rfl) (hpl:(backTo pos (starEach es X.env)).any (·.1)=false:=by exact rfl):Q (PE X (.Call (.Name x p) (e::es) [] pos) (tE X.K W (eCall n den fl))):=w_cc S j hj hg C ha (star_cons he) hpl
theorem u_s (S:Cp X N gl vs cs ls lo gs) (own:Bool) (i:Nat) {pos':Pos} (ha:Q (PE X a (tE X.K W fa))) (hi:N[i]?=some x:=by exact rfl) (hl:ls.contains i=true:=by exact rfl) (hs:swapsWith a (some (.Name x pos')) pos.line X.env=pure false:=by exact rfl):Q (PS X (.Assign [.Name x pos'] a pos) (tS X.K W (sSet own i fa))):=w_cs_set S own i hi hl hs ha
theorem u_n (S:Cp X N gl vs cs ls lo gs) (j:Nat) (hm:X.mg "len"=none) (ha:Q (PA X (e::es) (tA X.K W fl))) (hj:gl[j]?=some ("len":Str):=by exact rfl) (hg:gs.contains j=true:=by exact rfl) (he:isStar e=false:=by exact rfl) (hpl:(backTo pos (starEach es X.env)).any (·.1)=false:=by exact rfl):Q (PE X (.Call (.Name "len" p) (e::es) [] pos) (tE X.K W (eCB gLen fl))):=w_cb_len S j hj hg hm ha (star_cons he) hpl
theorem u_t {op:CmpOp} {r:R2} {g:PySem.PyData->PySem.PyData->Option PySem.PyData} (k:Ck X op r g) (ha:Q (PE X a (tE X.K W fa))) (hb:Q (PE X b (tE X.K W fb))) (hm:behindInMarks op b=false:=by with_unfolding_all rfl):Q (PT X (.Compare a [op] [b] pos) (tT X.K W (bOf gBool (eOp g fa fb)))):=w_ct k ha hb hm
theorem u_e {op:CmpOp} {r:R2} {g:PySem.PyData->PySem.PyData->Option PySem.PyData} (k:Ck X op r g) (ha:Q (PE X a (tE X.K W fa))) (hb:Q (PE X b (tE X.K W fb))) (hm:behindInMarks op b=false:=by with_unfolding_all rfl):Q (PE X (.Compare a [op] [b] pos) (tE X.K W (eOp g fa fb))):=w_ce k ha hb hm
theorem u_r (ha:Q (PE X a (tE X.K W fa))):Q (PSs X [.Return (some a) pos] (tS X.K W (sRet fa))):=w_ds_one (w_ds_ret ha)
theorem u_o {scope:Scope} {px:Pos} {iter elt:Expr} {ifs:List Expr} {fi:FI} {fe:F1} {fc:FB} (vs' cs' gs':List Nat) (S:Cp X N gl vs cs ls lo gs) (i:Nat) (hi':Q (PI X (.Name x px) iter (tI X.K W fi))) (hc:Blk X N gl vs' cs' [i] [] gs' fun Y=>Q (PF Y ifs (tT Y.K W0 fc))) (he:Blk X N gl vs' cs' [i] [] gs' fun Y=>Q (PE Y elt (tE Y.K W0 fe))) (hx:N[i]?=some x:=by exact rfl) (h1:compB N i cs scope=true:=by kernel_rfl) (h2:cpB N gl vs' cs' [i] [] gs' scope=true:=by kernel_rfl) (hs:∀x,foldedSetIterable iter X.env x=pure x:=by exact fun _=>rfl):Q (PE X (.ListComp elt [⟨.Name x px,iter,ifs,0⟩] scope pos) (tE X.K W (eComp .leaf i fi fc fe))):=w_co S .leaf i hx h1 h2 hi' hc he hs
end
end TQ
namespace T
open PySem PySem.Spec L2
open PyProof.Rows hiding St
open AutoSeq1 (wpAny_loadPart')
open MeetsSeq MeetsSeq2 MeetsSeq3
variable {n:Nat}
theorem lt_loop1 (l b:Addr) (items items2:Array Value) (n n2:Nat) (dd dd2:Option Addr) (sl sl2:Array (Option Value)) (x y:Int) (t u:Tok) (h1:items[0]?=some (.int x t)) (h2:items2[0]?=some (.int y u)) (hne:x≠y) :
  Meets (Builtin.«list.__eq__.loop» ⟨[.ref l,.ref b,rawInt 0,rawInt 0],[]⟩)
   (fun A R s=>s.heap.get? l=some { cls:=.type "list",dict:=dd,data:=.seq items n,slots:=sl }/\s.heap.get? b=some { cls:=.type "list",dict:=dd2,data:=.seq items2 n2,slots:=sl2 } /\
    R (.ok (.ret (.bool (decide (x<y))))) s):=by
 intro prog w A R s h
 obtain ⟨hp,g,d,tk,os⟩:=s;obtain ⟨hl,hb,h⟩:=h
 wp_walk using wpAny_loadPart' hl,wpAny_loadPart' hb
 have h1':items[Int.toNat 0]?=some (.int x t):=h1
 have h2':items2[Int.toNat 0]?=some (.int y u):=h2
 rw [h1',h2']
 refine wpAny_bind (wpAny_eqBool_int ?_)
 have e:(x==y)=false:=by simpa using hne
 rw [e,if_neg Bool.false_ne_true]
 wp_walk using wpAny_loadPart' hl,wpAny_loadPart' hb
 rw [h1',h2']
 refine wpAny_bind ?_
 show wpAny _ _ (compareOp .Lt (.int x t) (.int y u)) _ _ _
 exact lt_int (wpAny_pure h)
theorem list_lt1 (l b:Addr) (items items2:Array Value) (n n2:Nat) (dd dd2:Option Addr) (sl sl2:Array (Option Value)) (x y:Int) (t u:Tok) (h1:items[0]?=some (.int x t)) (h2:items2[0]?=some (.int y u)) (hne:x≠y) :
  Meets (Builtin.«list.__lt__» ⟨[.ref l,.ref b],[]⟩)
   (fun A R s=>s.heap.get? l=some { cls:=.type "list",dict:=dd,data:=.seq items n,slots:=sl }/\s.heap.get? b=some { cls:=.type "list",dict:=dd2,data:=.seq items2 n2,slots:=sl2 } /\
    R (.ok (.ret (.bool (decide (x<y))))) s):=by
 intro prog w A R s h
 obtain ⟨hp,g,d,tk,os⟩:=s;obtain ⟨hl,hb,h⟩:=h
 have f3:=AutoSeq1.sub_list_list
 wp_walk using wpAny_loadPart' hl,wpAny_loadPart' hb
 exact ⟨plainId_quiet plain_eq_loop _,codeAny_builtin entry_eq_loop (by
  rw [Around.under_plainId plain_eq_loop _]
  exact lt_loop1 l b items items2 n n2 dd dd2 sl sl2 x y t u h1 h2 hne prog w A R _ ⟨hl,hb,h⟩)⟩
theorem lt_heads {prog:Program} {w:World} {A:Around} {E:Value->Shared->Prop} {s:Shared} {l b:Addr} {items items2:Array Value} {n2:Nat} {dd dd2:Option Addr} {sl sl2:Array (Option Value)} {x y:Int} {t u:Tok} {Q:Bool->Shared->Prop} (hu:A.units<cLine) (hl:s.heap.get? l=some { cls:=.type "list",dict:=dd,data:=.seq items n,slots:=sl }) (hb:s.heap.get? b=some { cls:=.type "list",dict:=dd2,data:=.seq items2 n2,slots:=sl2 })
  (h1:items[0]?=some (.int x t)) (h2:items2[0]?=some (.int y u)) (hne:x≠y) (q:Q (decide (x<y)) s):wpAny (model prog w) A (keyLt' oneType' (.ref l) (.ref b)) Q E s:=by
 rw [keyLt'_oneType,oneLt'_eq]
 simp only [if_true]
 refine wpAny_bind (wpAny_cRoomFor hu ?_)
 refine wpAny_bind (wpAny_callSpecialIfBound?_slot (T := "list") ⟨_,hl,rfl⟩ PySem.F.slot_list_lt (call_meets PySem.F.slot_list_lt ⟨_,hl,rfl⟩ PySem.F.entry_list_lt (PySem.F.args_list_lt_2 _ _) (list_lt1 l b items items2 n n2 dd dd2 sl sl2 x y t u h1 h2 hne) ⟨hl,hb,?_⟩))
 exact wpAny_truthy_bool q
open PySem.W
def reach (fs:List (Nat×Nat)):Nat->Nat->Nat->Bool
 | 0,a,b=>fs.contains (a,b)
 | f+1,a,b=>fs.any fun e=>e.1==a&&(e.2==b||reach fs f e.2 b)
def chain (fs:List (Nat×Nat)) (f:Nat):List Nat->Bool
 | a::b::r=>reach fs f a b&&chain fs f (b::r)
 | _=>true
def chk (n:Nat) (fs:List (Nat×Nat)):KasT (Array Nat)->Bool
 | .ret p=>decide (p.toList.length=n)&&(List.range n).all (fun k=>p.toList.contains k)&&chain fs n p.toList
 | .ask i j k=>decide (i<n)&&decide (j<n)&&!(i==j)&&(reach fs n i j||chk n ((j,i)::fs) (k false))&&(reach fs n j i||chk n ((i,j)::fs) (k true))
theorem chk2:chk 2 [] (kas_sort 2)=true:=by kernel_rfl
theorem chk3:chk 3 [] (kas_sort 3)=true:=by kernel_rfl
theorem chk4:chk 4 [] (kas_sort 4)=true:=by kernel_rfl
theorem chk5:chk 5 [] (kas_sort 5)=true:=by kernel_rfl
theorem chk6:chk 6 [] (kas_sort 6)=true:=by kernel_rfl
theorem chk_all (h2:2<=n) (h6:n<=6):chk n [] (kas_sort n)=true:=by
 match n,h2,h6 with
 | 2,_,_=>exact chk2
 | 3,_,_=>exact chk3
 | 4,_,_=>exact chk4
 | 5,_,_=>exact chk5
 | 6,_,_=>exact chk6
 | n+7,_,h=>omega
section
variable {key:Nat->Int} {n:Nat}
theorem reach_lt {fs:List (Nat×Nat)} (hf:∀e∈fs,key e.1<key e.2):∀(f:Nat) {a b:Nat},reach fs f a b=true->key a<key b
 | 0,a,b,h=>hf (a,b) (List.contains_iff_mem.mp h)
 | f+1,a,b,h=>by
  obtain ⟨e,he,q⟩:=List.any_eq_true.mp h
  rw [Bool.and_eq_true,Bool.or_eq_true] at q
  have ea:e.1=a:=by simpa using q.1
  have:=hf e he
  rcases q.2 with z | z
  ·have eb:e.2=b:=by simpa using z
   rw [<-ea,<-eb];exact this
  ·have:=reach_lt hf f z
   rw [<-ea];omega
theorem chain_lt {fs:List (Nat×Nat)} {f:Nat} (hf:∀e∈fs,key e.1<key e.2):∀{l:List Nat},chain fs f l=true->l.Pairwise fun a b=>key a<key b
 | [],_=>.nil
 | [a],_=>by simp
 | a::b::r,h=>by
  unfold chain at h
  rw [Bool.and_eq_true] at h
  have hab:=reach_lt hf f h.1
  have ih:=chain_lt (l:=b::r) hf h.2
  refine List.pairwise_cons.mpr ⟨fun c hc=>?_,ih⟩
  rcases List.mem_cons.mp hc with z | z
  ·rw [z];exact hab
  ·have:=(List.pairwise_cons.mp ih).1 c z
   omega
theorem chk_run {cmp:Nat->Nat->(Bool->Shared->Prop)->Shared->Prop} {Q:Array Nat->Shared->Prop} {s:Shared} (inj:∀i j,i<n->j<n->i≠j->key i≠key j) (hc:∀i j C,i<n->j<n->i≠j->C (decide (key i<key j)) s->cmp i j C s)
  (q:∀p:Array Nat,p.toList.length=n->(∀k,k<n->k∈p.toList)->(p.toList.Pairwise fun a b=>key a<key b)->Q p s):∀(t:KasT (Array Nat)) (fs:List (Nat×Nat)),(∀e∈fs,key e.1<key e.2)->chk n fs t=true->t.kasWp cmp Q s
 | .ret p,fs,hf,h=>by
  unfold chk at h
  rw [Bool.and_eq_true,Bool.and_eq_true,decide_eq_true_eq,all_eq_true] at h
  exact q p h.1.1 (fun k hk=>List.contains_iff_mem.mp (h.1.2 k (List.mem_range.mpr hk))) (chain_lt hf h.2)
 | .ask i j k,fs,hf,h=>by
  unfold chk at h
  simp only [Bool.and_eq_true,Bool.or_eq_true,decide_eq_true_eq,Bool.not_eq_true',beq_eq_false_iff_ne] at h
  obtain ⟨⟨⟨⟨hi,hj⟩,hne⟩,h1⟩,h2⟩:=h
  have ne:=inj i j hi hj hne
  show cmp i j (fun b s'=>(k b).kasWp cmp Q s') s
  refine hc i j _ hi hj hne ?_
  by_cases hlt:key i<key j
  ·rw [decide_eq_true hlt]
   rcases h2 with z | z
   ·have:=reach_lt hf n z
    omega
   ·exact chk_run inj hc q (k true) _ (fun e he=>by rcases List.mem_cons.mp he with y | y;(· rw [y];exact hlt);(· exact hf e y)) z
  ·rw [decide_eq_false hlt]
   rcases h1 with z | z
   ·have:=reach_lt hf n z
    omega
   ·exact chk_run inj hc q (k false) _ (fun e he=>by rcases List.mem_cons.mp he with y | y;(· rw [y];show key j<key i;omega);(· exact hf e y)) z
end
end T
namespace T
open PySem PySem.Spec L2 PySem.W
open PyProof.Rows hiding St
variable {vs:List Value} {key:Nat->Int}
section
variable {prog:Program} {w:World} {A:Around} {E:Value->Shared->Prop} {s:Shared}
def HdAt (h:Heap) (b:Addr) (x:Int):Prop:=∃dd items n sl t,h.get? b=some { cls:=.type "list",dict:=dd,data:=.seq items n,slots:=sl }/\items[0]?=some (.int x t)
theorem list_sort_rows {a:Addr} {n:Nat} {P:PySem.Fin->Shared->Prop} (ho:s.heap.get? a=some (seqObj "list" vs.toArray n)) (h6:vs.length<=6) (hu:A.units<cLine) (inj:∀i j,i<vs.length->j<vs.length->i≠j->key i≠key j)
  (row:∀i,i<vs.length->∃b,vs.getD i Value.none=.ref b/\b≠a/\HdAt s.heap b (key i))
  (h:∀(out:Array Value) (p:List Nat),p.length=vs.length->(∀k,k<vs.length->k∈p)->(p.Pairwise fun a b=>key a<key b)->out.toList=p.map (fun i=>vs.getD i Value.none)->P (.done (.ret .none)) { s with heap:=sortedHeap s.heap a vs out }) :
  wpAny (model prog w) A (Builtin.«list.sort» ⟨[.ref a],[]⟩) P E s:=by
 rw [list_sort_plain]
 have ha:a<s.heap.objs.size:=Heap.lt_size ho
 refine wpAny_bind (listItems_at ho rfl ?_)
 refine wpAny_bind (listUpdate_at ho rfl ?_ (by rw [size_toArray,sizeLine_eq];omega) (Nat.zero_le _))
 obtain ⟨e1,ho1⟩:∃e1,(s.heap.update a (Obj.mapSeq fun _=>(#[]:Array Value))).get? a=some (seqObj "list" #[] e1):=⟨_,get?_update_seq ho (fun _=>#[])⟩
 refine wpAny_bind (seqEpoch_at ho1 rfl ?_)
 refine wpAny_bind (wpAny_newTuple ?_ (by show vs.length<=_;rw [sizeLine_eq];omega))
 refine wpAny_bind (wpAny_newList ?_ (Nat.zero_le _))
 refine wpAny_holding ?_
 have keep:∀b o,b≠a->s.heap.get? b=some o->(((s.heap.update a (Obj.mapSeq fun _=>(#[]:Array Value))).push (seqObj "tuple" vs.toArray 0)).push (seqObj "list" #[] 0)).get? b=some o:=fun b o hb e=>Heap.get?_push_of_some _ (Heap.get?_push_of_some _ (by rw [Heap.get?_update_ne _ _ _ _ hb];exact e))
 have ho6:(((s.heap.update a (Obj.mapSeq fun _=>(#[]:Array Value))).push (seqObj "tuple" vs.toArray 0)).push (seqObj "list" #[] 0)).get? a=some (seqObj "list" #[] e1):=Heap.get?_push_of_some _ (Heap.get?_push_of_some _ ho1)
 show wpAny (model prog w) A _ P E { s with heap:=((s.heap.update a (Obj.mapSeq fun _=>(#[]:Array Value))).push (seqObj "tuple" vs.toArray 0)).push (seqObj "list" #[] 0) }
 dsimp only
 have fin:∀(st':SortSt) (p:Array Nat),p.toList.length=vs.length->arrOf st'=p.map (kas_item (pairsOf vs))->(∀k,k<vs.length->k∈p.toList)->(p.toList.Pairwise fun a b=>key a<key b)->P (.done (.ret .none)) { s with heap:=sortedHeap s.heap a vs ((arrOf st').map (·.2)) }:=by
  intro st' p hl har hm hp
  refine h _ p.toList hl hm hp ?_
  rw [har,Array.map_map,Array.toList_map]
  exact map_congr_left fun i _=>by show (kas_item (pairsOf vs) i).2=_;rw [kas_item_eq]
 by_cases h2:vs.toArray.size<2
 ·rw [if_pos h2,if_pos h2]
  refine wpAny_bind (wpAny_pure ?_)
  rw [StateT.run_pure]
  refine wpAny_bind (wpAny_pure ?_)
  dsimp only
  refine wpAny_bind (seqEpoch_at ho6 rfl ?_)
  refine wpAny_bind (listUpdate_at ho6 rfl ?_ (Nat.zero_le _) (by rw [Array.size_map];show (pairsOf vs).size<=_;rw [pairsOf_size,sizeLine_eq];omega))
  simp only [bne_self_eq_false,Bool.false_eq_true,if_false]
  have hsz:vs.length<2:=by simpa using h2
  refine wpAny_pure (fin (SortSt.mk' general' (vs.toArray.zip vs.toArray) #[] 7 none) (List.toArray (List.range vs.length)) (by simp) ?_ (fun k hk=>by simpa using hk) ?_)
  ·have e:=kas_range (pairsOf vs)
   rw [pairsOf_size] at e
   rw [e]
   rfl
  ·match vs.length,hsz with
   | 0,_=>simp
   | 1,_=>simp [List.range_succ]
   | n+2,hz=>omega
 ·rw [if_neg h2,if_neg h2]
  have h2':2<=vs.length:=by
   rw [size_toArray] at h2
   omega
  refine wpAny_bind (kas_kind (T:=.type "list") h2' (fun v hv=>?_) rfl rfl ?_)
  ·obtain ⟨i,hi,rfl⟩:=getElem_of_mem hv
   obtain ⟨b,e,hne,dd,items,m,sl,t,hg,_⟩:=row i hi
   have e:vs[i]=.ref b:=by simpa [hi] using e
   rw [e]
   exact fun A' Q' E' s' k q=>wpAny_typeOf (T := "list") ⟨_,k b _ (keep b _ hne hg),rfl⟩ q
  have est:SortSt.mk' oneType' (vs.toArray.zip vs.toArray) #[] 7 none=kas_st oneType' (pairsOf vs) (List.toArray (List.range vs.length)):=by
   have e:=kas_range (pairsOf vs)
   rw [pairsOf_size] at e
   show SortSt.mk' oneType' (pairsOf vs) #[] 7 none=SortSt.mk' oneType' ((List.toArray (List.range vs.length)).map (kas_item (pairsOf vs))) #[] 7 none
   rw [e]
  have ask:(kas_sort vs.length).kasWp (kas_cmp prog w A oneType' (pairsOf vs)) (fun p s'=>s'={ s with heap:=((s.heap.update a (Obj.mapSeq fun _=>(#[]:Array Value))).push (seqObj "tuple" vs.toArray 0)).push (seqObj "list" #[] 0) }/\p.toList.length=vs.length/\(∀k,k<vs.length->k∈p.toList)/\p.toList.Pairwise fun a b=>key a<key b) { s with heap:=((s.heap.update a (Obj.mapSeq fun _=>(#[]:Array Value))).push (seqObj "tuple" vs.toArray 0)).push (seqObj "list" #[] 0) }:=by
   rw [<-kas_ask_eq]
   refine chk_run (key:=key) (n:=vs.length) inj (fun i j C hi hj hne hC=>?_) (fun p a1 a2 a3=>⟨rfl,a1,a2,a3⟩) _ [] (fun _ z=>nomatch z) (chk_all h2' h6)
   obtain ⟨b,eb,nb,dd,items,m,sl,t,hg,h0⟩:=row i hi
   obtain ⟨c,ec,nc,dd2,items2,m2,sl2,t2,hg2,h02⟩:=row j hj
   unfold kas_ask
   rw [eb,ec]
   exact lt_heads hu (keep b _ nb hg) (keep c _ nc hg2) h0 h02 (inj i j hi hj hne) hC
  have run:=kas_runs (E:=E) (Q:=fun _ st' s'=>∃p:Array Nat,arrOf st'=p.map (kas_item (pairsOf vs))/\failedOf st'=none/\s'={ s with heap:=((s.heap.update a (Obj.mapSeq fun _=>(#[]:Array Value))).push (seqObj "tuple" vs.toArray 0)).push (seqObj "list" #[] 0) }/\p.toList.length=vs.length/\(∀k,k<vs.length->k∈p.toList)/\p.toList.Pairwise fun a b=>key a<key b)
   h2' (by omega) (fun p' st' s' a1 a2 a3 a4=>⟨p',a2,a3,a4⟩) ask
  rw [<-est] at run
  refine wpAny_bind (wpAny_mono run ?_ fun _ _ e=>e)
  rintro ⟨⟨⟩,st'⟩ s' ⟨p,har,hf,rfl,hl,hm,hp⟩
  dsimp only
  have hsz:((arrOf st').map (·.2)).size=vs.length:=by rw [Array.size_map,har,Array.size_map,<-Array.length_toList,hl]
  refine wpAny_bind (seqEpoch_at ho6 rfl ?_)
  refine wpAny_bind (listUpdate_at ho6 rfl ?_ (Nat.zero_le _) (Nat.le_trans (Nat.le_of_eq hsz) (by rw [sizeLine_eq];omega)))
  rw [hf]
  simp only [bne_self_eq_false,Bool.false_eq_true,if_false]
  exact wpAny_pure (fin st' p hl har hm hp)
theorem sorted_rows {l:Addr} {Q:Value->Shared->Prop} (hl:s.heap.IsList l vs.toArray) (h6:vs.length<=6) (hu:A.in1.in1.units<cLine) (inj:∀i j,i<vs.length->j<vs.length->i≠j->key i≠key j) (row:∀i,i<vs.length->∃b,vs.getD i Value.none=.ref b/\HdAt s.heap b (key i))
  (h:∀(out:Array Value) (p:List Nat),p.length=vs.length->(∀k,k<vs.length->k∈p)->(p.Pairwise fun a b=>key a<key b)->out.toList=p.map (fun i=>vs.getD i Value.none)->Q (.ref (s.heap.objs.size+1)) { s with heap:=sortedAll s.heap vs out }) :
  wpAny (model prog w) A (call (.builtin "sorted") [.ref l]) Q E s:=by
 refine Calls.call_function_entry kind_sorted plain_sorted entry_sorted (args_sorted1 _) ?_
 unfold Builtin.«sorted»
 refine wpAny_bind (m:=checkCount "sorted" 1 1 _) (wpAny_pure ?_)
 refine wpAny_bind (collect_list hl ?_ (by rw [sizeLine_eq];omega))
 refine wpAny_bind (wpAny_newList ?_ (by rw [sizeLine_eq];omega))
 have hsz:((s.heap.push (seqObj "list" #[] 0)).update s.heap.objs.size (Obj.mapSeq (·++vs.toArray))).objs.size=s.heap.objs.size+1:=by
  rw [Heap.size_update,size_push']
 have hoL:(((s.heap.push (seqObj "list" #[] 0)).update s.heap.objs.size (Obj.mapSeq (·++vs.toArray))).push (seqObj "list" vs.toArray 0)).get? (s.heap.objs.size+1)=some (seqObj "list" vs.toArray 0):=by
  rw [<-hsz];exact Heap.get?_push_size _ rfl
 have keep:∀b o,s.heap.get? b=some o->(((s.heap.push (seqObj "list" #[] 0)).update s.heap.objs.size (Obj.mapSeq (·++vs.toArray))).push (seqObj "list" vs.toArray 0)).get? b=some o:=fun b o q=>by
  have hlt:b<s.heap.objs.size:=Heap.lt_size q
  rw [Heap.get?_push_ne _ _ _ (by rw [hsz];exact Nat.ne_of_lt (Nat.lt_succ_of_lt hlt)),Heap.get?_update_ne _ _ _ _ (Nat.ne_of_lt hlt),Heap.get?_push_ne _ _ _ (Nat.ne_of_lt hlt)]
  exact q
 show wpAny _ _ _ _ _ { s with heap:=((s.heap.push (seqObj "list" #[] 0)).update s.heap.objs.size (Obj.mapSeq (·++vs.toArray))).push (seqObj "list" vs.toArray 0) }
 rw [hsz]
 refine wpAny_bind (wpAny_holding (wpAny_call_entry slot_list_sort ⟨_,hoL,rfl⟩ entry_list_sort (list_sort_rows (key:=key) hoL h6 hu inj (fun i hi=>?_) fun out p a1 a2 a3 a4=>⟨_,rfl,?_⟩) (args_list_sort _)))
 ·obtain ⟨b,eb,dd,items,m,sl,t,hg,h0⟩:=row i hi
  exact ⟨b,eb,Nat.ne_of_lt (Nat.lt_succ_of_lt (Heap.lt_size hg)),dd,items,m,sl,t,keep b _ hg,h0⟩
 ·exact wpAny_pure ⟨_,rfl,h out p a1 a2 a3 a4⟩
end
end T
namespace T
open PySem PySem.Spec L2
open PyProof.Rows hiding St
variable {rows:List (List Int)}
section
variable {K:Fg} {H:Hp} {O:List Addr} {σ:St} {U U1:Ev} {W:XW} {f:F1} {fb:FB} {Q:VK} {QB:Bool->Hp->Prop}
theorem flat_nil:∀n:Nat,(List.replicate n ([]:List Addr)).flatten=[]
 | 0=>rfl
 | n+1=>by rw [List.replicate_succ,flatten_cons,flat_nil n];rfl
theorem envL (nd:O.Nodup) (inH:∀a∈O,H a≠none) (hl:σ.length=U.length) (hs:∀(i:Nat) p,U[i]?=some (some p)->p.s=.leaf/\∃v,σ[i]?=some (some v)/\Rep K (hid H O) v p.d):EnvOk K H O (List.replicate U.length []) H σ U:=by
 have e:=flat_nil U.length
 refine ⟨hl,List.length_replicate,Same.refl H,by rw [e,append_nil];exact nd,by rw [e,append_nil];exact inH,by rw [e];exact fun _ z=>(nomatch z),fun i p h=>?_⟩
 obtain ⟨h1,v,h2,h3⟩:=hs i p h
 have hi:i<U.length:=(List.getElem?_eq_some_iff.mp h).1
 refine ⟨by rw [h1];rfl,v,[],h2,by rw [getElem?_replicate,if_pos hi],?_⟩
 rw [h1,e,append_nil]
 exact .leaf h3
theorem vals_int {K:Fg} {H:Hp} {vs:List V} {xs:List Int} (hl:vs.length=(xs.map PySem.PyData.int).length) (hr:∀(i:Nat) v d,vs[i]?=some v->(xs.map PySem.PyData.int)[i]?=some d->Rep K H v d):vs=xs.map V.int:=by
 rw [length_map] at hl
 apply ext_getElem?
 intro i
 by_cases hi:i<vs.length
 ·have hi2:i<xs.length:=by omega
  have q:=hr i vs[i] (.int xs[i]) (getElem?_eq_getElem hi) (by rw [getElem?_map,getElem?_eq_getElem hi2];rfl)
  rw [getElem?_eq_getElem hi,getElem?_map,getElem?_eq_getElem hi2]
  generalize vs[i]=u at q
  cases q
  rfl
 ·rw [getElem?_eq_none (by omega),getElem?_eq_none (by rw [length_map];omega)]
theorem evL {xs:List Int} (E:EnvOk K H O (List.replicate U.length []) H σ U) (hf:f U=.ok ⟨.leaf,.list (xs.map .int)⟩ U1) (q:∀p H',Same H H'->SqL K H' p (xs.map V.int)->Q (.ref p) H'):tE K W f σ H Q:=by
 refine ⟨_,_,_,_,E,?_⟩
 rw [hf]
 intro v H' G Fs' A
 cases A.own with
 | leaf r=>
  cases r with
  | @lst p vs _ hq hl hr=>
   rw [vals_int hl hr] at hq
   exact q p H' A.same (hid_le.seq hq)
end
def hdI (r:List Int):Int:=r.headD 0
def rSortR (K:Fg):List V->Hp->VK->Prop:=fun xs H Q=>∃(p:Addr) (vs:List V) (rows:List (List Int)),xs=[.ref p]/\SqL K H p vs/\vs.length=rows.length/\vs.length<=6/\(∀(i:Nat) v r,vs[i]?=some v->rows[i]?=some r->∃a,v=.ref a/\SqL K H a (r.map V.int)/\r≠[])/\(rows.map hdI).Nodup /\
 ∀(l:Addr) (q:List Nat),H l=none->q.length=vs.length->(∀k,k<vs.length->k∈q)->(q.Pairwise fun a b=>hdI (rows.getD a [])<hdI (rows.getD b []))->Q (.ref l) (upd H l (.lst (q.map fun i=>vs.getD i .non)))
theorem call_sortR {X:Cx} (R:Rm X):CallR X (.builtin "sorted") (rSortR X.K):=by
 intro pins s σ H xs us Q I rv h
 obtain ⟨p,vs,rows,rfl,hS,hl,h6,hrow,nd,q⟩:=h
 obtain ⟨u,rfl,ru⟩:=rv.one
 cases ru
 obtain ⟨its,r,pl,hz⟩:=I.list hS
 have hln:its.length=vs.length:=r.length.symm
 have hu:X.A.in1.in1.units<cLine:=by
  have:X.A.units+2<cLine:=Nat.lt_of_le_of_lt (by omega) R
  simp
  omega
 have key:∀i j,i<its.length->j<its.length->i≠j->hdI (rows.getD i [])≠hdI (rows.getD j []):=fun i j hi hj hne e=>by
  have h1:i<rows.length:=by omega
  have h2:j<rows.length:=by omega
  rw [getD_eq_getElem?_getD,getD_eq_getElem?_getD,getElem?_eq_getElem h1,getElem?_eq_getElem h2] at e
  have:=(List.getElem_inj (xs:=rows.map hdI) (h₀:=by rw [length_map];exact h1) (h₁:=by rw [length_map];exact h2) nd).mp (by rw [getElem_map,getElem_map];exact e)
  exact hne this
 refine sorted_rows (key:=fun i=>hdI (rows.getD i [])) pl.isList (by omega) hu key (fun i hi=>?_) fun out qs a1 a2 a3 a4=>?_
 ·have hi2:i<vs.length:=by omega
  have hi3:i<rows.length:=by omega
  obtain ⟨a,ea,hq,hne⟩:=hrow i vs[i] rows[i] (getElem?_eq_getElem hi2) (getElem?_eq_getElem hi3)
  obtain ⟨u,eu,ru⟩:=r.get (getElem?_eq_getElem hi2)
  rw [ea] at ru
  cases ru
  refine ⟨a,by rw [getD_eq_getElem?_getD,eu];rfl,?_⟩
  obtain ⟨its2,r2,pl2,_⟩:=I.list hq
  have e0:(rows.getD i [])=rows[i]:=by rw [getD_eq_getElem?_getD,getElem?_eq_getElem hi3];rfl
  rw [e0]
  cases er:rows[i] with
  | nil=>exact absurd er hne
  | cons z zs=>
   rw [er] at r2
   obtain ⟨o,n,ho,hcl,hdict,hdat⟩:=pl2
   have eo:o={ cls:=.type "list",dict:=o.dict,data:=.seq its2.toArray n,slots:=o.slots }:=by rw [<-hcl,<-hdat]
   rw [eo] at ho
   obtain ⟨u0,eu0,ru0⟩:=r2.get (i:=0) (x:=.int z) rfl
   obtain ⟨t,rfl⟩:=ru0
   exact ⟨o.dict,its2.toArray,n,o.slots,t,ho,by rw [getElem?_toArray];exact eu0⟩
 ·obtain ⟨n,ho⟩:=sortedAll_at s.heap its out
  have hb:=small1000 (n:=vs.length) (by omega)
  have hv:Vals (qs.map fun i=>vs.getD i .non) out.toList:=by
   rw [a4]
   refine vals_pt (by simp) fun k x u e1 e2=>?_
   rw [getElem?_map] at e1 e2
   cases e3:qs[k]? with
   | none=>rw [e3] at e1;cases e1
   | some i=>
    rw [e3] at e1 e2
    cases e1
    cases e2
    show RelV (vs.getD i .non) (its.getD i Value.none)
    by_cases hi:i<vs.length
    ·obtain ⟨u,eu,ru⟩:=r.get (getElem?_eq_getElem hi)
     rw [getD_eq_getElem?_getD,getD_eq_getElem?_getD,eu,getElem?_eq_getElem hi]
     exact ru
    ·rw [getD_eq_getElem?_getD,getD_eq_getElem?_getD,getElem?_eq_none (by omega),getElem?_eq_none (by omega)]
     rfl
  exact ⟨.ref (s.heap.objs.size+1),upd H (s.heap.objs.size+1) (.lst (qs.map fun i=>vs.getD i .non)),I.laid (t':=s.toks) (fun b o e=>sortedAll_old e) (Nat.le_succ _) ⟨by rw [length_map];omega,out.toList,n,hv,by simpa [seqObj] using ho⟩,rfl,q _ qs (I.hok.fresh (Nat.le_succ _)) (by omega) (fun k hk=>a2 k (by omega)) a3⟩
def rowOf:PySem.PyData->Option (List Int)
 | .list xs=>intsOf xs
 | _=>none
def rowsOf:List PySem.PyData->Option (List (List Int))
 | []=>some []
 | d::ds=>match rowOf d,rowsOf ds with
  | some r,some rs=>some (r::rs)
  | _,_=>none
def sortR (rows:List (List Int)):List (List Int):=(PySem.W.sortI (rows.map hdI)).map fun h=>(rows.find? fun r=>hdI r==h).getD []
def rowD (r:List Int):PySem.PyData:=.list (r.map .int)
def okRows (rows:List (List Int)):Bool:=decide (rows.length<=6)&&rows.all (fun r=>!r.isEmpty)&&decide (rows.map hdI).Nodup
def eSortR (fa:F1):F1:=eBind fa fun p=>fun U=>match p.d with
 | .list ds=>(match rowsOf ds with
  | some rows=>if okItems p ds&&okRows rows then .ok ⟨.lst .leaf,.list ((sortR rows).map rowD)⟩ U else .no
  | none=>.no)
 | _=>.no
theorem rowsOf_eq:∀{ds:List PySem.PyData} {rows:List (List Int)},rowsOf ds=some rows->ds=rows.map rowD
 | [],rows,h=>by cases h;rfl
 | d::ds,rows,h=>by
  unfold rowsOf at h
  split at h
  ·rename_i r rs e1 e2
   cases h
   rw [map_cons,<-rowsOf_eq e2]
   congr 1
   unfold rowOf at e1
   split at e1
   ·rename_i xs
    rw [intsOf_eq e1]
    rfl
   ·cases e1
  ·cases h
theorem find_head (nd:(rows.map hdI).Nodup) {i:Nat} (hi:i<rows.length):(rows.find? fun r=>hdI r==hdI rows[i])=some rows[i]:=by
 induction rows generalizing i with
 | nil=>simp at hi
 | cons a rows ih=>
  rw [map_cons,List.nodup_cons] at nd
  cases i with
  | zero=>simp
  | succ i=>
   have hi':i<rows.length:=by simpa using hi
   rw [List.getElem_cons_succ,find?_cons]
   have ne:(hdI a==hdI rows[i])=false:=by
    apply beq_eq_false_iff_ne.mpr
    intro e
    exact nd.1 (by rw [e];exact List.mem_map.mpr ⟨_,getElem_mem hi',rfl⟩)
   rw [ne]
   exact ih nd.2 hi'
theorem sortR_of (nd:(rows.map hdI).Nodup) {q:List Nat} (hl:q.length=rows.length) (hm:∀k,k<rows.length->k∈q) (hp:q.Pairwise fun a b=>hdI (rows.getD a [])<hdI (rows.getD b [])):sortR rows=q.map fun i=>rows.getD i []:=by
 have ndq:q.Nodup:=hp.imp fun {a b} h z=>by subst z;omega
 have perm:q.Perm (List.range rows.length):=by
  have h1:(List.range rows.length).Nodup:=nodup_range
  have sub:∀x∈List.range rows.length,x∈q:=fun x hx=>hm x (List.mem_range.mp hx)
  have key:∀{L M:List Nat},L.Nodup->(∀x∈L,x∈M)->M.length<=L.length->M.Perm L:=by
   intro L
   induction L with
   | nil=>intro M _ _ h;cases M with
    | nil=>exact .nil
    | cons a b=>simp at h
   | cons x L ih=>
    intro M nd hs hl
    have hx:=hs x mem_cons_self
    have p1:=List.perm_cons_erase hx
    refine p1.trans (.cons x (ih (List.nodup_cons.mp nd).2 (fun y hy=>?_) ?_))
    ·exact (mem_erase_of_ne (fun z:y=x=>(List.nodup_cons.mp nd).1 (by rw [<-z];exact hy))).mpr (hs y (mem_cons_of_mem _ hy))
    ·rw [length_erase_of_mem hx];simp at hl;omega
  exact key h1 sub (by simp [hl])
 have e1:(List.range rows.length).map (fun i=>hdI (rows.getD i []))=rows.map hdI:=by
  apply ext_getElem
  ·simp
  ·intro i a b
   simp only [getElem_map,getElem_range]
   rw [getD_eq_getElem?_getD,getElem?_eq_getElem (by simpa using b)]
   rfl
 have p2:(q.map fun i=>hdI (rows.getD i [])).Perm (rows.map hdI):=by rw [<-e1];exact perm.map _
 have e2:(q.map fun i=>hdI (rows.getD i []))=PySem.W.sortI (rows.map hdI):=PySem.W.eq_sortI p2 (by
  rw [pairwise_map]
  exact hp.imp fun h=>by omega)
 unfold sortR
 rw [<-e2,map_map]
 refine map_congr_left fun i hi=>?_
 have hi:i<rows.length:=List.mem_range.mp (perm.mem_iff.mp hi)
 show (rows.find? fun r=>hdI r==hdI (rows.getD i [])).getD []=_
 have e3:rows.getD i []=rows[i]:=by rw [getD_eq_getElem?_getD,getElem?_eq_getElem hi];rfl
 rw [e3,find_head nd hi]
 rfl
section
variable {K:Fg} {W:XW} {σ:St} {H:Hp} {Q:VK} {fa:F1}
theorem rd_sortR (h:tE K W (eSortR fa) σ H Q):tCB (rSortR K) (tA K W (eCons fa eNil)) σ H Q:=by
 have h1:tE K W fa σ H fun x H1=>rSortR K [x] H1 Q:=by
  refine tE_one h fun He O Fs U1 p v H1 G Fs1 nd A w=>?_
  obtain ⟨s,d⟩:=p
  cases d with
  | list ds=>
   have w:Wants K W He O Fs H σ Q (match rowsOf ds with | some rows=>if okItems ⟨s,.list ds⟩ ds&&okRows rows then .ok ⟨.lst .leaf,.list ((sortR rows).map rowD)⟩ U1 else .no | none=>.no):=w
   cases er:rowsOf ds with
   | none=>rw [er] at w;exact w.elim
   | some rows=>
    rw [er] at w
    have w2:Wants K W He O Fs H σ Q (if okItems ⟨s,.list ds⟩ ds&&okRows rows then .ok ⟨.lst .leaf,.list ((sortR rows).map rowD)⟩ U1 else .no):=w
    clear w
    cases hc:(okItems ⟨s,.list ds⟩ ds&&okRows rows) with
    | false=>rw [hc] at w2;exact w2.elim
    | true=>
     rw [hc] at w2
     rw [Bool.and_eq_true] at hc
     have ho:=hc.2
     unfold okRows at ho
     rw [Bool.and_eq_true,Bool.and_eq_true,decide_eq_true_eq,decide_eq_true_eq,all_eq_true] at ho
     obtain ⟨⟨h6,hne⟩,ndh⟩:=ho
     have ed:=rowsOf_eq er
     subst ed
     obtain ⟨p,vs,rfl,hq,_,hr⟩:=A.own.items (O':=O++Fs1.flatten) hc.1 sub3 A.disj
     have hl:vs.length=rows.length:=by rw [hr.1,length_map]
     refine ⟨p,vs,rows,rfl,hq,hl,by omega,fun i v r e1 e2=>?_,ndh,fun l q hl0 ql qm qp=>?_⟩
     ·have rp:=hr.2 i v (rowD r) e1 (by rw [getElem?_map,e2];rfl)
      unfold rowD at rp
      cases rp with
      | @lst a us _ hqa hla hra=>
       have:=hne r (mem_of_getElem? e2)
       exact ⟨a,rfl,by rw [<-vals_int hla hra];exact hid_le.seq hqa,fun z=>by rw [z] at this;cases this⟩
     ·refine w2 _ _ _ _ (leafList A.go A.same A.newF ⟨?_,fun k v d e1 e2=>?_⟩ hl0)
      ·rw [sortR_of ndh (by omega) (fun k hk=>qm k (by omega)) qp]
       simp
      ·rw [sortR_of ndh (by omega) (fun k hk=>qm k (by omega)) qp,map_map] at e2
       rw [getElem?_map] at e1 e2
       cases e3:q[k]? with
       | none=>rw [e3] at e1;cases e1
       | some i=>
        rw [e3] at e1 e2
        cases e1
        cases e2
        have hi:i<vs.length:=by
         have nq:q.Nodup:=qp.imp fun {a b} h z=>by subst z;omega
         refine Classical.byContradiction fun hn=>?_
         have hmem:=mem_of_getElem? e3
         have sub:∀x∈i::List.range vs.length,x∈q:=fun x hx=>by
          rcases List.mem_cons.mp hx with z | z
          ·rw [z];exact hmem
          ·exact qm x (List.mem_range.mp z)
         have ndr:(i::List.range vs.length).Nodup:=List.nodup_cons.mpr ⟨fun z=>hn (List.mem_range.mp z),nodup_range⟩
         have key:∀{L M:List Nat},L.Nodup->(∀x∈L,x∈M)->L.length<=M.length:=by
          intro L
          induction L with
          | nil=>intro M _ _;exact Nat.zero_le _
          | cons x L ih=>
           intro M nd hs
           have hx:=hs x mem_cons_self
           have:=ih (M:=M.erase x) (List.nodup_cons.mp nd).2 fun y hy=>(mem_erase_of_ne (fun z:y=x=>(List.nodup_cons.mp nd).1 (by rw [<-z];exact hy))).mpr (hs y (mem_cons_of_mem _ hy))
           rw [length_erase_of_mem hx] at this
           have:0<M.length:=List.length_pos_of_mem hx
           simp
           omega
         have:=key ndr sub
         simp at this
         omega
        have hi2:i<rows.length:=by omega
        show Rep K _ (vs.getD i .non) (rowD (rows.getD i []))
        rw [getD_eq_getElem?_getD,getElem?_eq_getElem hi,getD_eq_getElem?_getD,getElem?_eq_getElem hi2]
        exact hr.2 i vs[i] _ (getElem?_eq_getElem hi) (by rw [getElem?_map,getElem?_eq_getElem hi2];rfl)
  | _=>exact w.elim
 obtain ⟨He,O,Fs,U,E,h1⟩:=h1
 refine ⟨He,O,Fs,U,E,?_⟩
 unfold eCons eNil
 cases e:fa U with
 | ok p U'=>
  rw [e] at h1
  intro vs H' Gs Fs' A
  match vs,Gs,A.len1,A.len2 with
  | [v],[G],_,_=>
   have A':Aft K He O Fs H σ U' p v H' G Fs':=⟨A.same,by simpa using A.env,by simpa using A.new,by simpa using A.own 0 v p G rfl rfl rfl⟩
   exact h1 v H' G Fs' A'
 | er c U'=>rw [e] at h1;exact h1
 | no=>rw [e] at h1;exact h1
end
end T
namespace TQ
open PySem PySem.Spec L2 T
open PyProof.Rows hiding St
theorem w_cb_sortR {X:Cx} {N gl:List Str} {vs cs ls lo gs:List Nat} {W:XW} {e:Expr} {fa:F1} {p pos:Pos} (S:Cp X N gl vs cs ls lo gs) (R:Rm X) (j:Nat) (hj:gl[j]?=some ("sorted":Str)) (hg:gs.contains j=true) (hm:X.mg "sorted"=none) (ha:Q (PE X e (tE X.K W fa))) (hs:starEach [e] X.env=[(false,eval e X.env)]) (he:starEach [e] X.env=(false,eval e X.env)::starEach [] X.env) (hpl:(backTo pos (starEach ([]:List Expr) X.env)).any (·.1)=false):Q (PE X (.Call (.Name "sorted" p) [e] [] pos) (tE X.K W (eSortR fa))):=⟨have ha:=ha.p;PEimp (pe_callB (call_sortR R) (S.g hj hg).1 hm b_sorted (da_cons ha da_nil he) (S.g hj hg).2.2 (S.g hj hg).2.1 he hpl) fun _ _ _=>rd_sortR⟩
end TQ
namespace T
open PySem PySem.Spec L2
open PyProof.Rows hiding St
variable {O':List Addr} {K:Fg}
theorem hid_sub {H:Hp} {O:List Addr} (s:∀a∈O,a∈O'):Same (hid H O') (hid H O):=fun b o hb=>by
 unfold hid at hb ⊢
 split at hb
 ·cases hb
 ·rename_i nb
  rw [if_neg fun z=>nb (s b z)]
  exact hb
theorem own_rep {O:List Addr} {H:Hp} {s:Sh} {F:List Addr} {v:V} {d:D} (o:Own K O' H s F v d):s.isView=false->(∀a∈F,a∉O)->(∀a∈O,a∈O')->Rep K (hid H O) v d:=by
 induction o with
 | view _=>intro h;cases h
 | leaf r=>intro _ _ h;exact r.mono (hid_sub h)
 | @lst s p vs ds Fs hv hp hl _ _ hi ih=>
  intro _ hf hO
  refine .lst (.inl (.inl (hid_get hp (hf p mem_cons_self)))) hl fun i v d h1 h2=>?_
  have hF:i<Fs.length:=by have:=(List.getElem?_eq_some_iff.mp h2).1;omega
  exact ih i v d Fs[i] h1 h2 (getElem?_eq_getElem hF) hv (fun a ha=>hf a (mem_cons_of_mem _ (List.mem_flatten.mpr ⟨_,getElem_mem hF,ha⟩))) hO
 | @tup ss p vs ds Fs hv hp np hl hl2 hl3 _ hi ih=>
  intro _ hf hO
  refine .tup (.inl (.inl (hid_get hp fun z=>np (hO p z)))) hl fun i v d h1 h2=>?_
  have hd:=(List.getElem?_eq_some_iff.mp h2).1
  have hF:i<Fs.length:=by omega
  have hS:i<ss.length:=by omega
  exact ih i v d Fs[i] ss[i] h1 h2 (getElem?_eq_getElem hF) (getElem?_eq_getElem hS) (hv _ (getElem_mem hS)) (fun a ha=>hf a (List.mem_flatten.mpr ⟨_,getElem_mem hF,ha⟩)) hO
theorem evR {H:Hp} {O:List Addr} {σ:St} {U U1:Ev} {W:XW} {f:F1} {Q:VK} {p:PV} (inH:∀a∈O,H a≠none) (E:EnvOk K H O (List.replicate U.length []) H σ U) (hf:f U=.ok p U1) (hv:p.s.isView=false) (q:∀v H',Same H H'->Rep K (hid H' O) v p.d->Q v H'):tE K W f σ H Q:=by
 refine ⟨_,_,_,_,E,?_⟩
 rw [hf]
 intro v H' G Fs' A
 refine q v H' A.same (own_rep A.own hv (fun a ha z=>?_) fun a ha=>mem_append_left _ (mem_append_right _ ha))
 rcases A.new a (mem_append_left _ ha) with y | y
 ·rw [flat_nil] at y;cases y
 ·exact inH a z y
noncomputable abbrev N_po:List Str:=["rooms", "places", "room"]
noncomputable abbrev G_po:List Str:=["sorted"]
noncomputable def spPo (K:Fg):Sp:=fun vs H Q _=>∃(p d:Addr) (xs:List Int) (kvs:List (Key×V)) (h:Int->Option Int),vs=[.ref p,.ref d]/\SqL K H p (xs.map V.int)/\H d=some (.dK kvs)/\(∀k:Int,valV kvs (.inl k)=(h k).map V.int)/\xs.length<64 /\
 ∀l H',Same H H'->H l=none->H' l=some (.lst ((PySem.W.sortI (xs.filterMap h)).map V.int))->Q (.ref l) H'
noncomputable def tPo (K:Fg):TS:=tRet (tCB (rSortI K) (tCons (tComp [2] (iList K (tVar 0)) (gName 2) (tB (tDIn (tVar 2) (tVar 1))) (tDGet (tVar 1) (tVar 2))) tNil))
theorem fm_take {h:Int->Option Int} {xs:List Int} {i:Nat} (hi:i<xs.length):(xs.take (i+1)).filterMap h=(xs.take i).filterMap h++(h xs[i]).toList:=by
 rw [take_succ,getElem?_eq_getElem hi,List.filterMap_append]
 cases e:h xs[i]<;>simp [e]
theorem rd_po {vs:List V} {H:Hp} {Q:VK} {E:XK} {Qn:St->Hp->Prop} (h:spPo K vs H Q E):tPo K { nx:=Qn,rt:=Q } (L2.start N_po vs) H:=by
 obtain ⟨p,d,xs,kvs,f,rfl,hq,hd,hf,h64,q⟩:=h
 refine ⟨.ref p,rfl,p,rfl,⟨_,hq⟩,fun L hL=>?_⟩
 have hbl:blank [2] (L2.start N_po [V.ref p,.ref d])=[some (.ref p),some (.ref d),none]:=by
  show blank [2] [some (V.ref p),some (.ref d),none]=_
  simp [blank]
 refine ⟨fun i m ys H2=>m=xs.length-i/\i<=xs.length/\ys=((xs.take i).filterMap f).map V.int/\H2 L=some (.lst ys)/\Same H H2,⟨xs.length,by simp,Nat.zero_le _,by simp,upd_same,same_upd hL⟩,?_⟩
 rintro i m ys H2 ⟨rfl,hi,rfl,hLs,sH⟩
 refine ⟨hLs,?_⟩
 have hq2:SqL K H2 p (xs.map V.int):=sH.seq hq
 by_cases hlt:i<xs.length
 case neg=>
  left
  have hie:i=xs.length:=by omega
  subst hie
  refine ⟨⟨_,hq2,by rw [length_map];exact Nat.le_refl _⟩,?_⟩
  rw [take_of_length_le (Nat.le_refl _)] at hLs
  refine ⟨L,xs.filterMap f,rfl,.inl (.inl hLs),Nat.lt_of_le_of_lt (List.length_filterMap_le f xs) h64,fun l hl=>q l _ (sH.trans (same_upd hl)) (sH.free hl) upd_same⟩
 case pos=>
  right
  have e1:(xs.map V.int)[i]?=some (.int xs[i]):=by rw [getElem?_map,getElem?_eq_getElem hlt];rfl
  have hb:(1000:Nat)<=sizeLine:=by decide
  refine ⟨⟨_,_,hq2,e1⟩,by rw [length_map];have:=List.length_filterMap_le f (xs.take i);rw [length_take] at this;omega,?_⟩
  rintro v H3 ⟨rfl,hv⟩
  have ev:v=.int xs[i]:=Option.some.inj ((hv _ hq2).symm.trans e1)
  subst ev
  rw [hbl]
  show LeS [some (.ref p),some (.ref d),none] [some (.ref p),some (.ref d),some (.int xs[i])]/\_
  refine ⟨⟨rfl,fun j u h=>?_⟩,?_⟩
  ·match j,h with
   | 0,h=>exact h
   | 1,h=>exact h
   | 2,h=>cases h
   | j+3,h=>cases h
  have g:=DGet.k (k:=Sum.inl xs[i]) (sH _ _ hd)
  rw [hf] at g
  refine ⟨.int xs[i],rfl,.ref d,rfl,d,_,rfl,g,_,rfl,?_⟩
  have ft:=fm_take (h:=f) hlt
  cases e:f xs[i] with
  | none=>
   rw [e] at ft
   refine iteF ⟨xs.length-(i+1),by omega,rfl,hlt,by rw [ft];simp,hLs,sH⟩
  | some z=>
   rw [e] at ft g
   refine iteT ⟨.ref d,rfl,.int xs[i],rfl,d,.int z,rfl,g,hLs,xs.length-(i+1),by omega,rfl,hlt,by rw [ft];simp,upd_same,fun c o hc=>?_⟩
   rw [upd_ne (fun w=>by subst w;rw [hL] at hc;cases hc)]
   exact sH c o hc
end T
namespace KC
open PySem PySem.Spec L2 T PySem.SeqAt
open PyProof.Rows hiding St
variable {R vs cs ls lo gs:List Nat} {K:Fg} {mg:Str->Option Value} {base:Heap} {fd:FuncData}
noncomputable def kvP (i:Nat):List Nat->List (Key×V)
 | []=>[]
 | r::R=>(.inl (r:Int),.int (i:Int))::kvP (i+1) R
noncomputable def ixR (R:List Nat) (x:Int):Option Int:=(R.findIdx? fun r:Nat=>decide ((r:Int)=x)).map fun k:Nat=>(k:Int)
theorem kvP_val {x:Int}:∀(R:List Nat) (i:Nat),valV (kvP i R) (.inl x)=(R.findIdx? fun r:Nat=>decide ((r:Int)=x)).map fun k=>V.int ((k+i:Nat):Int)
 | [],i=>rfl
 | r::R,i=>by
  rw [List.findIdx?_cons]
  by_cases e:(r:Int)=x
  ·rw [decide_eq_true e]
   unfold kvP
   rw [valV_pos (by rw [e])]
   simp
  ·rw [decide_eq_false e]
   unfold kvP
   rw [valV_neg (fun z=>e (Sum.inl.inj z)),kvP_val R (i+1)]
   simp only [Bool.false_eq_true,if_false,Option.map_map]
   congr 1
   funext k
   simp
   omega
theorem kvP_ix (x:Int):valV (kvP 0 R) (.inl x)=(ixR R x).map V.int:=by
 rw [kvP_val,ixR,Option.map_map]
 rfl
theorem kvP_snoc:∀(l:List Nat) (i a:Nat),kvP i (l++[a])=kvP i l++[(.inl (a:Int),.int ((i+l.length:Nat):Int))]
 | [],i,a=>rfl
 | b::l,i,a=>by
  show (Sum.inl (b:Int),V.int (i:Int))::kvP (i+1) (l++[a])=_
  rw [kvP_snoc l (i+1) a]
  show _=(Sum.inl (b:Int),V.int (i:Int))::(kvP (i+1) l++_)
  rw [length_cons,show i+1+l.length=i+(l.length+1) by omega]
theorem kvP_len:∀(l:List Nat) (i:Nat),(kvP i l).length=l.length
 | [],_=>rfl
 | a::l,i=>by show (kvP (i+1) l).length+1=_;rw [kvP_len l (i+1)];rfl
noncomputable def plS (R ts:List Nat):List Nat:=(List.range R.length).filter fun k=>ts.contains (R.getD k 0)
noncomputable def plW (w:Wd) (R:List Nat):Wd:=⟨R.length,R.map fun r=>.int (owI w r),R.map w.mks,R.map fun r=>plS R (w.stp r)⟩
theorem ixR_some (nd:R.Nodup) {t:Nat} {k:Int}:ixR R (t:Int)=some k↔∃j:Nat,k=(j:Int)/\R[j]?=some t:=by
 unfold ixR
 constructor
 ·intro h
  obtain ⟨j,h1,rfl⟩:=Option.map_eq_some_iff.mp h
  obtain ⟨hj,h2,_⟩:=List.findIdx?_eq_some_iff_getElem.mp h1
  refine ⟨j,rfl,?_⟩
  rw [getElem?_eq_getElem hj]
  have:((R[j]:Nat):Int)=(t:Int):=by simpa using h2
  rw [Int.ofNat_inj.mp this]
 ·rintro ⟨j,rfl,h⟩
  obtain ⟨hj,e⟩:=List.getElem?_eq_some_iff.mp h
  refine Option.map_eq_some_iff.mpr ⟨j,List.findIdx?_eq_some_iff_getElem.mpr ⟨hj,by rw [e];simp,fun i hi=>?_⟩,rfl⟩
  have:=(List.nodup_iff_pairwise_ne.mp nd)
  have hne:=List.pairwise_iff_getElem.mp this i j (by omega) hj hi
  rw [e] at hne
  simp
  intro z
  exact hne (Int.ofNat_inj.mp z)
theorem plS_sort {ts:List Nat} (nd:R.Nodup) (rs:ts.Nodup):PySem.W.sortI ((ts.map fun t:Nat=>(t:Int)).filterMap (ixR R))=(plS R ts).map fun k:Nat=>(k:Int):=by
 symm
 refine PySem.W.eq_sortI ?_ ?_
 ·have n1:((plS R ts).map fun k:Nat=>(k:Int)).Nodup:=by
   refine List.pairwise_map.mpr (List.Pairwise.imp (R:=fun a b:Nat=>a≠b) (fun h z=>h (Int.ofNat_inj.mp z)) ?_)
   exact (nodup_range).sublist List.filter_sublist
  have n2:((ts.map fun t:Nat=>(t:Int)).filterMap (ixR R)).Nodup:=by
   rw [List.filterMap_map]
   refine List.Pairwise.filterMap _ (fun a b hab x hx y hy=>?_) rs
   intro z
   subst z
   obtain ⟨j,e1,e2⟩:=(ixR_some nd).mp hx
   obtain ⟨j',e3,e4⟩:=(ixR_some nd).mp hy
   rw [e1] at e3
   rw [<-Int.ofNat_inj.mp e3,e2] at e4
   exact hab (Option.some.inj e4)
  refine (perm_ext_iff_of_nodup n1 n2).mpr fun x=>?_
  rw [List.filterMap_map,List.mem_filterMap,mem_map]
  constructor
  ·rintro ⟨k,hk,rfl⟩
   obtain ⟨h1,h2⟩:=List.mem_filter.mp hk
   have h1:=List.mem_range.mp h1
   have e:R.getD k 0=R[k]:=by rw [getD_eq_getElem?_getD,getElem?_eq_getElem h1];rfl
   rw [e] at h2
   exact ⟨R[k],List.contains_iff_mem.mp h2,(ixR_some nd).mpr ⟨k,rfl,getElem?_eq_getElem h1⟩⟩
  ·rintro ⟨t,ht,h⟩
   obtain ⟨j,rfl,h2⟩:=(ixR_some nd).mp h
   obtain ⟨hj,e⟩:=List.getElem?_eq_some_iff.mp h2
   refine ⟨j,List.mem_filter.mpr ⟨List.mem_range.mpr hj,List.contains_iff_mem.mpr ?_⟩,rfl⟩
   rw [getD_eq_getElem?_getD,h2]
   exact ht
 ·rw [pairwise_map]
  exact ((pairwise_lt_range).sublist List.filter_sublist).imp fun h=>by omega
theorem ndL:∀{l m:List Nat},l.Nodup->(∀x∈l,x∈m)->l.length<=m.length
 | [],_,_,_=>Nat.zero_le _
 | a::l,m,h,hm=>by
  have ha:=hm a mem_cons_self
  obtain ⟨h1,h2⟩:=List.nodup_cons.mp h
  have:=ndL (m:=m.erase a) h2 fun x hx=>(mem_erase_of_ne (fun z:x=a=>h1 (z▸hx))).mpr (hm x (mem_cons_of_mem _ hx))
  rw [length_erase_of_mem ha] at this
  have:=List.length_pos_of_mem ha
  rw [length_cons]
  omega
theorem ndl {l:List Nat} {n:Nat} (h:l.Nodup) (hx:∀x∈l,x<n):l.length<=n:=by
 have:=ndL (m:=List.range n) h fun x hx'=>List.mem_range.mpr (hx x hx')
 rwa [length_range] at this
noncomputable abbrev N_pl:List Str:=["world", "rooms", "places", "place", "room", "owners", "marks", "steps"]
noncomputable abbrev G_pl:List Str:=["enumerate", "list", "places_of"]
noncomputable abbrev p_own:F1:=eComp .leaf 4 (iSeq (eVar 1)) bTrue (eIdx (eIdx (eVar 0) (eK (.int 0))) (eVar 4))
noncomputable abbrev p_mrk:F1:=eComp .leaf 4 (iSeq (eVar 1)) bTrue (eListOf (eIdx (eIdx (eVar 0) (eK (.int 1))) (eVar 4)))
noncomputable abbrev p_stp:F1:=eIdx (eIdx (eVar 0) (eK (.int 2))) (eVar 4)
noncomputable def tPl (K:Fg):L2.TS:=
 tSeq (tAsg tDNewK (gName 2)) (tSeq (tFor (iEnum K (tCons (tVar 1) tNil)) (gTup K 2 (gCons (gName 3) (gCons (gName 4) gNil))) (sDPut (tVar 2) (tVar 4) (tVar 3)))
 (tSeq (tAsg (tE K W0 p_own) (gName 5)) (tSeq (tAsg (tE K W0 p_mrk) (gName 6))
 (tSeq (fun D σ H=>tComp [4] (iList K (tVar 1)) (gName 4) tTrue (tCall (spPo K) [] L2.E0 (tCons (tE K W0 p_stp) (tCons (tVar 2) tNil))) σ H fun v H'=>D.nx (σ.set 7 (some v)) H')
 (tRet (tTup (tCons (tVar 5) (tCons (tVar 6) (tCons (tVar 7) tNil)))))))))
structure PlOk (w:Wd) (R:List Nat):Prop where
 ok:w.Ok
 nd:R.Nodup
 lt:∀r∈R,r<w.n
 len:R.length<=60
 rs:∀r,r<w.n->(w.stp r).Nodup
noncomputable abbrev GP (w:Wd) (R:List Nat) (x4:Option PV):Ev:=[some ⟨.leaf,w.enc⟩,some ⟨.leaf,rms R⟩,none,none,x4,none,none,none]
theorem ev_own {w:Wd} (h:PlOk w R):p_own (GP w R none)=.ok ⟨.lst .leaf,.list (R.map fun r=>.int (owI w r))⟩ (GP w R none):=
 eComp_tyA rm R (fun r=>⟨.leaf,.int (owI w r)⟩) (st:=true) (w_seq (s:=.leaf) (v_leaf rfl) rfl) (by simp) rfl (by have:=h.len;omega) fun r hr=>⟨own_ev h.ok rfl (v_leaf rfl) (h.lt r hr),rfl⟩
theorem ev_mrk {w:Wd} (h:PlOk w R):p_mrk (GP w R none)=.ok ⟨.lst .leaf,.list ((R.map w.mks).map txs)⟩ (GP w R none):=by
 have e:=eComp_tyA (U:=GP w R none) (s:=.leaf) (i:=4) (fi:=iSeq (eVar 1)) (fe:=eListOf (eIdx (eIdx (eVar 0) (eK (.int 1))) (eVar 4))) rm R (fun r=>⟨.lst .leaf,txs (w.mks r)⟩) (st:=true) (w_seq (s:=.leaf) (v_leaf rfl) rfl) (by simp) rfl (by have:=h.len;omega) fun r hr=>⟨v_listOf (mks_ev h.ok rfl (v_leaf rfl) (h.lt r hr)) rfl,rfl⟩
 rw [map_map]
 exact e
theorem rd_placed {H:Hp} {O:List Addr} {vs:List V} {w:Wd} {Q:VK} {Qn:St->Hp->Prop} (h:PlOk w R) (nd:O.Nodup) (inH:∀a∈O,H a≠none) (rs:Reps K (hid H O) vs [w.enc,rms R])
  (q:∀v H' G,RetOk K H O ⟨.leaf,(plW w R).enc⟩ v H' G->Q v H'):tPl K { nx:=Qn,rt:=Q } (L2.start N_pl vs) H:=by
 have hvl:vs.length=2:=rs.1
 match vs,hvl,rs with
 | [v0,v1],_,rs=>
 have r0:=rs.2 0 v0 _ rfl rfl
 have r1:=rs.2 1 v1 _ rfl rfl
 have inS:∀{H'},Same H H'->∀a∈O,H' a≠none:=fun {H'} s a ha=>by
  cases e:H a with
  | none=>exact absurd e (inH a ha)
  | some o=>rw [s a o e];exact Option.some_ne_none _
 have mono:∀{H'},Same H H'->Same (hid H O) (hid H' O):=fun s=>hid_mono s fun a ha=>.inl ha
 have EE:∀(H':Hp) (σ:St),Same H H'->σ.length=8->σ[0]?=some (some v0)->σ[1]?=some (some v1)->∀x4:Option Nat,(∀r,x4=some r->σ[4]?=some (some (.int (r:Int))))->EnvOk K H' O (List.replicate (GP w R (x4.map fun r=>(⟨.leaf,rm r⟩:PV))).length []) H' σ (GP w R (x4.map fun r=>(⟨.leaf,rm r⟩:PV))):=fun H' σ s l s0 s1 x4 s4=>by
  refine envL nd (inS s) l fun i x hx=>?_
  match i,hx with
  | 0,hx=>cases hx;exact ⟨rfl,_,s0,r0.mono (mono s)⟩
  | 1,hx=>cases hx;exact ⟨rfl,_,s1,r1.mono (mono s)⟩
  | 4,hx=>
   cases x4 with
   | none=>cases hx
   | some r=>cases hx;exact ⟨rfl,_,s4 r rfl,.int r⟩
  | 2,hx=>cases hx
  | 3,hx=>cases hx
  | 5,hx=>cases hx
  | 6,hx=>cases hx
  | 7,hx=>cases hx
  | i+8,hx=>cases hx
 cases r1 with
 | @lst pr ws _ hqr hl hr=>
 have ews:ws=R.map fun r:Nat=>V.int (r:Int):=by
  have:=vals_int (xs:=R.map fun r:Nat=>(r:Int)) (by rw [map_map];exact hl) (by rw [map_map];exact hr)
  rw [this,map_map]
  rfl
 subst ews
 have sqR:∀{H'},Same H H'->SqL K H' pr (R.map fun r:Nat=>V.int (r:Int)):=fun s=>s.seq (hid_le.seq hqr)
 have hlen:=h.len
 have hbz:(1000:Nat)<=sizeLine:=by decide
 intro d hd
 have sd:Same H (upd H d (.dK [])):=same_upd hd
 refine ⟨_,rfl,pr,rfl,⟨_,sqR sd⟩,fun k m σ' H'=>m=R.length-k/\k<=R.length/\(∃x3 x4,σ'=[some v0,some (.ref pr),some (.ref d),x3,x4,none,none,none])/\H' d=some (.dK (kvP 0 (R.take k)))/\Same H H',⟨R.length,by simp,Nat.zero_le _,⟨none,none,rfl⟩,upd_same,sd⟩,?_⟩
 rintro k m σ' H' ⟨rfl,hk,⟨x3,x4,rfl⟩,hD,sH⟩
 by_cases hlt:k<R.length
 case pos=>
  right
  have e1:(R.map fun r:Nat=>V.int (r:Int))[k]?=some (.int (R[k]:Int)):=by rw [getElem?_map,getElem?_eq_getElem hlt];rfl
  refine ⟨⟨_,_,sqR sH,e1⟩,fun σ2 H2=>(∃x3 x4,σ2=[some v0,some (.ref pr),some (.ref d),x3,x4,none,none,none])/\H2 d=some (.dK (kvP 0 (R.take (k+1))))/\Same H H2,fun σ2 H2 q2=>⟨R.length-(k+1),by omega,rfl,hlt,q2⟩,?_⟩
  rintro x H2 ⟨T,v,rfl,hT,rfl,hv⟩
  have ev:v=.int (R[k]:Int):=Option.some.inj ((hv _ (sqR sH)).symm.trans e1)
  subst ev
  have hdT:d≠T:=fun z=>by rw [<-z,hD] at hT;cases hT
  have sT:Same H (upd H' T (.tup [.int (k:Int),.int (R[k]:Int)])):=sH.trans (same_upd hT)
  refine ⟨T,_,rfl,.inl (.inl upd_same),rfl,_,_,rfl,_,_,rfl,rfl,?_⟩
  have hD2:upd H' T (.tup [.int (k:Int),.int (R[k]:Int)]) d=some (.dK (kvP 0 (R.take k))):=by rw [upd_ne hdT];exact hD
  have hnone:valV (kvP 0 (R.take k)) (.inl (R[k]:Int))=none:=by
   rw [kvP_val,Option.map_eq_none_iff,List.findIdx?_eq_none_iff]
   intro x hx
   have hx':x≠R[k]:=fun z=>by
    obtain ⟨i,hi,e⟩:=getElem_of_mem hx
    rw [length_take] at hi
    rw [getElem_take] at e
    have:=List.pairwise_iff_getElem.mp (List.nodup_iff_pairwise_ne.mp h.nd) i k (by omega) hlt (by omega)
    exact this (e.trans z)
   simp
   omega
  refine ⟨_,rfl,_,rfl,_,rfl,d,_,rfl,DPut.k (k:=Sum.inl (R[k]:Int)) hD2 (by rw [kvP_len,length_take];omega),⟨_,_,rfl⟩,?_,fun c o hc=>?_⟩
  ·rw [upd_same,putK_new _ hnone,take_succ,getElem?_eq_getElem hlt]
   show _=some (HO.dK (kvP 0 (R.take k++[R[k]])))
   rw [kvP_snoc,length_take,Nat.min_eq_left (by omega),Nat.zero_add]
  ·rw [upd_ne (fun z=>by subst z;rw [hd] at hc;cases hc)]
   exact sT c o hc
 case neg=>
  left
  refine ⟨⟨_,sqR sH,by rw [length_map];omega⟩,?_⟩
  rw [take_of_length_le (by omega)] at hD
  clear hk hlt
  refine evR (inS sH) (EE H' _ sH rfl rfl rfl none (fun _ z=>nomatch z)) (ev_own h) rfl fun v5 H5 s5 p5=>?_
  refine evR (inS (sH.trans s5)) (EE H5 _ (sH.trans s5) rfl rfl rfl none (fun _ z=>nomatch z)) (ev_mrk h) rfl fun v6 H6 s6 p6=>?_
  have s06:Same H H6:=(sH.trans s5).trans s6
  have hD6:H6 d=some (.dK (kvP 0 R)):=s6 _ _ (s5 _ _ hD)
  refine ⟨_,rfl,pr,rfl,⟨_,sqR s06⟩,fun L hL=>?_⟩
  have hbl:blank [4] [some v0,some (V.ref pr),some (.ref d),x3,x4,some v5,some v6,none]=[some v0,some (.ref pr),some (.ref d),x3,none,some v5,some v6,none]:=by simp [blank]
  refine ⟨fun i m ys H2=>m=R.length-i/\i<=R.length/\(∃ls:List Addr,ys=ls.map V.ref/\ls.length=i/\∀(j:Nat) l,ls[j]?=some l->l≠L/\H6 l=none/\H2 l=some (.lst ((plS R (w.stp (R.getD j 0))).map fun k:Nat=>V.int (k:Int))))/\H2 L=some (.lst ys)/\Same H6 H2,⟨R.length,by simp,Nat.zero_le _,⟨[],rfl,rfl,fun j l z=>by simp at z⟩,upd_same,same_upd hL⟩,?_⟩
  rintro i m ys H2 ⟨rfl,hi,⟨ls,rfl,hll,hls⟩,hLs,s2⟩
  refine ⟨hLs,?_⟩
  have s02:Same H H2:=s06.trans s2
  by_cases hlt2:i<R.length
  case pos=>
   right
   have e1:(R.map fun r:Nat=>V.int (r:Int))[i]?=some (.int (R[i]:Int)):=by rw [getElem?_map,getElem?_eq_getElem hlt2];rfl
   refine ⟨⟨_,_,sqR s02,e1⟩,by rw [length_map];omega,?_⟩
   rintro v H3 ⟨rfl,hv⟩
   have ev:v=.int (R[i]:Int):=Option.some.inj ((hv _ (sqR s02)).symm.trans e1)
   subst ev
   rw [show ([some v0,some (V.ref pr),some (V.ref d),x3,x4,none,none,none].set 5 (some v5)).set 6 (some v6)=[some v0,some (V.ref pr),some (.ref d),x3,x4,some v5,some v6,none] from rfl,hbl]
   show LeS [some v0,some (.ref pr),some (.ref d),x3,none,some v5,some v6,none] [some v0,some (.ref pr),some (.ref d),x3,some (.int (R[i]:Int)),some v5,some v6,none]/\_
   refine ⟨⟨rfl,fun j u hu=>?_⟩,?_⟩
   ·match j,hu with
    | 0,hu=>exact hu
    | 1,hu=>exact hu
    | 2,hu=>exact hu
    | 3,hu=>exact hu
    | 4,hu=>cases hu
    | 5,hu=>exact hu
    | 6,hu=>exact hu
    | 7,hu=>exact hu
    | j+8,hu=>cases hu
   refine iteT' ?_
   have hRi:R[i]<w.n:=h.lt _ (getElem_mem hlt2)
   have est:p_stp (GP w R (some ⟨.leaf,rm R[i]⟩))=.ok ⟨.leaf,.list ((((w.stp R[i]).map fun t:Nat=>(t:Int))).map .int)⟩ (GP w R (some ⟨.leaf,rm R[i]⟩)):=by
    rw [map_map]
    exact stpL_ev h.ok rfl (v_leaf rfl) hRi
   refine evL (EE _ _ s02 rfl rfl rfl (some R[i]) (fun r hr=>by cases hr;rfl)) est fun p3 H3 s3 q3=>?_
   have lst:(w.stp R[i]).length<64:=by
    have:=h.rs _ hRi
    have l1:(w.stp R[i]).length<=w.n:=by
     exact ndl (h.rs _ hRi) fun x hx=>h.ok.stp_lt hx
    have:=h.ok.h24
    omega
   refine ⟨_,rfl,p3,d,(w.stp R[i]).map fun t:Nat=>(t:Int),kvP 0 R,ixR R,rfl,q3,s3 _ _ (s2 _ _ hD6),kvP_ix,by rw [length_map];exact lst,fun l H4 s4 hl4 hl=>?_⟩
   rw [plS_sort h.nd (h.rs _ hRi),map_map] at hl
   have hL3:H3 L=some (.lst (ls.map V.ref)):=s3 _ _ hLs
   have hL4:H4 L=some (.lst (ls.map V.ref)):=s4 _ _ hL3
   have hlL:l≠L:=fun z=>by rw [z,hL3] at hl4;cases hl4
   have hl6:H6 l=none:=(s2.trans s3).free hl4
   refine ⟨hL4,R.length-(i+1),by omega,rfl,hlt2,⟨ls++[l],by simp,by rw [length_append,hll];rfl,fun j l' hj=>?_⟩,upd_same,fun c o hc=>?_⟩
   ·by_cases hj2:j<ls.length
    ·rw [getElem?_append_left hj2] at hj
     obtain ⟨a1,a2,a3⟩:=hls j l' hj
     refine ⟨a1,a2,?_⟩
     rw [upd_ne a1]
     exact s4 _ _ (s3 _ _ a3)
    ·have hje:j=ls.length:=by
      have:=(List.getElem?_eq_some_iff.mp hj).1
      rw [length_append,length_singleton] at this
      omega
     subst hje
     rw [getElem?_append_right (Nat.le_refl _),Nat.sub_self] at hj
     cases hj
     refine ⟨hlL,hl6,?_⟩
     rw [upd_ne hlL,hll,getD_eq_getElem?_getD,getElem?_eq_getElem hlt2]
     exact hl
   ·rw [upd_ne (fun z=>by subst z;rw [hL] at hc;cases hc)]
    exact s4 _ _ (s3 _ _ (s2 _ _ hc))
  case neg=>
   left
   have hie:i=R.length:=by omega
   subst hie
   refine ⟨⟨_,sqR s02,by rw [length_map];omega⟩,?_⟩
   refine ⟨_,rfl,_,rfl,_,rfl,by show 3<=sizeLine;decide,fun t ht=>?_⟩
   have sT:Same H2 (upd H2 t (.tup [v5,v6,.ref L])):=same_upd ht
   have nO:∀{a},H6 a=none->a∉O:=fun {a} ha z=>inS s06 a z ha
   have tO:t∉O:=fun z=>inS s02 t z ht
   refine q _ _ [] ⟨s02.trans sT,(fun _ z=>nomatch z),(fun _ z=>nomatch z),nodup_nil,.leaf (.tup (vs:=[v5,v6,.ref L]) (.inl (.inl (hid_get upd_same tO))) rfl fun j v dd e1 e2=>?_),rfl⟩
   have m5:Same (hid H5 O) (hid (upd H2 t (.tup [v5,v6,.ref L])) O):=hid_mono ((s6.trans s2).trans sT) fun a ha=>.inl ha
   have m6:Same (hid H6 O) (hid (upd H2 t (.tup [v5,v6,.ref L])) O):=hid_mono (s2.trans sT) fun a ha=>.inl ha
   match j,e1,e2 with
   | 0,e1,e2=>cases e1;cases e2;exact p5.mono m5
   | 1,e1,e2=>cases e1;cases e2;exact p6.mono m6
   | 2,e1,e2=>
    cases e1
    cases e2
    refine .lst (.inl (.inl (hid_get (sT _ _ hLs) (nO hL)))) ?_ ?_
    ·simp [plW,hll]
    ·intro i' v' d' f1 f2
     have hi':i'<ls.length:=by
      have:=(List.getElem?_eq_some_iff.mp f1).1
      rwa [length_map] at this
     rw [getElem?_map,getElem?_eq_getElem hi'] at f1
     cases f1
     obtain ⟨a1,a2,a3⟩:=hls i' _ (getElem?_eq_getElem hi')
     have hR:i'<R.length:=by omega
     have ed:d'=rms (plS R (w.stp (R.getD i' 0))):=by
      simp only [plW,map_map] at f2
      rw [getElem?_map,getElem?_eq_getElem hR] at f2
      cases f2
      rw [getD_eq_getElem?_getD,getElem?_eq_getElem hR]
      rfl
     rw [ed]
     refine .lst (.inl (.inl (hid_get (sT _ _ a3) (nO a2)))) (by simp) fun i3 v3 d3 g1 g2=>?_
     rw [getElem?_map] at g1 g2
     cases e:(plS R (w.stp (R.getD i' 0)))[i3]? with
     | none=>rw [e] at g1;cases g1
     | some z=>rw [e] at g1 g2;cases g1;cases g2;exact .int _
   | j+3,e1,e2=>cases e1
theorem rms_inj {S:List Nat} (h:rms R=rms S):R=S:=(map_inj_right (f:=rm) fun a b e=>Int.ofNat_inj.mp (PyData.int.inj e)).mp (PyData.list.inj h)
theorem txs_inj {R S:List Str} (h:txs R=txs S):R=S:=(map_inj_right (f:=PyData.str) fun a b e=>PyData.str.inj e).mp (PyData.list.inj h)
theorem enc_inj {w v:Wd} (ok:w.Ok) (ov:v.Ok) (h:w.enc=v.enc):w=v:=by
 have h:=PyData.tuple.inj h
 injection h with h1 h
 injection h with h2 h
 injection h with h3 _
 have h1:=PyData.list.inj h1
 have h2:=(map_inj_right (f:=txs) fun a b e=>txs_inj e).mp (PyData.list.inj h2)
 have h3:=(map_inj_right (f:=rms) fun a b e=>rms_inj e).mp (PyData.list.inj h3)
 have hn:w.n=v.n:=by rw [<-ok.ls,<-ov.ls,h3]
 cases w
 cases v
 cases hn
 cases h1
 cases h2
 cases h3
 rfl
noncomputable def Pld (ds:List PySem.PyData):Prop:=∃x:Wd×List Nat,ds=[x.1.enc,rms x.2]/\PlOk x.1 x.2
open Classical in
noncomputable def m_placed (ds:List PySem.PyData):Res:=if h:Pld ds then .ok ⟨.leaf,(plW h.choose.1 h.choose.2).enc⟩ else .no
theorem den_placed {w:Wd} (h:PlOk w R):m_placed [w.enc,rms R]=.ok ⟨.leaf,(plW w R).enc⟩:=by
 have H:Pld [w.enc,rms R]:=⟨(w,R),rfl,h⟩
 unfold m_placed
 rw [dif_pos H]
 obtain ⟨e,o⟩:=H.choose_spec
 injection e with e1 e
 injection e with e2 _
 rw [<-enc_inj h.ok o.ok e1,<-rms_inj e2]
theorem m_placed_ok {ds:List PySem.PyData} {p:PV} (h:m_placed ds=.ok p):∃w R,ds=[w.enc,rms R]/\PlOk w R/\p=⟨.leaf,(plW w R).enc⟩:=by
 unfold m_placed at h
 split at h
 ·rename_i H
  cases h
  obtain ⟨e,o⟩:=H.choose_spec
  exact ⟨_,_,e,o,rfl⟩
 ·cases h
noncomputable def PoOk (P:Program) (w:World) (K:Fg) (mg:Str->Option Value) (base:Heap) (j:Nat):Prop:=
 ∃(f:Addr) (fd:FuncData) (ps:List Str),FnOk P w K mg base CX0 j f fd ps (spPo K)/\mg "places_of"=some (.ref f)/\PySem.W.keepIn K (.ref f)=true/\Binds K fd ps []
theorem ok_po {P:Program} {w:World} {f:Addr} {st:Stmt} {k:Nat} (F:Fun K "places_of" "places_of" st f fd) (hm:mg "places_of"=some (.ref f)) (b:Binds K fd ["rooms", "places"] [])
  (sc:FnScope N_po ["rooms", "places"] (defScope st)) (cp:cpB N_po G_po vs cs ls lo gs (defScope st)=true) (nm:nmB N_po G_po=true) (n_sorted:mg "sorted"=none)
  (bd:∀X:Cx,Cp X N_po G_po vs cs ls lo gs->Rm X->X.mg "sorted"=none->PSs X (defBody st) (tPo X.K)):PoOk P w K mg base (k+1):=by
 refine ⟨f,fd,["rooms", "places"],F.ok sc (fun vs H Q E h=>?_) (fun cdv A outer s H vs Q E hr h=>?_),hm,F.kp,b⟩
 ·obtain ⟨p,d,xs,kvs,g,rfl,_⟩:=h
  rfl
 ·exact ⟨_,bd _ (Cp.fn cp nm) hr.units n_sorted,rd_po h⟩
theorem ok_pl {P:Program} {w:World} {f:Addr} {st:Stmt} {j k:Nat} (F:Fun K "placed" "placed" st f fd) (hm:mg "placed"=some (.ref f)) (b:Binds K fd ["world", "rooms"] [])
  (sc:FnScope N_pl ["world", "rooms"] (defScope st)) (cp:cpB N_pl G_pl vs cs ls lo gs (defScope st)=true) (nm:nmB N_pl G_pl=true) (n_enum:mg "enumerate"=none) (n_list:mg "list"=none)
  (c:PoOk P w K mg base j) (hj:decide (j<=k)=true)
  (bd:∀X:Cx,Cp X N_pl G_pl vs cs ls lo gs->Rm X->PassesOwn (model X.prog X.w) X.A X.env X.xe->X.mg "enumerate"=none->X.mg "list"=none->(∃(k:Nat) (f:Addr) (fd:FuncData) (ps:List Str),FnOk X.prog X.w X.K X.mg X.base CX0 k f fd ps (spPo X.K)/\Room k X.A/\X.mg "places_of"=some (.ref f)/\PySem.W.keepIn X.K (.ref f)=true/\Binds X.K fd ps [])->PSs X (defBody st) (tPl X.K)):DefOk P w K mg base (k+1) "placed" 2 m_placed:=by
 refine ⟨f,fd,["world", "rooms"],F.ok sc (fun vs H Q E h=>h.1) (fun cdv A outer s H vs Q E hr h=>?_),hm,F.kp,b⟩
 obtain ⟨hl,O,ds,nd,inH,rs,w'⟩:=h
 cases e:m_placed ds with
 | er c=>rw [e] at w';exact w'.elim
 | no=>rw [e] at w';exact w'.elim
 | ok p=>
  rw [e] at w'
  obtain ⟨wd,R,rfl,h1,rfl⟩:=m_placed_ok e
  obtain ⟨f',fd',ps',F',a',b',c'⟩:=c
  exact ⟨_,bd _ (Cp.fn cp nm) hr.units PassesOwn.never n_enum n_list ⟨j,f',fd',ps',F',hr.mono (of_decide_eq_true hj),a',b',c'⟩,rd_placed h1 nd inH rs w'⟩
end KC
namespace T
open PySem PySem.Spec L2
open PyProof.Rows hiding St
theorem cs_setCompT {X:Cx} {N gl:List Str} {vs cs ls lo gs:List Nat} {W:XW} {pos:Pos} {scope:Scope} {x y:Str} {px pos' spos:Pos} {iter elt:Expr} {ifs:List Expr} {fi:FI} {fe:F1} {fc:FB} {vs' cs' lo' gs':List Nat} (S:Cp X N gl vs cs ls lo gs) (j:Nat) (s:Sh) (i:Nat) (hy:N[j]?=some y) (hyl:lo.contains j=true) (hx:N[i]?=some x)
  (hsl:(pos'.line==pos.line)=true) (hsn:(scope.names.any fun (n,k)=>n==y&&(k==NameKind.local||k==NameKind.cell))=false) (h1:compB N i cs scope=true) (h2:cpB N gl vs' cs' [i] lo' gs' scope=true)
  (hi':PI X (.Name x px) iter (tI X.K W fi)) (hc:Blk X N gl vs' cs' [i] lo' gs' fun Y=>PF Y ifs (tT Y.K W0 fc)) (he:Blk X N gl vs' cs' [i] lo' gs' fun Y=>PE Y elt (tE Y.K W0 fe)) (hs:∀x,foldedSetIterable iter X.env x=pure x) :
  PS X (.Assign [.Name y pos'] (.ListComp elt [⟨.Name x px,iter,ifs,0⟩] scope pos) spos) (tAsg (tE X.K W (eComp s i fi fc fe)) (gName j)):=by
 have B:=fun cells C s₀ H₀ ex=>S.blk h2 cells C s₀ H₀ ex
 have L:=fun cells C s₀ H₀ ex=>(B cells C s₀ H₀ ex).loc i x hx (by simp)
 have hN:X.N.Nodup:=by rw [S.hN];exact S.nd
 have hx':X.N[i]?=some x:=by rw [S.hN];exact hx
 exact PSimp (ps_setComp hN (by rw [S.hN];exact hy) (S.loo j y hy hyl) (compB_ok S h1) S.calm hi' (fun cells C s₀ H₀ ex=>pg_name (X:=blk X scope cells C s₀ H₀ ex) (i:=i) hN hx' (L cells C s₀ H₀ ex).1 (L cells C s₀ H₀ ex).2) (fun cells C s₀ H₀ ex=>hc _ (B cells C s₀ H₀ ex) ⟨rfl,rfl,rfl,rfl,rfl,rfl⟩) (fun cells C s₀ H₀ ex=>he _ (B cells C s₀ H₀ ex) ⟨rfl,rfl,rfl,rfl,rfl,rfl⟩)
  (swaps_true S.kind (S.loo j y hy hyl) hsl hsn) hs) fun D σ H h=>rd_comp h
end T
namespace KC
open PySem PySem.Spec L2 T
open PyProof.Rows hiding St
variable {X:Cx} {scope:Scope} {p1 p2 p3 p4 p5 p6 p7 p8 pos:Pos} {K:Fg} {mg:Str->Option Value} {base:Heap} {fd:FuncData} {ts:List Nat}
noncomputable def s_places_of:Stmt:=sTm 28
noncomputable def s_placed:Stmt:=sTm 29
theorem sc_po:FnScope N_po ["rooms", "places"] (defScope s_places_of):=⟨rfl,rfl,rfl,by decide +kernel,rfl,by decide +kernel,by decide +kernel⟩
theorem cp_po:cpB N_po G_po [0,1] [1] [0,1] [0] [0] (defScope s_places_of)=true:=by kernel_rfl
theorem nm_po:nmB N_po G_po=true:=by kernel_rfl
theorem sc_pl:FnScope N_pl ["world", "rooms"] (defScope s_placed):=⟨rfl,rfl,rfl,by decide +kernel,rfl,by decide +kernel,by decide +kernel⟩
theorem cp_pl:cpB N_pl G_pl [0,1,2,3,4,5,6,7] [0,2] [0,1,2,3,4,5,6,7] [1,3,4,5,6,7] [0] (defScope s_placed)=true:=by kernel_rfl
theorem nm_pl:nmB N_pl G_pl=true:=by kernel_rfl
theorem nvP {N gl:List Str} {vs cs ls lo gs:List Nat} (S:Cp X N gl vs cs ls lo gs) (i:Nat) (x:Str) (pos:Pos) (e:N[i]?=some x) (hi:vs.contains i=true):PE X (.Name x pos) (tVar i):=by
 have m:=S.nm x (mem_of_getElem? e)
 exact pe_var (by rw [S.hN];exact e) (S.vis i x e hi) m.1 m.2
theorem po_comp (S:Cp X N_po G_po [0,1] [1] [0,1] [0] [0]) (hu:X.A.units+1<cLine) (h1:compBL N_po [2] [1] scope=true) (h2:cpB N_po G_po [1,2] [1] [2] [] [] scope=true) (hs:∀x,foldedSetIterable (.Name "rooms" p5) X.env x=pure x) :
  PE X (.ListComp (.Subscript (.Name "places" p1) (.Name "room" p2) p3) [⟨.Name "room" p4,.Name "rooms" p5,[.Compare (.Name "room" p6) [.In] [.Name "places" p7] p8],0⟩] scope pos) (tComp [2] (iList X.K (tVar 0)) (gName 2) (tB (tDIn (tVar 2) (tVar 1))) (tDGet (tVar 1) (tVar 2))):=by
 have hN:X.N.Nodup:=by rw [S.hN];exact S.nd
 have B:=fun cells C s₀ H₀ ex=>S.blk h2 cells C s₀ H₀ ex
 exact pe_comp (compBL_ok S h1) S.calm (pi_list (nvP S 0 _ _ rfl rfl))
  (fun cells C s₀ H₀ ex=>pg_name (X:=L2.blk X scope cells C s₀ H₀ ex) (i:=2) hN (by show X.N[2]?=_;rw [S.hN];rfl) ((B cells C s₀ H₀ ex).loc 2 _ rfl rfl).1 ((B cells C s₀ H₀ ex).loc 2 _ rfl rfl).2)
  (fun cells C s₀ H₀ ex=>pf_one (pt_cmp (pc_din (X:=L2.blk X scope cells C s₀ H₀ ex) hu (nvP (B cells C s₀ H₀ ex) 2 _ _ rfl rfl) (nvP (B cells C s₀ H₀ ex) 1 _ _ rfl rfl)) (by with_unfolding_all rfl)))
  (fun cells C s₀ H₀ ex=>pe_dget (X:=L2.blk X scope cells C s₀ H₀ ex) hu (nvP (B cells C s₀ H₀ ex) 1 _ _ rfl rfl) (nvP (B cells C s₀ H₀ ex) 2 _ _ rfl rfl) (fun _ _=>rfl)) hs
theorem bd_po (S:Cp X N_po G_po [0,1] [1] [0,1] [0] [0]) (R:Rm X) (n_sorted:X.mg "sorted"=none):PSs X (defBody s_places_of) (tPo X.K):=by
 have hu:X.A.units+1<cLine:=Nat.lt_of_le_of_lt (by omega) R
 exact pss_one (ps_ret (pe_callB call_sortI (S.g (j:=0) rfl rfl).1 n_sorted b_sorted (pa_cons (po_comp S hu (by kernel_rfl) (by kernel_rfl) (fun _=>rfl)) pa_nil (star_cons rfl)) (S.g (j:=0) rfl rfl).2.2 (S.g (j:=0) rfl rfl).2.1 (star_cons rfl) rfl))
theorem ok_places_of {P:Program} {w:World} {f:Addr} {k:Nat} (F:Fun K "places_of" "places_of" s_places_of f fd) (hm:mg "places_of"=some (.ref f)) (b:Binds K fd ["rooms", "places"] []) (n_sorted:mg "sorted"=none):PoOk P w K mg base (k+1):=
 ok_po F hm b sc_po cp_po nm_po n_sorted fun X S R n=>bd_po S R n
noncomputable abbrev CpP (X:Cx):Prop:=Cp X N_pl G_pl [0,1,2,3,4,5,6,7] [0,2] [0,1,2,3,4,5,6,7] [1,3,4,5,6,7] [0]
noncomputable abbrev CaP (X:Cx):Prop:=∃(k:Nat) (f:Addr) (fd:FuncData) (ps:List Str),FnOk X.prog X.w X.K X.mg X.base CX0 k f fd ps (spPo X.K)/\Room k X.A/\X.mg "places_of"=some (.ref f)/\PySem.W.keepIn X.K (.ref f)=true/\Binds X.K fd ps []
theorem pl_comp {p9 p10 pos' spos:Pos} (S:CpP X) (c:CaP X) (hsl:(pos'.line==pos.line)=true) (hsn:(scope.names.any fun (n,k)=>n==("steps":Str)&&(k==NameKind.local||k==NameKind.cell))=false)
  (h1:compBL N_pl [4] [0,2] scope=true) (h2:cpB N_pl G_pl [0,2,4] [0,2] [4] [] [2] scope=true) (hs:∀x,foldedSetIterable (.Name "rooms" p9) X.env x=pure x) :
  PS X (.Assign [.Name "steps" pos'] (.ListComp (.Call (.Name "places_of" p1) [.Subscript (.Subscript (.Name "world" p2) (.Constant (.int 2) 0 p3) p4) (.Name "room" p5) p6,.Name "places" p7] [] p8) [⟨.Name "room" p10,.Name "rooms" p9,[],0⟩] scope pos) spos)
   (fun D σ H=>tComp [4] (iList X.K (tVar 1)) (gName 4) tTrue (tCall (spPo X.K) [] L2.E0 (tCons (tE X.K W0 p_stp) (tCons (tVar 2) tNil))) σ H fun v H'=>D.nx (σ.set 7 (some v)) H'):=by
 have hN:X.N.Nodup:=by rw [S.hN];exact S.nd
 have B:=fun cells C s₀ H₀ ex=>S.blk h2 cells C s₀ H₀ ex
 obtain ⟨k,f,fd,ps,F,hr,a1,a2,a3⟩:=c
 exact ps_setComp hN (by rw [S.hN];rfl) (S.loo 7 "steps" rfl rfl) (compBL_ok S h1) S.calm (pi_list (nvP S 1 _ _ rfl rfl))
  (fun cells C s₀ H₀ ex=>pg_name (X:=L2.blk X scope cells C s₀ H₀ ex) (i:=4) hN (by show X.N[4]?=_;rw [S.hN];rfl) ((B cells C s₀ H₀ ex).loc 4 _ rfl rfl).1 ((B cells C s₀ H₀ ex).loc 4 _ rfl rfl).2)
  (fun cells C s₀ H₀ ex=>pf_nil)
  (fun cells C s₀ H₀ ex=>pe_call (X:=L2.blk X scope cells C s₀ H₀ ex) F hr ((B cells C s₀ H₀ ex).g (j:=2) rfl rfl).1 a1 a2 a3 .nil pass0 (pa_cons (TQ.Q.p (TQ.w_de_idx (TQ.w_de_idx (TQ.w_cv (B cells C s₀ H₀ ex) 0 rfl rfl) TQ.w_de_int (fun _ _=>rfl)) (TQ.w_cv (B cells C s₀ H₀ ex) 4 rfl rfl) (fun _ _=>rfl))) (pa_cons (nvP (B cells C s₀ H₀ ex) 2 _ _ rfl rfl) pa_nil (star_cons rfl)) (star_cons rfl)) (by decide) (star_cons rfl) rfl)
  (swaps_true S.kind (S.loo 7 "steps" rfl rfl) hsl hsn) hs
theorem bd_pl (S:CpP X) (R:Rm X) (hp:PassesOwn (model X.prog X.w) X.A X.env X.xe) (n_enum:X.mg "enumerate"=none) (n_list:X.mg "list"=none) (c:CaP X):PSs X (defBody s_placed) (tPl X.K):=by
 have hN:X.N.Nodup:=by rw [S.hN];exact S.nd
 have hu:X.A.units+1<cLine:=Nat.lt_of_le_of_lt (by omega) R
 have g:∀(i:Nat) (x:Str),N_pl[i]?=some x->X.N[i]?=some x:=fun i x e=>by rw [S.hN];exact e
 have lc:∀(i:Nat) (x:Str),N_pl[i]?=some x->[0,1,2,3,4,5,6,7].contains i=true->Loc X.env.scope x/\(X.fn x=true\/X.env.scope.names.lookup x=some .local):=fun i x e hi=>S.loc i x e hi
 refine pss_cons (ps_set hN (g 2 _ rfl) (lc 2 _ rfl rfl).1 pe_dnewK rfl (lc 2 _ rfl rfl).2) ?_
 refine pss_cons (ps_for hp S.calm (pi_enum (S.g (j:=0) rfl rfl).1 n_enum (pa_cons (nvP S 1 _ _ rfl rfl) pa_nil (star_one rfl)) (star_one rfl)) (pg_tup S.calm (pgs_cons (pg_name hN (g 3 _ rfl) (lc 3 _ rfl rfl).1 (lc 3 _ rfl rfl).2) (pgs_cons (pg_name hN (g 4 _ rfl) (lc 4 _ rfl rfl).1 (lc 4 _ rfl rfl).2) pgs_nil))) (pss_one (ps_dput hu (nvP S 2 _ _ rfl rfl) (nvP S 4 _ _ rfl rfl) (nvP S 3 _ _ rfl rfl) rfl)) (fun _=>rfl)) ?_
 refine pss_cons (cs_setCompT (vs':=[0,4]) (cs':=[0]) (lo':=[]) (gs':=[]) S 5 .leaf 4 rfl rfl rfl rfl rfl (by kernel_rfl) (by kernel_rfl) (TQ.Q.p (TQ.w_di_seq (TQ.w_cv S 1 rfl rfl))) (fun _ _ _=>TQ.Q.p TQ.w_df_nil) (fun Y S1 _=>TQ.Q.p (TQ.w_de_idx (TQ.w_de_idx (TQ.w_cv S1 0 rfl rfl) TQ.w_de_int (fun _ _=>rfl)) (TQ.w_cv S1 4 rfl rfl) (fun _ _=>rfl))) (fun _=>rfl)) ?_
 refine pss_cons (cs_setCompT (vs':=[0,4]) (cs':=[0]) (lo':=[]) (gs':=[1]) S 6 .leaf 4 rfl rfl rfl rfl rfl (by kernel_rfl) (by kernel_rfl) (TQ.Q.p (TQ.w_di_seq (TQ.w_cv S 1 rfl rfl))) (fun _ _ _=>TQ.Q.p TQ.w_df_nil) (fun Y S1 F1=>TQ.Q.p (TQ.w_cb_list S1 1 rfl rfl (F1.n n_list) (TQ.w_de_idx (TQ.w_de_idx (TQ.w_cv S1 0 rfl rfl) TQ.w_de_int (fun _ _=>rfl)) (TQ.w_cv S1 4 rfl rfl) (fun _ _=>rfl)) (star_one rfl))) (fun _=>rfl)) ?_
 refine pss_cons (pl_comp S c rfl rfl (by kernel_rfl) (by kernel_rfl) (fun _=>rfl)) ?_
 exact pss_one (ps_ret (pe_tup (pa_cons (nvP S 5 _ _ rfl rfl) (pa_cons (nvP S 6 _ _ rfl rfl) (pa_cons (nvP S 7 _ _ rfl rfl) pa_nil (star_cons rfl)) (star_cons rfl)) (star_cons rfl))))
theorem ok_placed {P:Program} {w:World} {f:Addr} {j k:Nat} (F:Fun K "placed" "placed" s_placed f fd) (hm:mg "placed"=some (.ref f)) (b:Binds K fd ["world", "rooms"] []) (n_enum:mg "enumerate"=none) (n_list:mg "list"=none)
  (c:PoOk P w K mg base j) (hj:decide (j<=k)=true):DefOk P w K mg base (k+1) "placed" 2 m_placed:=
 ok_pl F hm b sc_pl cp_pl nm_pl n_enum n_list c hj fun X S R hp n1 n2 ca=>bd_pl S R hp n1 n2 ca
open PySem.SeqAt
section
variable {w:Wd} {R:List Nat}
noncomputable abbrev atR (R:List Nat) (k:Nat):Nat:=R.getD k 0
theorem atR_mem {k:Nat} (h:k<R.length):atR R k∈R:=by
 rw [atR,getD_eq_getElem?_getD,getElem?_eq_getElem h]
 exact getElem_mem h
theorem mem_plS {k:Nat}:k∈plS R ts↔k<R.length/\atR R k∈ts:=by
 unfold plS
 rw [mem_filter,mem_range,contains_iff_mem]
theorem pl_mks {k:Nat} (h:k<R.length):(plW w R).mks k=w.mks (atR R k):=by
 show (R.map w.mks).getD k []=_
 rw [atR,getD_eq_getElem?_getD,getD_eq_getElem?_getD,getElem?_map,getElem?_eq_getElem h]
 rfl
theorem pl_stp {k:Nat} (h:k<R.length):(plW w R).stp k=plS R (w.stp (atR R k)):=by
 show (R.map fun r=>plS R (w.stp r)).getD k []=_
 rw [atR,getD_eq_getElem?_getD,getD_eq_getElem?_getD,getElem?_map,getElem?_eq_getElem h]
 rfl
theorem pl_out {k:Nat} (h:¬k<R.length):(plW w R).stp k=[]:=by
 show (R.map fun r=>plS R (w.stp r)).getD k []=_
 rw [getD_eq_getElem?_getD,getElem?_eq_none (by rw [length_map];omega)]
 rfl
theorem owI_own (ok:w.Ok) {r:Nat} (hr:r<w.n) (q:Int):own w q r=(owI w r==q):=by
 obtain ⟨o,ho,_,h⟩:=ok.o_at hr
 unfold owI
 rw [h,h]
 rcases ho with rfl | rfl<;>simp
theorem pl_own (h:PlOk w R) {k:Nat} (hk:k<R.length) (q:Int):own (plW w R) q k=own w q (atR R k):=by
 rw [owI_own h.ok (h.lt _ (atR_mem hk))]
 show ((R.map fun r=>PyData.int (owI w r)).map (isI q)).getD k false=_
 rw [atR,getD_eq_getElem?_getD,getD_eq_getElem?_getD,getElem?_map,getElem?_map,getElem?_eq_getElem hk]
 rfl
theorem plS_len:(plS R ts).length<=R.length:=by
 have:=length_filter_le (fun k=>ts.contains (R.getD k 0)) (List.range R.length)
 rwa [length_range] at this
theorem at_of_mem {t:Nat} (h:t∈R):∃k,k<R.length/\atR R k=t:=by
 obtain ⟨k,hk,e⟩:=getElem_of_mem h
 refine ⟨k,hk,?_⟩
 rw [atR,getD_eq_getElem?_getD,getElem?_eq_getElem hk,e]
 rfl
theorem plW_ok (h:PlOk w R) (h1:1<=R.length) (h24:R.length<=24) (cl:∀r∈R,∃t∈w.stp r,t∈R):(plW w R).Ok:=by
 have ne:∀r∈R,plS R (w.stp r)≠[]:=fun r hr z=>by
  obtain ⟨t,ht,hR⟩:=cl r hr
  obtain ⟨k,hk,rfl⟩:=at_of_mem hR
  have:=mem_plS.mpr ⟨hk,ht⟩
  rw [z] at this
  cases this
 have row:∀r∈R,w.mks r∈w.m:=fun r hr=>mks_row h.ok (h.lt r hr)
 refine ⟨⟨by simp [plW],by simp [plW],by simp [plW],fun a ha=>?_,fun a ha=>?_,fun a ha=>?_⟩,h1,h24,by simp [plW],by simp [plW],fun a ha=>?_,fun a ha c hc=>?_⟩
 ·obtain ⟨x,_,rfl⟩:=List.mem_map.mp ha
  unfold owI
  split
  ·exact .inl rfl
  ·exact .inr rfl
 ·obtain ⟨b,hb,rfl⟩:=List.mem_map.mp ha
  obtain ⟨x,hx,rfl⟩:=List.mem_map.mp hb
  exact h.ok.g.m _ (List.mem_map.mpr ⟨_,row x hx,rfl⟩)
 ·obtain ⟨b,hb,rfl⟩:=List.mem_map.mp ha
  obtain ⟨x,hx,rfl⟩:=List.mem_map.mp hb
  refine ⟨(plS R (w.stp x)).map fun t:Nat=>(t:Int),by rw [<-rms_int],by rw [length_map];exact Nat.le_trans plS_len (by omega),fun z=>ne x hx (List.map_eq_nil_iff.mp z),fun t ht=>?_,?_⟩
  ·obtain ⟨c,hc,rfl⟩:=List.mem_map.mp ht
   have:=(mem_plS.mp hc).1
   show 0<=(c:Int)/\(c:Int)<((R.length:Nat):Int)
   omega
  ·rw [pairwise_map]
   exact (List.pairwise_lt_range.filter _).imp fun h=>by omega
 ·obtain ⟨x,hx,rfl⟩:=List.mem_map.mp ha
  exact ⟨ne x hx,Nat.le_trans plS_len (by omega),fun t ht=>(mem_plS.mp ht).1⟩
 ·obtain ⟨x,hx,rfl⟩:=List.mem_map.mp ha
  exact h.ok.mc _ (row x hx) c hc
theorem pl_Mor (h:PlOk w R) (cl:∀r∈R,∀t∈w.stp r,t∈R):Mor (plW w R).n (plW w R).stp (atR R) w.n w.stp:=by
 refine ⟨fun r t ht=>?_,fun r hr=>h.lt _ (atR_mem hr),fun r hr t ht=>?_,fun r hr c hc=>?_⟩
 ·by_cases hr:r<R.length
  ·rw [pl_stp hr] at ht
   exact (mem_plS.mp ht).1
  ·rw [pl_out hr] at ht
   cases ht
 ·rw [pl_stp hr] at ht
  exact (mem_plS.mp ht).2
 ·obtain ⟨k,hk,rfl⟩:=at_of_mem (cl _ (atR_mem hr) c hc)
  exact ⟨k,by rw [pl_stp hr];exact mem_plS.mpr ⟨hk,hc⟩,rfl⟩
theorem stp_nd (ok:w.Ok) {r:Nat} (hr:r<w.n):(w.stp r).Nodup:=by
 obtain ⟨ts,e,_,_,_,hp⟩:=ok.g.s (rms (w.stp r)) (List.mem_map.mpr ⟨w.stp r,by
  unfold Wd.stp
  rw [getD_eq_getElem?_getD,getElem?_eq_getElem (by rw [ok.ls];exact hr)]
  exact getElem_mem _,rfl⟩)
 have e:=PyData.list.inj e
 rw [rms_int] at e
 have e:=(map_inj_right (f:=PyData.int) fun a b z=>PyData.int.inj z).mp e
 rw [<-e,pairwise_map] at hp
 exact hp.imp fun h z=>by omega
theorem pl_perm (ok:w.Ok) (p:R.Perm (List.range w.n)):PlOk w R/\(plW w R).Ok/\Mor (plW w R).n (plW w R).stp (atR R) w.n w.stp/\R.length=w.n:=by
 have hl:R.length=w.n:=by rw [p.length_eq,length_range]
 have hm:∀{r},r∈R↔r<w.n:=fun {r}=>by rw [p.mem_iff,mem_range]
 have h24:=ok.h24
 have h:PlOk w R:=⟨ok,p.nodup_iff.mpr nodup_range,fun r hr=>hm.mp hr,by omega,fun r hr=>stp_nd ok hr⟩
 refine ⟨h,plW_ok h (by rw [hl];exact ok.h1) (by omega) (fun r hr=>?_),pl_Mor h fun r hr t ht=>hm.mpr (ok.stp_lt ht),hl⟩
 obtain ⟨t,ht⟩:=List.exists_mem_of_ne_nil _ (ok.stp_ne (hm.mp hr))
 exact ⟨t,ht,hm.mpr (ok.stp_lt ht)⟩
end
noncomputable def d_renamed:FS:=(sSeq (sDrop (eCall 1 m_check_world (eCons (eVar 0) eNil)))
  (sSeq (sIf (bOf gBool (eOp gNe (eSortI (eCons (eVar 1) eNil)) (eLR (eCons (eCB gLen (eCons (eIdx (eVar 0) (eK (.int 0))) eNil)) eNil)))) sNo sNext)
  (sRet (eCall 2 m_placed (eCons (eVar 0) (eCons (eVar 1) eNil))))))
noncomputable def m_renamed:List PySem.PyData->Res:=denOf 2 d_renamed
theorem v_sortR {U:Ev} {fl:FL} {s:Sh} {ns:List Int} (hl:fl U=.ok [⟨s,.list (ns.map .int)⟩] U) (h:ns.length<64):eSortI fl U=.ok ⟨.lst .leaf,.list ((PySem.W.sortI ns).map .int)⟩ U:=by
 unfold eSortI
 rw [hl]
 show (match T.intsOf (ns.map .int) with | some ns=>if ns.length<64 then Out.ok (⟨.lst .leaf,.list ((PySem.W.sortI ns).map .int)⟩:PV) U else .no | none=>.no)=_
 rw [intsOf_map]
 dsimp only
 rw [if_pos h]
theorem sort_perm {O:List Nat} {n:Nat} (p:O.Perm (List.range n)):PySem.W.sortI (O.map fun t:Nat=>(t:Int))=(List.range n).map fun t:Nat=>(t:Int):=by
 symm
 refine PySem.W.eq_sortI (p.symm.map _) ?_
 rw [pairwise_map]
 exact List.pairwise_lt_range.imp fun h=>by omega
theorem sh_rms {R:List Nat}:shaped (rms R)=true:=sh_rowI (by
 intro a ha
 obtain ⟨x,_,rfl⟩:=List.mem_map.mp ha
 exact ⟨_,rfl⟩)
theorem den_renamed {w:Wd} (ok:w.Ok) {O:List Nat} (p:O.Perm (List.range w.n)):m_renamed [w.enc,rms O]=.ok ⟨.leaf,(plW w O).enc⟩:=by
 have h24:=ok.h24
 obtain ⟨h,_,_,hl⟩:=pl_perm ok p
 have so:eSortI (eCons (eVar 1) eNil) [some ⟨.leaf,w.enc⟩,some ⟨.leaf,rms O⟩]=.ok ⟨.lst .leaf,rms (List.range w.n)⟩ [some ⟨.leaf,w.enc⟩,some ⟨.leaf,rms O⟩]:=by
  have:=v_sortR (U:=[some ⟨.leaf,w.enc⟩,some ⟨.leaf,rms O⟩]) (fl:=eCons (eVar 1) eNil) (s:=.leaf) (ns:=O.map fun t:Nat=>(t:Int)) (by rw [<-rms_int];exact v_cons (v_leaf rfl) v_nil) (by rw [length_map];omega)
  rw [sort_perm p,<-rms_int] at this
  exact this
 exact rt_of (x_seq (x_drop' (v_call (v_cons (v_leaf rfl) v_nil) ok.check rfl rfl)) (x_seq (x_if (t:=false) (bb_bool (s:=.leaf) (v_op (g:=gNe) so (LR_of (n:=w.n) (s:=.leaf) (by omega) (v_cons (size_ev ok rfl) v_nil)) (ne_refl' sh_rms))) nofun fun _=>rfl) (x_ret (v_call (v_cons (v_leaf rfl) (v_cons (v_leaf rfl) v_nil)) (den_placed h) rfl rfl) rfl)))
end KC
namespace KC.Z
open PySem PySem.Spec L2 T
open PyProof.Rows hiding St
open KC
noncomputable def d_law:FS:=(sSeq (sSet false 1 (eCall 3 m__law_like_world (eCons (eVar 0) (eCons (eK (.int 2)) (eCons (eK (.int 6)) eNil)))))
  (sSeq (sSet false 2 (eOp gEq (eOp gMod (eCall 2 m__law_cell_at (eCons (eVar 0) (eCons (eK (.int 0)) eNil))) (eK (.int 2))) (eK (.int 1))))
  (sSeq (sSet false 3 (eCB gLen (eCons (eIdx (eVar 1) (eK (.int 0))) eNil)))
  (sSeq (sUnpN [10,11] (eCall 2 m_least_world (eCons (eVar 1) (eCons (eVar 2) eNil))))
  (sFrz 10 (sSeq (sSet false 4 (eCB gLen (eCons (eIdx (eVar 10) (eK (.int 0))) eNil)))
  (sSeq (sIf (bOf gBool (eOp gNe (eCall 2 m_classes (eCons (eVar 10) (eCons (eVar 2) eNil))) (eComp .leaf 8 (iR1 (eCons (eVar 4) eNil)) bTrue (eList .leaf (eCons (eVar 8) eNil))))) (sRet (eK (.bool false))) sNext)
  (sSeq (sSet false 5 (eCall 2 m_least_world (eCons (eVar 10) (eCons (eVar 2) eNil))))
  (sSeq (sIf (bOf gBool (eOp gNe (eVar 5) (eTup (eCons (eVar 10) (eCons (eLR (eCons (eVar 4) eNil)) eNil))))) (sRet (eK (.bool false))) sNext)
  (sSeq (sSet false 6 (eCall 2 m_classes (eCons (eCall 2 m_beside (eCons (eVar 1) (eCons (eVar 1) eNil))) (eCons (eVar 2) eNil))))
  (sSeq (sIf (bOf gBool (eOp gNe (eVar 6) (eComp .leaf 12 (iSeq (eCall 2 m_classes (eCons (eVar 1) (eCons (eVar 2) eNil)))) bTrue (eCat (eVar 12) (eComp .leaf 8 (iSeq (eVar 12)) bTrue (eOp gAddI (eVar 8) (eVar 3))))))) (sRet (eK (.bool false))) sNext)
  (sSeq (sSet true 7 (eList .leaf eNil))
  (sSeq (sFor 8 (iR1 (eCons (eVar 3) eNil))
  (sIns 7 (eCons (eOp gMod (eCall 3 m__law_draw (eCons (eCall 2 m__law_cell_at (eCons (eVar 0) (eCons (eK (.int 1)) eNil))) (eCons (eVar 8) (eCons (eK (.int 720)) eNil)))) (eOp gAddI (eVar 8) (eK (.int 1)))) (eCons (eVar 8) eNil))))
  (sFrz 7 (sSeq (sSet false 9 (eComp .leaf 12 (iSeq (eCall 2 m_classes (eCons (eCall 2 m_renamed (eCons (eVar 1) (eCons (eVar 7) eNil))) (eCons (eVar 2) eNil)))) bTrue (eSortI (eCons (eComp .leaf 8 (iSeq (eVar 12)) bTrue (eIdx (eVar 7) (eVar 8))) eNil))))
  (sRet (eOp gEq (eSortR (eVar 9)) (eCall 2 m_classes (eCons (eVar 1) (eCons (eVar 2) eNil))))))))))))))))))))
noncomputable def m_law:List PySem.PyData->Res:=denOf 13 d_law
end KC.Z
namespace KC
open PySem PySem.Spec L2 T PySem.SeqAt
open PyProof.Rows hiding St
variable {o:Bool} {m':Nat}
noncomputable def smB (w:Wd) (o:Bool) (i j:Nat):Bool:=(w.mks i==w.mks j)&&(!o||owI w i==owI w j)
structure Rt (w:Wd) (o:Bool) (R:Nat->Nat->Prop):Prop where
 sm:∀i j,i<w.n->j<w.n->R i j->smB w o i j=true
 fo:∀i j,i<w.n->j<w.n->R i j->∀t∈w.stp i,∃r∈w.stp j,R t r
 ba:∀i j,i<w.n->j<w.n->R i j->∀r∈w.stp j,∃t∈w.stp i,R t r
noncomputable def Lk (w:Wd) (o:Bool) (i j:Nat):Prop:=∃R,Rt w o R/\R i j
noncomputable def Lc (w:Wd) (o:Bool) (N:List Nat):Prop:=∀i j,i<w.n->j<w.n->Lk w o i j->nA N i=nA N j
section
variable {w:Wd}
theorem lkK_iff {i j:Nat}:lkK w o i=lkK w o j↔smB w o i j=true:=by
 unfold lkK smB
 have inj:∀{a b:List Str},(a.map Sum.inr:List Key)=b.map Sum.inr↔a=b:=fun {a b}=>map_inj_right fun x y e=>Sum.inr.inj e
 cases o<;>simp [inj]
theorem lc_start:Lc w o (numN ((List.range w.n).map (lkK w o))):=fun i j hi hj ⟨R,r,h⟩=>(nA_map hi hj).mpr (lkK_iff.mpr (r.sm i j hi hj h))
theorem lc_step (ok:w.Ok) {N:List Nat} (g:GdN w o N) (l:Lc w o N):Lc w o (numN ((List.range w.n).map (skK w N))):=fun i j hi hj ⟨R,r,h⟩=>(nA_map hi hj).mpr (by
 have hc:cla w N i=cla w N j:=by
  unfold cla
  refine List.filter_congr fun c _=>?_
  rw [Bool.eq_iff_iff,contains_iff_mem,contains_iff_mem,mem_map,mem_map]
  constructor
  ·rintro ⟨t,ht,rfl⟩
   obtain ⟨u,hu,x⟩:=r.fo i j hi hj h t ht
   exact ⟨u,hu,(l t u (ok.stp_lt ht) (ok.stp_lt hu) ⟨R,r,x⟩).symm⟩
  ·rintro ⟨t,ht,rfl⟩
   obtain ⟨u,hu,x⟩:=r.ba i j hi hj h t ht
   exact ⟨u,hu,l u t (ok.stp_lt hu) (ok.stp_lt ht) ⟨R,r,x⟩⟩
 unfold skK
 rw [hc,l i j hi hj ⟨R,r,h⟩])
theorem den_class2 (ok:w.Ok):∃N m ks,m_class_numbers [w.enc,.bool o]=.ok ⟨.leaf,rms N⟩/\CN w o N m/\ks.length=w.n/\N=numN ks/\m=(dst ks).length/\Lc w o N:=by
 have h24:=ok.h24
 have h1:=ok.h1
 let N0:=numN ((List.range w.n).map (lkK w o))
 have g0:GdN w o N0:=⟨⟨_,by simp,rfl⟩,fun i j hi hj e=>(nA_map hi hj).mp e⟩
 let stp (N:List Nat):List Nat:=numN ((List.range w.n).map (skK w N))
 have gs:∀N,GdN w o N->GdN w o (stp N):=fun N g=>⟨⟨_,by simp,rfl⟩,fun i j hi hj e=>g.look i j hi hj (by
  have:=(nA_map hi hj).mp e
  unfold skK at this
  injection this with h1 _
  injection h1 with h1
  injection h1 with h1
  omega)⟩
 have pt:∀N,GdN w o N->m_parted_by_steps [w.enc,rms N]=.ok ⟨.lst .leaf,rms (stp N)⟩:=fun N g=>den_parted ok g.len g.lt
 have c0:eComp .leaf 4 (iR1 (eCons (eCB gLen (eCons (eIdx (eVar 0) (eK (.int 0))) eNil)) eNil)) bTrue (eCall 3 m_look_of (eCons (eVar 0) (eCons (eVar 4) (eCons (eVar 1) eNil)))) (startD 5 [w.enc,.bool o])=.ok ⟨.lst .leaf,.list ((List.range w.n).map (lkD w o))⟩ (startD 5 [w.enc,.bool o]):=by
  have lo:=ok.g.lo
  refine eComp_tyA rm (List.range w.n) (fun r=>⟨(if o then .tup [.leaf,.leaf] else .tup [.leaf]),lkD w o r⟩) (st:=true) (R1_of (s:=.leaf) (n:=w.n) (by omega) (by simp [startD,Wd.enc,tup3,lo])) (by simp [startD]) rfl (by simp;omega) fun r hr=>?_
  have hr:=List.mem_range.mp hr
  obtain ⟨sh,e,hc⟩:=den_look2 ok (o:=o) hr
  subst hc
  exact ⟨v_call (v_cons (v_leaf rfl) (v_cons (v_leaf rfl) (v_cons (v_leaf rfl) v_nil))) e rfl rfl,by cases o<;>rfl⟩
 have e0:m_numbered [.list ((List.range w.n).map (lkD w o))]=.ok ⟨.lst .leaf,rms N0⟩:=den_num (by omega) (fun r _=>lk_K) (if o then [true,false] else [true]) fun r _=>by cases o<;>rfl
 obtain ⟨b,e,⟨gb,eb,lb⟩,ht⟩:=while_rel (c:=bOf gBool (eOp gNe (eVar 3) (eVar 2))) (g:=sSeq (sSet false 2 (eVar 3)) (sSet false 3 (eCall 2 m_parted_by_steps (eCons (eVar 0) (eCons (eVar 2) eNil))))) (G:=GC w o) (test:=fun b=>!(b.2==b.1)) (Inv:=fun b=>GdN w o b.1/\b.2=stp b.1/\Lc w o b.1) (meas:=fun b=>(eqs w.n b.1).length)
  (fun b _=>bb_bool (s:=.leaf) (v_op (v_leaf (i:=3) rfl) (v_leaf (i:=2) rfl) ne_rmsL))
  (fun b ⟨g,e,l⟩ hb=>by
   have ne:b.2≠b.1:=fun z=>by rw [z] at hb;simp at hb
   refine ⟨(b.2,stp b.2),x_seq (x_setL (v_leaf (i:=3) rfl) rfl (by simp)) (x_setL (v_call (v_cons (v_leaf (i:=0) rfl) (v_cons (v_leaf (i:=2) rfl) v_nil)) (pt b.2 (by rw [e];exact gs _ g)) rfl rfl) rfl (by simp)),⟨(by rw [e];exact gs _ g),rfl,(by rw [e];exact lc_step ok g l)⟩,?_⟩
   show (eqs w.n b.2).length<(eqs w.n b.1).length
   rw [e] at ne ⊢
   exact less_eqs g ne) 1000 (N0,stp N0) ⟨g0,rfl,lc_start⟩ (by
   have a:=length_filter_le (fun p=>nA N0 p.1==nA N0 p.2) (prL w.n)
   have b:=prL_len h24
   show (eqs w.n N0).length<1000
   unfold eqs
   omega)
 have wh:sWhile 1000 (bOf gBool (eOp gNe (eVar 3) (eVar 2))) (sSeq (sSet false 2 (eVar 3)) (sSet false 3 (eCall 2 m_parted_by_steps (eCons (eVar 0) (eCons (eVar 2) eNil))))) (GC w o (N0,stp N0))=.nx (GC w o b):=by
  unfold sWhile
  rw [e]
 have st:b.2=b.1:=by simpa using ht
 rw [st] at eb
 obtain ⟨ks,hk,en⟩:=gb.ks
 refine ⟨b.1,(dst ks).length,ks,rt_of (x_seq (x_setL (v_call (v_cons c0 v_nil) e0 rfl rfl) rfl (by simp [startD])) (x_seq (U1:=GC w o (N0,stp N0)) (x_setL (v_call (v_cons (v_leaf (i:=0) rfl) (v_cons (v_leaf (i:=2) rfl) v_nil)) (pt N0 g0) rfl rfl) rfl (by simp [startD])) (x_seq wh (x_ret (v_leaf (i:=2) rfl) rfl)))),⟨gb.len,?_,?_,?_,?_,gb.look,?_⟩,hk,en,rfl,lb⟩
 ·have:=numN_lt (ks:=ks) (i:=0) (by omega)
  omega
 ·have:=dst_le (ks:=ks)
  omega
 ·intro r hr
  rw [en]
  exact numN_lt (by omega)
 ·intro c hc
  obtain ⟨i,hi,e⟩:=numN_onto hc
  exact ⟨i,by omega,by rw [en];exact e⟩
 ·intro i j hi hj e t ht
  have e':nA (stp b.1) i=nA (stp b.1) j:=by rw [<-eb];exact e
  have:=(nA_map hi hj).mp e'
  unfold skK at this
  injection this with _ h2
  injection h2 with h2 _
  injection h2 with h2
  have hc:cla w b.1 i=cla w b.1 j:=map_key_inj h2
  have:nA b.1 t∈cla w b.1 j:=by rw [<-hc];exact (mem_cla gb.lt ok).mpr ⟨t,ht,rfl⟩
  obtain ⟨t',h1,h2⟩:=(mem_cla gb.lt ok).mp this
  exact ⟨t',h1,h2.symm⟩
theorem fold_app:∀(l acc:List (List T.It)),∃m,l.foldl dstep acc=acc++m
 | [],acc=>⟨[],by simp⟩
 | k::l,acc=>by
  obtain ⟨m,h⟩:=fold_app l (dstep acc k)
  rw [foldl_cons,h]
  unfold dstep
  split
  ·exact ⟨m,rfl⟩
  ·exact ⟨k::m,by simp⟩
theorem dst_pre {ks:List (List T.It)} (k:Nat):∃m,dst ks=dst (ks.take k)++m:=by
 obtain ⟨m,h⟩:=fold_app (ks.drop k) (dst (ks.take k))
 refine ⟨m,?_⟩
 rw [<-h]
 unfold dst
 rw [<-List.foldl_append,take_append_drop]
theorem nA_get {ks:List (List T.It)} {k:Nat} (hk:k<ks.length):nA (numN ks) k=ixK ks[k] (dst ks):=by
 unfold nA numN
 simp [List.getD,hk]
theorem nA_new {ks:List (List T.It)} {k:Nat} (hk:k<ks.length) (h:ks[k]∉dst (ks.take k)):nA (numN ks) k=(dst (ks.take k)).length:=by
 obtain ⟨m,e⟩:=dst_pre (ks:=ks) (k+1)
 rw [nA_get hk,e]
 have:dst (ks.take (k+1))=dst (ks.take k)++[ks[k]]:=by
  rw [dst_take hk]
  unfold dstep
  rw [if_neg fun z=>h (memB_iff.mp z)]
 rw [this,ixK_app (by simp),ixK_new h]
end
section
variable {w:Wd} {o:Bool} {N:List Nat} {m:Nat}
structure Bsm (w:Wd) (o:Bool) (B:Nat->Nat->Prop):Prop where
 lt:∀i j,B i j->i<w.n/\j<w.n
 look:∀i j,B i j->lkK w o i=lkK w o j
 fw:∀i j,B i j->∀t∈w.stp i,∃t'∈w.stp j,B t t'
 bw:∀i j,B i j->∀t'∈w.stp j,∃t∈w.stp i,B t t'
noncomputable def Crs (w:Wd) (o:Bool) (N:List Nat):Prop:=∀B,Bsm w o B->∀i j,B i j->nA N i=nA N j
theorem crs_of (l:Lc w o N):Crs w o N:=fun B hB i j hij=>l i j (hB.lt i j hij).1 (hB.lt i j hij).2 ⟨B,⟨fun i j _ _ h=>lkK_iff.mp (hB.look i j h),fun i j _ _ h t ht=>hB.fw i j h t ht,fun i j _ _ h r hr=>hB.bw i j h r hr⟩,hij⟩
theorem owI_lst (ok:w.Ok) (g:CN w o N m) {c:Nat} (hc:c<m):owI (lsW w N m) c=owI w (lea N w.n c):=by
 have e:∀q:Int,own (lsW w N m) q c=(owI w (lea N w.n c)==q):=fun q=>by
  show ((((LV w N m).map fun x=>PyData.int (owI w x)).map (isI q)).getD c false)=_
  unfold LV
  rw [getD_eq_getElem?_getD,getElem?_map,getElem?_map,getElem?_map,getElem?_range hc]
  rfl
 have h01:owI w (lea N w.n c)=0\/owI w (lea N w.n c)=1:=by
  generalize lea N w.n c=r
  unfold owI
  split
  ·exact .inl rfl
  ·exact .inr rfl
 show (if own (lsW w N m) 0 c then (0:Int) else 1)=_
 rw [e]
 rcases h01 with z | z<;>rw [z]<;>rfl
theorem look_lst (ok:w.Ok) (g:CN w o N m) {r:Nat} (hr:r<w.n):lkK (lsW w N m) o (nA N r)=lkK w o r:=by
 have hc:=g.lt r hr
 obtain ⟨_,_,h1,h2⟩:=lea_is g hc
 have l:=g.look _ r h1 hr h2
 have e:lkK (lsW w N m) o (nA N r)=lkK w o (lea N w.n (nA N r)):=by
  unfold lkK
  rw [(lst_at hc).1,owI_lst ok g hc]
 rw [e,l]
theorem lst_inj (ok:w.Ok) (g:CN w o N m) (c:Crs w o N) {N':List Nat} (g':CN (lsW w N m) o N' m') {a b:Nat} (ha:a<m) (hb:b<m) (h:nA N' a=nA N' b):a=b:=by
 obtain ⟨_,up,dn⟩:=lst_mor ok g
 have half:∀i j,i<w.n->j<w.n->nA N' (nA N i)=nA N' (nA N j)->∀t∈w.stp i,∃t'∈w.stp j,nA N' (nA N t)=nA N' (nA N t'):=fun i j hi hj e t ht=>by
  obtain ⟨c',hc',e'⟩:=g'.st _ _ (g.lt i hi) (g.lt j hj) e _ (up i hi t ht)
  obtain ⟨t',ht',rfl⟩:=dn j hj c' hc'
  exact ⟨t',ht',e'⟩
 have B:Bsm w o fun i j=>i<w.n/\j<w.n/\nA N' (nA N i)=nA N' (nA N j):=by
  refine ⟨fun i j h=>⟨h.1,h.2.1⟩,fun i j ⟨hi,hj,e⟩=>?_,fun i j ⟨hi,hj,e⟩ t ht=>?_,fun i j ⟨hi,hj,e⟩ t ht=>?_⟩
  ·have:=g'.look _ _ (g.lt i hi) (g.lt j hj) e
   rwa [look_lst ok g hi,look_lst ok g hj] at this
  ·obtain ⟨t',ht',e'⟩:=half i j hi hj e t ht
   exact ⟨t',ht',ok.stp_lt ht,ok.stp_lt ht',e'⟩
  ·obtain ⟨t',ht',e'⟩:=half j i hj hi e.symm t ht
   exact ⟨t',ht',ok.stp_lt ht',ok.stp_lt ht,e'.symm⟩
 obtain ⟨i,hi,rfl⟩:=g.onto a ha
 obtain ⟨j,hj,rfl⟩:=g.onto b hb
 exact c _ B i j ⟨hi,hj,h⟩
theorem cls_mor {v:Wd} {f:Nat->Nat} {Nv:List Nat} {mv:Nat} (E:Mor w.n w.stp f v.n v.stp) (lk:∀r,r<w.n->lkK v o (f r)=lkK w o r) (g:CN w o N m) (c:Crs w o N) (gv:CN v o Nv mv) (cv:Crs v o Nv) {i j:Nat} (hi:i<w.n) (hj:j<w.n):nA N i=nA N j↔nA Nv (f i)=nA Nv (f j):=by
 constructor
 ·intro e
  have half:∀i j,i<w.n->j<w.n->nA N i=nA N j->∀t∈v.stp (f i),∃t'∈v.stp (f j),∃a b,t=f a/\t'=f b/\a<w.n/\b<w.n/\nA N a=nA N b:=fun i j hi hj e t ht=>by
   obtain ⟨u,hu,rfl⟩:=E.dn i hi t ht
   obtain ⟨u',hu',e'⟩:=g.st i j hi hj e u hu
   exact ⟨f u',E.up j hj u' hu',u,u',rfl,rfl,E.cl i u hu,E.cl j u' hu',e'⟩
  refine cv (fun x y=>∃a b,x=f a/\y=f b/\a<w.n/\b<w.n/\nA N a=nA N b) ⟨?_,?_,?_,?_⟩ _ _ ⟨i,j,rfl,rfl,hi,hj,e⟩
  ·rintro x y ⟨a,b,rfl,rfl,ha,hb,_⟩
   exact ⟨E.lt a ha,E.lt b hb⟩
  ·rintro x y ⟨a,b,rfl,rfl,ha,hb,h⟩
   rw [lk a ha,lk b hb]
   exact g.look a b ha hb h
  ·rintro x y ⟨a,b,rfl,rfl,ha,hb,h⟩ t ht
   exact half a b ha hb h t ht
  ·rintro x y ⟨a,b,rfl,rfl,ha,hb,h⟩ t ht
   obtain ⟨t',ht',p,q,e1,e2,hp,hq,hpq⟩:=half b a hb ha h.symm t ht
   exact ⟨t',ht',q,p,e2,e1,hq,hp,hpq.symm⟩
 ·intro e
  have half:∀i j,i<w.n->j<w.n->nA Nv (f i)=nA Nv (f j)->∀t∈w.stp i,∃t'∈w.stp j,nA Nv (f t)=nA Nv (f t'):=fun i j hi hj e t ht=>by
   obtain ⟨c',hc',e'⟩:=gv.st _ _ (E.lt i hi) (E.lt j hj) e _ (E.up i hi t ht)
   obtain ⟨t',ht',rfl⟩:=E.dn j hj c' hc'
   exact ⟨t',ht',e'⟩
  refine c (fun i j=>i<w.n/\j<w.n/\nA Nv (f i)=nA Nv (f j)) ⟨fun i j h=>⟨h.1,h.2.1⟩,fun i j ⟨hi,hj,e⟩=>?_,fun i j ⟨hi,hj,e⟩ t ht=>?_,fun i j ⟨hi,hj,e⟩ t ht=>?_⟩ i j ⟨hi,hj,e⟩
  ·have:=gv.look _ _ (E.lt i hi) (E.lt j hj) e
   rwa [lk i hi,lk j hj] at this
  ·obtain ⟨t',ht',e'⟩:=half i j hi hj e t ht
   exact ⟨t',ht',E.cl i t ht,E.cl j t' ht',e'⟩
  ·obtain ⟨t',ht',e'⟩:=half j i hj hi e.symm t ht
   exact ⟨t',ht',E.cl i t' ht',E.cl j t ht,e'.symm⟩
theorem numN_pat {ks ks':List (List T.It)} (hl:ks.length=ks'.length) (h:∀i j,i<ks.length->j<ks.length->((numN ks).getD i 0=(numN ks).getD j 0↔(numN ks').getD i 0=(numN ks').getD j 0)):numN ks=numN ks':=by
 have:=nums_pat hl fun i j hi hj=>by
  rw [<-numN_eq hi hj,<-numN_eq (by omega) (by omega)]
  exact h i j hi hj
 rw [nums_N,nums_N] at this
 exact map_inj_right (f:=fun n:Nat=>(n:Int)) (fun a b e=>by omega) |>.mp this
theorem dst_nd {ks:List (List T.It)} (nd:ks.Nodup):∀m,m<=ks.length->dst (ks.take m)=ks.take m
 | 0,_=>by simp [dst]
 | m+1,hm=>by
  have ih:=dst_nd nd m (by omega)
  rw [dst_take (by omega),ih]
  have hn:ks[m]∉ks.take m:=fun z=>by
   obtain ⟨i,hi,e⟩:=getElem_of_mem z
   rw [length_take] at hi
   rw [getElem_take] at e
   exact List.pairwise_iff_getElem.mp nd i m (by omega) (by omega) (by omega) e
  have e:ks.take (m+1)=ks.take m++[ks[m]]:=by rw [take_succ,getElem?_eq_getElem (by omega)];rfl
  rw [e]
  unfold dstep
  rw [if_neg (fun z=>hn (memB_iff.mp z))]
theorem numN_range {ks:List (List T.It)} (nd:ks.Nodup):numN ks=List.range ks.length:=by
 have hd:dst ks=ks:=by
  have:=dst_nd nd ks.length (Nat.le_refl _)
  rwa [take_of_length_le (Nat.le_refl _)] at this
 apply ext_getElem?
 intro c
 by_cases hc:c<ks.length
 ·have:=dst_nodup_ix (ks:=ks) ks.length (Nat.le_refl _) c ks[c] (by rw [take_of_length_le (Nat.le_refl _),hd];exact getElem?_eq_getElem hc)
  rw [take_of_length_le (Nat.le_refl _)] at this
  unfold numN
  rw [getElem?_map,getElem?_eq_getElem hc,getElem?_range hc]
  exact congrArg some this
 ·unfold numN
  rw [getElem?_eq_none (by rw [length_map];omega),getElem?_eq_none (by rw [length_range];omega)]
theorem lst_range (ok:w.Ok) (g:CN w o N m) (c:Crs w o N) {ks:List (List T.It)} (hk:ks.length=m) (g':CN (lsW w N m) o (numN ks) m'):numN ks=List.range m:=by
 rw [<-hk]
 refine numN_range (List.pairwise_iff_getElem.mpr fun i j hi hj hij e=>?_)
 have:=lst_inj ok g c g' (by omega) (by omega) ((numN_eq hi hj).mpr e)
 omega
theorem dst_fold {ks:List (List T.It)}:∀(l:List (List T.It)),(∀k∈l,k∈dst ks)->l.foldl dstep (dst ks)=dst ks
 | [],_=>rfl
 | k::l,h=>by
  rw [foldl_cons]
  have:dstep (dst ks) k=dst ks:=by
   unfold dstep
   rw [if_pos (memB_iff.mpr (h k mem_cons_self))]
  rw [this]
  exact dst_fold l fun x hx=>h x (mem_cons_of_mem _ hx)
theorem numN_twice {ks:List (List T.It)}:numN (ks++ks)=numN ks++numN ks:=by
 have e:dst (ks++ks)=dst ks:=by
  show (ks++ks).foldl dstep []=_
  rw [List.foldl_append]
  exact dst_fold ks fun k hk=>mem_dst.mpr hk
 unfold numN
 rw [e,map_append]
noncomputable def fold (n r:Nat):Nat:=if r<n then r else r-n
theorem fold_lt {n r:Nat} (h:r<n+n):fold n r<n:=by
 unfold fold
 split<;>omega
theorem bes_cases (ok:w.Ok) {r:Nat} (hr:r<w.n+w.n):(bes w w).mks r=w.mks (fold w.n r)/\(∀q,own (bes w w) q r=own w q (fold w.n r))/\(bes w w).stp r=(w.stp (fold w.n r)).map fun t=>if r<w.n then t else t+w.n:=by
 unfold fold
 by_cases h:r<w.n
 ·simp only [if_pos h]
  exact ⟨bes_mks1 ok h,fun q=>bes_own1 ok h,by rw [bes_stp1 ok h];simp⟩
 ·simp only [if_neg h]
  obtain ⟨k,rfl⟩:∃k,r=k+w.n:=⟨r-w.n,by omega⟩
  rw [Nat.add_sub_cancel]
  exact ⟨bes_mks2 ok,fun q=>bes_own2 ok,bes_stp2 ok⟩
theorem bes_fold (ok:w.Ok):Mor (bes w w).n (bes w w).stp (fold w.n) w.n w.stp:=by
 have ltT:∀r t,t∈(bes w w).stp r->t<w.n+w.n:=fun r t ht=>by
  by_cases hr:r<w.n+w.n
  ·rw [(bes_cases ok hr).2.2] at ht
   obtain ⟨u,hu,rfl⟩:=List.mem_map.mp ht
   have:=ok.stp_lt hu
   split<;>omega
  ·have:(bes w w).stp r=[]:=by
    unfold Wd.stp
    rw [getD_eq_getElem?_getD,getElem?_eq_none (by simp [bes,ok.ls];omega)]
    rfl
   rw [this] at ht
   cases ht
 have fd:∀{r u:Nat},u<w.n->fold w.n (if r<w.n then u else u+w.n)=u:=fun {r u} hu=>by
  unfold fold
  by_cases h:r<w.n
  ·rw [if_pos h,if_pos hu]
  ·rw [if_neg h,if_neg (by omega)]
   omega
 refine ⟨ltT,fun r hr=>fold_lt hr,fun r hr t ht=>?_,fun r hr c hc=>?_⟩
 ·rw [(bes_cases ok hr).2.2] at ht
  obtain ⟨u,hu,rfl⟩:=List.mem_map.mp ht
  rw [fd (ok.stp_lt hu)]
  exact hu
 ·refine ⟨if r<w.n then c else c+w.n,?_,fd (ok.stp_lt hc)⟩
  rw [(bes_cases ok hr).2.2]
  exact List.mem_map.mpr ⟨c,hc,rfl⟩
theorem bes_nums (ok:w.Ok) {ks kb:List (List T.It)} {mb:Nat} (hk:ks.length=w.n) (hb:kb.length=w.n+w.n) (g:CN w o (numN ks) m) (c:Crs w o (numN ks)) (gb:CN (bes w w) o (numN kb) mb) (cb:Crs (bes w w) o (numN kb)):numN kb=numN ks++numN ks:=by
 have lk:∀r,r<(bes w w).n->lkK w o (fold w.n r)=lkK (bes w w) o r:=fun r hr=>by
  obtain ⟨h1,h2,_⟩:=bes_cases ok hr
  unfold lkK owI
  rw [h1,h2]
 have nl:(numN ks).length=w.n:=by rw [numN_len,hk]
 have at2:∀i,i<w.n+w.n->(numN ks++numN ks).getD i 0=nA (numN ks) (fold w.n i):=fun i hi=>by
  rw [nA,getD_eq_getElem?_getD,getD_eq_getElem?_getD]
  unfold fold
  by_cases h:i<w.n
  ·rw [if_pos h,getElem?_append_left (by omega)]
  ·rw [if_neg h,getElem?_append_right (by omega),nl]
 rw [<-numN_twice]
 refine numN_pat (by rw [hb,length_append,hk]) fun i j hi hj=>?_
 rw [numN_twice,at2 i (by omega),at2 j (by omega)]
 exact cls_mor (w:=bes w w) (v:=w) (bes_fold ok) lk gb cb g c (by show i<w.n+w.n;omega) (by show j<w.n+w.n;omega)
end
end KC
namespace KC.Z
open PySem PySem.Spec L2 T PySem.SeqAt
open PyProof.Rows hiding St
open KC
variable {n c x a:Nat}
theorem rise_ext:∀{a b:List Nat},a.Pairwise (· < ·)->b.Pairwise (· < ·)->(∀x,x∈a↔x∈b)->a=b
 | [],[],_,_,_=>rfl
 | [],y::b,_,_,h=>by have:=(h y).mpr mem_cons_self;cases this
 | x::a,[],_,_,h=>by have:=(h x).mp mem_cons_self;cases this
 | x::a,y::b,ha,hb,h=>by
  obtain ⟨a1,a2⟩:=List.pairwise_cons.mp ha
  obtain ⟨b1,b2⟩:=List.pairwise_cons.mp hb
  have e:x=y:=by
   rcases List.mem_cons.mp ((h x).mp mem_cons_self) with z | z
   ·exact z
   ·rcases List.mem_cons.mp ((h y).mpr mem_cons_self) with u | u
    ·exact u.symm
    ·have:=a1 y u
     have:=b1 x z
     omega
  subst e
  congr 1
  refine rise_ext a2 b2 fun z=>⟨fun hz=>?_,fun hz=>?_⟩
  ·rcases List.mem_cons.mp ((h z).mp (mem_cons_of_mem _ hz)) with u | u
   ·have:=a1 z hz;omega
   ·exact u
  ·rcases List.mem_cons.mp ((h z).mpr (mem_cons_of_mem _ hz)) with u | u
   ·have:=b1 z hz;omega
   ·exact u
theorem cl_rowsN:∀{S:List (List Nat)},PyData.canLayAll0 (S.map rms)=true/\PyData.depthAll (S.map rms)<=1:=fun {S}=>cl_rows fun r hr=>by
 obtain ⟨l,_,rfl⟩:=List.mem_map.mp hr
 exact ⟨_,rfl,cl_I fun d hd=>let ⟨x,_,e⟩:=List.mem_map.mp hd;⟨_,e.symm⟩⟩
theorem sh_rows {S:List (List Nat)}:shaped (.list (S.map rms))=true:=by
 have q:=cl_rowsN (S:=S)
 unfold shaped
 rw [PyData.canLay0,q.1,Bool.true_and]
 exact decide_eq_true (by rw [PyData.depth];have:=q.2;omega)
theorem keyW {w:Wd} (ok:w.Ok):PyData.canLay0 w.enc=true/\PyData.depth w.enc<=3:=by
 have h:=ok.g.wk (b:=24) ok.h24
 have o:=cl_I h.o
 have m:=cl_rows fun r hr=>let ⟨xs,e,q,_⟩:=h.m r hr;⟨xs,e,cl_S q⟩
 have s:=cl_rows fun r hr=>let ⟨xs,e,q,_⟩:=h.s r hr;⟨xs,e,cl_I q⟩
 simp only [Wd.enc,tup3,PyData.canLay0,PyData.canLayAll0,PyData.depth,PyData.depthAll,o.1,m.1,s.1,o.2,Bool.and_self,Bool.true_and,true_and]
 have:=m.2
 have:=s.2
 omega
theorem sh_encW {w:Wd} (ok:w.Ok):shaped w.enc=true:=by
 have key:=keyW ok
 unfold shaped
 rw [key.1,Bool.true_and]
 exact decide_eq_true (by have:=key.2;omega)
theorem shW_depth {w:Wd} (ok:w.Ok):PyData.depth w.enc<=3:=(keyW ok).2
section
variable {w:Wd} {o:Bool} {N:List Nat} {m:Nat}
theorem mem_grp:x∈grp N n c↔x<n/\nA N x=c:=by
 unfold grp
 rw [mem_filter,mem_range]
 simp
theorem grp_rise:(grp N n c).Pairwise (· < ·):=List.pairwise_lt_range.filter _
theorem lea_le (h:x∈grp N n c):lea N n c<=x:=by
 have r:=grp_rise (N:=N) (n:=n) (c:=c)
 unfold lea
 cases e:grp N n c with
 | nil=>rw [e] at h;cases h
 | cons a t=>
  rw [e] at h r
  rcases List.mem_cons.mp h with z | z
  ·rw [z];exact Nat.le_refl _
  ·exact Nat.le_of_lt ((List.pairwise_cons.mp r).1 x z)
theorem den_classesK (ok:w.Ok) (g:CN w o N m) (eN:m_class_numbers [w.enc,.bool o]=.ok ⟨.leaf,rms N⟩):m_classes [w.enc,.bool o]=.ok ⟨.lst (.lst .leaf),.list (((List.range m).map (grp N w.n)).map rms)⟩:=by
 rw [map_map]
 exact rt_of (x_seq (x_drop' (v_call (v_cons (v_leaf rfl) v_nil) ok.check rfl rfl)) (x_ret (v_call (v_cons (v_call (v_cons (v_leaf rfl) (v_cons (v_leaf rfl) v_nil)) eN rfl rfl) v_nil) (den_grouped g ok.h24) rfl rfl) rfl))
theorem nA_range {m r:Nat} (h:r<m):nA (List.range m) r=r:=by
 unfold nA
 rw [getD_eq_getElem?_getD,getElem?_range h]
 rfl
theorem grp_range {m:Nat} (hc:c<m):grp (List.range m) m c=[c]:=rise_ext grp_rise (by simp) fun x=>by
 rw [mem_grp,List.mem_singleton]
 constructor
 ·rintro ⟨h1,h2⟩;rw [nA_range h1] at h2;exact h2
 ·rintro rfl;exact ⟨hc,nA_range hc⟩
theorem grps_range {m:Nat}:(List.range m).map (grp (List.range m) m)=(List.range m).map fun c=>[c]:=map_congr_left fun c hc=>grp_range (List.mem_range.mp hc)
theorem lst_twice (ok:w.Ok) (g:CN w o N m):lsW (lsW w N m) (List.range m) m=lsW w N m:=by
 have ov:=lst_ok ok g
 have eL:LV (lsW w N m) (List.range m) m=List.range m:=by
  unfold LV
  have:∀c∈List.range m,lea (List.range m) (lsW w N m).n c=id c:=fun c hc=>by
   unfold lea
   show (grp (List.range m) m c).headD 0=c
   rw [grp_range (List.mem_range.mp hc)]
   rfl
  rw [map_congr_left this,List.map_id]
 have e1:(List.range m).map (fun x=>PyData.int (owI (lsW w N m) x))=(LV w N m).map fun x=>.int (owI w x):=by
  unfold LV
  rw [map_map]
  exact map_congr_left fun c hc=>by show PyData.int _=PyData.int _;rw [owI_lst ok g (List.mem_range.mp hc)]
 have e2:(List.range m).map (lsW w N m).mks=(LV w N m).map w.mks:=by
  unfold LV
  rw [map_map]
  exact map_congr_left fun c hc=>(lst_at (List.mem_range.mp hc)).1
 have e3:(List.range m).map (cla (lsW w N m) (List.range m))=(LV w N m).map (cla w N):=by
  unfold LV
  rw [map_map]
  refine map_congr_left fun c hc=>?_
  have hc:=List.mem_range.mp hc
  show cla (lsW w N m) (List.range m) c=cla w N (lea N w.n c)
  rw [<-(lst_at (w:=w) (N:=N) hc).2]
  have ltS:∀t∈(lsW w N m).stp c,t<m:=fun t ht=>ov.stp_lt ht
  refine rise_ext (List.pairwise_lt_range.filter _) ?_ fun x=>?_
  ·rw [(lst_at (w:=w) (N:=N) hc).2]
   exact List.pairwise_lt_range.filter _
  ·unfold cla
   rw [mem_filter,mem_range,contains_iff_mem,mem_map]
   constructor
   ·rintro ⟨_,t,ht,e⟩
    rw [nA_range (ltS t ht)] at e
    rw [<-e];exact ht
   ·intro hx
    exact ⟨ltS x hx,x,hx,nA_range (ltS x hx)⟩
 have:lsW (lsW w N m) (List.range m) m=⟨m,(LV (lsW w N m) (List.range m) m).map (fun x=>.int (owI (lsW w N m) x)),(LV (lsW w N m) (List.range m) m).map (lsW w N m).mks,(LV (lsW w N m) (List.range m) m).map (cla (lsW w N m) (List.range m))⟩:=rfl
 rw [this,eL,e1,e2,e3]
 rfl
theorem m_same {N':List Nat} {v:Wd} {m':Nat} (g:CN w o N m) (g':CN v o N' m') (h1:∀r,r<v.n->∃r',r'<w.n/\nA N' r=nA N r') (h2:∀r,r<w.n->∃r',r'<v.n/\nA N r=nA N' r'):m'=m:=by
 have a:m'<=m:=by
  obtain ⟨r,hr,e⟩:=g'.onto (m'-1) (by have:=g'.m1;omega)
  obtain ⟨r',hr',e'⟩:=h1 r hr
  have:=g.lt r' hr'
  omega
 have b:m<=m':=by
  obtain ⟨r,hr,e⟩:=g.onto (m-1) (by have:=g.m1;omega)
  obtain ⟨r',hr',e'⟩:=h2 r hr
  have:=g'.lt r' hr'
  omega
 omega
theorem grp_twice (hl:N.length=n):grp (N++N) (n+n) c=grp N n c++(grp N n c).map fun r=>r+n:=by
 refine rise_ext grp_rise ?_ fun x=>?_
 ·refine List.pairwise_append.mpr ⟨grp_rise,?_,fun a ha b hb=>?_⟩
  ·rw [pairwise_map]
   exact grp_rise.imp fun h=>by omega
  ·obtain ⟨r,_,rfl⟩:=List.mem_map.mp hb
   have:=(mem_grp.mp ha).1
   omega
 ·have at1:∀r,r<n->nA (N++N) r=nA N r:=fun r hr=>by unfold nA;rw [getD_eq_getElem?_getD,getD_eq_getElem?_getD,getElem?_append_left (by omega)]
  have at2:∀r,r<n->nA (N++N) (r+n)=nA N r:=fun r hr=>by unfold nA;rw [getD_eq_getElem?_getD,getD_eq_getElem?_getD,getElem?_append_right (by omega),hl,Nat.add_sub_cancel]
  rw [mem_grp,List.mem_append,mem_grp,mem_map]
  constructor
  ·rintro ⟨h1,h2⟩
   by_cases h:x<n
   ·rw [at1 x h] at h2;exact .inl ⟨h,h2⟩
   ·have:x-n+n=x:=by omega
    rw [<-this,at2 _ (by omega)] at h2
    exact .inr ⟨x-n,mem_grp.mpr ⟨by omega,h2⟩,this⟩
  ·rintro (⟨h1,h2⟩ | ⟨r,hr,rfl⟩)
   ·exact ⟨by omega,by rw [at1 x h1];exact h2⟩
   ·obtain ⟨h1,h2⟩:=mem_grp.mp hr
    exact ⟨by omega,by rw [at2 r h1];exact h2⟩
theorem lea_mono {ks:List (List T.It)} (hk:ks.length=w.n) (g:CN w o (numN ks) m) {b:Nat} (hab:a<b) (hb:b<m):lea (numN ks) w.n a<lea (numN ks) w.n b:=by
 obtain ⟨t,et,hlt,hnum⟩:=lea_is g hb
 generalize hr:lea (numN ks) w.n b=r at *
 have hrk:r<ks.length:=by omega
 have new:ks[r]∉dst (ks.take r):=fun z=>by
  rw [mem_dst] at z
  obtain ⟨i,hi,e⟩:=List.mem_iff_getElem.mp z
  rw [length_take] at hi
  rw [getElem_take] at e
  have h1:nA (numN ks) i=nA (numN ks) r:=(numN_eq (by omega) hrk).mpr e
  have:=lea_le (N:=numN ks) (n:=w.n) (c:=b) (x:=i) (mem_grp.mpr ⟨by omega,by rw [h1];exact hnum⟩)
  omega
 have hc:=nA_new hrk new
 rw [hnum] at hc
 obtain ⟨i,hi,e⟩:=numN_onto (ks:=ks.take r) (c:=a) (by omega)
 rw [length_take] at hi
 have e2:nA (numN ks) i=a:=by
  obtain ⟨mm,em⟩:=dst_pre (ks:=ks) r
  have e1:nA (numN (ks.take r)) i=a:=e
  rw [nA_get (by rw [length_take];omega)] at e1
  rw [nA_get (by omega),em,ixK_app (mem_dst.mpr (by rw [<-getElem_take (h:=by rw [length_take];omega)];exact getElem_mem _))]
  rw [getElem_take] at e1
  exact e1
 have:=lea_le (N:=numN ks) (n:=w.n) (c:=a) (x:=i) (mem_grp.mpr ⟨by omega,e2⟩)
 omega
theorem lk_pl (h:PlOk w R) {k:Nat} (hk:k<R.length):lkK w o (atR R k)=lkK (plW w R) o k:=by
 unfold lkK owI
 rw [pl_mks hk,pl_own h hk]
end
noncomputable def intsR (r:List Nat):List Int:=r.map fun t:Nat=>(t:Int)
theorem rowsOf_rms:∀{L:List (List Nat)},rowsOf (L.map rms)=some (L.map intsR)
 | []=>rfl
 | r::L=>by
  have e:rowOf (rms r)=some (intsR r):=by
   show T.intsOf (r.map rm)=_
   rw [show (r.map rm)=(intsR r).map .int by unfold intsR;rw [map_map];rfl,intsOf_map]
  rw [map_cons,rowsOf,e,rowsOf_rms]
  rfl
theorem rowD_ints {r:List Nat}:rowD (intsR r)=rms r:=by
 unfold rowD intsR
 rw [map_map]
 rfl
theorem hdI_ints {r:List Nat} (h:r≠[]):hdI (intsR r)=((r.headD 0:Nat):Int):=by
 cases r with
 | nil=>exact absurd rfl h
 | cons a t=>rfl
theorem sortR_perm {rows L:List (List Int)} (p:rows.Perm L) (hL:(L.map hdI).Pairwise (· < ·)):sortR rows=L:=by
 have ndL:(L.map hdI).Nodup:=hL.imp fun {a b} h z=>by subst z;omega
 have ndR:(rows.map hdI).Nodup:=(p.map hdI).nodup_iff.mpr ndL
 have e:L.map hdI=PySem.W.sortI (rows.map hdI):=PySem.W.eq_sortI (p.symm.map hdI) (hL.imp fun h=>by omega)
 unfold sortR
 rw [<-e,map_map]
 have key:∀r∈L,((fun h=>(rows.find? fun r=>hdI r==h).getD [])∘hdI) r=id r:=fun r hr=>by
  obtain ⟨i,hi,ei⟩:=getElem_of_mem (p.mem_iff.mpr hr)
  show (rows.find? fun r'=>hdI r'==hdI r).getD []=r
  rw [<-ei,find_head ndR hi]
  rfl
 rw [map_congr_left key,List.map_id]
theorem x_insR {U:Ev} {i:Nat} {fl:FL} {q p:PV} {ds:List D} {k:Nat} (ho:U[i]?=some (some ⟨.lst .leaf,.list ds⟩)) (h:fl U=.ok [q,p] U) (hq:q.d=.int (k:Int)) (hk:k<=ds.length) (hl:ds.length<=900) (hc:coer .leaf p=true):sIns i fl U=.nx (U.set i (some ⟨.lst .leaf,.list (ds.take k++p.d::ds.drop k)⟩)):=by
 unfold sIns isOwnLf
 rw [ho]
 simp only [if_true,h]
 unfold insK
 rw [ho,hq]
 simp only [hc,Bool.and_true]
 rw [decide_eq_true (show (0:Int)<=(k:Int) by omega),decide_eq_true (show (k:Int)<=(ds.length:Int) by omega),decide_eq_true (show ds.length<10000 by omega)]
 simp
theorem ins_perm {O:List Nat} {k:Nat}:(O.take k++a::O.drop k).Perm (O++[a]):=by
 have h1:(O.take k++a::O.drop k).Perm (a::(O.take k++O.drop k)):=List.perm_middle
 rw [take_append_drop] at h1
 exact h1.trans (List.perm_append_singleton a O).symm
noncomputable abbrev GZ (xs:List D) (w v:Wd) (o:Bool) (N:List Nat) (m:Nat) (x5 x6 x7 x8 x9:Option PV):Ev:=[some ⟨.leaf,.list xs⟩,some ⟨.leaf,w.enc⟩,some ⟨.leaf,.bool o⟩,some ⟨.leaf,.int (w.n:Int)⟩,some ⟨.leaf,.int (m:Int)⟩,x5,x6,x7,x8,x9,some ⟨.leaf,v.enc⟩,some ⟨.leaf,rms N⟩,none]
noncomputable abbrev insB:FS:=sIns 7 (eCons (eOp gMod (eCall 3 m__law_draw (eCons (eCall 2 m__law_cell_at (eCons (eVar 0) (eCons (eK (.int 1)) eNil))) (eCons (eVar 8) (eCons (eK (.int 720)) eNil)))) (eOp gAddI (eVar 8) (eK (.int 1)))) (eCons (eVar 8) eNil))
theorem ord_loop {xs:List D} (hx:RowI xs) {w v:Wd} {o:Bool} {N:List Nat} {m:Nat} (ok:w.Ok) {x5 x6:Option PV}:∃O x8,O.Perm (List.range w.n)/\forGo 8 insB ((List.range w.n).map rm) (GZ xs w v o N m x5 x6 (some ⟨.lst .leaf,rms []⟩) none none)=.nx (GZ xs w v o N m x5 x6 (some ⟨.lst .leaf,rms O⟩) x8 none):=by
 have h24:=ok.h24
 obtain ⟨c,hc⟩:=den_cell hx (k:=1) (by omega)
 obtain ⟨U2,e,pre,O,x8,hpre,hp,eU⟩:=forGo_inv rm (i:=8) (body:=insB) (Inv:=fun rest U=>∃(pre O:List Nat) (x8:Option PV),pre++rest=List.range w.n/\O.Perm pre/\U=GZ xs w v o N m x5 x6 (some ⟨.lst .leaf,rms O⟩) x8 none)
  (fun a rest U ⟨pre,O,x8,hpre,hp,e⟩=>by
   subst e
   refine ⟨by simp,?_⟩
   have hlen:pre.length+(rest.length+1)=w.n:=by
    have:=congrArg List.length hpre
    rwa [length_append,length_cons,length_range] at this
   have ha:a=pre.length:=by
    have h1:(pre++a::rest)[pre.length]?=some a:=by rw [getElem?_append_right (Nat.le_refl _),Nat.sub_self];rfl
    rw [hpre,getElem?_range (by omega)] at h1
    exact (Option.some.inj h1).symm
   have hO:O.length=a:=by rw [hp.length_eq,ha]
   have dd:=den_drw (c:=c) (k:=(a:Int)) (b:=720) (by omega) (by omega) (by omega) (by omega)
   have h0:0<=drw c (a:Int) 720 % ((a:Int)+1):=Int.emod_nonneg _ (by omega)
   have h1:drw c (a:Int) 720 % ((a:Int)+1)<(a:Int)+1:=Int.emod_lt_of_pos _ (by omega)
   obtain ⟨k,hk⟩:=Int.eq_ofNat_of_zero_le h0
   refine ⟨_,x_insR (k:=k) (q:=⟨.leaf,.int (k:Int)⟩) (p:=⟨.leaf,rm a⟩) (ds:=O.map rm) rfl (v_cons (v_op (g:=gMod) (v_call (v_cons (v_call (v_cons (v_leaf rfl) (v_cons v_k v_nil)) hc rfl rfl) (v_cons (v_leaf rfl) (v_cons v_k v_nil))) dd rfl rfl) (v_op (g:=gAddI) (v_leaf rfl) v_k add_int') ?_) (v_cons (v_leaf rfl) v_nil)) rfl (by rw [length_map];omega) (by rw [length_map];omega) rfl,pre++[a],O.take k++a::O.drop k,some ⟨.leaf,rm a⟩,by rw [append_assoc];exact hpre,ins_perm.trans (hp.append_right [a]),?_⟩
   ·show gMod (.int _) (.int _)=_
    rw [mod_i (by omega),hk]
   ·rw [<-List.map_take,<-List.map_drop,show (O.take k).map rm++rm a::(O.drop k).map rm=(O.take k++a::O.drop k).map rm by simp]
    rfl) (List.range w.n) (GZ xs w v o N m x5 x6 (some ⟨.lst .leaf,rms []⟩) none none) ⟨[],[],none,rfl,List.Perm.refl _,rfl⟩
 subst eU
 rw [append_nil] at hpre
 rw [hpre] at hp
 exact ⟨O,x8,hp,e⟩
section
variable {w:Wd} {o:Bool} {N NV:List Nat} {m mV:Nat} {O:List Nat}
noncomputable def phi (N NV O:List Nat) (n c:Nat):Nat:=nA N (atR O (lea NV n c))
theorem ren_row (ok:w.Ok) (p:O.Perm (List.range w.n)) (h:∀i j,i<w.n->j<w.n->(nA NV i=nA NV j↔nA N (atR O i)=nA N (atR O j))) (gV:CN (plW w O) o NV mV) (hc:c<mV):PySem.W.sortI (intsR ((grp NV w.n c).map (atR O)))=intsR (grp N w.n (phi N NV O w.n c)):=by
 obtain ⟨_,_,_,hl⟩:=pl_perm ok p
 have eV:(plW w O).n=w.n:=hl
 obtain ⟨t,et,hlt,hnum⟩:=lea_is gV hc
 rw [eV] at hlt hnum et
 have atI:∀{i j},i<w.n->j<w.n->atR O i=atR O j->i=j:=fun {i j} hi hj e=>by
  have nd:O.Nodup:=p.nodup_iff.mpr nodup_range
  unfold atR at e
  rw [getD_eq_getElem?_getD,getD_eq_getElem?_getD,getElem?_eq_getElem (by omega),getElem?_eq_getElem (by omega)] at e
  exact (List.getElem_inj nd).mp e
 have pm:(grp N w.n (phi N NV O w.n c)).Perm ((grp NV w.n c).map (atR O)):=by
  refine (perm_ext_iff_of_nodup ?_ ?_).mpr fun x=>?_
  ·exact grp_rise.imp fun {a b} h z=>by omega
  ·rw [List.nodup_iff_pairwise_ne,pairwise_map]
   refine List.Pairwise.imp_of_mem ?_ (grp_rise (N:=NV) (n:=w.n) (c:=c))
   intro a b ha hb hab e
   have:=atI (mem_grp.mp ha).1 (mem_grp.mp hb).1 e
   omega
  ·rw [mem_grp,mem_map]
   constructor
   ·rintro ⟨h1,h2⟩
    obtain ⟨i,hi,e⟩:=at_of_mem (R:=O) (t:=x) (p.mem_iff.mpr (List.mem_range.mpr h1))
    refine ⟨i,mem_grp.mpr ⟨by omega,?_⟩,e⟩
    rw [<-hnum]
    exact (h i _ (by omega) hlt).mpr (by rw [e];exact h2)
   ·rintro ⟨i,hi,rfl⟩
    obtain ⟨h1,h2⟩:=mem_grp.mp hi
    exact ⟨List.mem_range.mp (p.mem_iff.mp (atR_mem (by omega))),(h i _ h1 hlt).mp (by rw [h2,hnum])⟩
 refine (PySem.W.eq_sortI (pm.map _) ?_).symm
 rw [pairwise_map]
 exact grp_rise.imp fun h=>by omega
theorem ren_perm (ok:w.Ok) (p:O.Perm (List.range w.n)) (h:∀i j,i<w.n->j<w.n->(nA NV i=nA NV j↔nA N (atR O i)=nA N (atR O j))) (g:CN w o N m) (gV:CN (plW w O) o NV mV):((List.range mV).map (phi N NV O w.n)).Perm (List.range m):=by
 obtain ⟨_,_,_,hl⟩:=pl_perm ok p
 have eV:(plW w O).n=w.n:=hl
 have lea':∀{c},c<mV->lea NV w.n c<w.n/\nA NV (lea NV w.n c)=c:=fun {c} hc=>by
  obtain ⟨t,et,hlt,hnum⟩:=lea_is gV hc
  rw [eV] at hlt hnum
  exact ⟨hlt,hnum⟩
 have ltO:∀{i},i<w.n->atR O i<w.n:=fun {i} hi=>List.mem_range.mp (p.mem_iff.mp (atR_mem (by omega)))
 refine (perm_ext_iff_of_nodup ?_ nodup_range).mpr fun x=>?_
 ·rw [List.nodup_iff_pairwise_ne,pairwise_map]
  refine List.Pairwise.imp_of_mem ?_ (pairwise_lt_range (n:=mV))
  intro a b ha hb hab e
  obtain ⟨a1,a2⟩:=lea' (List.mem_range.mp ha)
  obtain ⟨b1,b2⟩:=lea' (List.mem_range.mp hb)
  have:=(h _ _ a1 b1).mpr e
  omega
 ·rw [mem_map,mem_range]
  constructor
  ·rintro ⟨c,hc,rfl⟩
   exact g.lt _ (ltO (lea' (List.mem_range.mp hc)).1)
  ·intro hx
   obtain ⟨r,hr,e⟩:=g.onto x hx
   obtain ⟨i,hi,ei⟩:=at_of_mem (R:=O) (t:=r) (p.mem_iff.mpr (List.mem_range.mpr hr))
   have hi':i<w.n:=by omega
   have hcV:nA NV i<mV:=gV.lt i (by rw [eV];exact hi')
   obtain ⟨b1,b2⟩:=lea' hcV
   exact ⟨nA NV i,List.mem_range.mpr hcV,by
    show nA N (atR O (lea NV w.n (nA NV i)))=x
    rw [(h _ _ b1 hi').mp b2,ei,e]⟩
end
theorem den_law {xs:List D} (hx:RowI xs):m_law [.list xs]=.ok ⟨.leaf,.bool true⟩:=by
 obtain ⟨w,ok,hw6,e1⟩:=den_likeA hx (a:=2) (l:=6) (by omega) (by omega) (by omega)
 have h1:=ok.h1
 have h24:=ok.h24
 obtain ⟨c0,e2⟩:=den_cell hx (k:=0) (by omega)
 generalize ho:(c0 % 2==1)=o
 obtain ⟨N,m,ks,eN,g,hk,en,em,l⟩:=den_class2 ok (o:=o)
 have cr:=crs_of l
 have mn:=g.mn
 have ov:=lst_ok ok g
 obtain ⟨N',m',ks',eN',g',hk',en',em',l'⟩:=den_class2 ov (o:=o)
 have eR:N'=List.range m:=by rw [en'];rw [en'] at g';exact lst_range ok g cr hk' g'
 have em1:m'=m:=m_same (w:=w) (N:=N) g g' (fun r hr=>by
   have hr:r<m:=hr
   obtain ⟨i,hi,e⟩:=g.onto r hr
   exact ⟨i,hi,by rw [eR,nA_range hr];exact e.symm⟩) (fun r hr=>⟨nA N r,g.lt r hr,by rw [eR,nA_range (g.lt r hr)]⟩)
 rw [eR] at eN' g'
 rw [em1] at g'
 clear em' en' l' hk' em1
 have hv:(lsW w N m).n=m:=rfl
 have dl:=den_least ok g eN
 have dl2:=den_least ov g' eN'
 rw [lst_twice ok g] at dl2
 have dc:=den_classesK ok g eN
 have dc2:=den_classesK ov g' eN'
 rw [hv,grps_range] at dc2
 have sv:=sh_encW ov
 generalize hV:lsW w N m=v at *
 have hos:w.os.length=w.n:=ok.g.lo
 have hov:v.os.length=m:=by rw [ov.g.lo,<-hv]
 have s1:sSet false 1 (eCall 3 m__law_like_world (eCons (eVar 0) (eCons (eK (.int 2)) (eCons (eK (.int 6)) eNil)))) (startD 13 [.list xs])=.nx ((startD 13 [.list xs]).set 1 (some ⟨.leaf,w.enc⟩)):=x_setL (v_call (v_cons (v_leaf rfl) (v_cons v_k (v_cons v_k v_nil))) e1 rfl rfl) rfl (by simp [startD])
 refine rt_of (x_seq s1 ?_)
 refine x_seq (x_setL (v_op (v_op (v_call (v_cons (v_leaf (i:=0) rfl) (v_cons v_k v_nil)) e2 rfl rfl) v_k (mod_i (by omega))) v_k KC.eq_int) rfl (by simp [startD])) ?_
 rw [ho]
 refine x_seq (x_setL (v_cb (d:=.int (w.n:Int)) (v_cons (v_idxT (j:=0) (s2:=.leaf) (v_leaf (i:=1) rfl) v_k rfl rfl rfl) v_nil) (by show some (PyData.int _)=_;rw [hos])) rfl (by simp [startD])) ?_
 refine x_seq (U1:=[some ⟨.leaf,.list xs⟩,some ⟨.leaf,w.enc⟩,some ⟨.leaf,.bool o⟩,some ⟨.leaf,.int (w.n:Int)⟩,none,none,none,none,none,none,some ⟨.tup [.leaf,.leaf,.leaf],v.enc⟩,some ⟨.leaf,rms N⟩,none]) (x_unpN (v_call (v_cons (v_leaf (i:=1) rfl) (v_cons (v_leaf (i:=2) rfl) v_nil)) dl rfl rfl) rfl rfl rfl) ?_
 refine x_frz (i:=10) rfl ?_
 refine x_seq (U1:=GZ xs w v o N m none none none none none) (x_setL (v_cb (d:=.int (m:Int)) (v_cons (v_idxT (j:=0) (s2:=.leaf) (v_leaf (i:=10) rfl) v_k rfl rfl rfl) v_nil) (by show some (PyData.int _)=_;rw [hov])) rfl (by simp)) ?_
 have c1:eComp .leaf 8 (iR1 (eCons (eVar 4) eNil)) bTrue (eList .leaf (eCons (eVar 8) eNil)) (GZ xs w v o N m none none none none none)=.ok ⟨.lst .leaf,.list (((List.range m).map fun c=>[c]).map rms)⟩ (GZ xs w v o N m none none none none none):=by
  rw [map_map]
  exact eComp_tyA rm (List.range m) (fun c=>⟨.lst .leaf,rms [c]⟩) (st:=true) (R1_of (s:=.leaf) (n:=m) (by omega) (v_cons (v_leaf (i:=4) rfl) v_nil)) (by simp) rfl (by simp;omega) fun r hr=>⟨v_list (s:=.leaf) (v_cons (v_leaf (i:=8) rfl) v_nil) rfl rfl rfl,rfl⟩
 refine x_seq (x_if (t:=false) (bb_bool (s:=.leaf) (v_op (v_call (v_cons (v_leaf (i:=10) rfl) (v_cons (v_leaf (i:=2) rfl) v_nil)) dc2 rfl rfl) c1 (ne_refl' sh_rows))) nofun (fun _=>rfl)) ?_
 refine x_seq (U1:=GZ xs w v o N m (some ⟨.leaf,.tuple [v.enc,rms (List.range m)]⟩) none none none none) (x_setL (v_call (v_cons (v_leaf (i:=10) rfl) (v_cons (v_leaf (i:=2) rfl) v_nil)) dl2 rfl rfl) rfl (by simp)) ?_
 have sh2:shaped (.tuple [v.enc,rms (List.range m)])=true:=by
  have q1:PyData.canLay0 v.enc=true:=by unfold shaped at sv;rw [Bool.and_eq_true] at sv;exact sv.1
  have q2:=shW_depth ov
  have q3:=cl_I (xs:=(List.range m).map rm) fun d hd=>let ⟨x,_,e⟩:=List.mem_map.mp hd;⟨_,e.symm⟩
  unfold shaped
  simp only [PyData.canLay0,PyData.canLayAll0,PyData.depth,PyData.depthAll,q1,q3.1,q3.2,rms,Bool.and_self,Bool.true_and,decide_eq_true_eq]
  omega
 refine x_seq (x_if (t:=false) (bb_bool (s:=.leaf) (v_op (v_leaf (i:=5) rfl) (v_tup (v_cons (v_leaf (i:=10) rfl) (v_cons (LR_of (n:=m) (s:=.leaf) (by omega) (v_cons (v_leaf (i:=4) rfl) v_nil)) v_nil)) rfl rfl) (ne_refl' sh2))) nofun (fun _=>rfl)) ?_
 have ob:=bes_ok ok ok (by omega)
 have db:=den_beside ok ok (by omega)
 obtain ⟨Nb,mb,kb,eNb,gb,hkb,enb,emb,lb⟩:=den_class2 ob (o:=o)
 have eB:Nb=N++N:=by
  rw [enb,en]
  rw [enb] at gb lb
  rw [en] at g cr
  exact bes_nums ok hk hkb g cr gb (crs_of lb)
 have hbn:(bes w w).n=w.n+w.n:=rfl
 have nl:N.length=w.n:=g.len
 have at1:∀r,r<w.n->nA (N++N) r=nA N r:=fun r hr=>by unfold nA;rw [getD_eq_getElem?_getD,getD_eq_getElem?_getD,getElem?_append_left (by omega)]
 have emb1:mb=m:=m_same (w:=w) (N:=N) g gb (fun r hr=>by
   have hr:r<w.n+w.n:=hr
   rw [eB]
   by_cases h:r<w.n
   ·exact ⟨r,h,at1 r h⟩
   ·refine ⟨r-w.n,by omega,?_⟩
    unfold nA
    rw [getD_eq_getElem?_getD,getD_eq_getElem?_getD,getElem?_append_right (by omega),nl]) (fun r hr=>⟨r,by show r<w.n+w.n;omega,by rw [eB,at1 r hr]⟩)
 have dcb:=den_classesK ob gb eNb
 rw [emb1,eB,hbn] at dcb
 have egr:(List.range m).map (grp (N++N) (w.n+w.n))=(List.range m).map fun c=>grp N w.n c++(grp N w.n c).map fun r=>r+w.n:=map_congr_left fun c _=>grp_twice nl
 rw [egr] at dcb
 refine x_seq (U1:=GZ xs w v o N m (some ⟨.leaf,.tuple [v.enc,rms (List.range m)]⟩) (some ⟨.leaf,.list (((List.range m).map fun c=>grp N w.n c++(grp N w.n c).map fun r=>r+w.n).map rms)⟩) none none none) (x_setL (v_call (v_cons (v_call (v_cons (v_leaf (i:=1) rfl) (v_cons (v_leaf (i:=1) rfl) v_nil)) db rfl rfl) (v_cons (v_leaf (i:=2) rfl) v_nil)) dcb rfl rfl) rfl (by simp)) ?_
 generalize hx5:(some ⟨.leaf,.tuple [v.enc,rms (List.range m)]⟩:Option PV)=x5
 have c2:∀x6,eComp .leaf 12 (iSeq (eCall 2 m_classes (eCons (eVar 1) (eCons (eVar 2) eNil)))) bTrue (eCat (eVar 12) (eComp .leaf 8 (iSeq (eVar 12)) bTrue (eOp gAddI (eVar 8) (eVar 3)))) (GZ xs w v o N m x5 x6 none none none)=.ok ⟨.lst .leaf,.list (((List.range m).map fun c=>grp N w.n c++(grp N w.n c).map fun r=>r+w.n).map rms)⟩ (GZ xs w v o N m x5 x6 none none none):=fun x6=>by
  have:=eComp_tyA (U:=GZ xs w v o N m x5 x6 none none none) (s:=.leaf) (i:=12) (fi:=iSeq (eCall 2 m_classes (eCons (eVar 1) (eCons (eVar 2) eNil)))) (fe:=eCat (eVar 12) (eComp .leaf 8 (iSeq (eVar 12)) bTrue (eOp gAddI (eVar 8) (eVar 3)))) rms ((List.range m).map (grp N w.n)) (fun r=>⟨.lst .leaf,rms (r++r.map fun t=>t+w.n)⟩) (st:=true) (w_seq (s:=.lst (.lst .leaf)) (v_call (v_cons (v_leaf (i:=1) rfl) (v_cons (v_leaf (i:=2) rfl) v_nil)) dc rfl rfl) rfl) (by simp) rfl (by simp;omega) fun r hr=>⟨by
   obtain ⟨c,_,rfl⟩:=List.mem_map.mp hr
   have gl:=grp_len (N:=N) (k:=w.n) (c:=c)
   have inner:=eComp_tyA (U:=(GZ xs w v o N m x5 x6 none none none).set 12 (some ⟨.leaf,rms (grp N w.n c)⟩)) (s:=.leaf) (i:=8) (fi:=iSeq (eVar 12)) (fe:=eOp gAddI (eVar 8) (eVar 3)) rm (grp N w.n c) (fun t=>⟨.leaf,rm (t+w.n)⟩) (st:=true) (w_seq (s:=.leaf) (v_leaf (i:=12) rfl) rfl) (by simp) rfl (by omega) fun t ht=>⟨(v_op (v_leaf (i:=8) rfl) (v_leaf (i:=3) rfl) add_int').trans (by show Out.ok (⟨.leaf,.int ((t:Int)+(w.n:Int))⟩:PV) _=.ok ⟨.leaf,.int ((t+w.n:Nat):Int)⟩ _;rw [Int.natCast_add]),rfl⟩
   have e:rms (grp N w.n c++(grp N w.n c).map fun t=>t+w.n)=.list ((grp N w.n c).map rm++(grp N w.n c).map fun t=>rm (t+w.n)):=by
    show PyData.list _=_
    rw [map_append,map_map]
    rfl
   rw [e]
   exact v_cat (v_leaf (i:=12) rfl) inner rfl rfl (by simp;omega),rfl⟩
  rw [map_map] at this
  rw [map_map]
  exact this
 refine x_seq (x_if (t:=false) (bb_bool (s:=.leaf) (v_op (v_leaf (i:=6) rfl) (c2 _) (ne_refl' sh_rows))) nofun (fun _=>rfl)) ?_
 generalize hx6:(some ⟨.leaf,.list (((List.range m).map fun c=>grp N w.n c++(grp N w.n c).map fun r=>r+w.n).map rms)⟩:Option PV)=x6
 refine x_seq (U1:=GZ xs w v o N m x5 x6 (some ⟨.lst .leaf,rms []⟩) none none) (x_setO (v_list (s:=.leaf) v_nil rfl rfl rfl) rfl (by simp)) ?_
 obtain ⟨O,x8,p,eo⟩:=ord_loop hx (v:=v) (o:=o) (N:=N) (m:=m) ok (x5:=x5) (x6:=x6)
 refine x_seq (x_for (R1_of (s:=.leaf) (n:=w.n) (by omega) (v_cons (v_leaf (i:=3) rfl) v_nil)) eo) ?_
 refine x_frz (i:=7) rfl ?_
 obtain ⟨po,okV,E,hlO⟩:=pl_perm ok p
 obtain ⟨NV,mV,kV,eNV,gV,hkV,enV,emV,lV⟩:=den_class2 okV (o:=o)
 have eV:(plW w O).n=w.n:=hlO
 have hiff:∀i j,i<w.n->j<w.n->(nA NV i=nA NV j↔nA N (atR O i)=nA N (atR O j)):=fun i j hi hj=>cls_mor (w:=plW w O) (v:=w) E (fun r hr=>lk_pl po (by rw [eV] at hr;omega)) gV (crs_of lV) g cr (by rw [eV];exact hi) (by rw [eV];exact hj)
 have dcV:=den_classesK okV gV eNV
 rw [eV] at dcV
 have mVn:=gV.mn
 rw [eV] at mVn
 have dr:=den_renamed ok p
 have c3:eComp .leaf 12 (iSeq (eCall 2 m_classes (eCons (eCall 2 m_renamed (eCons (eVar 1) (eCons (eVar 7) eNil))) (eCons (eVar 2) eNil)))) bTrue (eSortI (eCons (eComp .leaf 8 (iSeq (eVar 12)) bTrue (eIdx (eVar 7) (eVar 8))) eNil)) (GZ xs w v o N m x5 x6 (some ⟨.leaf,rms O⟩) x8 none)=.ok ⟨.lst .leaf,.list ((((List.range mV).map (phi N NV O w.n)).map (grp N w.n)).map rms)⟩ (GZ xs w v o N m x5 x6 (some ⟨.leaf,rms O⟩) x8 none):=by
  have:=eComp_tyA (U:=GZ xs w v o N m x5 x6 (some ⟨.leaf,rms O⟩) x8 none) (s:=.leaf) (i:=12) (fi:=iSeq (eCall 2 m_classes (eCons (eCall 2 m_renamed (eCons (eVar 1) (eCons (eVar 7) eNil))) (eCons (eVar 2) eNil)))) (fe:=eSortI (eCons (eComp .leaf 8 (iSeq (eVar 12)) bTrue (eIdx (eVar 7) (eVar 8))) eNil)) (fun c=>rms (grp NV w.n c)) (List.range mV) (fun c=>⟨.lst .leaf,rms (grp N w.n (phi N NV O w.n c))⟩) (st:=true) ((w_seq (s:=.lst (.lst .leaf)) (v_call (v_cons (v_call (v_cons (v_leaf (i:=1) rfl) (v_cons (v_leaf (i:=7) rfl) v_nil)) dr rfl rfl) (v_cons (v_leaf (i:=2) rfl) v_nil)) dcV rfl rfl) rfl).trans (by rw [map_map];rfl)) (by simp) rfl (by simp;omega) fun c hc=>⟨by
   have hc:=List.mem_range.mp hc
   have gl:=grp_len (N:=NV) (k:=w.n) (c:=c)
   have inner:=eComp_tyA (U:=(GZ xs w v o N m x5 x6 (some ⟨.leaf,rms O⟩) x8 none).set 12 (some ⟨.leaf,rms (grp NV w.n c)⟩)) (s:=.leaf) (i:=8) (fi:=iSeq (eVar 12)) (fe:=eIdx (eVar 7) (eVar 8)) rm (grp NV w.n c) (fun t=>⟨.leaf,rm (atR O t)⟩) (st:=true) (w_seq (s:=.leaf) (v_leaf (i:=12) rfl) rfl) (by simp) rfl (by omega) fun t ht=>⟨by
    have ht:=(mem_grp.mp ht).1
    refine v_idxL (j:=t) (v_leaf (i:=7) rfl) (v_leaf (i:=8) rfl) (ix_nat (by rw [length_map];omega)) ?_ rfl
    rw [getElem?_map,getElem?_eq_getElem (by omega)]
    unfold atR
    rw [getD_eq_getElem?_getD,getElem?_eq_getElem (by omega)]
    rfl,rfl⟩
   have e3:PyData.list ((grp NV w.n c).map fun t=>rm (atR O t))=.list ((intsR ((grp NV w.n c).map (atR O))).map .int):=by
    unfold intsR
    rw [map_map,map_map]
    rfl
   have inner2:=inner.trans (by rw [e3])
   have st:=v_sortR (v_cons inner2 v_nil) (by unfold intsR;rw [length_map,length_map];omega)
   rw [ren_row ok p hiff gV hc] at st
   have e4:PyData.list ((intsR (grp N w.n (phi N NV O w.n c))).map .int)=rms (grp N w.n (phi N NV O w.n c)):=rowD_ints
   rw [e4] at st
   exact st,rfl⟩
  rw [map_map,map_map]
  exact this
 refine x_seq (U1:=GZ xs w v o N m x5 x6 (some ⟨.leaf,rms O⟩) x8 (some ⟨.leaf,.list ((((List.range mV).map (phi N NV O w.n)).map (grp N w.n)).map rms)⟩)) (x_setL c3 rfl (by simp)) ?_
 have pp:=(ren_perm ok p hiff g gV).map (grp N w.n)
 have gne:∀c,c<m->grp N w.n c≠[]:=fun c hc z=>by
  obtain ⟨t,et,_⟩:=lea_is g hc
  rw [z] at et
  cases et
 have hd:(((List.range m).map (grp N w.n)).map intsR).map hdI=(List.range m).map fun c=>((lea N w.n c:Nat):Int):=by
  rw [map_map,map_map]
  exact map_congr_left fun c hc=>hdI_ints (gne c (List.mem_range.mp hc))
 have rise:((((List.range m).map (grp N w.n)).map intsR).map hdI).Pairwise (· < ·):=by
  rw [hd,pairwise_map]
  refine List.Pairwise.imp_of_mem ?_ (pairwise_lt_range (n:=m))
  intro a b ha hb hab
  have hb:=List.mem_range.mp hb
  subst en
  have:=lea_mono hk g hab hb
  omega
 generalize hrows:((List.range mV).map (phi N NV O w.n)).map (grp N w.n)=rows at pp
 have rl:rows.length=mV:=by rw [<-hrows];simp
 have pi:=pp.map intsR
 have srt:=sortR_perm pi rise
 have okr:okRows (rows.map intsR)=true:=by
  unfold okRows
  rw [Bool.and_eq_true,Bool.and_eq_true,decide_eq_true_eq,decide_eq_true_eq,all_eq_true]
  refine ⟨⟨by rw [length_map,rl];omega,fun r hr=>?_⟩,(pi.map hdI).nodup_iff.mpr (rise.imp fun {a b} h z=>by omega)⟩
  obtain ⟨r2,hc,rfl⟩:=List.mem_map.mp (pi.mem_iff.mp hr)
  obtain ⟨c,hc2,rfl⟩:=List.mem_map.mp hc
  have:=gne c (List.mem_range.mp hc2)
  cases e:grp N w.n c with
  | nil=>exact absurd e this
  | cons a t=>rfl
 have es:eSortR (eVar 9) (GZ xs w v o N m x5 x6 (some ⟨.leaf,rms O⟩) x8 (some ⟨.leaf,.list (rows.map rms)⟩))=.ok ⟨.lst .leaf,.list (((List.range m).map (grp N w.n)).map rms)⟩ (GZ xs w v o N m x5 x6 (some ⟨.leaf,rms O⟩) x8 (some ⟨.leaf,.list (rows.map rms)⟩)):=by
  unfold eSortR eBind
  rw [v_leaf (i:=9) rfl]
  simp only [Out.bind]
  rw [rowsOf_rms]
  dsimp only
  rw [okr,srt]
  have:(((List.range m).map (grp N w.n)).map intsR).map rowD=((List.range m).map (grp N w.n)).map rms:=by
   rw [map_map]
   exact map_congr_left fun r _=>rowD_ints
  rw [this]
  rfl
 exact x_ret (v_op es (v_call (v_cons (v_leaf (i:=1) rfl) (v_cons (v_leaf (i:=2) rfl) v_nil)) dc rfl rfl) (eq_refl' sh_rows)) rfl
theorem law_true (ns:List Int) (hl:ns.length<=63):m_law [.list (ns.map .int)]=.ok ⟨.leaf,.bool true⟩:=den_law rowI_map
end KC.Z
namespace KC.Z
open PySem PySem.Spec L2 T TQ
open PyProof.Rows hiding St
open KC
noncomputable def stm (n:Nat):Stmt:=(PySem.Challenge.pw_foreseehall_k48_whole_least_worlds_are_l.main.body)[n]!
noncomputable def s_is_rising:Stmt:=stm 9
noncomputable def s_are_marks:Stmt:=stm 10
noncomputable def s_are_rooms:Stmt:=stm 11
noncomputable def s_are_steps:Stmt:=stm 12
noncomputable def s_is_world:Stmt:=stm 13
noncomputable def s_check_world:Stmt:=stm 14
noncomputable def s_look_of:Stmt:=stm 17
noncomputable def s_classes_ahead:Stmt:=stm 18
noncomputable def s_parted_by_steps:Stmt:=stm 19
noncomputable def s_class_numbers:Stmt:=stm 20
noncomputable def s_grouped:Stmt:=stm 21
noncomputable def s_classes:Stmt:=stm 22
noncomputable def s_least_world:Stmt:=stm 23
noncomputable def s_check_size:Stmt:=stm 25
noncomputable def s_moved_on:Stmt:=stm 26
noncomputable def s_beside:Stmt:=stm 27
noncomputable def s_renamed:Stmt:=stm 30
noncomputable def s__law_cell_at:Stmt:=stm 32
noncomputable def s__law_draw:Stmt:=stm 33
noncomputable def s__law_world:Stmt:=stm 34
noncomputable def s__law_twin:Stmt:=stm 35
noncomputable def s__law_like_world:Stmt:=stm 36
noncomputable def s_law:Stmt:=stm 37
structure Gl (K:Fg) (mg:Str->Option Value):Prop where
 n0:mg "len"=none
 n1:mg "range"=none
 n2:mg "all"=none
 n3:mg "tuple"=none
 n4:mg "sorted"=none
 n5:mg "set"=none
 n6:mg "enumerate"=none
 n7:mg "max"=none
 n8:mg "list"=none
 n9:mg "int"=none
 h0:ConK K mg "LETTERS" k_LETTERS
 h1:ConK K mg "MOST_ROOMS" k_MOST_ROOMS
 h2:ConK K mg "PLAYERS" k_PLAYERS
structure Al (K:Fg) (mg:Str->Option Value):Prop where
 g:Gl K mg
 f0:Ft K mg "is_rising" s_is_rising
 f1:Ft K mg "are_marks" s_are_marks
 f2:Ft K mg "are_rooms" s_are_rooms
 f3:Ft K mg "are_steps" s_are_steps
 f4:Ft K mg "is_world" s_is_world
 f5:Ft K mg "check_world" s_check_world
 f6:Ft K mg "numbered" s_numbered
 f7:Ft K mg "look_of" s_look_of
 f8:Ft K mg "classes_ahead" s_classes_ahead
 f9:Ft K mg "parted_by_steps" s_parted_by_steps
 f10:Ft K mg "class_numbers" s_class_numbers
 f11:Ft K mg "grouped" s_grouped
 f12:Ft K mg "classes" s_classes
 f13:Ft K mg "least_world" s_least_world
 f14:Ft K mg "check_size" s_check_size
 f15:Ft K mg "moved_on" s_moved_on
 f16:Ft K mg "beside" s_beside
 f17:Ft K mg "places_of" s_places_of
 f18:Ft K mg "placed" s_placed
 f19:Ft K mg "renamed" s_renamed
 f20:Ft K mg "_law_cell_at" s__law_cell_at
 f21:Ft K mg "_law_draw" s__law_draw
 f22:Ft K mg "_law_world" s__law_world
 f23:Ft K mg "_law_twin" s__law_twin
 f24:Ft K mg "_law_like_world" s__law_like_world
 f25:Ft K mg "law" s_law
section
variable {P:Program} {w:World} {K:Fg} {mg:Str->Option Value} {base:Heap} (A:Al K mg)
include A
theorem o_is_rising:DefOk P w K mg base 1 "is_rising" 1 m_is_rising:=mk A.f0 A.g ["entries"] bn1 ["k"] ["len", "range", "all"] [0] [0] [0,1,2] fun X S I hp=>
 (u_r (w_cb_all S 2 rfl rfl I.e.n2 (u_1 (u_o [0,1] [0] [] S 1 (w_cr2 S 1 rfl rfl I.e.n1 (u_c w_de_int (u_1 (u_n S 0 I.e.n0 (u_1 (u_v S 0))))) (star_two rfl rfl) (star_one rfl)) (fun _ _ _=>w_df_nil) (fun Y1 S1 F1=>have I:=F1.i I;(u_e (q_lt I.r) (u_x (u_v S1 0) (w_de_sub (u_v S1 1) w_de_int)) (u_x (u_v S1 0) (u_v S1 1)))))) (star_cons rfl) rfl))
theorem o_are_marks:DefOk P w K mg base 2 "are_marks" 1 m_are_marks:=mk A.f1 A.g ["entries"] bn1 ["entry"] ["LETTERS", "all", "is_rising"] [0] [] [1,2] fun X S I hp=>
 (u_r (w_de_and (w_cb_all S 1 rfl rfl I.e.n2 (u_1 (u_o [1] [] [0] S 1 (w_di_seq (u_v S 0)) (fun _ _ _=>w_df_nil) (fun Y1 S1 F1=>have I:=F1.i I;(u_e (q_in I.r) (u_v S1 1) (w_ck S1 0 rfl rfl I.e.h0))))) (star_cons rfl) rfl) (w_pe_one (u_f S 2 (I.c (o_is_rising A)) (u_1 (u_v S 0))))))
theorem o_are_rooms:DefOk P w K mg base 2 "are_rooms" 2 m_are_rooms:=mk A.f2 A.g ["entries", "size"] bn2 ["entry"] ["all", "is_rising"] [0,1] [1] [0,1] fun X S I hp=>
 (u_r (w_de_and (w_cb_all S 0 rfl rfl I.e.n2 (u_1 (u_o [1,2] [1] [] S 2 (w_di_seq (u_v S 0)) (fun _ _ _=>w_df_nil) (fun Y1 S1 F1=>have I:=F1.i I;(w_ce2 (q_le I.r) (q_lt I.r) w_de_int (u_v S1 2) (u_v S1 1) (by with_unfolding_all rfl))))) (star_cons rfl) rfl) (w_pe_one (u_f S 1 (I.c (o_is_rising A)) (u_1 (u_v S 0))))))
theorem o_are_steps:DefOk P w K mg base 3 "are_steps" 2 m_are_steps:=mk A.f3 A.g ["entries", "size"] bn2 [] ["len", "are_rooms"] [0,1] [] [0,1] fun X S I hp=>
 (u_r (w_de_and (u_e (q_gt I.r) (u_n S 0 I.e.n0 (u_1 (u_v S 0))) w_de_int) (w_pe_one (u_f S 1 (I.c (o_are_rooms A)) (u_c (u_v S 0) (u_1 (u_v S 1)))))))
theorem o_is_world:DefOk P w K mg base 4 "is_world" 3 m_is_world:=mk A.f4 A.g ["owners", "marks", "steps"] bn3 ["size", "owner", "row"] ["len", "MOST_ROOMS", "PLAYERS", "all", "are_marks", "are_steps"] [0,1,2,3] [3] [0,1,3] fun X S I hp=>
 (w_ds_cons (u_s S false 3 (u_n S 0 I.e.n0 (u_1 (u_v S 0)))) (w_ds_cons (w_ds_if (w_pw_pt (w_dw_or (u_t (q_lt I.r) (u_v S 3) w_de_int) (w_dw_or (u_t (q_gt I.r) (u_v S 3) (w_ck S 1 rfl rfl I.e.h1)) (w_dw_or (u_t (q_ne I.r) (u_n S 0 I.e.n0 (u_1 (u_v S 1))) (u_v S 3)) (w_dw_or1 (u_t (q_ne I.r) (u_n S 0 I.e.n0 (u_1 (u_v S 2))) (u_v S 3))))))) (u_r w_de_bool) w_ds_nil) (w_ds_cons (w_ds_if (w_dt_not (w_dt_tru (w_cb_all S 3 rfl rfl I.e.n2 (u_1 (u_o [4] [] [2] S 4 (w_di_seq (u_v S 0)) (fun _ _ _=>w_df_nil) (fun Y1 S1 F1=>have I:=F1.i I;(u_e (q_in I.r) (u_v S1 4) (w_ck S1 2 rfl rfl I.e.h2))))) (star_cons rfl) rfl) (fun _=>rfl))) (u_r w_de_bool) w_ds_nil) (u_r (w_de_and (w_cb_all S 3 rfl rfl I.e.n2 (u_1 (u_o [5] [] [4] S 5 (w_di_seq (u_v S 1)) (fun _ _ _=>w_df_nil) (fun Y2 S2 F2=>have I:=F2.i I;(u_f S2 4 (I.c (o_are_marks A)) (u_1 (u_v S2 5)))))) (star_cons rfl) rfl) (w_pe_one (w_cb_all S 3 rfl rfl I.e.n2 (u_1 (u_o [3,5] [3] [5] S 5 (w_di_seq (u_v S 2)) (fun _ _ _=>w_df_nil) (fun Y3 S3 F3=>have I:=F3.i I;(u_f S3 5 (I.c (o_are_steps A)) (u_c (u_v S3 5) (u_1 (u_v S3 3))))))) (star_cons rfl) rfl)))))))
theorem o_check_world:DefOk P w K mg base 5 "check_world" 1 m_check_world:=mk A.f5 A.g ["world"] bn1 [] ["is_world"] [0] [] [0] fun X S I hp=>
 (w_ds_one (w_ds_if (w_dt_not (w_dt_tru (u_f S 0 (I.c (o_is_world A)) (u_c (u_x (u_v S 0) w_de_int) (u_c (u_x (u_v S 0) w_de_int) (u_1 (u_x (u_v S 0) w_de_int))))) (fun _=>rfl))) (w_ds_one w_ds_no) w_ds_nil))
theorem o_numbered:DefOk P w K mg base 1 "numbered" 1 m_numbered:=match A.f6 with | ⟨_,_,hm,F⟩=>ok_numbered F hm (bindsF F bn1) A.g.n0
theorem o_look_of:DefOk P w K mg base 1 "look_of" 3 m_look_of:=mk A.f7 A.g ["world", "room", "owned"] bn3 ["marks"] ["tuple"] [0,1,2,3] [] [0] fun X S I hp=>
 (w_ds_cons (u_s S false 3 (w_ce_tupOf S 0 rfl rfl I.e.n3 (u_x (u_x (u_v S 0) w_de_int) (u_v S 1)) (star_one rfl))) (u_r (w_de_if (w_dt_tru (u_v S 2) (fun _=>rfl)) (w_de_tup (u_c (u_v S 3) (u_1 (u_x (u_x (u_v S 0) w_de_int) (u_v S 1))))) (w_de_tup (u_1 (u_v S 3))))))
theorem o_classes_ahead:DefOk P w K mg base 1 "classes_ahead" 2 m_classes_ahead:=mk A.f8 A.g ["numbers", "steps"] bn2 ["there"] ["sorted", "set"] [0,1] [0] [0,1] fun X S I hp=>
 (u_r (w_cb_sortSet S 0 1 rfl rfl I.e.n4 rfl rfl I.e.n5 (u_1 (u_o [0,2] [0] [] S 2 (w_di_seq (u_v S 1)) (fun _ _ _=>w_df_nil) (fun Y1 S1 F1=>(u_x (u_v S1 0) (u_v S1 2))))) (star_one rfl) (star_one rfl)))
theorem o_parted_by_steps:DefOk P w K mg base 2 "parted_by_steps" 2 m_parted_by_steps:=mk A.f9 A.g ["world", "numbers"] bn2 ["room", "steps"] ["enumerate", "classes_ahead", "tuple", "numbered"] [0,1] [1] [0,3] fun X S I hp=>
 (u_r (u_f S 3 (I.c (o_numbered A)) (u_1 (w_coE (vs':=[1,2,3]) (cs':=[1]) (lo':=[]) (gs':=[1,2]) S .leaf 2 3 0 rfl rfl rfl rfl rfl I.e.n6 (by kernel_rfl) (by kernel_rfl) (u_x (u_v S 0) w_de_int) (star_one rfl) (fun _ _ _=>w_df_nil) (fun Y1 S1 F1=>have I:=F1.i I;(w_de_tup (u_c (u_x (u_v S1 1) (u_v S1 2)) (u_1 (w_ce_tupOf S1 2 rfl rfl I.e.n3 (u_f S1 1 (I.c (o_classes_ahead A)) (u_c (u_v S1 1) (u_1 (u_v S1 3)))) (star_one rfl)))))) (fun _=>rfl)))))
theorem o_class_numbers:DefOk P w K mg base 3 "class_numbers" 2 m_class_numbers:=mk A.f10 A.g ["world", "owned"] bn2 ["numbers", "parted", "room"] ["len", "range", "look_of", "numbered", "parted_by_steps"] [0,1,2,3] [0,1] [0,1,3,4] fun X S I hp=>
 (w_ds_cons (u_s S false 2 (u_f S 3 (I.c (o_numbered A)) (u_1 (u_o [0,1,4] [0,1] [2] S 4 (w_cr1 S 1 rfl rfl I.e.n1 (u_1 (u_n S 0 I.e.n0 (u_1 (u_x (u_v S 0) w_de_int)))) (star_one rfl)) (fun _ _ _=>w_df_nil) (fun Y1 S1 F1=>have I:=F1.i I;(u_f S1 2 (I.c (o_look_of A)) (u_c (u_v S1 0) (u_c (u_v S1 4) (u_1 (u_v S1 1)))))))))) (w_ds_cons (u_s S false 3 (u_f S 4 (I.c (o_parted_by_steps A)) (u_c (u_v S 0) (u_1 (u_v S 2))))) (w_ds_cons (w_cs_while 1000 hp (u_t (q_ne I.r) (u_v S 3) (u_v S 2)) (w_ds_cons (u_s S false 2 (u_v S 3)) (w_ds_one (u_s S false 3 (u_f S 4 (I.c (o_parted_by_steps A)) (u_c (u_v S 0) (u_1 (u_v S 2)))))))) (u_r (u_v S 2)))))
theorem o_grouped:DefOk P w K mg base 1 "grouped" 1 m_grouped:=mk A.f11 A.g ["numbers"] bn1 ["groups", "room", "number"] ["max", "range", "enumerate"] [0,1,2,3] [] [0,1,2] fun X S I hp=>
 (w_ds_cons (w_cs_setComp (vs':=[3]) (cs':=[]) (lo':=[]) (gs':=[]) S true 1 (.lst .leaf) 3 rfl rfl rfl rfl (by kernel_rfl) (by kernel_rfl) (by kernel_rfl) (w_cr1 S 1 rfl rfl I.e.n1 (u_1 (w_de_addI (w_cb_maxL S 0 rfl rfl I.e.n7 (u_1 (u_v S 0)) (star_cons rfl) rfl) w_de_int)) (star_one rfl)) (fun _ _ _=>w_df_nil) (fun Y1 S1 F1=>(w_de_list .leaf w_da_nil)) (fun _=>rfl)) (w_ds_cons (w_cs_forE S 2 3 2 rfl rfl rfl rfl rfl rfl I.e.n6 hp (u_v S 0) (star_one rfl) (w_ds_one (w_cs_appAt S 1 rfl rfl (u_v S 3) (u_v S 2) (fun _ _=>rfl) (star_one rfl) rfl rfl rfl rfl)) (fun _=>rfl)) (u_r (w_cm S 1 rfl rfl))))
theorem o_classes:DefOk P w K mg base 6 "classes" 2 m_classes:=mk A.f12 A.g ["world", "owned"] bn2 [] ["check_world", "class_numbers", "grouped"] [0,1] [] [0,1,2] fun X S I hp=>
 (w_ds_cons (w_ds_drop (u_f S 0 (I.c (o_check_world A)) (u_1 (u_v S 0))) rfl) (u_r (u_f S 2 (I.c (o_grouped A)) (u_1 (u_f S 1 (I.c (o_class_numbers A)) (u_c (u_v S 0) (u_1 (u_v S 1))))))))
theorem o_least_world:DefOk P w K mg base 6 "least_world" 2 m_least_world:=mk A.f13 A.g ["world", "owned"] bn2 ["numbers", "least", "owners", "marks", "steps", "rooms", "room"] ["check_world", "class_numbers", "grouped", "list", "classes_ahead"] [0,1,2,3,4,5,6] [0,2] [0,1,2] fun X S I hp=>
 (w_ds_cons (w_ds_drop (u_f S 0 (I.c (o_check_world A)) (u_1 (u_v S 0))) rfl) (w_ds_cons (u_s S false 2 (u_f S 1 (I.c (o_class_numbers A)) (u_c (u_v S 0) (u_1 (u_v S 1))))) (w_ds_cons (w_cs_setComp (vs':=[7]) (cs':=[]) (lo':=[]) (gs':=[]) S false 3 .leaf 7 rfl rfl rfl rfl (by kernel_rfl) (by kernel_rfl) (by kernel_rfl) (w_di_seq (u_f S 2 (I.c (o_grouped A)) (u_1 (u_v S 2)))) (fun _ _ _=>w_df_nil) (fun Y1 S1 F1=>(u_x (u_v S1 7) w_de_int)) (fun _=>rfl)) (w_ds_cons (w_cs_setComp (vs':=[0,8]) (cs':=[0]) (lo':=[]) (gs':=[]) S false 4 .leaf 8 rfl rfl rfl rfl (by kernel_rfl) (by kernel_rfl) (by kernel_rfl) (w_di_seq (u_v S 3)) (fun _ _ _=>w_df_nil) (fun Y2 S2 F2=>(u_x (u_x (u_v S2 0) w_de_int) (u_v S2 8))) (fun _=>rfl)) (w_ds_cons (w_cs_setComp (vs':=[0,8]) (cs':=[0]) (lo':=[]) (gs':=[3]) S false 5 .leaf 8 rfl rfl rfl rfl (by kernel_rfl) (by kernel_rfl) (by kernel_rfl) (w_di_seq (u_v S 3)) (fun _ _ _=>w_df_nil) (fun Y3 S3 F3=>have I:=F3.i I;(w_cb_list S3 3 rfl rfl I.e.n8 (u_x (u_x (u_v S3 0) w_de_int) (u_v S3 8)) (star_one rfl))) (fun _=>rfl)) (w_ds_cons (w_cs_setComp (vs':=[0,2,8]) (cs':=[0,2]) (lo':=[]) (gs':=[4]) S false 6 .leaf 8 rfl rfl rfl rfl (by kernel_rfl) (by kernel_rfl) (by kernel_rfl) (w_di_seq (u_v S 3)) (fun _ _ _=>w_df_nil) (fun Y4 S4 F4=>have I:=F4.i I;(u_f S4 4 (I.c (o_classes_ahead A)) (u_c (u_v S4 2) (u_1 (u_x (u_x (u_v S4 0) w_de_int) (u_v S4 8)))))) (fun _=>rfl)) (u_r (w_de_tup (u_c (w_de_tup (u_c (u_v S 4) (u_c (u_v S 5) (u_1 (u_v S 6))))) (u_1 (u_v S 2)))))))))))
theorem o_check_size:DefOk P w K mg base 1 "check_size" 1 m_check_size:=mk A.f14 A.g ["size"] bn1 [] ["MOST_ROOMS"] [0] [] [0] fun X S I hp=>
 (w_ds_one (w_ds_if (u_t (q_gt I.r) (u_v S 0) (w_ck S 0 rfl rfl I.e.h1)) (w_ds_one w_ds_no) w_ds_nil))
theorem o_moved_on:DefOk P w K mg base 1 "moved_on" 2 m_moved_on:=mk A.f15 A.g ["rooms", "many"] bn2 ["room"] [] [0,1] [1] [] fun X S I hp=>
 (u_r (u_o [1,2] [1] [] S 2 (w_di_seq (u_v S 0)) (fun _ _ _=>w_df_nil) (fun Y1 S1 F1=>(w_de_addI (u_v S1 2) (u_v S1 1)))))
theorem o_beside:DefOk P w K mg base 6 "beside" 2 m_beside:=mk A.f16 A.g ["one", "other"] bn2 ["size", "owners", "marks", "steps", "row"] ["check_world", "len", "check_size", "list", "moved_on"] [0,1,2,3,4,5] [2] [0,1,2] fun X S I hp=>
 (w_ds_cons (w_ds_drop (u_f S 0 (I.c (o_check_world A)) (u_1 (u_v S 0))) rfl) (w_ds_cons (w_ds_drop (u_f S 0 (I.c (o_check_world A)) (u_1 (u_v S 1))) rfl) (w_ds_cons (u_s S false 2 (u_n S 1 I.e.n0 (u_1 (u_x (u_v S 0) w_de_int)))) (w_ds_cons (w_ds_drop (u_f S 2 (I.c (o_check_size A)) (u_1 (w_de_addI (u_v S 2) (u_n S 1 I.e.n0 (u_1 (u_x (u_v S 1) w_de_int)))))) rfl) (w_ds_cons (u_s S false 3 (w_ce_cat (u_x (u_v S 0) w_de_int) (u_x (u_v S 1) w_de_int))) (w_ds_cons (w_cs_setComp (vs':=[6]) (cs':=[]) (lo':=[]) (gs':=[3]) S false 4 .leaf 6 rfl rfl rfl rfl (by kernel_rfl) (by kernel_rfl) (by kernel_rfl) (w_di_seq (w_ce_cat (u_x (u_v S 0) w_de_int) (u_x (u_v S 1) w_de_int))) (fun _ _ _=>w_df_nil) (fun Y1 S1 F1=>have I:=F1.i I;(w_cb_list S1 3 rfl rfl I.e.n8 (u_v S1 6) (star_one rfl))) (fun _=>rfl)) (w_ds_cons (u_s S false 5 (w_ce_cat (u_o [6] [] [3] S 6 (w_di_seq (u_x (u_v S 0) w_de_int)) (fun _ _ _=>w_df_nil) (fun Y2 S2 F2=>have I:=F2.i I;(w_cb_list S2 3 rfl rfl I.e.n8 (u_v S2 6) (star_one rfl)))) (u_o [2,6] [2] [4] S 6 (w_di_seq (u_x (u_v S 1) w_de_int)) (fun _ _ _=>w_df_nil) (fun Y3 S3 F3=>have I:=F3.i I;(u_f S3 4 (I.c (o_moved_on A)) (u_c (u_v S3 6) (u_1 (u_v S3 2)))))))) (u_r (w_de_tup (u_c (u_v S 3) (u_c (u_v S 4) (u_1 (u_v S 5)))))))))))))
theorem o_places_of:PoOk P w K mg base 1:=match A.f17 with | ⟨_,_,hm,F⟩=>ok_places_of F hm (bindsF F bn2) A.g.n4
theorem o_placed:DefOk P w K mg base 2 "placed" 2 m_placed:=match A.f18 with | ⟨_,_,hm,F⟩=>ok_placed F hm (bindsF F bn2) A.g.n6 A.g.n8 (o_places_of A) rfl
theorem o_renamed:DefOk P w K mg base 6 "renamed" 2 m_renamed:=mk A.f19 A.g ["world", "order"] bn2 [] ["check_world", "sorted", "len", "list", "range", "placed"] [0,1] [] [0,1,2,3,4,5] fun X S I hp=>
 (w_ds_cons (w_ds_drop (u_f S 0 (I.c (o_check_world A)) (u_1 (u_v S 0))) rfl) (w_ds_cons (w_ds_if (u_t (q_ne I.r) (w_cb_sorted S 1 rfl rfl I.e.n4 (u_1 (u_v S 1)) (star_cons rfl) rfl) (w_cb_listRange S 3 4 rfl rfl I.e.n8 rfl rfl I.e.n1 (u_1 (u_n S 2 I.e.n0 (u_1 (u_x (u_v S 0) w_de_int)))) (star_one rfl) (star_one rfl))) (w_ds_one w_ds_no) w_ds_nil) (u_r (u_f S 5 (I.c (o_placed A)) (u_c (u_v S 0) (u_1 (u_v S 1)))))))
theorem o__law_cell_at:DefOk P w K mg base 1 "_law_cell_at" 2 m__law_cell_at:=mk A.f20 A.g ["script", "k"] bn2 [] ["len"] [0,1] [] [0] fun X S I hp=>
 (w_ds_cons (w_ds_if (u_t (q_lt I.r) (u_v S 1) (u_n S 0 I.e.n0 (u_1 (u_v S 0)))) (u_r (u_x (u_v S 0) (u_v S 1))) w_ds_nil) (u_r w_de_int))
theorem o__law_draw:DefOk P w K mg base 1 "_law_draw" 3 m__law_draw:=mk A.f21 A.g ["cell", "k", "bound"] bn3 ["stir", "left", "j"] ["range"] [0,1,2,3,4,5] [] [0] fun X S I hp=>
 (w_ds_cons (w_ds_if (u_t (q_ge I.r) (u_v S 0) (w_de_pow w_de_int w_de_int)) (w_ds_cons (u_s S false 4 (u_v S 0)) (w_ds_cons (w_cs_for S 5 rfl rfl hp (w_cr1 S 0 rfl rfl I.e.n1 (u_1 (u_v S 1)) (star_one rfl)) (w_ds_one (u_s S false 4 (w_de_div (u_v S 4) (u_v S 2)))) (fun _=>rfl)) (u_r (w_de_mod (u_v S 4) (u_v S 2))))) w_ds_nil) (w_ds_cons (u_s S false 3 (w_de_mod (w_de_mul (w_de_addI (w_de_addI (w_de_mod (u_v S 0) w_de_int) (w_de_mul w_de_int (u_v S 1))) w_de_int) w_de_int) w_de_int)) (w_ds_cons (u_s S false 3 (w_de_mod (w_de_addI (w_de_addI (w_de_mul (u_v S 3) (u_v S 3)) (w_de_mul w_de_int (u_v S 1))) w_de_int) w_de_int)) (u_r (w_de_mod (w_de_div (w_de_mod (w_de_mul (u_v S 3) w_de_int) w_de_int) w_de_int) (u_v S 2))))))
theorem o__law_world:DefOk P w K mg base 2 "_law_world" 3 m__law_world:=mk A.f22 A.g ["script", "at", "limit"] bn3 ["many", "owners", "marks", "steps", "room", "cell", "row", "there", "k"] ["_law_cell_at", "range", "_law_draw", "int"] [0,1,2,3,4,5,6,7,8,9] [3,8] [0,1,2] fun X S I hp=>
 (w_ds_cons (u_s S false 3 (w_de_addI w_de_int (w_de_mod (u_f S 0 (I.c (o__law_cell_at A)) (u_c (u_v S 0) (u_1 (u_v S 1)))) (u_v S 2)))) (w_ds_cons (u_s S true 4 (w_de_list .leaf w_da_nil)) (w_ds_cons (u_s S true 5 (w_de_list .leaf w_da_nil)) (w_ds_cons (u_s S true 6 (w_de_list .leaf w_da_nil)) (w_ds_cons (w_cs_for S 7 rfl rfl hp (w_cr1 S 1 rfl rfl I.e.n1 (u_1 (u_v S 3)) (star_one rfl)) (w_ds_cons (u_s S false 8 (u_f S 0 (I.c (o__law_cell_at A)) (u_c (u_v S 0) (u_1 (w_de_addI (w_de_addI (u_v S 1) w_de_int) (u_v S 7)))))) (w_ds_cons (w_cs_append S 4 rfl rfl (u_f S 2 (I.c (o__law_draw A)) (u_c (u_v S 8) (u_c w_de_int (u_1 w_de_int)))) (star_one rfl) rfl rfl rfl rfl) (w_ds_cons (w_cs_append S 5 rfl rfl (u_o [8,11] [8] [2] S 11 (w_cr1 S 1 rfl rfl I.e.n1 (u_1 w_de_int) (star_one rfl)) (fun Y1 S1 F1=>have I:=F1.i I;w_df_one (u_t (q_eq I.r) (u_f S1 2 (I.c (o__law_draw A)) (u_c (u_v S1 8) (u_c (w_de_addI w_de_int (u_v S1 11)) (u_1 w_de_int)))) w_de_int)) (fun Y1 S1 F1=>have I:=F1.i I;(u_x w_de_str (u_v S1 11)))) (star_one rfl) rfl rfl rfl rfl) (w_ds_cons (w_cs_setComp (vs':=[3,8,10]) (cs':=[3,8]) (lo':=[]) (gs':=[2,3]) S false 9 .leaf 10 rfl rfl rfl rfl (by kernel_rfl) (by kernel_rfl) (by kernel_rfl) (w_cr1 S 1 rfl rfl I.e.n1 (u_1 (u_v S 3)) (star_one rfl)) (fun Y2 S2 F2=>have I:=F2.i I;w_df_one (u_t (q_eq I.r) (u_f S2 2 (I.c (o__law_draw A)) (u_c (u_v S2 8) (u_c (w_de_addI w_de_int (u_v S2 10)) (u_1 (w_de_addI w_de_int (w_cb_int S2 3 rfl rfl I.e.n9 (u_1 (u_e (q_gt I.r) (u_v S2 3) w_de_int)) (star_cons rfl) rfl)))))) w_de_int)) (fun Y2 S2 F2=>have I:=F2.i I;(u_v S2 10)) (fun _=>rfl)) (w_ds_cons (w_ds_if (u_t (q_eq I.r) (u_v S 9) (w_de_list .leaf w_da_nil)) (w_ds_one (u_s S false 9 (w_de_list .leaf (u_1 (u_f S 2 (I.c (o__law_draw A)) (u_c (u_v S 8) (u_c (w_de_addI w_de_int (u_v S 3)) (u_1 (u_v S 3))))))))) w_ds_nil) (w_ds_one (w_cs_append S 6 rfl rfl (u_v S 9) (star_one rfl) rfl rfl rfl rfl))))))) (fun _=>rfl)) (u_r (w_de_tup (u_c (w_cm S 4 rfl rfl) (u_c (w_cm S 5 rfl rfl) (u_1 (w_cm S 6 rfl rfl)))))))))))
theorem o__law_twin:DefOk P w K mg base 1 "_law_twin" 1 m__law_twin:=mk A.f23 A.g ["world"] bn1 ["row"] ["list"] [0] [] [0] fun X S I hp=>
 (u_r (w_de_tup (u_c (w_cb_list S 0 rfl rfl I.e.n8 (u_x (u_v S 0) w_de_int) (star_one rfl)) (u_c (u_o [1] [] [0] S 1 (w_di_seq (u_x (u_v S 0) w_de_int)) (fun _ _ _=>w_df_nil) (fun Y1 S1 F1=>have I:=F1.i I;(w_cb_list S1 0 rfl rfl I.e.n8 (u_v S1 1) (star_one rfl)))) (u_1 (u_o [1] [] [0] S 1 (w_di_seq (u_x (u_v S 0) w_de_int)) (fun _ _ _=>w_df_nil) (fun Y2 S2 F2=>have I:=F2.i I;(w_cb_list S2 0 rfl rfl I.e.n8 (u_v S2 1) (star_one rfl)))))))))
theorem o__law_like_world:DefOk P w K mg base 3 "_law_like_world" 3 m__law_like_world:=mk A.f24 A.g ["script", "at", "limit"] bn3 ["world", "cell", "few", "room"] ["_law_world", "_law_cell_at", "len", "range", "_law_draw", "_law_twin"] [0,1,2,3,4,5] [4,5] [0,1,2,3,5] fun X S I hp=>
 (w_ds_cons (u_s S false 3 (u_f S 0 (I.c (o__law_world A)) (u_c (u_v S 0) (u_c (u_v S 1) (u_1 (u_v S 2)))))) (w_ds_cons (u_s S false 4 (u_f S 1 (I.c (o__law_cell_at A)) (u_c (u_v S 0) (u_1 (w_de_addI (w_de_addI (u_v S 1) w_de_int) (u_v S 2)))))) (w_ds_cons (w_ds_if (u_t (q_gt I.r) (w_de_mod (u_v S 4) w_de_int) w_de_int) (w_ds_cons (u_s S false 5 (w_de_list .leaf (u_c (w_de_list .leaf (u_1 w_de_str)) (u_c (w_de_list .leaf (u_1 w_de_str)) (u_1 (w_de_list .leaf (u_1 w_de_str))))))) (w_ds_one (u_s S false 3 (w_de_tup (u_c (u_x (u_v S 3) w_de_int) (u_c (u_o [4,5,6] [4,5] [4] S 6 (w_cr1 S 3 rfl rfl I.e.n1 (u_1 (u_n S 2 I.e.n0 (u_1 (u_x (u_v S 3) w_de_int)))) (star_one rfl)) (fun _ _ _=>w_df_nil) (fun Y1 S1 F1=>have I:=F1.i I;(u_x (u_v S1 5) (u_f S1 4 (I.c (o__law_draw A)) (u_c (u_v S1 4) (u_c (u_v S1 6) (u_1 w_de_int))))))) (u_1 (u_x (u_v S 3) w_de_int)))))))) w_ds_nil) (w_ds_cons (w_ds_if (u_t (q_eq I.r) (w_de_mod (u_v S 4) w_de_int) w_de_int) (w_ds_one (u_s S false 3 (w_de_tup (u_c (u_o [4,6] [4] [4] S 6 (w_cr1 S 3 rfl rfl I.e.n1 (u_1 (u_n S 2 I.e.n0 (u_1 (u_x (u_v S 3) w_de_int)))) (star_one rfl)) (fun _ _ _=>w_df_nil) (fun Y2 S2 F2=>have I:=F2.i I;(w_de_div (u_f S2 4 (I.c (o__law_draw A)) (u_c (u_v S2 4) (u_c (w_de_addI w_de_int (u_v S2 6)) (u_1 w_de_int)))) w_de_int))) (u_c (u_x (u_v S 3) w_de_int) (u_1 (u_x (u_v S 3) w_de_int))))))) w_ds_nil) (u_r (u_f S 5 (I.c (o__law_twin A)) (u_1 (u_v S 3))))))))
theorem o_law {fa:Addr} (hfa:mg "law"=some (.ref fa)):∃fd:FuncData,(∀(s:Shared) (v:Value),BindsTo s fd ⟨[v],[]⟩ [("script",v)])/\∀base:Heap,K.In base->base.Ns mainGlobals mg->FnOk P w K mg base CX0 7 fa fd ["script"] (spD K 1 m_law):=mkL A.f25 A.g "script" bn1 hfa ["world", "owned", "many", "size", "twice", "doubled", "order", "room", "rows", "least", "places", "row"] ["_law_like_world", "_law_cell_at", "len", "least_world", "classes", "range", "list", "beside", "_law_draw", "renamed", "sorted"] [0,1,2,3,4,5,6,7,8,9,10,11] [3,7] [0,1,2,3,4,5,6,7,8,9,10] fun base X S I hp=>
 (w_ds_cons (u_s S false 1 (u_f S 0 (I.c (o__law_like_world A)) (u_c (u_v S 0) (u_c w_de_int (u_1 w_de_int))))) (w_ds_cons (u_s S false 2 (u_e (q_eq I.r) (w_de_mod (u_f S 1 (I.c (o__law_cell_at A)) (u_c (u_v S 0) (u_1 w_de_int))) w_de_int) w_de_int)) (w_ds_cons (u_s S false 3 (u_n S 2 I.e.n0 (u_1 (u_x (u_v S 1) w_de_int)))) (w_ds_cons (w_cs_unp2 S 10 11 rfl rfl rfl rfl (u_f S 3 (I.c (o_least_world A)) (u_c (u_v S 1) (u_1 (u_v S 2)))) rfl rfl) (w_cs_frz 10 (w_ds_cons (u_s S false 4 (u_n S 2 I.e.n0 (u_1 (u_x (u_v S 10) w_de_int)))) (w_ds_cons (w_ds_if (u_t (q_ne I.r) (u_f S 4 (I.c (o_classes A)) (u_c (u_v S 10) (u_1 (u_v S 2)))) (u_o [8] [] [] S 8 (w_cr1 S 5 rfl rfl I.e.n1 (u_1 (u_v S 4)) (star_one rfl)) (fun _ _ _=>w_df_nil) (fun Y1 S1 F1=>(w_de_list .leaf (u_1 (u_v S1 8)))))) (u_r w_de_bool) w_ds_nil) (w_ds_cons (u_s S false 5 (u_f S 3 (I.c (o_least_world A)) (u_c (u_v S 10) (u_1 (u_v S 2))))) (w_ds_cons (w_ds_if (u_t (q_ne I.r) (u_v S 5) (w_de_tup (u_c (u_v S 10) (u_1 (w_cb_listRange S 6 5 rfl rfl I.e.n8 rfl rfl I.e.n1 (u_1 (u_v S 4)) (star_one rfl) (star_one rfl)))))) (u_r w_de_bool) w_ds_nil) (w_ds_cons (u_s S false 6 (u_f S 4 (I.c (o_classes A)) (u_c (u_f S 7 (I.c (o_beside A)) (u_c (u_v S 1) (u_1 (u_v S 1)))) (u_1 (u_v S 2))))) (w_ds_cons (w_ds_if (u_t (q_ne I.r) (u_v S 6) (u_o [3,12] [3] [] S 12 (w_di_seq (u_f S 4 (I.c (o_classes A)) (u_c (u_v S 1) (u_1 (u_v S 2))))) (fun _ _ _=>w_df_nil) (fun Y2 S2 F2=>(w_ce_cat (u_v S2 12) (u_o [3,8] [3] [] S2 8 (w_di_seq (u_v S2 12)) (fun _ _ _=>w_df_nil) (fun Y3 S3 F3=>(w_de_addI (u_v S3 8) (u_v S3 3)))))))) (u_r w_de_bool) w_ds_nil) (w_ds_cons (u_s S true 7 (w_de_list .leaf w_da_nil)) (w_ds_cons (w_cs_for S 8 rfl rfl hp (w_cr1 S 5 rfl rfl I.e.n1 (u_1 (u_v S 3)) (star_one rfl)) (w_ds_one (w_cs_ins S 7 rfl rfl (u_c (w_de_mod (u_f S 8 (I.c (o__law_draw A)) (u_c (u_f S 1 (I.c (o__law_cell_at A)) (u_c (u_v S 0) (u_1 w_de_int))) (u_c (u_v S 8) (u_1 w_de_int)))) (w_de_addI (u_v S 8) w_de_int)) (u_1 (u_v S 8))) (star_cons rfl) rfl rfl rfl rfl rfl)) (fun _=>rfl)) (w_cs_frz 7 (w_ds_cons (w_cs_setComp (vs':=[7,12]) (cs':=[7]) (lo':=[]) (gs':=[10]) S false 9 .leaf 12 rfl rfl rfl rfl (by kernel_rfl) (by kernel_rfl) (by kernel_rfl) (w_di_seq (u_f S 4 (I.c (o_classes A)) (u_c (u_f S 9 (I.c (o_renamed A)) (u_c (u_v S 1) (u_1 (u_v S 7)))) (u_1 (u_v S 2))))) (fun _ _ _=>w_df_nil) (fun Y4 S4 F4=>have I:=F4.i I;(w_cb_sorted S4 10 rfl rfl I.e.n4 (u_1 (u_o [7,8] [7] [] S4 8 (w_di_seq (u_v S4 12)) (fun _ _ _=>w_df_nil) (fun Y5 S5 F5=>(u_x (u_v S5 7) (u_v S5 8))))) (star_cons rfl) rfl)) (fun _=>rfl)) (u_r (u_e (q_eq I.r) (w_cb_sortR S I.r 10 rfl rfl I.e.n4 (u_v S 9) (star_one rfl) (star_cons rfl) rfl) (u_f S 4 (I.c (o_classes A)) (u_c (u_v S 1) (u_1 (u_v S 2)))))))))))))))))))))
end
end KC.Z
open PySem PySem.W PyProof.Rows
def PySem.W.Fast.tw18314991992568548291:=0
def PySem.W.Fast.tw6650614331577383972:=0
def PySem.W.Fast.tw6485008019181756228:=0
def PySem.W.Fast.tw12464871495615073733:=0
def PySem.W.Fast.tw3828118247603835335:=0
def PySem.W.Fast.tw17972851636983179753:=0
def PySem.W.Fast.tw12423949433438619113:=0
def PySem.W.Fast.tw9955184364174988174:=0
def PySem.W.Fast.tw17487113942879567763:=0
def PySem.W.Fast.tw17114216405730921948:=0
def PySem.W.Fast.tw16144078544923852863:=0
set_option maxRecDepth 100000 in
set_option maxHeartbeats 0 in
theorem PySem.Challenge.cw_foreseehall_k48_whole_least_worlds_are_l_holds : PySem.Challenge.rw_foreseehall_k48_whole_least_worlds_are_l.Holds := by
 w_on;o_law;k_head;(case hw=>w_witness2)
 k_fill
 refine T.walkG (j:=7) (l:=PySem.Challenge.rw_foreseehall_k48_whole_least_worlds_are_l) KC.Z.law_true ⟨rfl,by decide,by decide,rfl⟩ rfl rfl (fun w h Y=>PySem.W.kIn_of Y) ?F
 case F=>
  intro w mg fa h KX G hmg
  refine' KC.Z.o_law (.mk (.mk (T.gn KX G ?z0) (T.gn KX G ?z1) (T.gn KX G ?z2) (T.gn KX G ?z3) (T.gn KX G ?z4) (T.gn KX G ?z5) (T.gn KX G ?z6) (T.gn KX G ?z7) (T.gn KX G ?z8) (T.gn KX G ?z9) (T.gt KX G ?e0 ?q0 ?v0) (T.gi KX G ?e1) (T.gt KX G ?e2 ?q2 ?v2)) (T.ft KX G ?a0 ?l0 ?c0 ?k0) (T.ft KX G ?a1 ?l1 ?c1 ?k1) (T.ft KX G ?a2 ?l2 ?c2 ?k2) (T.ft KX G ?a3 ?l3 ?c3 ?k3) (T.ft KX G ?a4 ?l4 ?c4 ?k4) (T.ft KX G ?a5 ?l5 ?c5 ?k5) (T.ft KX G ?a6 ?l6 ?c6 ?k6) (T.ft KX G ?a7 ?l7 ?c7 ?k7) (T.ft KX G ?a8 ?l8 ?c8 ?k8) (T.ft KX G ?a9 ?l9 ?c9 ?k9) (T.ft KX G ?a10 ?l10 ?c10 ?k10) (T.ft KX G ?a11 ?l11 ?c11 ?k11) (T.ft KX G ?a12 ?l12 ?c12 ?k12) (T.ft KX G ?a13 ?l13 ?c13 ?k13) (T.ft KX G ?a14 ?l14 ?c14 ?k14) (T.ft KX G ?a15 ?l15 ?c15 ?k15) (T.ft KX G ?a16 ?l16 ?c16 ?k16) (T.ft KX G ?a17 ?l17 ?c17 ?k17) (T.ft KX G ?a18 ?l18 ?c18 ?k18) (T.ft KX G ?a19 ?l19 ?c19 ?k19) (T.ft KX G ?a20 ?l20 ?c20 ?k20) (T.ft KX G ?a21 ?l21 ?c21 ?k21) (T.ft KX G ?a22 ?l22 ?c22 ?k22) (T.ft KX G ?a23 ?l23 ?c23 ?k23) (T.ft KX G ?a24 ?l24 ?c24 ?k24) (T.ft KX G ?a25 ?l25 ?c25 ?k25)) hmg
  case a0|l0|c0|k0|a1|l1|c1|k1|a2|l2|c2|k2|a3|l3|c3|k3|a4|l4|c4|k4|a5|l5|c5|k5|a6|l6|c6|k6|a7|l7|c7|k7|a8|l8|c8|k8|a9|l9|c9|k9|a10|l10|c10|k10|a11|l11|c11|k11|a12|l12|c12|k12|a13|l13|c13|k13|a14|l14|c14|k14|a15|l15|c15|k15|a16|l16|c16|k16|a17|l17|c17|k17|a18|l18|c18|k18|a19|l19|c19|k19|a20|l20|c20|k20|a21|l21|c21|k21|a22|l22|c22|k22|a23|l23|c23|k23|a24|l24|c24|k24|a25|l25|c25|k25|z0|z1|z2|z3|z4|z5|z6|z7|z8|z9|e0|q0=>k_is
  case v0=>kernel_rfl
  case e1|e2|q2=>k_is
  case v2=>kernel_rfl
