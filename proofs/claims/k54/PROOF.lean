import PyProof.Rows.All
import Wide.All
import OpenK.AllK
import Wide.FinOn
import PyProof.EqAt
import PyProof.EqKinds
import PyProof.TupleCall
import PyProof.StrBlockH
import PyProof.StrWalks
import PyProof.StrCalls
import PyProof.SetRoads
import PyProof.DictRoadsH
import Lean
import PySem.Challenge.RW_foreseehall_k54_fair_papers_judged
open List (mem_append_right mem_append_left getElem?_eq_getElem length_map append_assoc length_set mem_cons_of_mem mem_cons_self getElem?_map mem_of_getElem? getD_eq_getElem?_getD size_toArray getElem?_set_ne map_cons length_append all_eq_true length_cons flatten_cons getElem?_set_self getElem?_append_left set_set mem_cons not_mem_nil getElem?_append_right append_nil map_map nil_append nodup_nil length_filter_le lookup_cons length_take length_singleton any_eq_true contains_iff_mem getElem?_eq_none getElem_mem replicate_succ perm_append_comm getElem_of_mem pairwise_map length_nil length_eraseIdx map_append length_drop ext_getElem? all_cons mem_or_eq_of_mem_set any_eq_false of_mem_zip getElem?_replicate getElem?_toArray nil_sublist mem_map filter_cons exists_mem_of_ne_nil map_set isEmpty_iff length_reverse mem_range getElem?_cons_succ getElem?_take take_of_length_le map_congr_left filter_eq_nil_iff mem_of_mem_eraseIdx)
set_option Elab.async false
set_option linter.all false
set_option maxRecDepth 100000
set_option maxHeartbeats 4000000
set_option maxRecDepth 10000
abbrev Fg:=PySem.W.Frag
theorem JF{m:Type _}{a:m}(s:List m){t:List m}(h:a∈t):a∈s++t:=List.mem_append_right s h
theorem JG{m:Type _}{a:m}{s:List m}(t:List m)(h:a∈s):a∈s++t:=List.mem_append_left t h
theorem JH{m:Type _}{a:m}{s t:List m}(h:a∈s++t):a∈s\/a∈t:=List.mem_append.mp h
theorem JI{m:Type _}{a b:m}{t:List m}(h:a∈b::t):a=b\/a∈t:=List.mem_cons.mp h
theorem JJ{m:Type _}{l:List m}{i:Nat}(h:i<l.length):l[i]?=some l[i]:=List.getElem?_eq_getElem h
theorem JK{m:Type _}{l:List m}{i:Nat}{a:m}:l.getD i a=l[i]?.getD a:=List.getD_eq_getElem?_getD
theorem JL{m:Type _}(y:m){a:m}{l:List m}(h:a∈l):a∈y::l:=List.mem_cons_of_mem y h
abbrev JM{m:Type _}{a b:List m}:=(List.nodup_append (l₁:=a) (l₂:=b)).mp
abbrev JN{m:Type _}{a:m}{l:List m}{i:Nat}:=(List.getElem?_eq_some_iff (l:=l) (i:=i) (a:=a)).mp
abbrev JO:=@PySem.wpAny_bind
abbrev JP:=@PySem.wpAny_pure
abbrev JQ:=@PySem.Heap.get?_push_of_some
abbrev JR:=@Nat.le_refl
abbrev JS:=PySem.PyData
namespace L2
open PySem PySem.Spec PyProof.Rows
variable{S:List Value}{u:Value}{a:List Addr}{b y:Addr}{h X:Heap}{o:Obj}{g':Array GenState}{d':Drawn}{t' k:Nat}{x:Str}{e:Expr}{N:List Str}{M:Str->Option Value}{A:Around}{U:List Expr}{g:Int->Int->Int}
abbrev ly:=Sum Int Str
def zd:ly->Value->Bool
 |.inl k,v=>Value.isInt k v
 |.inr x,v=>Value.isStrOf x v
def Ih(w:World):ly->Int
 |.inl k=>hashInt k
 |.inr x=>hashStr w x
theorem vV:∀{k:ly}{v:Value},zd k v=true->(∃i t,k=Sum.inl i/\v=Value.int i t)\/(∃x t,k=Sum.inr x/\v=Value.str x t)
 |.inl i,v,h=>by
  obtain⟨t,e⟩:=Value.isInt_shape (k:=i) (v:=v) h
  exact .inl ⟨i,t,rfl,e⟩
 |.inr x,v,h=>by
  obtain⟨t,e⟩:=Value.isStrOf_shape (x:=x) (v:=v) h
  exact .inr ⟨x,t,rfl,e⟩
theorem Bx(a b:Int):decide ((Sum.inl a:ly)=Sum.inl b)=(a==b):=by
 by_cases e:a=b
 .subst e;simp
 .have h:¬(Sum.inl a:ly)=Sum.inl b:=λq=>e (Sum.inl.inj q)
  rw[decide_eq_false h];exact(beq_eq_false_iff_ne.mpr e).symm
theorem Bu(a b:Str):decide ((Sum.inr a:ly)=Sum.inr b)=decide (a=b):=by
 by_cases e:a=b
 .subst e;simp
 .have h:¬(Sum.inr a:ly)=Sum.inr b:=λq=>e (Sum.inr.inj q)
  rw[decide_eq_false h,decide_eq_false e]
theorem Bw(a:Int)(b:Str):decide ((Sum.inl a:ly)=Sum.inr b)=false:=decide_eq_false (λq=>nomatch q)
theorem Bv(a:Str)(b:Int):decide ((Sum.inr a:ly)=Sum.inl b)=false:=decide_eq_false (λq=>nomatch q)
def Gc(o:Program)(w:World):PySem.KeyKind o w ly where
 is:=zd
 hash:=Ih w
 inj:=λv a b U Z=>by
  rcases vV U with⟨i,t,rfl,rfl⟩|⟨x,t,rfl,rfl⟩
  .rcases vV Z with⟨j,u,rfl,e⟩|⟨y,u,rfl,e⟩
   .injection e with e1 _;rw[e1]
   .exact nomatch e
  .rcases vV Z with⟨j,u,rfl,e⟩|⟨y,u,rfl,e⟩
   .exact nomatch e
   .injection e with e1 _;rw[e1]
 byValue:=λk v h=>by
  rcases vV h with⟨i,t,rfl,rfl⟩|⟨x,t,rfl,rfl⟩<;>rfl
 pyHash:=λR h=>by
  rcases vV R with⟨i,t,rfl,rfl⟩|⟨x,t,rfl,rfl⟩
  .exact wpAny_pyHash_int h
  .exact wpAny_pyHash_str h
 eqBool:=λm R h=>by
  rcases vV m with⟨i,t,rfl,rfl⟩|⟨x,t,rfl,rfl⟩
  .rcases vV R with⟨j,u,rfl,rfl⟩|⟨y,u,rfl,rfl⟩
   .rw[Bx]at h;exact wpAny_eqBool_int h
   .rw[Bw]at h;exact SeqAt.EqAt.int_str i t y u _ _ _ _ h
  .rcases vV R with⟨j,u,rfl,rfl⟩|⟨y,u,rfl,rfl⟩
   .rw[Bv]at h;exact SeqAt.EqAt.str_int x t j u _ _ _ _ h
   .rw[Bu]at h;exact wpAny_eqBool_str h
 «strs»:=λk x t v h=>by
  rcases vV h with⟨i,u,rfl,e⟩|⟨y,u,rfl,e⟩
  .exact nomatch e
  .injection e with e1 _
   subst e1
   cases v<;>rfl
inductive V where
 |non|bl (b:Bool)|int (i:Int)|str (x:Str)|byt (b:Array UInt8)|flt (b:UInt64)|ref (a:Addr)|ty (n:String)
 deriving DecidableEq
def RelV:V->Value->Prop
 |.non,u=>u=Value.none
 |.bl b,u=>u=Value.bool b
 |.int i,u=>∃t,u=Value.int i t
 |.str x,u=>∃t,u=Value.str x t
 |.byt b,u=>∃t,u=Value.bytes b t
 |.flt b,u=>∃t,u=Value.float b t
 |.ref a,u=>u=Value.ref a
 |.ty n,u=>u=Value.type n
abbrev Vals:List V->List Value->Prop:=Paired RelV
theorem Vals.length{Y:List V}(r:Vals Y S):Y.length=S.length:=Paired.length r
theorem Vals.get:∀{Y:List V}{us:List Value}{i:Nat}{x:V},Vals Y us->Y[i]?=some x->∃u,us[i]?=some u/\RelV x u
 |_,_,_,_,.nil,e=>by simp at e
 |_,_,0,_,.cons r _,e=>by simp at e;subst e;exact⟨_,rfl,r⟩
 |_,_,i+1,x,.cons _ t,e=>by
  obtain⟨u,J,S⟩:=Vals.get (i:=i) (x:=x) t (by simpa using e)
  exact⟨u,by simpa using J,S⟩
theorem Vals.set{x:V}(r:RelV x u):∀{Y:List V}{us:List Value}(i:Nat),Vals Y us->Vals (Y.set i x) (us.set i u)
 |_,_,_,.nil=>.nil
 |_,_,0,.cons _ t=>.cons r t
 |_,_,i+1,.cons q t=>.cons q (Vals.set r i t)
theorem Vals.append:∀{Y U:List V}{us ws:List Value},Vals Y us->Vals U ws->Vals (Y++U) (us++ws)
 |_,_,_,_,.nil,s=>s
 |_,_,_,_,.cons r t,s=>.cons r (Vals.append t s)
theorem Vals.take:∀{Y:List V}{us:List Value}(n:Nat),Vals Y us->Vals (Y.take n) (us.take n)
 |_,_,0,_=>.nil
 |_,_,_+1,.nil=>.nil
 |_,_,n+1,.cons r t=>.cons r (Vals.take n t)
theorem Vals.drop:∀{Y:List V}{us:List Value}(n:Nat),Vals Y us->Vals (Y.drop n) (us.drop n)
 |_,_,0,r=>r
 |_,_,_+1,.nil=>.nil
 |_,_,n+1,.cons _ t=>Vals.drop n t
def Cg:Option V->Option Value->Prop
 |some v,some u=>RelV v u
 |none,none=>True
 |_,_=>False
def KV{f:Type}:List (f×V)->List (f×Value)->Prop:=Paired λ(p:f×V)(q:f×Value)=>p.1=q.1/\RelV p.2 q.2
def kV:ly->V
 |.inl i=>.int i
 |.inr x=>.str x
inductive HO where
 |lst (xs:List V)
 |tup (xs:List V)
 |dK (kvs:List (ly×V))|dT (kvs:List (List ly×V))
 |set (S:Int->Bool) (n:Nat)
 |ins (C dx:Addr) (fs:List (Str×V))
 |own (x:Addr)
 |xd (fs:List (Str×V))
 |met (f x:Addr)
 |rng (lo hi:Int)
 |frz (o:Obj) (u:HO)
 |tbl (ps:Array Value)
 |ext (φ:Heap->Prop)
abbrev Hp:=Addr->Option HO
def bF(H:Hp)(a:Addr)(o:HO):Hp:=λb=>if b=a then some o else H b
theorem fT{H:Hp}{a:Addr}{o:HO}:bF H a o a=some o:=by unfold bF;rw[if_pos rfl]
theorem eA{H:Hp}{a:Addr}{o:HO}(h:b≠a):bF H a o b=H b:=by unfold bF;rw[if_neg h]
theorem vE{H:Hp}{a:Addr}{o:HO}(h:H a=some o)(j:H b=none):a≠b:=by
 intro e;subst e;rw[h]at j;cases j
section
variable(P:Program)(w:World)
def ObjOk(H:Hp)(h:Heap)(a:Addr):HO->Prop
 |.lst Y=>Y.length<=sizeLine/\∃(g:List Value)(n:Nat),Vals Y g/\h.get? a=some {cls:=.type "list",data:=.seq g.toArray n}
 |.tup Y=>Y.length<=sizeLine/\∃g:List Value,Vals Y g/\IsTup h a g.toArray
 |.dK j=>j.length<=sizeLine/\(a==sysModules)=false/\∃L,KV j L/\h.DictOf (Gc P w) a L
 |.dT j=>j.length<=sizeLine/\(a==sysModules)=false/\∃Y:List (List ly×Addr×Value),
   Paired (λ(p:List ly×V)(q:List ly×Addr×Value)=>p.1=q.1/\H q.2.1=some (.tup (p.1.map kV))/\RelV p.2 q.2.2) j Y /\
   ∃o U N,h.get? a=some o/\o.ExactDict/\o.data=.dict U N/\U.toList=Y.map (entryOfKey (tupleKind (Gc P w)))/\(Y.map (·.1)).Nodup
 |.set S n=>h.SetOf (intKind P w) a S n
 |.ins C s fs=>H s=some (.own a)/\fs.length<=1000/\s≠a/\h.get? a=some (PySem.W.instObj C s) /\
   ∃M,h.Ns1 s M/\(∀f,Cg (fs.lookup f) (M f))/\PySem.Within M (fs.map (·.1))
 |.own _=>∃o,h.get? a=some o
 |.xd fs=>∃M,h.Ns1 a M/\∀f,Cg (fs.lookup f) (M f)
 |.rng O l=>∃t u v,h.get? a=some {cls:=.type "range",data:=.fields #[.int O t,.int l u,.int 1 v]}
 |.frz o u=>h.get? a=some o/\ObjOk H h a u
 |.tbl G=>h.get? a=some {cls:=.none,data:=.fields G}
 |.met f x=>h.get? a=some (PySem.W.methodObj (.ref f) (.ref x))
 |.ext i=>i h/\(∃o,h.get? a=some o)/\∀J b:Heap,i J->(∀o,J.get? a=some o->b.get? a=some o)->i b
def HOk(H:Hp)(h:Heap):Prop:=∀a o,H a=some o->ObjOk P w H h a o
end
section
variable{P:Program}{w:World}{H H':Hp}{h h':Heap}{a:Addr}{o:HO}
theorem ObjOk.lt(x:ObjOk P w H h a o):a<h.objs.size:=by
 cases o with
 |lst Y=>obtain⟨_,_,_,_,e⟩:=x;exact Heap.lt_size e
 |tup Y=>obtain⟨_,_,_,p⟩:=x;exact p.lt
 |dK j=>obtain⟨_,_,_,_,o,_,_,e,_⟩:=x;exact Heap.lt_size e
 |dT j=>obtain⟨_,_,_,_,o,_,_,e,_⟩:=x;exact Heap.lt_size e
 |set S n=>obtain⟨o,_,_,_,e,_⟩:=x;exact Heap.lt_size e
 |ins C s fs=>obtain⟨_,_,_,e,_⟩:=x;exact Heap.lt_size e
 |own y=>obtain⟨_,e⟩:=x;exact Heap.lt_size e
 |xd fs=>obtain⟨_,⟨_,_,_,e,_⟩,_⟩:=x;exact Heap.lt_size e
 |rng O l=>obtain⟨_,_,_,e⟩:=x;exact Heap.lt_size e
 |frz K u=>obtain⟨e,_⟩:=x;exact Heap.lt_size e
 |tbl G=>exact Heap.lt_size (show h.get? a=some _ from x)
 |met f y=>exact Heap.lt_size (show h.get? a=some _ from x)
 |ext i=>obtain⟨_,⟨_,e⟩,_⟩:=x;exact Heap.lt_size e
theorem Paired.mapP{m d:Type}{F G:m->d->Prop}:∀{c:List m}{l₂:List d},Paired F c l₂->(∀a b,F a b->G a b)->Paired G c l₂
 |_,_,.nil,_=>.nil
 |_,_,.cons r t,f=>.cons (f _ _ r) (Paired.mapP t f)
theorem ObjOk.stay(x:ObjOk P w H h a o)(k:∀b u,(b=a\/H b=some (.own a))->h.get? b=some u->h'.get? b=some u)(J:∀b,H b=some (.own a)->H' b=some (.own a))(I:∀b Y,H b=some (.tup Y)->H' b=some (.tup Y)):ObjOk P w H' h' a o:=by
 induction o with
 |lst Y=>obtain⟨z,g,n,r,e⟩:=x;exact⟨z,g,n,r,k _ _ (.inl rfl) e⟩
 |tup Y=>obtain⟨z,g,r,K,e,c⟩:=x;exact⟨z,g,r,K,k _ _ (.inl rfl) e,c⟩
 |dK j=>obtain⟨z,y,L,r,K,U,N,e,c⟩:=x;exact⟨z,y,L,r,K,U,N,k _ _ (.inl rfl) e,c⟩
 |dT j=>
  obtain⟨z,y,Y,r,K,U,N,e,c⟩:=x;exact⟨z,y,Y,Paired.mapP r λp q z=>⟨z.1,I _ _ z.2.1,z.2.2⟩,K,U,N,k _ _ (.inl rfl) e,c⟩
 |set S n=>obtain⟨K,U,N,t,e,c⟩:=x;exact⟨K,U,N,t,k _ _ (.inl rfl) e,c⟩
 |ins C s fs=>
  obtain⟨d,z,X,e,M,⟨m,U,N,R,c⟩,r⟩:=x;exact⟨J _ d,z,X,k _ _ (.inl rfl) e,M,⟨m,U,N,k _ _ (.inr d) R,c⟩,r⟩
 |own y=>obtain⟨K,e⟩:=x;exact⟨K,k _ _ (.inl rfl) e⟩
 |xd fs=>obtain⟨M,⟨m,U,N,e,c⟩,r⟩:=x;exact⟨M,⟨m,U,N,k _ _ (.inl rfl) e,c⟩,r⟩
 |rng O l=>obtain⟨t,u,v,e⟩:=x;exact⟨t,u,v,k _ _ (.inl rfl) e⟩
 |frz K u E=>obtain⟨e,q⟩:=x;exact⟨k _ _ (.inl rfl) e,E q⟩
 |tbl G=>
  have e:h.get? a=some {cls:=.none,data:=.fields G}:=x
  show h'.get? a=some {cls:=.none,data:=.fields G}
  exact k a _ (.inl rfl) e
 |met f y=>
  have e:h.get? a=some (PySem.W.methodObj (.ref f) (.ref y)):=x
  show h'.get? a=some (PySem.W.methodObj (.ref f) (.ref y))
  exact k a _ (.inl rfl) e
 |ext i=>obtain⟨p,⟨o,e⟩,A⟩:=x;exact⟨A _ _ p λo q=>k _ _ (.inl rfl) q,⟨o,k _ _ (.inl rfl) e⟩,A⟩
theorem HOk.lt(x:HOk P w H h)(e:H a=some o):a<h.objs.size:=(x a o e).lt
theorem HOk.fresh(x:HOk P w H h)(e:h.objs.size<=a):H a=none:=by
 cases q:H a with
 |none=>rfl
 |some u=>exact absurd (Nat.lt_of_lt_of_le (x.lt q) e) (Nat.lt_irrefl _)
theorem HOk.kept(x:HOk P w H h)(k:∀b u,h.get? b=some u->h'.get? b=some u):HOk P w H h':=λa o e=>
 (x a o e).stay (λb u _ q=>k b u q) (λ_ q=>q) λ_ _ q=>q
theorem HOk.laid(x:HOk P w H h)(k:∀b u,h.get? b=some u->h'.get? b=some u)(y:h.objs.size<=a)(m:ObjOk P w (bF H a o) h' a o):HOk P w (bF H a o) h':=λb u e=>by
 have d:=x.fresh y
 by_cases Z:b=a
 .subst Z;rw[fT]at e;cases e;exact m
 .rw[eA Z]at e
  exact(x b u e).stay (λc v _ q=>k c v q) (λc q=>by rw[eA (vE q d)];exact q) λc Y q=>by rw[eA (vE q d)];exact q
end
def Rd(H:Hp)(a:Addr)(u:HO):Prop:=H a=some u\/∃o,H a=some (.frz o u)
theorem Rd.ok{P:Program}{w:World}{H:Hp}{a:Addr}{u:HO}(r:Rd H a u)(x:HOk P w H h):ObjOk P w H h a u:=by
 rcases r with r|⟨o,r⟩
 .exact x a u r
 .obtain⟨_,q⟩:=x a _ r
  exact q
def FH:Option HO->Prop
 |some (.lst _)=>True
 |some (.dK _)=>True
 |some (.dT _)=>True
 |some (.set _ _)=>True
 |some (.ins _ _ _)=>True
 |some (.ext _)=>True
 |_=>False
section
variable{P:Program}{w:World}{H:Hp}{h h':Heap}{x e:Addr}{o':HO}
theorem HOk.write(ok:HOk P w H h)(j:FH (H x))(n:e=x\/H e=some (.own x))(k:∀b u,b≠e->h.get? b=some u->h'.get? b=some u)(g:∃u,h'.get? e=some u)(m:ObjOk P w (bF H x o') h' x o'):HOk P w (bF H x o') h':=λb u q=>by
 have a:∀c y,H c=some (.own y)->c≠x:=λc y r z=>by subst z;rw[r]at j;exact j
 have l:∀c Y,H c=some (.tup Y)->c≠x:=λc Y r z=>by subst z;rw[r]at j;exact j
 by_cases Z:b=x
 .subst Z;rw[fT]at q;cases q;exact m
 .rw[eA Z]at q
  by_cases d:b=e
  .have i:H b=some (.own x):=by
    rcases n with z|z
    .exact absurd (d.trans z) Z
    .rw[d];exact z
   rw[q]at i;cases i
   obtain⟨v,R⟩:=g;exact⟨v,by rw[d];exact R⟩
  .refine(ok b u q).stay (λc v f r=>k c v ?_ r) (λc r=>by rw[eA (a c b r)];exact r) λc Y r=>by rw[eA (l c Y r)];exact r
   rcases f with rfl|f
   .exact d
   .rintro rfl
    rcases n with z|z
    .exact a c b f z
    .rw[f]at z;cases z;exact Z rfl
end
structure Un(fs ex:List Addr)(H H':Hp)(h h':Heap):Prop where
 keep:∀b o,h.get? b=some o->H b=none->b∉fs->b∉ex->h'.get? b=some o
 slot:∀b o,h.get? b=some o->H b=none->b∈fs->b∉ex->∃sl,h'.get? b=some {o with slots:=sl}
 free:∀b o,h.get? b=some o->H b=none->b∉ex->H' b=none
 there:∀b o,h.get? b=some o->b∉ex->∃o',h'.get? b=some o'
 tups:∀b xs,H b=some (.tup xs)->H' b=some (.tup xs)
 frzs:∀b o u,H b=some (.frz o u)->H' b=some (.frz o u)
 tbls:∀b ps,H b=some (.tbl ps)->∃more,H' b=some (.tbl (ps++more))
section
variable{fs fs' ex ex':List Addr}{H H1 H2:Hp}{h h1 h2 h':Heap}{a x e:Addr}{o:HO}
theorem Un.any(u:Un fs ex H H1 h h1){K:Obj}(q:h.get? b=some K)(n:H b=none)(A:b∉ex):∃M,h1.get? b=some {K with slots:=M}:=by
 by_cases Z:b∈fs
 .exact u.slot b K q n Z A
 .exact⟨K.slots,u.keep b K q n Z A⟩
theorem Un.kept(k:∀b u,h.get? b=some u->h'.get? b=some u):Un fs ex H H h h':=
 ⟨λb K q _ _ _=>k b K q,λb K q _ _ _=>⟨K.slots,k b K q⟩,λ_ _ _ n _=>n,λb K q _=>⟨K,k b K q⟩,λ_ _ q=>q,λ_ _ _ q=>q,λ_ G q=>⟨#[],by rw[q];simp⟩⟩
theorem Un.refl:Un fs ex H H h h:=Un.kept λ_ _ q=>q
theorem Un.laid(k:∀b u,h.get? b=some u->h'.get? b=some u)(y:h.objs.size<=a)(c:H a=none):Un fs ex H (bF H a o) h h' where
 keep:=λb u q _ _ _=>k b u q
 slot:=λb u q _ _ _=>⟨u.slots,k b u q⟩
 free:=λb u q n _=>by rw[eA (Nat.ne_of_lt (Nat.lt_of_lt_of_le (Heap.lt_size q) y))];exact n
 there:=λb u q _=>⟨u,k b u q⟩
 tups:=λb Y q=>by rw[eA (vE q c)];exact q
 frzs:=λb u Y q=>by rw[eA (vE q c)];exact q
 tbls:=λb G q=>⟨#[],by rw[eA (vE q c),q];simp⟩
theorem Un.write(j:FH (H x))(R:e=x\/H e=some (.own x))(k:∀b u,b≠e->h.get? b=some u->h'.get? b=some u)(g:∃u,h'.get? e=some u):Un fs ex H (bF H x o) h h':=by
 have A:∀b,H b=none->b≠x:=λb n z=>by subst z;rw[n]at j;exact j
 have Z:∀b,H b=none->b≠e:=λb n z=>by
  subst z;rcases R with r|r
  .exact A b n r
  .rw[n]at r;cases r
 have C:∀b u,H b=some u->¬FH (some u)->b≠x:=λb u q c z=>by subst z;rw[q]at j;exact c j
 refine⟨λb u q n _ _=>k b u (Z b n) q,λb u q n _ _=>⟨u.slots,k b u (Z b n) q⟩,λb u q n _=>by rw[eA (A b n)];exact n,λb u q _=>?_,
  λb Y q=>by rw[eA (C b _ q λz=>z)];exact q,λb u Y q=>by rw[eA (C b _ q λz=>z)];exact q,λb G q=>⟨#[],by rw[eA (C b _ q λz=>z),q];simp⟩⟩
 by_cases d:b=e
 .subst d;exact g
 .exact⟨u,k b u d q⟩
end
def Fe(h:Heap)(H:Hp):List Addr:=(List.range h.objs.size).filter λa=>(H a).isSome
def kL(h:Heap)(H:Hp):Heap:=PySem.W.hideAll h (Fe h H)
theorem rh(h:Heap)(H:Hp):(kL h H).objs.size=h.objs.size:=PySem.W.hideAll_size _ _
theorem uP{H:Hp}(e:h.get? b=some o)(n:H b=none):(kL h H).get? b=some o:=
 PySem.W.hideAll_get _ e λC=>by
  have q:(H b).isSome=true:=(List.mem_filter.mp C).2
  rw[n]at q;simp at q
theorem xw{H:Hp}(e:(kL h H).get? b=some o):h.get? b=some o/\H b=none:=by
 have f:h.get? b=some o:=PySem.W.of_hideAll (Fe h H) e
 refine⟨f,?_⟩
 cases q:H b with
 |none=>rfl
 |some x=>
  have C:b∈Fe h H:=List.mem_filter.mpr ⟨List.mem_range.mpr (Heap.lt_size f),by simp[q]⟩
  have z:(kL h H).get? b=none:=PySem.W.hideAll_none (Fe h H) C
  rw[z]at e;cases e
structure Mod(K:Fg)(mg:Str->Option Value)(base:Heap):Prop where
 kin:K.In base
 glob:base.Ns mainGlobals mg
 blt:∃mb,base.Ns builtinsNs mb/\∀x:Str,x ≠ "__name__"->mb x=bootBuiltins x
 nolimit:base.NoLimit
structure Cx where
 prog:Program
 w:World
 K:Fg
 mg:Str->Option Value
 base:Heap
 A:Around
 N:List Str
 s₀:Shared
 H₀:Hp
 env:Env
 outer:List Env
 stack:List Env
 ex:List Addr
 fn:Str->Bool
 calm:Bool
 pn:List (Addr×Obj)
 xe:Value->Shared->Prop
def u4(l:List Env):List Addr:=l.filterMap (·.frame)
abbrev Cx.fs(X:Cx):List Addr:=u4 X.outer
def Ce(sc:Scope)(x:Str):Prop:=sc.names.lookup x=some .local\/sc.names.lookup x=some .cell\/sc.names.lookup x=some .free
def Loc(sc:Scope)(x:Str):Prop:=sc.names.lookup x=some .local\/sc.names.lookup x=some .cell
def Look(g:Env)(h:Heap)(m:Str->Option Value)(x:Str)(u:Value):Prop:=
 (g.kindOf x=some .local/\m x=some u)\/((g.kindOf x=some .cell\/g.kindOf x=some .free)/\∃c,g.cells.lookup x=some c/\h.IsCell c (some u))
structure Cx.Ok(X:Cx):Prop where
 mod:Mod X.K X.mg X.base
 kind:X.env.scope.kind=.function
 glob:X.env.globals=mainGlobals
 blt:X.env.builtins=builtinsNs
 above:X.s₀.heap.objs.size<=X.env.locals
 inj:∀x y c,X.env.cells.lookup x=some c->X.env.cells.lookup y=some c->x=y
 has:∀x,(X.env.kindOf x=some .cell\/X.env.kindOf x=some .free)->∃c,X.env.cells.lookup x=some c
 cab:∀x c,X.fn x=true->X.env.cells.lookup x=some c->X.s₀.heap.objs.size<=c
 hd:X.calm=true->X.A.handled=none
 frames:X.A.frames=some X.stack
 stk:X.stack=X.outer\/(X.stack=X.env::X.outer/\X.env.frame=some X.env.locals)
 exf:∀b∈X.ex,b≠X.env.locals/\∀x c,X.env.cells.lookup x=some c->c≠b
 bs:∀b o,X.base.get? b=some o->X.s₀.heap.get? b=some o/\X.H₀ b=none
 bsz:X.base.objs.size<=X.s₀.heap.objs.size
 noex:∀b o,X.base.get? b=some o->b∉X.ex
 exfs:∀b∈X.ex,b∉X.fs
 funs:X.s₀.heap.FunFrames X.base X.outer
 frf:∀b∈X.fs,X.H₀ b=none
structure Inv(X:Cx)(pins:List (Addr×Obj))(σ:List (Option V))(H:Hp)(s:Shared):Prop where
 ok:X.Ok
 os:s.os=X.s₀.os
 bare:AllBare s.gens
 base:Un X.fs X.ex X.H₀ H X.s₀.heap s.heap
 loc:∃m,s.heap.Ns X.env.locals m/\∀(i:Nat)(x:Str)(v:V),X.N[i]?=some x->σ[i]?=some (some v)->Ce X.env.scope x->∃u,RelV v u/\Look X.env s.heap m x u
 cell:∀x c,X.env.cells.lookup x=some c->∃v,s.heap.IsCell c v
 free:H X.env.locals=none
 freeC:∀x c,X.env.cells.lookup x=some c->H c=none
 pin:∀p∈X.pn++pins,s.heap.get? p.1=some p.2/\H p.1=none/\p.1≠X.env.locals/\p.1∉X.fs/\∀v,p.2.data≠.cell v
 hok:HOk X.prog X.w H s.heap
 len:σ.length=X.N.length
section
variable{X:Cx}{pins:List (Addr×Obj)}{σ:List (Option V)}{H H':Hp}{s:Shared}{h':Heap}
theorem Cx.Ok.nofr(ok:X.Ok)(e:X.base.get? b=some o):b∉X.fs:=λZ=>by
 have:=(ok.funs.mem Z).1
 rw[e]at this;cases this
theorem Inv.bs(I:Inv X pins σ H s):∀b o,X.base.get? b=some o->s.heap.get? b=some o/\H b=none:=λb o e=>
 ⟨I.base.keep b o (I.ok.bs b o e).1 (I.ok.bs b o e).2 (I.ok.nofr e) (I.ok.noex b o e),I.base.free b o (I.ok.bs b o e).1 (I.ok.bs b o e).2 (I.ok.noex b o e)⟩
theorem Inv.bk(I:Inv X pins σ H s):∀b o,X.base.get? b=some o->s.heap.get? b=some o:=λb o e=>(I.bs b o e).1
theorem Inv.mod(I:Inv X pins σ H s):Mod X.K X.mg X.base:=I.ok.mod
theorem Inv.kIn(I:Inv X pins σ H s):X.K.In s.heap:=I.ok.mod.kin.keeps I.bk
theorem Inv.lt(I:Inv X pins σ H s):X.env.locals<s.heap.objs.size:=let⟨_,Y,_⟩:=I.loc;Y.lt
theorem Inv.sz(I:Inv X pins σ H s):X.s₀.heap.objs.size<=s.heap.objs.size:=Nat.le_trans I.ok.above (Nat.le_of_lt I.lt)
theorem Inv.nofs(I:Inv X pins σ H s){a:Addr}(h:s.heap.objs.size<=a):a∉X.fs:=λZ=>by
 obtain⟨_,o,J,_⟩:=I.ok.funs.mem Z;exact absurd (Nat.lt_of_lt_of_le (Heap.lt_size J) (Nat.le_trans I.sz h)) (Nat.lt_irrefl _)
theorem Inv.cne(I:Inv X pins σ H s):∀x c,X.env.cells.lookup x=some c->c≠X.env.locals:=λx c e z=>by
 obtain⟨v,o,J,U⟩:=I.cell x c e;obtain⟨m,⟨L,b,N,i,a,_⟩,_⟩:=I.loc;rw[z,i]at J;cases J;rw[a]at U;cases U
theorem Inv.funs(I:Inv X pins σ H s):s.heap.FunFrames X.base X.outer:=by
 have all:∀(l:List Env),(∀b∈u4 l,b∈X.fs)->X.s₀.heap.FunFrames X.base l->s.heap.FunFrames X.base l:=by
  intro l;induction l with
  |nil=>intro _ _;trivial
  |cons g r E=>
   intro P N;obtain⟨O,⟨L,o,a,Y,J,U⟩,m⟩:=N;have c:L∈X.fs:=P L (by unfold u4;rw[List.filterMap_cons,a];exact mem_cons_self)
   obtain⟨M,e⟩:=I.base.slot L o J (I.ok.frf L c) c λz=>I.ok.exfs L z c
   exact⟨O,⟨L,_,a,Y,e,U⟩,E (λb Z=>P b (by unfold u4;rw[List.filterMap_cons,a];exact JL _ Z)) m⟩
 exact all X.outer (λ_ Z=>Z) I.ok.funs
theorem Inv.stack(I:Inv X pins σ H s):s.heap.FunFrames X.base X.stack:=by
 rcases I.ok.stk with e|⟨e,hf⟩
 .rw[e];exact I.funs
 .rw[e]
  obtain⟨m,Y,_⟩:=I.loc;refine .cons (by rw[I.ok.kind];decide) hf Y ?_ I.funs
  exact Heap.get?_none_of_le (Nat.le_trans I.ok.bsz I.ok.above)
theorem Inv.stkSub(I:Inv X pins σ H s):∀b∈u4 X.stack,b∈X.env.locals::X.fs:=λb Z=>by
 rcases I.ok.stk with e|⟨e,hf⟩
 .rw[e]at Z;exact JL _ Z
 .rw[e]at Z
  unfold u4 at Z;rw[List.filterMap_cons,hf]at Z;exact Z
theorem Inv.stkFree(I:Inv X pins σ H s):∀b∈u4 X.stack,H b=none:=λb Z=>by
 rcases JI (I.stkSub b Z)with e|Z
 .rw[e];exact I.free
 .obtain⟨_,o,J,_⟩:=I.ok.funs.mem Z
  exact I.base.free b o J (I.ok.frf b Z) λz=>I.ok.exfs b z Z
theorem Inv.step{O:Nat}{ch:List Addr}(I:Inv X pins σ H s)(a:∀b∈ch,(b∈X.ex\/X.s₀.heap.objs.size<=b)/\b≠X.env.locals/\(∀x c,X.env.cells.lookup x=some c->c≠b)/\∀p∈X.pn++pins,p.1≠b)(j:∀b o,b≠X.env.locals->b∉X.fs->b∉ch->s.heap.get? b=some o->H b=none->h'.get? b=some o)(E:∀b o,b≠X.env.locals->b∈X.fs->b∉ch->s.heap.get? b=some o->H b=none->∃M,h'.get? b=some {o with slots:=M})(free:∀b o,b∉ch->s.heap.get? b=some o->H b=none->H' b=none)(S:∀b o,b∉ch->s.heap.get? b=some o->∃L,h'.get? b=some L)(tups:∀b Y,H b=some (.tup Y)->H' b=some (.tup Y))(frzs:∀b o u,H b=some (.frz o u)->H' b=some (.frz o u))(tbls:∀b G,H b=some (.tbl G)->∃more,H' b=some (.tbl (G++more)))(ns:∀m,s.heap.Ns X.env.locals m->h'.Ns X.env.locals m)(t:HOk X.prog X.w H' h')(hg:AllBare g'):Inv X pins σ H' {s with heap:=h',gens:=g',drawn:=d',toks:=O}:=by
 have neL:∀b o,X.s₀.heap.get? b=some o->b≠X.env.locals:=λb o e=>Nat.ne_of_lt (Nat.lt_of_lt_of_le (Heap.lt_size e) I.ok.above)
 have K:∀b o,X.s₀.heap.get? b=some o->b∉X.ex->b∉ch:=λb o e A Z=>by
  rcases(a b Z).1 with z|z
  .exact A z
  .exact absurd (Nat.lt_of_lt_of_le (Heap.lt_size e) z) (Nat.lt_irrefl _)
 have h:∀x c,X.env.cells.lookup x=some c->∀v,s.heap.IsCell c v->h'.IsCell c v:=λx c e v ⟨o,J,U⟩=>by
  have C:c∉ch:=λz=>(a c z).2.2.1 x c e rfl
  by_cases f:c∈X.fs
  .obtain⟨M,q⟩:=E c o (I.cne x c e) f C J (I.freeC x c e)
   exact⟨_,q,U⟩
  .exact⟨o,j c o (I.cne x c e) f C J (I.freeC x c e),U⟩
 refine⟨I.ok,I.os,hg,⟨λb o e n Z A=>?_,λb o e n Z A=>?_,λb o e n A=>?_,λb o e A=>?_,λb Y e=>tups b Y (I.base.tups b Y e),λb o Y e=>frzs b o Y (I.base.frzs b o Y e),λb G e=>?_⟩,?_,λx c e=>?_,?_,λx c e=>?_,λp y=>?_,t,I.len⟩
 .exact j b o (neL b o e) Z (K b o e A) (I.base.keep b o e n Z A) (I.base.free b o e n A)
 .obtain⟨M,g⟩:=I.base.slot b o e n Z A
  obtain⟨sl',R⟩:=E b _ (neL b o e) Z (K b o e A) g (I.base.free b o e n A);exact⟨sl',R⟩
 .obtain⟨L,g⟩:=I.base.there b o e A
  exact free b L (K b o e A) g (I.base.free b o e n A)
 .obtain⟨L,g⟩:=I.base.there b o e A
  exact S b L (K b o e A) g
 .obtain⟨m1,g⟩:=I.base.tbls b G e
  obtain⟨m2,R⟩:=tbls b _ g;exact⟨m1++m2,by rw[R,Array.append_assoc]⟩
 .obtain⟨m,hn,N⟩:=I.loc
  refine⟨m,ns m hn,λi x v g R w=>?_⟩
  obtain⟨u,r,l⟩:=N i x v g R w;refine⟨u,r,?_⟩
  rcases l with l|⟨k,c,e,z⟩
  .exact .inl l
  .exact .inr ⟨k,c,e,h x c e _ z⟩
 .obtain⟨v,z⟩:=I.cell x c e
  exact⟨v,h x c e v z⟩
 .obtain⟨m,⟨o,_,_,J,_⟩,_⟩:=I.loc
  exact free _ o (λz=>(a _ z).2.1 rfl) J I.free
 .obtain⟨v,o,J,U⟩:=I.cell x c e
  exact free c o (λz=>(a c z).2.2.1 x c e rfl) J (I.freeC x c e)
 .obtain⟨e,n,ne,P,d⟩:=I.pin p y
  have C:p.1∉ch:=λz=>(a p.1 z).2.2.2 p y rfl
  exact⟨j p.1 p.2 ne P C e n,free p.1 p.2 C e n,ne,P,d⟩
theorem Inv.un(I:Inv X pins σ H s)(u:Un X.fs [] H H' s.heap h')(t:HOk X.prog X.w H' h'):Inv X pins σ H' {s with heap:=h',toks:=t'}:=by
 obtain⟨m,⟨o,U,N,J,r⟩,_⟩:=id I.loc;obtain⟨M,P⟩:=u.any J I.free (by simp)
 exact I.step (g':=s.gens) (d':=s.drawn) (ch:=[]) (λ_ z=>nomatch z) (λb o _ Z _ e n=>u.keep b o e n Z (by simp)) (λb o _ Z _ e n=>u.slot b o e n Z (by simp)) (λb o _ e n=>u.free b o e n (by simp)) (λb o _ e=>u.there b o e (by simp)) u.tups u.frzs u.tbls (λq C=>by
  obtain⟨L,f,d,i,E⟩:=C;rw[J]at i;cases i
  exact⟨_,f,d,P,E⟩) t I.bare
theorem Inv.call{ch:List Addr}(I:Inv X pins σ H s)(u:Un (u4 X.stack) ch H H' s.heap h')(t:HOk X.prog X.w H' h')(l:AllBare g')(a:∀b∈ch,(b∈X.ex\/X.s₀.heap.objs.size<=b)/\b≠X.env.locals/\(∀x c,X.env.cells.lookup x=some c->c≠b)/\∀p∈X.pn++pins,p.1≠b):Inv X pins σ H' {s with heap:=h',gens:=g',drawn:=d',toks:=t'}:=by
 obtain⟨m,⟨o,U,N,J,r⟩,_⟩:=id I.loc;obtain⟨M,P⟩:=u.any J I.free λz=>(a _ z).2.1 rfl
 exact I.step (ch:=ch) a (λb o P Z f e n=>u.keep b o e n (λz=>(JI (I.stkSub b z)).elim P Z) f) (λb o _ _ f e n=>u.any e n f) (λb o f e n=>u.free b o e n f) (λb o f e=>u.there b o e f) u.tups u.frzs u.tbls (λq C=>by
  obtain⟨L,g,d,i,E⟩:=C;rw[J]at i;cases i
  exact⟨_,g,d,P,E⟩) t l
theorem Inv.turned(I:Inv X pins σ H s)(k:∀b o,b≠y->s.heap.get? b=some o->h'.get? b=some o)(Y:H y=none)(P:y≠X.env.locals)(J:y∈X.ex\/X.s₀.heap.objs.size<=y)(S:∀x c,X.env.cells.lookup x=some c->c≠y)(a:∀p∈X.pn++pins,p.1≠y):Inv X pins σ H {s with heap:=h',toks:=t'}:=by
 have d:∀b u,H b=some u->b≠y:=λb u e z=>by rw[z,Y]at e;cases e
 refine I.step (g':=s.gens) (d':=s.drawn) (ch:=[y]) (λb Z=>?_) (λb o _ _ f e _=>k b o (λz=>f (by simp[z])) e) (λb o _ _ f e _=>⟨o.slots,k b o (λz=>f (by simp[z])) e⟩) (λ_ _ _ _ n=>n)
  (λb o f e=>⟨o,k b o (λz=>f (by simp[z])) e⟩) (λ_ _ e=>e) (λ_ _ _ e=>e) (λb G e=>⟨#[],by rw[e];simp⟩) (λm C=>?_) (λb u e=>?_) I.bare
 .have e:b=y:=by simpa using Z
  subst e;exact⟨J,P,S,a⟩
 .obtain⟨o,U,N,g,r⟩:=C
  exact⟨o,U,N,k _ o (Ne.symm P) g,r⟩
 .refine(I.hok b u e).stay (λc v f q=>k c v ?_ q) (λ_ q=>q) λ_ _ q=>q
  rcases f with z|z
  .rw[z];exact d b u e
  .exact d c _ z
theorem Inv.tok(I:Inv X pins σ H s)(t:Nat):Inv X pins σ H {s with toks:=t}:=I.un (h':=s.heap) (t':=t) Un.refl I.hok
theorem Inv.kept(I:Inv X pins σ H s)(k:∀b u,s.heap.get? b=some u->h'.get? b=some u):Inv X pins σ H {s with heap:=h',toks:=t'}:=I.un (Un.kept k) (I.hok.kept k)
theorem Inv.laid{a:Addr}{o:HO}(I:Inv X pins σ H s)(k:∀b u,s.heap.get? b=some u->h'.get? b=some u)(y:s.heap.objs.size<=a)(m:ObjOk X.prog X.w (bF H a o) h' a o):Inv X pins σ (bF H a o) {s with heap:=h',toks:=t'}:=I.un (Un.laid k y (I.hok.fresh y)) (I.hok.laid k y m)
theorem Inv.write{x e:Addr}{o:HO}{O:Nat}(I:Inv X pins σ H s)(j:FH (H x))(R:e=x\/H e=some (.own x))(k:∀b u,b≠e->s.heap.get? b=some u->h'.get? b=some u)(g:∃u,h'.get? e=some u)(m:ObjOk X.prog X.w (bF H x o) h' x o):Inv X pins σ (bF H x o) {s with heap:=h',toks:=O}:=I.un (Un.write j R k g) (I.hok.write j R k g m)
theorem Inv.weak{j:List (Option V)}(I:Inv X pins σ H s)(N:j.length=σ.length)(w:∀(i:Nat) v,j[i]?=some (some v)->σ[i]?=some (some v)):Inv X pins j H s:=
 ⟨I.ok,I.os,I.bare,I.base,let⟨m,Y,A⟩:=I.loc;⟨m,Y,λi x v g R a=>A i x v g (w i v R) a⟩,I.cell,I.free,I.freeC,I.pin,I.hok,N.trans I.len⟩
theorem Inv.pins_of{a:List (Addr×Obj)}(I:Inv X pins σ H s)(h:∀p∈a,s.heap.get? p.1=some p.2/\H p.1=none/\p.1≠X.env.locals/\p.1∉X.fs/\∀v,p.2.data≠.cell v):Inv X a σ H s:=
 ⟨I.ok,I.os,I.bare,I.base,I.loc,I.cell,I.free,I.freeC,λp y=>(JH y).elim (λz=>I.pin p (JG _ z)) (h p),I.hok,I.len⟩
theorem mn(c:N.Nodup){i j:Nat}(a:N[i]?=some x)(b:N[j]?=some x):i=j:=by
 obtain⟨J,g⟩:=JN a
 obtain⟨S,R⟩:=JN b
 exact(List.getElem_inj c).mp (g.trans R.symm)
theorem jM{M:Model}{E:Value->Shared->Prop}{i:Nat}{v:V}{Q:Unit->Shared->Prop}(I:Inv X pins σ H s)(J:X.N.Nodup)(l:X.N[i]?=some x)(hx:Loc X.env.scope x)(r:RelV v u)(h:∀K,Inv X pins (σ.set i (some v)) H K->(∃a,Heap.SameBut a s.heap K.heap/\(a=X.env.locals\/X.env.cells.lookup x=some a))->Q () K)(L:X.fn x=true\/X.env.scope.names.lookup x=some .local:=by first|exact .inl rfl|exact .inr rfl|assumption):wpAny M A (storeName X.env x u) Q E s:=by
 obtain⟨m,Y,N⟩:=id I.loc;have hcls:(X.env.scope.kind==.class||(X.env.scope.kind==.module&&X.env.locals != X.env.globals))=false:=by rw[I.ok.kind];rfl
 have hiσ:i<σ.length:=by rw[I.len];exact(JN l).1
 have cne:=I.cne
 have O:∀{a:Addr}{h':Heap},(∃o,s.heap.get? a=some o/\H a=none)->Heap.SameBut a s.heap h'->HOk X.prog X.w H h':=λ{a h'} ha P b ob e=>by
  obtain⟨_,_,U⟩:=ha;refine(I.hok b ob e).stay (λc w' f q=>(P.2 c ?_).trans q) (λ_ q=>q) λ_ _ q=>q
  rintro rfl
  rcases f with rfl|f
  .rw[U]at e;cases e
  .rw[U]at f;cases f
 rcases hx with hk|hk
 .refine wpAny_storeName_local hk Y (λh' hn' P=>?_) hcls
  obtain⟨oL,_,_,hoL,_⟩:=id Y;refine h _ ⟨I.ok,I.os,I.bare,⟨λb o e n Z hx=>?_,λb o e n Z hx=>?_,I.base.free,λb o e hx=>?_,I.base.tups,I.base.frzs,I.base.tbls⟩,⟨_,hn',λj y C g R w=>?_⟩,λy c e=>?_,I.free,I.freeC,λp hp=>?_,O ⟨oL,hoL,I.free⟩ P,by simpa using I.len⟩ ⟨_,P,.inl rfl⟩
  .exact(P.2 b (Nat.ne_of_lt (Nat.lt_of_lt_of_le (Heap.lt_size e) I.ok.above))).trans (I.base.keep b o e n Z hx)
  .obtain⟨sl,g⟩:=I.base.slot b o e n Z hx
   exact⟨sl,(P.2 b (Nat.ne_of_lt (Nat.lt_of_lt_of_le (Heap.lt_size e) I.ok.above))).trans g⟩
  .obtain⟨o',g⟩:=I.base.there b o e hx
   exact⟨o',(P.2 b (Nat.ne_of_lt (Nat.lt_of_lt_of_le (Heap.lt_size e) I.ok.above))).trans g⟩
  .by_cases hj:j=i
   .subst hj
    rw[l]at g;cases g;rw[getElem?_set_self hiσ]at R
    cases R;exact⟨u,r,.inl ⟨hk,by simp⟩⟩
   .rw[getElem?_set_ne (Ne.symm hj)]at R
    obtain⟨u',r',q⟩:=N j y C g R w
    refine⟨u',r',?_⟩
    rcases q with⟨k,e⟩|⟨k,c,e,z⟩
    .refine .inl ⟨k,?_⟩
     have:y≠x:=λe=>hj (mn J g (e▸l))
     simp[this,e]
    .exact .inr ⟨k,c,e,z.sameBut P (cne y c e)⟩
  .obtain⟨w',z⟩:=I.cell y c e
   exact⟨w',z.sameBut P (cne y c e)⟩
  .obtain⟨e,n,t,nf,d⟩:=I.pin p hp
   exact⟨(P.2 p.1 t).trans e,n,t,nf,d⟩
 .have hfn:X.fn x=true:=by
   rcases L with z|z
   .exact z
   .rw[z]at hk;cases hk
  obtain⟨c,f⟩:=I.ok.has x (.inl hk);obtain⟨w',z⟩:=I.cell x c f;refine wpAny_storeName_cell I.ok.kind hk f z (λh' G P=>?_)
  obtain⟨S,hoc,hocd⟩:=id z;refine h {s with heap:=h'} ⟨I.ok,I.os,I.bare,⟨λb o e n Z hx=>?_,λb o e n Z hx=>?_,I.base.free,λb o e hx=>?_,I.base.tups,I.base.frzs,I.base.tbls⟩,⟨m,Y.sameBut P (Ne.symm (cne x c f)),λj y C g R w=>?_⟩,λy c' e=>?_,I.free,I.freeC,λp hp=>?_,O ⟨S,hoc,I.freeC x c f⟩ P,by simpa using I.len⟩ ⟨c,P,.inr f⟩
  .exact(P.2 b (Nat.ne_of_lt (Nat.lt_of_lt_of_le (Heap.lt_size e) (I.ok.cab x c hfn f)))).trans (I.base.keep b o e n Z hx)
  .obtain⟨sl,g⟩:=I.base.slot b o e n Z hx
   exact⟨sl,(P.2 b (Nat.ne_of_lt (Nat.lt_of_lt_of_le (Heap.lt_size e) (I.ok.cab x c hfn f)))).trans g⟩
  .obtain⟨o',g⟩:=I.base.there b o e hx
   exact⟨o',(P.2 b (Nat.ne_of_lt (Nat.lt_of_lt_of_le (Heap.lt_size e) (I.ok.cab x c hfn f)))).trans g⟩
  .by_cases hj:j=i
   .subst hj
    rw[l]at g;cases g;rw[getElem?_set_self hiσ]at R
    cases R;exact⟨u,r,.inr ⟨.inl hk,c,f,G⟩⟩
   .rw[getElem?_set_ne (Ne.symm hj)]at R
    obtain⟨u',r',q⟩:=N j y C g R w
    refine⟨u',r',?_⟩
    rcases q with q|⟨k,c',e,z'⟩
    .exact .inl q
    .refine .inr ⟨k,c',e,z'.sameBut P ?_⟩
     rintro rfl
     exact hj (mn J g (I.ok.inj _ _ _ e f▸l))
  .by_cases hcc:c'=c
   .subst hcc;exact⟨_,G⟩
   .obtain⟨w2,z2⟩:=I.cell y c' e
    exact⟨w2,z2.sameBut P hcc⟩
  .obtain⟨e,n,t,nf,d⟩:=I.pin p hp
   refine⟨(P.2 p.1 ?_).trans e,n,t,nf,d⟩
   intro q;rw[q,hoc]at e;have q':S=p.2:=Option.some.inj e
   exact d w' (by rw[<-q'];exact hocd)
theorem GG{M:Model}{E:Value->Shared->Prop}{i:Nat}{v:V}{Q:Unit->Shared->Prop}(I:Inv X pins σ H s)(J:X.N.Nodup)(l:X.N[i]?=some x)(a:Loc X.env.scope x)(r:RelV v u)(h:∀K,Inv X pins (σ.set i (some v)) H K->Q () K)(L:X.fn x=true\/X.env.scope.names.lookup x=some .local:=by first|exact .inl rfl|exact .inr rfl|assumption):wpAny M A (storeName X.env x u) Q E s:=
 jM I J l a r (λK d _=>h K d) L
theorem Inv.call'{K:Shared}{ch:List Addr}(I:Inv X pins σ H s)(J:K.os=s.os)(u:Un (u4 X.stack) ch H H' s.heap K.heap)(t:HOk X.prog X.w H' K.heap)(l:AllBare K.gens)(a:∀b∈ch,(b∈X.ex\/X.s₀.heap.objs.size<=b)/\b≠X.env.locals/\(∀x c,X.env.cells.lookup x=some c->c≠b)/\∀p∈X.pn++pins,p.1≠b):Inv X pins σ H' K:=by
 obtain⟨h',g',d',t',L⟩:=K
 have e:L=s.os:=J
 subst e;exact I.call (g':=g') (t':=t') (d':=d') u t l a
end
abbrev XK:=Value->Option Addr->Hp->Prop
abbrev St:=List (Option V)
abbrev VK:=V->Hp->Prop
abbrev TE:=St->Hp->VK->Prop
abbrev TT:=St->Hp->(Bool->Hp->Prop)->Prop
abbrev TA:=St->Hp->(List V->Hp->Prop)->Prop
structure cP where
 nx:St->Hp->Prop
 rt:VK
 bk:St->Hp->Prop:=λ_ _=>False
 ct:St->Hp->Prop:=λ_ _=>False
abbrev TS:=cP->St->Hp->Prop
def EP(X:Cx)(G:List (Addr×Obj))(M:St)(Q:VK)(u:Value)(K:Shared):Prop:=∃v Y,Inv X G M Y K/\RelV v u/\Q v Y
def TP(X:Cx)(G:List (Addr×Obj))(M:St)(Q:Bool->Hp->Prop)(b:Bool)(K:Shared):Prop:=∃Y,Inv X G M Y K/\Q b Y
def AP(X:Cx)(G:List (Addr×Obj))(M:St)(Q:List V->Hp->Prop)(S:List Value)(K:Shared):Prop:=∃L Y,Inv X G M Y K/\Vals L S/\Q L Y
def SP(X:Cx)(G:List (Addr×Obj))(D:cP)(f:Flow)(K:Shared):Prop:=
 match f with
 |.next=>∃j Y,Inv X G j Y K/\D.nx j Y
 |.brk=>∃j Y,Inv X G j Y K/\D.bk j Y
 |.cont=>∃j Y,Inv X G j Y K/\D.ct j Y
 |.ret u=>∃v j Y,Inv X G j Y K/\RelV v u/\D.rt v Y
def PE(X:Cx)(e:Expr)(t:TE):Prop:=
 ∀(G:List (Addr×Obj))(s:Shared)(σ:St)(H:Hp)(Q:VK),Inv X G σ H s->t σ H Q->wpAny (model X.prog X.w) X.A (eval e X.env) (EP X G σ Q) X.xe s
def PT(X:Cx)(e:Expr)(t:TT):Prop:=
 ∀(G:List (Addr×Obj))(s:Shared)(σ:St)(H:Hp)(Q:Bool->Hp->Prop),Inv X G σ H s->t σ H Q->wpAny (model X.prog X.w) X.A (isTrue e X.env (eval e X.env)) (TP X G σ Q) X.xe s
def PW(X:Cx)(e:Expr)(t:TT):Prop:=
 ∀(d:Sem Value)(pins:List (Addr×Obj))(s:Shared)(σ:St)(H:Hp)(Q:Bool->Hp->Prop),Inv X pins σ H s->t σ H Q->wpAny (model X.prog X.w) X.A (isTrue e X.env d) (TP X pins σ Q) X.xe s
theorem PW.pt{X:Cx}{t:TT}(h:PW X e t):PT X e t:=h _
def PA(X:Cx)(U:List Expr)(t:TA):Prop:=
 ∀(K:Pos)(pins:List (Addr×Obj))(s:Shared)(σ:St)(H:Hp)(Q:List V->Hp->Prop),Inv X pins σ H s->t σ H Q->wpAny (model X.prog X.w) X.A (spliced (backTo K (starEach U X.env))) (AP X pins σ Q) X.xe s
def PS(X:Cx)(d:Stmt)(t:TS):Prop:=
 ∀(G:List (Addr×Obj))(s:Shared)(σ:St)(H:Hp)(D:cP),Inv X G σ H s->t D σ H->wpAny (model X.prog X.w) X.A (exec d X.env) (SP X G D) X.xe s
def PSs(X:Cx)(d:List Stmt)(t:TS):Prop:=
 ∀(G:List (Addr×Obj))(s:Shared)(σ:St)(H:Hp)(D:cP),Inv X G σ H s->t D σ H->wpAny (model X.prog X.w) X.A (execs d X.env) (SP X G D) X.xe s
theorem bM{m:Type}{t:Sem m}{Q b:m->Shared->Prop}{M:Model}{E:Value->Shared->Prop}{s:Shared}(h:wpAny M A t Q E s)(k:∀a s,Q a s->b a s):wpAny M A t b E s:=wpAny_mono h k λ_ _ x=>x
section
variable{X:Cx}
def cm(i:Nat):TE:=λM H Q=>∃v,M[i]?=some (some v)/\Q v H
def tC(v:V):TE:=λ_ H Q=>Q v H
theorem lz{i:Nat}{K:Pos}(J:X.N[i]?=some x)(R:Ce X.env.scope x)(U:(x==("__debug__":Str))=false:=by decide)(a:(x==("__classdict__":Str))=false:=by decide):PE X (.Name x K) (cm i):=by
 intro G s M H Q I h;obtain⟨v,e,h⟩:=h;obtain⟨m,Y,N⟩:=I.loc;obtain⟨u,r,l⟩:=N i x v J e R;have fin:EP X G M Q u s:=⟨v,H,I,r,h⟩
 rcases l with⟨O,C⟩|⟨O,c,hc,hcell⟩
 .exact wpAny_Name (wpAny_loadName_local I.ok.kind O Y C fin) U
 .rcases O with O|O
  .exact wpAny_Name (wpAny_loadName_cell I.ok.kind O hc hcell fin) U
  .exact wpAny_Name (wpAny_loadName_free I.ok.kind O hc hcell fin a) U
theorem CU{i j pos}:PE X (.Constant (.int i) j pos) (tC (.int i)):=λ_ _ _ H _ I h=>wpAny_Constant_int ⟨.int i,H,I.tok _,⟨_,rfl⟩,h⟩
theorem DV{b j pos}:PE X (.Constant (.bool b) j pos) (tC (.bl b)):=λ_ _ _ H _ I h=>Constant_bool ⟨.bl b,H,I,rfl,h⟩
theorem A8{j pos}:PE X (.Constant .none j pos) (tC .non):=λ_ _ _ H _ I h=>Constant_none ⟨.non,H,I,rfl,h⟩
theorem uk{x j pos}:PE X (.Constant (.str x) j pos) (tC (.str x)):=λ_ _ _ H _ I h=>Calls.Constant_str ⟨.str x,H,I.tok _,⟨_,rfl⟩,h⟩
def Gl(X:Cx)(x:Str):Prop:=X.env.kindOf x=some .globalImplicit
theorem pI{E:Value->Shared->Prop}{G:List (Addr×Obj)}{s:Shared}{M:St}{H:Hp}{K:Pos}{Q:Value->Shared->Prop}(I:Inv X G M H s)(l:Gl X x)(C:X.mg x=some u)(h:Q u s)(U:(x==("__debug__":Str))=false:=by decide):wpAny (model X.prog X.w) X.A (eval (.Name x K) X.env) Q E s:=
 Calls.Name_function_global I.ok.kind l (Calls.loadGlobal_global (by rw[I.ok.glob];exact I.mod.glob.keeps I.bk) C h) U
theorem yG{E:Value->Shared->Prop}{G:List (Addr×Obj)}{s:Shared}{M:St}{H:Hp}{K:Pos}{Q:Value->Shared->Prop}(I:Inv X G M H s)(l:Gl X x)(C:X.mg x=none)(R:bootBuiltins x=some u)(h:Q u s)(Y:x ≠ "__name__":=by decide)(U:(x==("__debug__":Str))=false:=by decide):wpAny (model X.prog X.w) X.A (eval (.Name x K) X.env) Q E s:=by
 obtain⟨j,J,S⟩:=I.mod.blt;exact Calls.Name_function_global I.ok.kind l (Calls.loadGlobal_builtin (by rw[I.ok.glob];exact I.mod.glob.keeps I.bk) C (by rw[I.ok.blt];exact J.keeps I.bk) ((S x Y).trans R) h) U
theorem xo{v:V}{K:Pos}(l:Gl X x)(C:X.mg x=some u)(r:RelV v u)(U:(x==("__debug__":Str))=false:=by decide):PE X (.Name x K) (tC v):=
 λ_ _ _ H _ I h=>pI I l C ⟨v,H,I,r,h⟩ U
theorem xq{v:V}{K:Pos}(l:Gl X x)(C:X.mg x=none)(R:bootBuiltins x=some u)(r:RelV v u)(Y:x ≠ "__name__":=by decide)(U:(x==("__debug__":Str))=false:=by decide):PE X (.Name x K) (tC v):=
 λ_ _ _ H _ I h=>yG I l C R ⟨v,H,I,r,h⟩ Y U
variable{a b:Expr}{ta tb:TE}{pos:Pos}
variable{tA tB':TT}{rest:List Expr}
def DC(t u:TT):TT:=λM H Q=>t M H λc n=>if c=true then u M n Q else Q false n
def IB(t u:TT):TT:=λM H Q=>t M H λc n=>if c=true then Q true n else u M n Q
def Dz(t:TT):TT:=λM H Q=>t M H λc n=>Q (!c) n
theorem xh(U:PT X a tA):PW X (.BoolOp .And [a] pos) tA:=by
 intro j G s M H Q I h;refine isTrue_and (bM (U G s M H Q I h) λc y e=>?_)
 cases c with
 |true=>exact isTrue_and_nil e
 |false=>exact e
theorem AR(U:PT X a tA):PW X (.BoolOp .Or [a] pos) tA:=by
 intro j G s M H Q I h;refine isTrue_or (bM (U G s M H Q I h) λc y e=>?_)
 cases c with
 |false=>exact isTrue_or_nil e
 |true=>exact e
theorem AS(U:PT X a tA)(Z:PW X (.BoolOp .And (b::rest) pos) tB'):PW X (.BoolOp .And (a::b::rest) pos) (DC tA tB'):=by
 intro j G s M H Q I h;refine isTrue_and (bM (U G s M H _ I h) λc y ⟨H1,I1,q1⟩=>?_)
 cases c with
 |true=>exact Z j G y M H1 Q I1 q1
 |false=>exact⟨H1,I1,q1⟩
theorem DQ(U:PT X a tA)(Z:PW X (.BoolOp .Or (b::rest) pos) tB'):PW X (.BoolOp .Or (a::b::rest) pos) (IB tA tB'):=by
 intro j G s M H Q I h;refine isTrue_or (bM (U G s M H _ I h) λc y ⟨H1,I1,q1⟩=>?_)
 cases c with
 |true=>exact⟨H1,I1,q1⟩
 |false=>exact Z j G y M H1 Q I1 q1
theorem AV(U:PT X a tA):PT X (.UnaryOp .Not a pos) (Dz tA):=by
 intro G s M H Q I h;exact isTrue_not (U G s M H (λc n=>Q (!c) n) I h)
def yW(f G:TE):TE:=λM H Q=>f M H λx n=>∃c,x=.bl c/\if c=true then G M n Q else Q (.bl false) n
def Dy(f G:TE):TE:=λM H Q=>f M H λx n=>∃c,x=.bl c/\if c=true then Q (.bl true) n else G M n Q
def yV(f:TE):TE:=λM H Q=>f M H λx n=>∃c,x=.bl c/\Q (.bl (!c)) n
theorem pe_one{op}{t:TE}(h:PE X a t):PE X (.BoolOp op [a] pos) t:=λG s M H Q I w=>BoolOp_one (h G s M H Q I w)
theorem Ba(U:PE X a ta)(Z:PE X (.BoolOp .And (b::rest) pos) tb):PE X (.BoolOp .And (a::b::rest) pos) (yW ta tb):=by
 intro G s M H Q I h;refine BoolOp_and (bM (U G s M H _ I h) λv y ⟨x,H1,I1,r1,o⟩=>?_)
 obtain⟨c,rfl,o⟩:=o
 cases r1;refine wpAny_truthy_bool ?_
 cases c with
 |true=>exact Z G y M H1 Q I1 o
 |false=>exact⟨.bl false,H1,I1,rfl,o⟩
theorem DU(U:PE X a ta)(Z:PE X (.BoolOp .Or (b::rest) pos) tb):PE X (.BoolOp .Or (a::b::rest) pos) (Dy ta tb):=by
 intro G s M H Q I h;refine BoolOp_or (bM (U G s M H _ I h) λv y ⟨x,H1,I1,r1,o⟩=>?_)
 obtain⟨c,rfl,o⟩:=o
 cases r1;refine wpAny_truthy_bool ?_
 cases c with
 |false=>exact Z G y M H1 Q I1 o
 |true=>exact⟨.bl true,H1,I1,rfl,o⟩
theorem A7(U:PE X a ta):PE X (.UnaryOp .Not a pos) (yV ta):=by
 intro G s M H Q I h;refine UnaryOp_ (bM (U G s M H _ I h) λv y ⟨x,H1,I1,r1,o⟩=>?_)
 obtain⟨c,rfl,o⟩:=o
 cases r1;exact not_of (wpAny_truthy_bool ⟨.bl (!c),H1,I1,rfl,o⟩)
def IC(t:TT)(f G:TE):TE:=λM H Q=>t M H λc n=>if c=true then f M n Q else G M n Q
theorem uo{c:Expr}(f:PT X c tA)(U:PE X a ta)(Z:PE X b tb):PE X (.IfExp c a b pos) (IC tA ta tb):=by
 intro G s M H Q I h;refine wpAny_IfExp (bM (f G s M H _ I h) λd y ⟨H1,I1,q1⟩=>?_)
 cases d with
 |true=>exact U G y M H1 Q I1 q1
 |false=>exact Z G y M H1 Q I1 q1
end
def SqL(K:Fg)(H:Hp)(a:Addr)(Y:List V):Prop:=
 Rd H a (.lst Y) \/
  ∃(o:Obj)(its:Array Value)(n:Nat),K.lookup a=some o/\o.cls=.type "list"/\o.dict=none/\o.data=.seq its n/\its.size<=sizeLine/\Vals Y its.toList
def SqT(K:Fg)(H:Hp)(a:Addr)(Y:List V):Prop:=
 Rd H a (.tup Y) \/
  ∃(o:Obj)(its:Array Value)(n:Nat),K.lookup a=some o/\o.cls=.type "tuple"/\o.data=.seq its n/\its.size<=sizeLine/\Vals Y its.toList
def Ip:Value->Option V
 |.none=>some .non
 |.bool b=>some (.bl b)
 |.int i _=>some (.int i)
 |.str x _=>some (.str x)
 |.bytes b _=>some (.byt b)
 |.float b _=>some (.flt b)
 |.ref a=>some (.ref a)
 |.type n=>some (.ty n)
 |_=>none
theorem RelV.abs{x:V}(r:RelV x u):Ip u=some x:=by
 cases x with
 |non=>cases r;rfl
 |bl _=>cases r;rfl
 |int _=>obtain⟨t,rfl⟩:=r;rfl
 |str _=>obtain⟨t,rfl⟩:=r;rfl
 |byt _=>obtain⟨t,rfl⟩:=r;rfl
 |flt _=>obtain⟨t,rfl⟩:=r;rfl
 |ref _=>cases r;rfl
 |ty _=>cases r;rfl
theorem RelV.inj{x y:V}(r:RelV x u)(q:RelV y u):x=y:=Option.some.inj (r.abs.symm.trans q.abs)
theorem Vals.inj:∀{Y U:List V}{us:List Value},Vals Y us->Vals U us->Y=U
 |_,_,_,.nil,.nil=>rfl
 |_,_,_,.cons r t,.cons r' t'=>by rw[r.inj r',Vals.inj t t']
section
variable{X:Cx}{pins:List (Addr×Obj)}{σ:St}{H:Hp}{s:Shared}{a:Addr}{xs ys:List V}
theorem SqL.of{K:Fg}(h:H a=some (.lst xs)):SqL K H a xs:=.inl (.inl h)
theorem SqT.of{K:Fg}(h:H a=some (.tup xs)):SqT K H a xs:=.inl (.inl h)
theorem Inv.list(I:Inv X pins σ H s)(h:SqL X.K H a xs):∃g:List Value,Vals xs g/\PlainL s.heap a g.toArray/\xs.length<=sizeLine:=by
 rcases h with h|⟨o,g,n,hk,hc,hd,hs,hz,r⟩
 .obtain⟨z,g,n,r,e⟩:=h.ok I.hok
  exact⟨g,r,⟨_,n,e,rfl,rfl,rfl⟩,z⟩
 .refine⟨g.toList,r,⟨o,n,I.kIn a o hk,hc,hd,by simpa using hs⟩,?_⟩
  have e:=r.length
  simp only[Array.length_toList]at e
  omega
theorem Inv.tuple(I:Inv X pins σ H s)(h:SqT X.K H a xs):∃g:List Value,Vals xs g/\IsTup s.heap a g.toArray/\xs.length<=sizeLine:=by
 rcases h with h|⟨o,g,n,hk,hc,hs,hz,r⟩
 .obtain⟨z,g,r,p⟩:=h.ok I.hok
  exact⟨g,r,p,z⟩
 .refine⟨g.toList,r,⟨o,I.kIn a o hk,hc,n,by simpa using hs⟩,?_⟩
  have e:=r.length
  simp only[Array.length_toList]at e
  omega
theorem Inv.list_inj(I:Inv X pins σ H s)(h:SqL X.K H a xs)(j:SqL X.K H a ys):xs=ys:=by
 obtain⟨g,r,⟨o,n,e,_,_,d⟩,_⟩:=I.list h;obtain⟨c,E,⟨L,i,f,_,_,Y⟩,_⟩:=I.list j
 rw[e]at f;cases f
 rw[d]at Y;injection Y with d1 _
 have:g=c:=by simpa using congrArg Array.toList d1
 subst this;exact r.inj E
end
abbrev Cx.wish(X:Cx)(E:Value->Shared->Prop):Cx:={X with xe:=E}
abbrev Cx.nox(X:Cx):Cx:=X.wish λ_ _=>False
theorem Cx.Ok.wish{X:Cx}(ok:X.Ok)(E:Value->Shared->Prop):(X.wish E).Ok:=
 ⟨ok.mod,ok.kind,ok.glob,ok.blt,ok.above,ok.inj,ok.has,ok.cab,ok.hd,ok.frames,ok.stk,ok.exf,ok.bs,ok.bsz,ok.noex,ok.exfs,ok.funs,ok.frf⟩
theorem Cx.Ok.unwish{X:Cx}{E:Value->Shared->Prop}(ok:(X.wish E).Ok):X.Ok:=
 ⟨ok.mod,ok.kind,ok.glob,ok.blt,ok.above,ok.inj,ok.has,ok.cab,ok.hd,ok.frames,ok.stk,ok.exf,ok.bs,ok.bsz,ok.noex,ok.exfs,ok.funs,ok.frf⟩
section
variable{X:Cx}{pins:List (Addr×Obj)}{σ:St}{H:Hp}{s:Shared}{E:Value->Shared->Prop}
theorem Inv.wish(I:Inv X pins σ H s)(E:Value->Shared->Prop):Inv (X.wish E) pins σ H s:=⟨I.ok.wish E,I.os,I.bare,I.base,I.loc,I.cell,I.free,I.freeC,I.pin,I.hok,I.len⟩
theorem Inv.unwish(I:Inv (X.wish E) pins σ H s):Inv X pins σ H s:=⟨I.ok.unwish,I.os,I.bare,I.base,I.loc,I.cell,I.free,I.freeC,I.pin,I.hok,I.len⟩
theorem SP.unwish{D:cP}{f:Flow}{K:Shared}(h:SP (X.wish E) pins D f K):SP X pins D f K:=by
 cases f with
 |next=>obtain⟨j,Y,I,q⟩:=h;exact⟨j,Y,I.unwish,q⟩
 |brk=>obtain⟨j,Y,I,q⟩:=h;exact⟨j,Y,I.unwish,q⟩
 |cont=>obtain⟨j,Y,I,q⟩:=h;exact⟨j,Y,I.unwish,q⟩
 |ret u=>obtain⟨v,j,Y,I,r,q⟩:=h;exact⟨v,j,Y,I.unwish,r,q⟩
theorem PSs.nox{d:List Stmt}{t:TS}(h:PSs X.nox d t):PSs X d t:=λpins s σ H D I w=>
 wpAny_mono (h pins s σ H D (I.wish _) w) (λ_ _ q=>q.unwish) λ_ _ z=>False.elim z
end
section
variable{X:Cx}{st:Stmt}{rest:List Stmt}{t u:TS}{e:Expr}{te:TE}{pos:Pos}
def tu:TS:=λD M H=>D.nx M H
def zX(t u:TS):TS:=λD M H=>t {D with nx:=u D} M H
theorem pj:PSs X [] tu:=λ_ _ M H _ I h=>wpAny_execs_nil ⟨M,H,I,h⟩
theorem lZ(J:PS X st t)(S:PSs X rest u):PSs X (st::rest) (zX t u):=by
 intro G s M H D I h;refine wpAny_execs_cons (bM (J G s M H {D with nx:=u D} I h) λf y q=>?_)
 cases f with
 |next=>
  obtain⟨j,Y,d,q⟩:=q;exact S G y j Y D d q
 |ret v=>exact q
 |brk=>exact q
 |cont=>exact q
theorem ph(J:PS X st t):PSs X [st] t:=by
 intro G s M H D I h;refine wpAny_execs_cons (bM (J G s M H D I h) λf y q=>?_)
 cases f with
 |next=>exact wpAny_execs_nil q
 |ret v=>exact q
 |brk=>exact q
 |cont=>exact q
theorem Inv.quiet{G:List (Addr×Obj)}{M:St}{H:Hp}{s:Shared}(I:Inv X G M H s):interactive X.env=false:=by simp[interactive,I.ok.kind]
def dq(a:TE):TS:=λD M H=>a M H λ_ n=>D.nx M n
theorem vB(R:PE X e te)(P:swapsWith e none pos.line X.env=pure false:=by rfl):PS X (.Expr e pos) (dq te):=by
 intro G s M H D I h;exact wpAny_Expr_any (bM (R G s M H _ I h) λv y ⟨x,H1,I1,r1,q1⟩=>⟨M,H1,I1,q1⟩) I.quiet P
def Dw(a:TE):TS:=λD M H=>a M H D.rt
theorem AW(R:PE X e te):PS X (.Return (some e) pos) (Dw te):=by
 intro G s M H D I h;exact wpAny_Return_some (bM (R G s M H _ I h) λv y ⟨x,H1,I1,r1,q1⟩=>⟨x,M,H1,I1,r1,q1⟩)
def zZ(c:TT)(t u:TS):TS:=λD M H=>c M H λb n=>if b=true then t D M n else u D M n
theorem y3{c:Expr}{a b:List Stmt}{i:TT}(f:PT X c i)(U:PSs X a t)(Z:PSs X b u):PS X (.If c a b pos) (zZ i t u):=by
 intro G s M H D I h;refine wpAny_If (bM (f G s M H _ I h) λd y ⟨H1,I1,q1⟩=>?_)
 cases d with
 |true=>exact U G y M H1 D I1 q1
 |false=>exact Z G y M H1 D I1 q1
end
abbrev TG:=V->St->Hp->(St->Hp->Prop)->Prop
abbrev zq:=List V->St->Hp->(St->Hp->Prop)->Prop
def PG(X:Cx)(a:Expr)(t:TG):Prop:=
 ∀(G:List (Addr×Obj))(s:Shared)(σ:St)(H:Hp)(v:V)(u:Value)(Q:St->Hp->Prop),Inv X G σ H s->RelV v u->t v σ H Q ->
  wpAny (model X.prog X.w) X.A (assign a X.env u) (λ_ K=>∃j Y,Inv X G j Y K/\Q j Y) X.xe s
def FG(X:Cx)(p:List Expr)(t:zq):Prop:=
 ∀(G:List (Addr×Obj))(s:Shared)(σ:St)(H:Hp)(vs:List V)(us:List Value)(Q:St->Hp->Prop),Inv X G σ H s->Vals vs us->t vs σ H Q ->
  wpAny (model X.prog X.w) X.A (assignInOrder ((assignEach p X.env).map (·.2)) us) (λ_ K=>∃j Y,Inv X G j Y K/\Q j Y) X.xe s
abbrev Cf:=V->V->V->Hp->(Hp->Prop)->Prop
def Es(X:Cx)(t:Cf):Prop:=
 ∀(G:List (Addr×Obj))(s:Shared)(σ:St)(H:Hp)(o i v:V)(ov iv u:Value)(Q:Hp->Prop),Inv X G σ H s->RelV o ov->RelV i iv->RelV v u->t o i v H Q ->
  wpAny (model X.prog X.w) X.A (setItem ov iv u) (λ_ K=>∃Y,Inv X G σ Y K/\Q Y) X.xe s
abbrev FF:=V->V->Hp->VK->Prop
def Jh(X:Cx)(j:Operator)(t:FF):Prop:=
 ∀(G:List (Addr×Obj))(s:Shared)(σ:St)(H:Hp)(x y:V)(v u:Value)(Q:VK),Inv X G σ H s->RelV x v->RelV y u->t x y H Q ->
  wpAny (model X.prog X.w) X.A (inplaceOp j v u) (EP X G σ Q) X.xe s
section
variable{X:Cx}{pos:Pos}
def gName(i:Nat):TG:=λv M H Q=>Q (M.set i (some v)) H
theorem nq{i:Nat}(J:X.N.Nodup)(l:X.N[i]?=some x)(A:Loc X.env.scope x)(L:X.fn x=true\/X.env.scope.names.lookup x=some .local:=by first|exact .inl rfl|exact .inr rfl|assumption):PG X (.Name x pos) (gName i):=by
 intro G s M H v u Q I r h;exact wpAny_assign_Name (GG I J l A r (λK d=>⟨_,H,d,h⟩) L)
def xT:zq:=λL M H Q=>L=[]/\Q M H
def iN(t:TG)(u:zq):zq:=λL M H Q=>∃v r,L=v::r/\t v M H λj Y=>u r j Y Q
theorem C7:FG X [] xT:=by
 intro G s M H L S Q I r h;obtain⟨e,h⟩:=h;subst e
 cases r;exact assignInOrder_nil ⟨M,H,I,h⟩
theorem sg{t:TG}{u:zq}(J:PG X e t)(S:FG X U u)(P:(assignEach (e::U) X.env).map (·.2)=assign e X.env::(assignEach U X.env).map (·.2):=by rfl):FG X (e::U) (iN t u):=by
 intro G s M H L b Q I r h;obtain⟨v,a,g,h⟩:=h;subst g
 cases r with
 |cons r d=>
  rw[P];refine assignInOrder_cons (bM (J G s M H _ _ _ I r h) λ_ y ⟨σ1,H1,I1,q1⟩=>?_)
  exact S G y σ1 H1 _ _ Q I1 d q1
def uX(K:Fg)(n:Nat)(t:zq):TG:=λv M H Q=>∃a Y,v=.ref a/\SqT K H a Y/\Y.length=n/\t Y M H Q
theorem CV{t:zq}{n:Nat}(f:X.calm=true)(h:FG X U t)(p:(assignEach U X.env).length=n:=by rfl)(q:(assignEach U X.env).findIdx? (·.1)=none:=by rfl):PG X (.Tuple U k pos) (uX X.K n t):=by
 intro G s M H v u Q I r w;obtain⟨a,Y,l,d,N,w⟩:=w;subst l
 cases r;obtain⟨g,c,m,P⟩:=I.tuple d;refine assign_Tuple_tuple (I.ok.hd f) m (by simp[p,<-N,c.length]) q λj A=>?_
 have i:Inv X G M H {s with heap:=j}:=I.kept (t':=s.toks) λb o e=>A b o (Nat.ne_of_lt (Heap.lt_size e)) e
 exact h G _ M H Y _ Q i (by simpa using c) w
def gSub(c b:TE)(t:Cf):TG:=λv M H Q=>c M H λo n=>b M n λi A=>t o i v A λa=>Q M a
theorem FX{o i:Expr}{c b:TE}{t:Cf}(J:PE X o c)(l:PE X i b)(P:Es X t)(U:∀v,assign (.Subscript o i pos) X.env v=(do
   let w <-holding [v] (eval o X.env)
   let e <-holding [v,w] (eval i X.env)
   standAt pos
   holding [v,w,e] (setItem w e v)
   release [v,w,e] []):=by intro _;rfl):PG X (.Subscript o i pos) (gSub c b t):=by
 intro G s M H v u Q I r h;rw[U];refine JO (wpAny_holding (bM (J G s M H _ I h) λw a ⟨x,H1,I1,r1,q1⟩=>?_))
 refine JO (wpAny_holding (bM (l G a M H1 _ I1 q1) λe N ⟨y,H2,I2,r2,q2⟩=>?_))
 refine JO (wpAny_standAt (JO (wpAny_holding (bM (P G N M H2 x y v w e u _ I2 r1 r2 r q2) λ_ S ⟨H3,I3,q3⟩=>?_))))
 exact wpAny_release ⟨M,H3,I3,q3⟩
def gN(a:TE)(g:TG):TS:=λD M H=>a M H λx n=>g x M n D.nx
theorem zB{m:Expr}{a:TE}{g:TG}(R:PE X e a)(l:PG X m g)(P:swapsWithSole [m] e pos.line X.env=pure false:=by rfl)(w:swappedStores [m] e X.env=pure none:=by rfl)(J:(assignEach [m] X.env).map (·.2)=[assign m X.env]:=by rfl):PS X (.Assign [m] e pos) (gN a g):=by
 intro G s M H D I h;refine wpAny_Assign_stores (bM (R G s M H _ I h) λv y ⟨x,H1,I1,r1,q1⟩=>?_) P w
 rw[J];exact bM (l G y M H1 x v _ I1 r1 q1) λ_ N q=>q
theorem FZ{i:Nat}{a:TE}{K:Pos}(J:X.N.Nodup)(l:X.N[i]?=some x)(A:Loc X.env.scope x)(R:PE X e a)(P:swapsWith e (some (.Name x K)) pos.line X.env=pure false:=by rfl)(L:X.fn x=true\/X.env.scope.names.lookup x=some .local:=by first|exact .inl rfl|exact .inr rfl|assumption):PS X (.Assign [.Name x K] e pos) (gN a (gName i)):=by
 intro G s M H D I h;refine wpAny_Assign_Name (bM (R G s M H _ I h) λv b ⟨y,H1,I1,r1,q1⟩=>?_) P
 exact GG I1 J l A r1 (λN k=>⟨_,H1,k,q1⟩) L
def DB(i:Nat)(a:TE)(b:FF):TS:=λD M H=>∃x,M[i]?=some (some x)/\a M H λy n=>b x y n λz A=>D.nx (M.set i (some z)) A
theorem AX{i:Nat}{a:TE}{j:Operator}{b:FF}{K:Pos}(o:X.N.Nodup)(n:X.N[i]?=some x)(A:Loc X.env.scope x)(R:PE X e a)(J:Jh X j b)(L:X.fn x=true\/X.env.scope.names.lookup x=some .local:=by first|exact .inl rfl|exact .inr rfl|assumption):PS X (.AugAssign (.Name x K) j e pos) (DB i a b):=by
 intro G s M H D I h;obtain⟨v,g,h⟩:=h;obtain⟨m,Y,N⟩:=I.loc;have f:Ce X.env.scope x:=by rcases A with k|k;exact .inl k;exact .inr (.inl k)
 obtain⟨u,r,l⟩:=N i x v n g f;refine wpAny_AugAssign_Name ?_
 have go:wpAny (model X.prog X.w) X.A (eval e X.env) (λw p=>wpAny (model X.prog X.w) X.A (inplaceOp j u w) (λr P=>wpAny (model X.prog X.w) X.A (storeName X.env x r) (λ_=>SP X G D .next) X.xe P) X.xe p) X.xe s:=by
  refine bM (R G s M H _ I h) λw q ⟨y,H1,I1,r1,q1⟩=>?_
  refine bM (J G q M H1 v y u w _ I1 r r1 q1) λz t ⟨zv,H2,I2,r2,q2⟩=>?_
  exact GG I2 o n A r2 (λS d=>⟨_,H2,d,q2⟩) L
 rcases l with⟨O,C⟩|⟨O,c,hc,hcell⟩
 .exact wpAny_loadName_local I.ok.kind O Y C go
 .rcases O with O|O
  .exact wpAny_loadName_cell I.ok.kind O hc hcell go
  .rcases A with k|k
   .have:X.env.scope.names.lookup x=some .free:=O
    rw[k]at this;cases this
   .have:X.env.scope.names.lookup x=some .free:=O
    rw[k]at this;cases this
def Jd(f:Int->Int->Int):FF:=λx y H Q=>∃i j,x=.int i/\y=.int j/\Q (.int (f i j)) H
theorem BB:Jh X .Add (Jd λi j=>i+j):=by
 intro G s M H x y v u Q I J C h;obtain⟨i,j,g,R,q⟩:=h;subst g;subst R;obtain⟨t,rfl⟩:=J;obtain⟨O,rfl⟩:=C;exact iadd_int ⟨.int _,H,I.tok _,⟨_,rfl⟩,q⟩
end
section
variable{X:Cx}{pos:Pos}
def tq(c:TT)(G:TS):TS:=λD M H=>∃W:Nat->St->Hp->Prop,(∃m,W m M H)/\∀m M H,W m M H ->
 c M H λb n=>if b=true then ∃N:St->Hp->Prop,(∀j Y,N j Y->∃q,q<m/\W q j Y)/\G {D with nx:=N,ct:=N,bk:=D.nx} M n else D.nx M n
theorem ug{c:Expr}{w:List Stmt}{i:TT}{p:TS}(y:PassesOwn (model X.prog X.w) X.A X.env X.xe)(r:PT X c i)(Z:PSs X w p):PS X (.While c w [] pos) (tq i p):=by
 intro G s M H D I h;obtain⟨W,⟨o,a⟩,E⟩:=h;refine wpAny_While (codeAny_whileLoop (λn K=>∃j Y,Inv X G j Y K/\W n j Y) ?_ o ⟨M,H,I,a⟩)
 rintro n s1 ⟨σ1,H1,I1,w1⟩
 refine wpAny_passesOwn y (bM (r G s1 σ1 H1 _ I1 (E n σ1 H1 w1)) λb u ⟨H2,I2,k⟩=>?_)
 cases b with
 |true=>
  obtain⟨N,J,k⟩:=k;rw[if_pos rfl];refine wpAny_passesOwn y (bM (Z G u σ1 H2 _ I2 k) λf S e=>?_)
  cases f with
  |next=>
   obtain⟨l,t,d,m⟩:=e;obtain⟨q,C,g⟩:=J l t m;exact⟨q,C,l,t,d,g⟩
  |cont=>
   obtain⟨l,t,d,m⟩:=e;obtain⟨q,C,g⟩:=J l t m;exact⟨q,C,l,t,d,g⟩
  |brk=>exact e
  |ret v=>exact e
 |false=>
  rw[if_neg Bool.false_ne_true];exact wpAny_execs_nil ⟨σ1,H2,I2,k⟩
end
structure It where
 go:Nat->Hp->Prop
 yld:Nat->Hp->V->Hp->Prop
 stop:Nat->Hp->Prop
def jB(X:Cx)(G:List (Addr×Obj))(H:Hp)(b:Addr):Prop:=
 H b=none/\b≠X.env.locals/\b∉X.fs/\(b∈X.ex\/X.s₀.heap.objs.size<=b)/\(∀x c,X.env.cells.lookup x=some c->c≠b)/\∀p∈X.pn++G,p.1≠b
theorem Inv.fpOk{X:Cx}{G:List (Addr×Obj)}{M:St}{H Y:Hp}{s:Shared}(I:Inv X G M H s)(Z:s.heap.objs.size<=b)(a:Y b=none):jB X G Y b:=by
 refine⟨a,Nat.ne_of_gt (Nat.lt_of_lt_of_le I.lt Z),I.nofs Z,.inr (Nat.le_trans I.sz Z),λx c e z=>?_,λp y z=>?_⟩
 .obtain⟨v,q⟩:=I.cell x c e
  exact absurd (Nat.lt_of_lt_of_le q.lt (by rw[z];exact Z)) (Nat.lt_irrefl _)
 .exact absurd (Nat.lt_of_lt_of_le (Heap.lt_size (I.pin p y).1) (by rw[z];exact Z)) (Nat.lt_irrefl _)
structure vv(P:Program)(w:World)(K:Fg)(tg:Expr)(J:It)(fp:List Addr)(it:Addr)(tn:Nat->Heap->Prop):Prop where
 mem:it∈fp
 obj:∀i h,tn i h->∀b∈fp,∃o,h.get? b=some o/\∀v,o.data≠.cell v
 keep:∀i h h',tn i h->(∀b∈fp,∀o,h.get? b=some o->h'.get? b=some o)->tn i h'
 item:∀(X:Cx),X.prog=P->X.w=w->X.K=K->X.calm=true->∀(i:Nat)(pins:List (Addr×Obj))(s:Shared)(σ:St)(H:Hp)(E:Value->Shared->Prop),Inv X pins σ H s->(∀b∈fp,jB X pins H b)->tn i s.heap->J.go i H ->
  wpAny (model P w) X.A (pyNext (.ref it)) (λr s1=>∃u,r=some u /\
   wpAny (model P w) X.A (letOwnedTupleGo tg (.ref it) u) (λ_ s2=>∃x H',Inv X pins σ H' s2/\RelV x u/\J.yld i H x H'/\tn (i+1) s2.heap/\∀b∈fp,H' b=none) E s1) E s
 done:∀(X:Cx),X.prog=P->X.w=w->X.K=K->X.calm=true->∀(i:Nat)(pins:List (Addr×Obj))(s:Shared)(σ:St)(H:Hp)(E:Value->Shared->Prop),Inv X pins σ H s->(∀b∈fp,jB X pins H b)->tn i s.heap->J.stop i H ->
  wpAny (model P w) X.A (pyNext (.ref it)) (λr s1=>r=none/\Inv X pins σ H s1) E s
 self:∀(A:Around)(i:Nat)(s:Shared)(Q:Value->Shared->Prop)(E:Value->Shared->Prop),tn i s.heap->Q (.ref it) s->wpAny (model P w) A (pyIter (.ref it)) Q E s
abbrev TI:=St->Hp->(It->Hp->Prop)->Prop
def Ji(X:Cx)(G:List (Addr×Obj))(M:St)(m:Expr)(R:It->Hp->Prop)(a:Value)(N:Shared):Prop:=
 ∃(y:Addr)(fp:List Addr)(tn:Nat->Heap->Prop)(J:It)(H':Hp),a=.ref y/\Inv X G M H' N/\vv X.prog X.w X.K m J fp y tn/\tn 0 N.heap/\(∀b∈fp,jB X G H' b)/\R J H'
def PI(X:Cx)(m z:Expr)(e:TI):Prop:=
 ∀(G:List (Addr×Obj))(s:Shared)(σ:St)(H:Hp)(R:It->Hp->Prop),Inv X G σ H s->e σ H R ->
  wpAny (model X.prog X.w) X.A (eval z X.env) (λv y=>wpAny (model X.prog X.w) X.A (pyIter v) (Ji X G σ m R) X.xe y) X.xe s
theorem uT{M:Model}{E:Value->Shared->Prop}{s:Shared}{m:Expr}{n:String}{L:Array Value}{Q:Unit->Shared->Prop}(J:s.heap.get? y=some o)(f:o.cls=.type n)(U:o.data=.fields L)(Y:["enumerate","zip","dict_itemiterator","dict_reverseitemiterator","odict_iterator","itertools.zip_longest","itertools.pairwise"].contains n=false)(k:Q () s):wpAny M A (letOwnedTupleGo m (.ref y) u) Q E s:=by
 unfold letOwnedTupleGo
 cases m<;>first
  |exact JP k
  | (cases u<;>first
      |exact JP k
      | (refine JO (wpAny_load J ?_)
         rw[f,U];show wpAny M A (if(["enumerate","zip","dict_itemiterator","dict_reverseitemiterator","odict_iterator","itertools.zip_longest","itertools.pairwise"].contains n&&L[0]?==some (rawInt _))=true then _ else _) Q E s
         rw[if_neg (by intro h;rw[Y,Bool.false_and]at h;cases h)]
         exact JP k))
def FM(K:Fg)(a:Addr):It:=
 ⟨λi H=>∃Y x,SqL K H a Y/\Y[i]?=some x,λi H x b=>b=H/\∀Y,SqL K H a Y->Y[i]?=some x,λi H=>∃Y,SqL K H a Y/\Y.length<=i⟩
def Cm(O:Int)(n:Nat):It:=⟨λi _=>i<n,λi H x Y=>Y=H/\x=.int (O+i),λi _=>n<=i⟩
theorem qw{P:Program}{w:World}{K:Fg}{tg:Expr}(a y:Addr):vv P w K tg (FM K a) [y] y (λi h=>h.IsListIter y a i) where
 mem:=by simp
 obj:=λi h n b Z=>by
  have e:b=y:=by simpa using Z
  subst e;obtain⟨o,e,c,d⟩:=n;exact⟨o,e,λv z=>by rw[d]at z;cases z⟩
 keep:=λi h j n k=>n.at λo e=>k y (by simp) o e
 item:=by
  intro X hP hw J f i G s M H E I L n l;subst hP hw J;obtain⟨Y,x,C,A⟩:=l;obtain⟨g,rv,p,hz⟩:=I.list C;obtain⟨u,m,ru⟩:=rv.get A;obtain⟨R,S,f2,t,q,O⟩:=L y (by simp)
  refine wpAny_pyNext_list_item n p.isList (x:=u) (by simpa using m) λj r sb=>?_
  have I1:Inv X G M H {s with heap:=j}:=I.turned (t':=s.toks) (λb o Z e=>(sb.2 b Z).trans e) R S t q O
  obtain⟨o,e,c,d⟩:=id r
  exact⟨u,rfl,uT (s:={s with heap:=j}) e c d (by decide) ⟨x,H,I1,ru,⟨rfl,λU hy=>by rw[I.list_inj hy C];exact A⟩,r,λb Z=>(L b Z).1⟩⟩
 done:=by
  intro X hP hw J f i G s M H E I L n l;subst hP hw J;obtain⟨Y,C,A⟩:=l;obtain⟨g,rv,p,hz⟩:=I.list C;obtain⟨R,S,f2,t,q,O⟩:=L y (by simp)
  have N:=rv.length
  exact wpAny_pyNext_list_end (I.ok.hd f) n p.isList (by simp;omega) λj eb=>⟨rfl,I.turned (t':=s.toks) (λb o Z e=>eb b o Z e) R S t q O⟩
 self:=λ_ _ _ _ _ n h=>wpAny_pyIter_listiter n h
theorem nL{P:Program}{w:World}{K:Fg}{m:Expr}(y:Addr)(O:Int)(n:Nat):vv P w K m (Cm O n) [y] y (λi h=>IsRangeIter h y (O+(i:Nat)*1) ((n:Int)-(i:Nat)) 1) where
 mem:=by simp
 obj:=λi h d b Z=>by
  have e:b=y:=by simpa using Z
  subst e;exact⟨_,d,λv z=>by
   have U:Data.fields _=Data.cell v:=z
   cases U⟩
 keep:=λi h j d k=>k y (by simp) _ d
 item:=by
  intro X N J Y f i G s M H E I L d l;subst N J Y;obtain⟨g,S,p,A,q,x⟩:=L y (by simp)
  have W:=Walks.range (prog:=X.prog) (w:=X.w) (I.ok.hd f) y O 1 n
  refine W.item i s _ _ l d λv j C R r u=>?_
  obtain⟨t,rfl⟩:=R;have c:Inv X G M H {s with heap:=j,toks:=C}:=I.turned (λb o Z e=>u b o (by simpa using Z) e) g S A q x
  refine⟨_,rfl,uT (s:={s with heap:=j,toks:=C}) (n := "range_iterator") r rfl rfl (by decide) ⟨.int (O+i),H,c,⟨t,?_⟩,⟨rfl,rfl⟩,r,λb Z=>(L b Z).1⟩⟩
  rw[Int.mul_one]
 done:=by
  intro X N J Y f i G s M H E I L d l;subst N J Y;obtain⟨g,S,p,A,q,x⟩:=L y (by simp)
  exact wpAny_pyNext_range_end (I.ok.hd f) d (by have:n<=i:=l;omega) λj a=>⟨rfl,I.turned (t':=s.toks) (λb o Z e=>a b o Z e) g S A q x⟩
 self:=λ_ _ _ _ _ d h=>wpAny_pyIter_rangeiter d h
section
variable{X:Cx}{tg:Expr}
def uN(K:Fg)(O:TE):TI:=λM H R=>O M H λx n=>∃a,x=.ref a/\(∃Y,SqL K n a Y)/\R (FM K a) n
theorem pw{l:Expr}{O:TE}(N:PE X l O):PI X tg l (uN X.K O):=by
 intro G s M H R I h;refine bM (N G s M H _ I h) λv y ⟨x,H1,I1,r1,q1⟩=>?_
 obtain⟨a,e,⟨Y,k⟩,q⟩:=q1;subst e
 cases r1;obtain⟨g,c,p,P⟩:=I1.list k;refine wpAny_pyIter_list p.isList ?_
 refine⟨y.heap.objs.size,[y.heap.objs.size],_,_,H1,rfl,I1.kept (t':=y.toks) λb o e=>JQ _ e,qw a _,⟨_,Heap.get?_push_size _ rfl,rfl,rfl⟩,λb Z=>?_,q⟩
 have e:b=y.heap.objs.size:=by simpa using Z
 subst e;exact I1.fpOk (JR _) (I1.hok.fresh (JR _))
theorem lW{G:List (Addr×Obj)}{M:St}{H:Hp}{s:Shared}{R:It->Hp->Prop}{E:Value->Shared->Prop}{O l:Int}{t u v:Tok}{C:Nat}(I:Inv X G M H s)(J:-(2 ^ 62)<=O)(S:O<2 ^ 62)(a:-(2 ^ 62)<=l)(x:l<2 ^ 62)(q:R (Cm O (l-O).toNat) H):wpAny (model X.prog X.w) X.A (pyIter (.ref s.heap.objs.size)) (Ji X G M tg R) E {s with heap:=s.heap.push {cls:=.type "range",data:=.fields #[.int O t,.int l u,.int 1 v]},toks:=C}:=by
 refine wpAny_pyIter_range (IsRange.new ..) (small_one J S a x) ?_
 have c:Inv X G M H {s with heap:=s.heap.push {cls:=.type "range",data:=.fields #[.int O t,.int l u,.int 1 v]},toks:=C}:=I.kept λb o e=>JQ _ e
 refine⟨(s.heap.push {cls:=.type "range",data:=.fields #[.int O t,.int l u,.int 1 v]}).objs.size,[(s.heap.push {cls:=.type "range",data:=.fields #[.int O t,.int l u,.int 1 v]}).objs.size],_,_,H,rfl,
  c.kept (t':=C) λb o e=>JQ _ e,nL _ O (l-O).toNat,?_,λb Z=>?_,q⟩
 .have g:O+((0:Nat):Int)*1=O:=by simp
  have d:(((l-O).toNat:Nat):Int)-((0:Nat):Int)=Builtin.Range.rangeSize O l 1:=by rw[rangeSize_one];split<;>omega
  show IsRangeIter _ _ (O+((0:Nat):Int)*1) ((((l-O).toNat:Nat):Int)-((0:Nat):Int)) 1
  rw[g,d];exact Heap.get?_push_size _ rfl
 .have e:b=(s.heap.push {cls:=.type "range",data:=.fields #[.int O t,.int l u,.int 1 v]}).objs.size:=by simpa using Z
  subst e;exact c.fpOk (JR _) (c.hok.fresh (JR _))
def zf(f:TA):TI:=λM H R=>f M H λL n=>∃j:Int,L=[.int j]/\-(2 ^ 62)<=j/\j<2 ^ 62/\R (Cm 0 j.toNat) n
def ze(f:TA):TI:=λM H R=>f M H λL n=>∃i j:Int,L=[.int i,.int j]/\(-(2 ^ 62)<=i/\i<2 ^ 62/\-(2 ^ 62)<=j/\j<2 ^ 62)/\R (Cm i (j-i).toNat) n
theorem qN{a:Expr}{f:TA}{p K:Pos}(l:Gl X "range")(C:X.mg "range"=none)(U:PA X [a] f)(P:starEach [a] X.env=[(false,eval a X.env)]:=by rfl):PI X tg (.Call (.Name "range" p) [a] [] K) (zf f):=by
 intro G s M H R I h;refine Call_ (yG I l C boot_range (PyProof.Rows.callWith_type1 (bM (U K G s M H _ I h) λS y ⟨vs,H1,I1,r1,o⟩=>?_) P rfl))
 obtain⟨j,e,o,k,q⟩:=o;subst e
 cases r1 with
 |cons r d=>
  cases d;obtain⟨t,rfl⟩:=r;exact call_range_1 (lW I1 (by omega) (by omega) o k (by simpa using q))
theorem qM{a b:Expr}{f:TA}{p K:Pos}(l:Gl X "range")(C:X.mg "range"=none)(U:PA X [a,b] f)(P:starEach [a,b] X.env=[(false,eval a X.env),(false,eval b X.env)]:=by rfl)(w:starEach [b] X.env=[(false,eval b X.env)]:=by rfl):PI X tg (.Call (.Name "range" p) [a,b] [] K) (ze f):=by
 intro G s M H R I h;refine Call_ (yG I l C boot_range (PyProof.Rows.callWith_type1 (bM (U K G s M H _ I h) λS y ⟨vs,H1,I1,r1,o⟩=>?_) (by rw[P,w]) (by rw[w];rfl)))
 obtain⟨i,j,e,⟨o,k,g,c⟩,q⟩:=o;subst e
 cases r1 with
 |cons r d=>
  cases d with
  |cons E d=>
   cases d;obtain⟨t,rfl⟩:=r;obtain⟨O,rfl⟩:=E
   exact call_range_2 (lW I1 o k g c q)
def Aa(e:TI)(g:TG)(G:TS):TS:=λD M H=>e M H λJ n=>∃W:Nat->Nat->St->Hp->Prop,(∃m,W 0 m M n)/\∀i m M H,W i m M H ->
 (J.stop i H/\D.nx M H)\/(J.go i H/\∃N:St->Hp->Prop,(∀j Y,N j Y->∃q,q<m/\W (i+1) q j Y)/\∀x Y,J.yld i H x Y->g x M Y λP A=>G {D with nx:=N,ct:=N,bk:=D.nx} P A)
def CW(a:List Addr)(h:Heap):List (Addr×Obj):=a.filterMap λb=>(h.get? b).map λo=>(b,o)
theorem ET(Z:b∈a)(e:h.get? b=some o):(b,o)∈CW a h:=List.mem_filterMap.mpr ⟨b,Z,by rw[e];rfl⟩
theorem qS{p:Addr×Obj}(y:p∈CW a h):p.1∈a/\h.get? p.1=some p.2:=by
 obtain⟨b,Z,e⟩:=List.mem_filterMap.mp y
 cases q:h.get? b with
 |none=>rw[q]at e;cases e
 |some o=>
  rw[q]at e;have f:(b,o)=p:=Option.some.inj e
  subst f
  exact⟨Z,q⟩
theorem Inv.pinned{G:List (Addr×Obj)}{M:St}{H:Hp}{s:Shared}(I:Inv X G M H s)(L:∀b∈a,jB X G H b)(J:∀b∈a,∃o,s.heap.get? b=some o/\∀v,o.data≠.cell v):Inv X (G++CW a s.heap) M H s:=
 I.pins_of λp y=>(JH y).elim (λz=>I.pin p (JF _ z)) λz=>by
  obtain⟨Z,e⟩:=qS z;obtain⟨g,S,c,_⟩:=L p.1 Z;obtain⟨o,f,d⟩:=J p.1 Z;rw[e]at f;cases f
  exact⟨e,g,S,c,d⟩
theorem Inv.unpinned{G d:List (Addr×Obj)}{M:St}{H:Hp}{s:Shared}(I:Inv X (G++d) M H s):Inv X G M H s:=I.pins_of λp y=>I.pin p (JF _ (JG _ y))
theorem uh{z:Expr}{w:List Stmt}{wi:TI}{g:TG}{tb:TS}{pos:Pos}(y:PassesOwn (model X.prog X.w) X.A X.env X.xe)(hc:X.calm=true)(l:PI X tg z wi)(hg:PG X tg g)(Z:PSs X w tb)(P:∀x,foldedSetIterable z X.env x=pure x:=by intro _;rfl):PS X (.For tg z w [] pos) (Aa wi g tb):=by
 intro G s M H D I h;refine wpAny_For (bM (l G s M H _ I h) λv s1 h1=>bM h1 λitv s2 S=>?_) P
 obtain⟨it,a,tn,J,A,e,k,T,st2,p,W,⟨m0,w0⟩,E⟩:=S;subst e;have stat:∀{Y:Hp},(∀b∈a,Y b=none)->∀b∈a,jB X G Y b:=λhn b Z=>⟨hn b Z,(p b Z).2⟩
 refine codeAny_forLoop_any (λn K=>∃i j Y,Inv X G j Y K/\tn i K.heap/\(∀b∈a,Y b=none)/\W i n j Y) ?_ m0 ⟨0,M,A,k,st2,λb Z=>(p b Z).1,w0⟩
 rintro n s3 ⟨i,σ3,H3,I3,st3,fr3,w3⟩
 rcases E i n σ3 H3 w3 with⟨stop,qn⟩|⟨go,N,hN,step⟩
 .refine wpAny_passesOwn y (bM (T.done X rfl rfl rfl hc i G s3 σ3 H3 X.xe I3 (stat fr3) st3 stop) λr s4 ⟨hr,I4⟩=>?_)
  subst hr;exact wpAny_execs_nil ⟨σ3,H3,I4,qn⟩
 .refine wpAny_passesOwn y (bM (T.item X rfl rfl rfl hc i G s3 σ3 H3 X.xe I3 (stat fr3) st3 go) λr s4 ⟨u,hr,h4⟩=>?_)
  subst hr;refine wpAny_passesOwn y (bM h4 λ_ U ⟨x,H5,I5,r5,y5,st5,fr5⟩=>?_)
  have I5':=I5.pinned (stat fr5) (T.obj _ _ st5)
  refine wpAny_passesOwn y (bM (hg _ U σ3 H5 x u _ I5' r5 (step x H5 y5)) λ_ s6 ⟨σ6,H6,I6,q6⟩=>?_)
  refine wpAny_passesOwn y (bM (Z _ s6 σ6 H6 _ I6 q6) λf O q7=>?_)
  have t:∀{c:St}{L:Hp},Inv X (G++CW a U.heap) c L O->N c L->∃m,m<n/\∃i j Y,Inv X G j Y O/\tn i O.heap/\(∀b∈a,Y b=none)/\W i m j Y:=λ{c L} R n7=>by
   obtain⟨q,C,w7⟩:=hN c L n7;refine⟨q,C,i+1,c,L,R.unpinned,T.keep _ _ _ st5 λb Z o e=>(R.pin (b,o) (JF _ (JF _ (ET Z e)))).1,λb Z=>?_,w7⟩
   obtain⟨o,e,d⟩:=T.obj _ _ st5 b Z;exact(R.pin (b,o) (JF _ (JF _ (ET Z e)))).2.1
  cases f with
  |next=>obtain⟨c,L,R,n7⟩:=q7;exact t R n7
  |cont=>obtain⟨c,L,R,n7⟩:=q7;exact t R n7
  |brk=>obtain⟨c,L,R,q7⟩:=q7;exact⟨c,L,R.unpinned,q7⟩
  |ret v=>obtain⟨x7,c,L,R,r7,q7⟩:=q7;exact⟨x7,c,L,R.unpinned,r7,q7⟩
end
abbrev R2:=V->V->Hp->VK->Prop
def OpR(X:Cx)(f:Value->Value->Sem Value)(r:R2):Prop:=
 ∀(G:List (Addr×Obj))(s:Shared)(σ:St)(H:Hp)(x y:V)(v u:Value)(Q:VK),Inv X G σ H s->RelV x v->RelV y u->r x y H Q ->
  wpAny (model X.prog X.w) X.A (f v u) (EP X G σ Q) X.xe s
def Jf(X:Cx)(f:Value->Sem Value)(r:V->Hp->VK->Prop):Prop:=
 ∀(G:List (Addr×Obj))(s:Shared)(σ:St)(H:Hp)(x:V)(v:Value)(Q:VK),Inv X G σ H s->RelV x v->r x H Q ->
  wpAny (model X.prog X.w) X.A (f v) (EP X G σ Q) X.xe s
def CallR(X:Cx)(f:Value)(r:List V->Hp->VK->Prop):Prop:=
 ∀(G:List (Addr×Obj))(s:Shared)(σ:St)(H:Hp)(xs:List V)(us:List Value)(Q:VK),Inv X G σ H s->Vals xs us->r xs H Q ->
  wpAny (model X.prog X.w) X.A (call f us) (EP X G σ Q) X.xe s
def Iq(X:Cx)(r:V->Hp->(Bool->Hp->Prop)->Prop):Prop:=
 ∀(G:List (Addr×Obj))(s:Shared)(σ:St)(H:Hp)(x:V)(v:Value)(Q:Bool->Hp->Prop),Inv X G σ H s->RelV x v->r x H Q ->
  wpAny (model X.prog X.w) X.A (truthy v) (TP X G σ Q) X.xe s
def qx(r:R2)(f G:TE):TE:=λM H Q=>f M H λx n=>G M n λy A=>r x y A Q
def Jp(r:V->Hp->VK->Prop)(f:TE):TE:=λM H Q=>f M H λx n=>r x n Q
def rI(C:Int->Int->Prop)(g:Int->Int->V):R2:=λx y H Q=>∃i j,x=.int i/\y=.int j/\C i j/\Q (g i j) H
def pe(g:Int->Int->V):R2:=λx y H Q=>∃i j,x=.int i/\y=.int j/\Q (g i j) H
section
variable{X:Cx}{a b c:Expr}{ta tb tc:TE}{pos:Pos}
theorem B7(U:PE X a ta)(Z:PE X b tb){G:List (Addr×Obj)}{s:Shared}{M:St}{H:Hp}{R:V->V->Hp->Prop}(I:Inv X G M H s)(h:ta M H λx n=>tb M n λy A=>R x y A){Q:Value->Shared->Prop}{f:Value->Value->Sem Value}(L:∀v u N x y A,Inv X G M A N->RelV x v->RelV y u->R x y A->wpAny (model X.prog X.w) X.A (f v u) Q X.xe N):wpAny (model X.prog X.w) X.A (eval a X.env) (λv i=>wpAny (model X.prog X.w) X.A (eval b X.env) (λu p=>wpAny (model X.prog X.w) X.A (f v u) Q X.xe p) X.xe i) X.xe s:=by
 refine bM (U G s M H _ I h) λv d ⟨x,n,I1,r1,q1⟩=>?_
 refine bM (Z G d M n _ I1 q1) λu N ⟨y,A,I2,r2,q2⟩=>?_
 exact L v u N x y A I2 r1 r2 q2
theorem gC{j:Operator}{r:R2}(J:OpR X (binaryOp j) r)(U:PE X a ta)(Z:PE X b tb):PE X (.BinOp a j b pos) (qx r ta tb):=by
 intro G s M H Q I h;exact wpAny_BinOp (B7 U Z I h λv u N x y A k w o q=>J G N M A x y v u Q k w o q)
theorem DT{j:UnaryOp}{r:V->Hp->VK->Prop}(J:Jf X (unaryOp j) r)(U:PE X a ta):PE X (.UnaryOp j a pos) (Jp r ta):=by
 intro G s M H Q I h;exact UnaryOp_ (bM (U G s M H _ I h) λv y ⟨x,H1,I1,r1,q1⟩=>J G y M H1 x v Q I1 r1 q1)
theorem Fy{f:Value->Value->Sem Value}{C:Int->Int->Prop}(d:∀(i j:Int)(t u:Tok)(s:Shared)(Q:Value->Shared->Prop)(E:Value->Shared->Prop),C i j->Q (.int (g i j) s.toks) {s with toks:=s.toks+1}->wpAny (model X.prog X.w) X.A (f (.int i t) (.int j u)) Q E s):OpR X f (rI C λi j=>.int (g i j)):=by
 intro G s M H x y v u Q I w o h;obtain⟨i,j,rfl,rfl,e,q⟩:=h;obtain⟨t,rfl⟩:=w;obtain⟨O,rfl⟩:=o;exact d i j t O s _ _ e ⟨.int (g i j),H,I.tok _,⟨_,rfl⟩,q⟩
theorem DY{f:Value->Value->Sem Value}(d:∀(i j:Int)(t u:Tok)(s:Shared)(Q:Value->Shared->Prop)(E:Value->Shared->Prop),Q (.int (g i j) s.toks) {s with toks:=s.toks+1}->wpAny (model X.prog X.w) X.A (f (.int i t) (.int j u)) Q E s):OpR X f (pe λi j=>.int (g i j)):=by
 intro G s M H x y v u Q I w o h;obtain⟨i,j,rfl,rfl,q⟩:=h;obtain⟨t,rfl⟩:=w;obtain⟨O,rfl⟩:=o;exact d i j t O s _ _ ⟨.int (g i j),H,I.tok _,⟨_,rfl⟩,q⟩
theorem xv{f:Value->Value->Sem Value}{g:Int->Int->Bool}(d:∀(i j:Int)(t u:Tok)(s:Shared)(Q:Value->Shared->Prop)(E:Value->Shared->Prop),Q (.bool (g i j)) s->wpAny (model X.prog X.w) X.A (f (.int i t) (.int j u)) Q E s):OpR X f (pe λi j=>.bl (g i j)):=by
 intro G s M H x y v u Q I w o h;obtain⟨i,j,rfl,rfl,q⟩:=h;obtain⟨t,rfl⟩:=w;obtain⟨O,rfl⟩:=o;exact d i j t O s _ _ ⟨.bl (g i j),H,I,rfl,q⟩
def Iy(i j:Int):Prop:=0<j/\j<1073741824
def Iw(i j:Int):Prop:=0<=j/\j<=1000000/\i.natAbs<2 ^ 64
def CMul(i j:Int):Prop:=(-(2 ^ 64)<i/\i<2 ^ 64)\/(-(2 ^ 64)<j/\j<2 ^ 64)
theorem CMul.ok{i j:Int}(h:CMul i j):IntMulOk i j:=by
 rcases h with⟨J,S⟩|⟨J,S⟩
 .exact .of_left (intBits_le_64 J S)
 .exact .of_right (intBits_le_64 J S)
theorem Bl:OpR X (binaryOp .Add) (pe λi j=>.int (i+j)):=DY λ_ _ _ _ _ _ _ q=>add_int q
theorem Bb:OpR X (binaryOp .Sub) (pe λi j=>.int (i-j)):=DY λ_ _ _ _ _ _ _ q=>sub_int q
theorem Bg:OpR X (binaryOp .Mult) (rI CMul λi j=>.int (i*j)):=Fy λ_ _ _ _ _ _ _ f q=>mul_int q f.ok
theorem xt:OpR X (binaryOp .FloorDiv) (rI Iy λi j=>.int (i / j)):=Fy λi j _ _ _ _ _ f q=>by
 have J:(0:Int)<j:=f.1
 have S:j<1073741824:=f.2
 exact floordiv_int (by omega) (by rw[Int.fdiv_eq_ediv_of_nonneg i (by omega)];exact q) (.inl (PyProof.noPylong_small (by omega)))
theorem Bh:OpR X (binaryOp .Mod) (rI (λ_ j=>0<j) λi j=>.int (i % j)):=Fy λi j _ _ _ _ _ f q=>by
 have J:(0:Int)<j:=f
 exact mod_int' (by omega) (by rw[Int.fmod_eq_emod_of_nonneg i (by omega)];exact q)
theorem Be:OpR X (binaryOp .Pow) (rI Iw λi j=>.int (i ^ j.toNat)):=Fy λ_ _ _ _ _ _ _ f q=>pow_int_small f.1 f.2.1 f.2.2 q
end
section
variable{X:Cx}{a b c:Expr}{ta tb tc:TE}{pos:Pos}
theorem Ez{G:List (Addr×Obj)}{M:St}{H:Hp}{s:Shared}{Q:VK}{k o:Bool}(I:Inv X G M H s)(q:Q (.bl k) H)(e:k=o):EP X G M Q (.bool o) s:=by
 subst e;exact⟨.bl k,H,I,rfl,q⟩
theorem op_lt:OpR X (compareOp .Lt) (pe λi j=>.bl (decide (i<j))):=xv λ_ _ _ _ _ _ _ q=>lt_int q
theorem DW:OpR X (compareOp .LtE) (pe λi j=>.bl (decide (i<=j))):=xv λ_ _ _ _ _ _ _ q=>le_int q
theorem DX:OpR X (compareOp .Gt) (pe λi j=>.bl (decide (j<i))):=xv λ_ _ _ _ _ _ _ q=>gt_int q
theorem op_ge:OpR X (compareOp .GtE) (pe λi j=>.bl (decide (j<=i))):=xv λ_ _ _ _ _ _ _ q=>ge_int q
theorem qQ:OpR X (compareOp .Lt) (λx y H Q=>∃i j,x=.str i/\y=.str j/\Q (.bl (decide (i.cps.toList<j.cps.toList))) H):=by
 intro G s M H x y v u Q I w o h;obtain⟨i,j,rfl,rfl,q⟩:=h;obtain⟨t,rfl⟩:=w;obtain⟨O,rfl⟩:=o;exact lt_str (Ez I q rfl)
theorem Bi:OpR X (compareOp .Is) (λx y H Q=>y=.non/\Q (.bl (decide (x=.non))) H):=by
 intro G s M H x y v u Q I w o h;obtain⟨rfl,q⟩:=h
 cases o;refine is_none_gen (Ez I q ?_)
 cases x<;>first
  |(cases w;rfl)
  |(obtain⟨t,rfl⟩:=w;rfl)
theorem xr:OpR X (compareOp .IsNot) (λx y H Q=>y=.non/\Q (.bl (!decide (x=.non))) H):=by
 intro G s M H x y v u Q I w o h;obtain⟨rfl,q⟩:=h
 cases o;refine isnot_none_gen (Ez I q ?_)
 cases x<;>first
  |(cases w;rfl)
  |(obtain⟨t,rfl⟩:=w;rfl)
theorem OpR.or{f:Value->Value->Sem Value}{r r':R2}(h:OpR X f r)(j:OpR X f r'):OpR X f (λx y H Q=>r x y H Q\/r' x y H Q):=by
 intro G s M H x y v u Q I w o q;rcases q with q|q
 .exact h G s M H x y v u Q I w o q
 .exact j G s M H x y v u Q I w o q
theorem xp{j:CmpOp}{r:R2}(J:OpR X (compareOp j) r)(U:PE X a ta)(Z:PE X b tb)(C:behindInMarks j b=false):PE X (.Compare a [j] [b] pos) (qx r ta tb):=by
 intro G s M H Q I h;exact wpAny_Compare1 (B7 U Z I h λv u N x y A k w o q=>J G N M A x y v u Q k w o q) C
def yU(t:TE):TT:=λM H Q=>t M H λx Y=>∃k,x=.bl k/\Q k Y
theorem xk{j:CmpOp}{r:R2}(J:OpR X (compareOp j) r)(U:PE X a ta)(Z:PE X b tb)(C:behindInMarks j b=false):PT X (.Compare a [j] [b] pos) (yU (qx r ta tb)):=by
 intro G s M H Q I h;refine wpAny_isTrue_Compare1 (bM (U G s M H _ I h) λv d ⟨x,H1,I1,r1,q1⟩=>bM (Z G d M H1 _ I1 q1) λu N ⟨y,H2,I2,r2,q2⟩=>
  bM (J G N M H2 x y v u _ I2 r1 r2 q2) λc S ⟨z,H3,I3,r3,k,e,q3⟩=>?_) C
 subst e
 cases r3;exact wpAny_truthy_bool ⟨H3,I3,q3⟩
def tw(r E:R2)(f G i:TE):TE:=λM H Q=>f M H λx n=>G M n λy A=>r x y A λz t=>∃k,z=.bl k /\
 (if k=true then i M t λg d=>E y g d Q else Q (.bl false) t)
theorem uq{j m:CmpOp}{r E:R2}(J:OpR X (compareOp j) r)(i:OpR X (compareOp m) E)(U:PE X a ta)(Z:PE X b tb)(f:PE X c tc)(C:lastMarks [j,m] [b,c]=false:=by with_unfolding_all rfl):PE X (.Compare a [j,m] [b,c] pos) (tw r E ta tb tc):=by
 intro G s M H Q I h;refine Compare_chain (bM (U G s M H _ I h) λv l ⟨x,H1,I1,r1,q1⟩=>chain_link (bM (Z G l M H1 _ I1 q1) λu N ⟨y,H2,I2,r2,q2⟩=>
  bM (J G N M H2 x y v u _ I2 r1 r2 q2) λd S ⟨z,H3,I3,r3,k,e,q3⟩=>?_)) C
 subst e
 cases r3;refine wpAny_truthy_bool ?_
 cases k with
 |false=>exact ite_ff ⟨.bl false,H3,I3,rfl,q3⟩
 |true=>exact ite_tt (chain_last (bM (f G S M H3 _ I3 q3) λg K ⟨z',H4,I4,r4,q4⟩=>i G K M H4 y z' u g Q I4 r2 r4 q4))
def vw(K:Fg)(x:V)(H:Hp)(k:Bool):Prop:=
 match x with
 |.non=>k=false
 |.bl b=>k=b
 |.int i=>k=(i != 0)
 |.str y=>y.length<=sizeLine/\k=((y.length:Int) != 0)
 |.byt y=>y.size<=sizeLine/\k=((y.size:Int) != 0)
 |.ref p=>(∃Y,SqL K H p Y/\k=!Y.isEmpty)\/(∃Y,SqT K H p Y/\k=!Y.isEmpty)\/∃j,H p=some (.dK j)/\k=!j.isEmpty
 |_=>False
theorem og{f:Type}{j:List (f×V)}{L:List (f×Value)}(r:KV j L):(!L.isEmpty)=!j.isEmpty:=by
 cases r<;>rfl
theorem Hq{Y:List V}{g:List Value}(r:Vals Y g):(!g.toArray.isEmpty)=!Y.isEmpty:=by
 cases r<;>simp
theorem yH:(sizeLine:Nat)<2 ^ 63:=by rw[sizeLine_eq];decide
theorem tp:Iq X (λx H Q=>∃k,vw X.K x H k/\Q k H):=by
 intro G s M H x v Q I w h;obtain⟨k,e,q⟩:=h;have N:=yH
 have P:sizeLine=16777216:=sizeLine_eq
 cases x with
 |non=>
  cases w;have f:k=false:=e
  subst f
  exact truthy_none ⟨H,I,q⟩
 |bl b=>
  cases w;have f:k=b:=e
  subst f
  exact wpAny_truthy_bool ⟨H,I,q⟩
 |int i=>
  obtain⟨t,rfl⟩:=w;have f:k=(i != 0):=e
  subst f
  exact PySem.P.truthy_int ⟨H,I,q⟩
 |str y=>
  obtain⟨t,rfl⟩:=w;obtain⟨Z,f⟩:y.length<=sizeLine/\k=((y.length:Int) != 0):=e
  subst f
  exact PySem.P.truthy_str (by omega) ⟨H,I.tok _,q⟩
 |byt y=>
  obtain⟨t,rfl⟩:=w;obtain⟨Z,f⟩:y.size<=sizeLine/\k=((y.size:Int) != 0):=e
  subst f
  exact PySem.W.truthy_bytes (by omega) ⟨H,I.tok _,q⟩
 |ref p=>
  cases w;have f:(∃Y,SqL X.K H p Y/\k=!Y.isEmpty)\/(∃Y,SqT X.K H p Y/\k=!Y.isEmpty)\/∃j,H p=some (.dK j)/\k=!j.isEmpty:=e
  rcases f with⟨Y,A,f⟩|⟨Y,A,f⟩|⟨j,A,f⟩
  .subst f
   obtain⟨g,r,d,l⟩:=I.list A;have C:=r.length
   exact wpAny_truthy_list d.isList (by simp only[size_toArray];omega) ⟨H,I.tok _,by rw[Hq r];exact q⟩
  .subst f
   obtain⟨g,r,d,l⟩:=I.tuple A;have C:=r.length
   exact truthy_tuple d (by simp only[size_toArray];omega) ⟨H,I.tok _,by rw[Hq r];exact q⟩
  .subst f
   obtain⟨l,R,L,r,m⟩:j.length<=sizeLine/\(p==sysModules)=false/\∃L,KV j L/\s.heap.DictOf (Gc X.prog X.w) p L:=I.hok p _ A
   have C:j.length=L.length:=Paired.length r
   exact wpAny_truthy_dict R m (by omega) ⟨H,I.tok _,by rw[og r];exact q⟩
 |_=>exact(show False from e).elim
theorem uf(U:PE X a ta)(R:∀d,isTrue a X.env d=(do let v <-d;standAt a.pos;holding [v] (truthy v))):PT X a (λM H Q=>ta M H λx Y=>∃k,vw X.K x Y k/\Q k Y):=by
 intro G s M H Q I h;exact isTrue_plain (bM (U G s M H _ I h) λv y ⟨x,H1,I1,r1,q1⟩=>tp G y M H1 x v Q I1 r1 q1) (R _)
theorem vals1{x:V}(r:Vals [x] S):∃u,S=[u]/\RelV x u:=by
 cases r with
 |cons J C=>cases C;exact⟨_,rfl,J⟩
theorem rV:CallR X (.type "int") (λY H Q=>(∃i,Y=[.int i]/\Q (.int i) H)\/∃k,Y=[.bl k]/\Q (.int (if k then 1 else 0)) H):=by
 intro G s M H Y S Q I r h;rcases h with⟨i,rfl,q⟩|⟨k,rfl,q⟩
 .obtain⟨u,rfl,t,rfl⟩:=vals1 r
  exact call_int_int ⟨.int i,H,I,⟨_,rfl⟩,q⟩
 .obtain⟨u,rfl,J⟩:=vals1 r
  cases J;exact call_int_bool ⟨.int (if k then 1 else 0),H,I.tok _,⟨_,rfl⟩,q⟩
end
structure ObjM(h:Heap)(x dx C:Addr)(mA:Str->Option Value):Prop where
 obj:h.get? x=some (PySem.W.instObj C dx)
 ns:h.Ns1 dx mA
 ne:dx≠x
theorem rd{s:Addr}(n:h.Ns1 s M):∃m,h.get? s=some m/\∀i,PySem.W.lookIn i m=some (M i):=by
 obtain⟨o,c,N,J,U,O,_,C⟩:=n;refine⟨o,J,λi=>?_⟩
 have e:=C i
 unfold nsFind findBy at e;rw[<-Array.find?_toList]at e;unfold PySem.W.lookIn;rw[U];dsimp only;split
 .rename_i y q
  rw[q]at e;exact congrArg some e
 .rename_i q
  rw[q]at e;have a:c.toList.any (·.refKey)=false:=by
   rw[any_eq_false];intro y Z;obtain⟨z,t,b⟩:=O y (Array.mem_toList_iff.mp Z);simp[DictEntry.refKey,b]
  have j:¬c.toList.any (·.refKey)=true:=by rw[a];exact Bool.false_ne_true
  rw[if_neg j];exact congrArg some e
theorem ObjM.look{x s C:Addr}(I:ObjM h x s C M):∃m,PySem.W.InstAt h x (PySem.W.instObj C s) C (some m)/\∀i,PySem.W.lookIn i m=some (M i):=
 let⟨m,J,N⟩:=rd I.ns
 ⟨m,⟨I.obj,rfl,rfl,J⟩,N⟩
section
variable{P:Program}{w:World}{H H':Hp}{h h':Heap}{a C dx:Addr}{fs fs':List (Str×V)}
theorem xH(t:HOk P w H h)(e:H a=some (.ins C dx fs)):∃M,ObjM h a dx C M/\(∀f,Cg (fs.lookup f) (M f))/\PySem.Within M (fs.map (·.1))/\fs.length<=1000/\H dx=some (.own a):=by
 obtain⟨d,z,b,K,M,n,r,q⟩:=(show ObjOk P w H h a (.ins C dx fs)from t a _ e);exact⟨M,⟨K,n,b⟩,r,q,z,d⟩
end
structure Cls(K:Fg)(C:Addr):Prop where
 pg:PySem.W.plainGet K C Str.empty=true
 hd:PySem.W.hasDictIn K C=true
 po:PySem.W.plainOver K C=true
 sa:PySem.W.findIn K (.ref C) "__setattr__"=some (some (.builtin "object.__setattr__"))
theorem Cls.get{K:Fg}{C:Addr}(c:Cls K C)(f:Str):PySem.W.plainGet K C f=true:=c.pg
section
variable{X:Cx}{pins:List (Addr×Obj)}{σ:St}{H:Hp}{s:Shared}{A:Around}{E:Value->Shared->Prop}{Q:Value->Shared->Prop}{c:Value}{b:Bool}
inductive ib (K:Fg) (H:Hp):V->Value->Prop where
 |non:ib K H .non (.type "NoneType")
 |bl (x:Bool):ib K H (.bl x) (.type "bool")
 |int (i:Int):ib K H (.int i) (.type "int")
 |str (x:Str):ib K H (.str x) (.type "str")
 |flt (x:UInt64):ib K H (.flt x) (.type "float")
 |lst {a:Addr} {xs:List V} (e:H a=some (.lst xs)):ib K H (.ref a) (.type "list")
 |frz {a:Addr} {o:Obj} {xs:List V} (e:H a=some (.frz o (.lst xs))):ib K H (.ref a) (.type "list")
 |tup {a:Addr} {xs:List V} (e:H a=some (.tup xs)):ib K H (.ref a) (.type "tuple")
 |dK {a:Addr} {kvs:List (ly×V)} (e:H a=some (.dK kvs)):ib K H (.ref a) (.type "dict")
 |dT {a:Addr} {kvs:List (List ly×V)} (e:H a=some (.dT kvs)):ib K H (.ref a) (.type "dict")
 |ins {a C dx:Addr} {fs:List (Str×V)} (e:H a=some (.ins C dx fs)) (cl:Cls K C) (ha:PySem.W.findIn K (.ref C) "__class__"=some (some (.builtin "object.__class__")))
   (hn:PySem.W.specialIn K (.builtin "object.__class__") "__get__"=some (some (.builtin "getset_descriptor.__get__"))) (htk:PySem.W.takesIn K (.builtin "object.__class__")=some true)
   (hm:PySem.W.mroIn K C (.type "object")=some true):ib K H (.ref a) (.ref C)
theorem zI{x:V}{t:Value}(I:Inv X pins σ H s)(w:RelV x u)(ty:ib X.K H x t)(e:PySem.W.kitOne X.K t c=some b)(h:∀f,Q (.bool b) {s with toks:=f}):wpAny (model X.prog X.w) A (call (.builtin "isinstance") [u,c]) Q E s:=by
 cases ty with
 |non=>cases(show u=Value.none from w);exact PySem.W.kia_one PySem.W.kitx_none I.kIn True.intro e nofun h
 |bl y=>cases(show u=Value.bool y from w);exact PySem.W.kia_one PySem.W.kitx_bool I.kIn True.intro e nofun h
 |int i=>obtain⟨t,q⟩:=(show ∃t,u=Value.int i t from w);cases q;exact PySem.W.kia_one PySem.W.kitx_int I.kIn True.intro e nofun h
 |str y=>obtain⟨t,q⟩:=(show ∃t,u=Value.str y t from w);cases q;exact PySem.W.kia_one PySem.W.kitx_str I.kIn True.intro e nofun h
 |flt y=>obtain⟨t,q⟩:=(show ∃t,u=Value.float y t from w);cases q;exact PySem.W.kia_one PySem.W.kitx_float I.kIn True.intro e nofun h
 |@lst a Y ea=>
  cases(show u=Value.ref a from w)
  obtain⟨_,_,n,_,d⟩:=(show ObjOk X.prog X.w H s.heap a (.lst Y)from I.hok a _ ea);exact PySem.W.kia_one PySem.W.kitx_list I.kIn ⟨_,d,rfl⟩ e nofun h
 |@frz a ob Y ea=>
  cases(show u=Value.ref a from w)
  obtain⟨_,_,_,n,_,d⟩:=(show ObjOk X.prog X.w H s.heap a (.frz ob (.lst Y))from I.hok a _ ea);exact PySem.W.kia_one PySem.W.kitx_list I.kIn ⟨_,d,rfl⟩ e nofun h
 |@tup a Y ea=>
  cases(show u=Value.ref a from w)
  obtain⟨_,_,_,p⟩:=(show ObjOk X.prog X.w H s.heap a (.tup Y)from I.hok a _ ea);obtain⟨o,d,S,_⟩:=p;exact PySem.W.kia_one PySem.W.kitx_tuple I.kIn ⟨o,d,S⟩ e nofun h
 |@dK a kvs ea=>
  cases(show u=Value.ref a from w)
  obtain⟨_,_,L,_,p⟩:=(show ObjOk X.prog X.w H s.heap a (.dK kvs)from I.hok a _ ea);obtain⟨o,U,N,d,S,_⟩:=p;exact PySem.W.kia_one PySem.W.kitx_dict I.kIn ⟨o,d,S.1⟩ e nofun h
 |@dT a kvs ea=>
  cases(show u=Value.ref a from w)
  obtain⟨_,_,Y,_,o,U,N,d,S,_⟩:=(show ObjOk X.prog X.w H s.heap a (.dT kvs)from I.hok a _ ea);exact PySem.W.kia_one PySem.W.kitx_dict I.kIn ⟨o,d,S.1⟩ e nofun h
 |@ins a C dx fs ea cl ha hn htk hm=>
  cases(show u=Value.ref a from w)
  obtain⟨M,O,_⟩:=xH I.hok ea;obtain⟨m,J,_⟩:=O.look;exact PySem.W.kia_one (PySem.W.kitx_own (cl.get _) cl.hd ha hn htk hm) I.kIn J e nofun h
end
structure Room(k:Nat)(A:Around):Prop where
 hd:A.handled=none
 dp:A.depth+3*k+5<recursionLimit
 un:A.units+16*k+200<cLine
 gd:A.guards=some []
theorem Room.mono{j:Nat}(r:Room k A)(h:j<=k):Room j A:=⟨r.hd,by have:=r.dp;omega,by have:=r.un;omega,r.gd⟩
theorem Room.deeper(r:Room (k+1) A)(g:Env):Room k (A.deeper g):=
 ⟨r.hd,by have:=r.dp;show A.depth+1+3*k+5<_;omega,by have:=r.un;show A.units+3+16*k+200<_;omega,r.gd⟩
theorem Room.depth(r:Room k A):A.depth<recursionLimit:=by have:=r.dp;omega
theorem Room.units(r:Room k A):A.units+64<cLine:=by have:=r.un;omega
def ja:TA:=λ_ H Q=>Q [] H
def cV(f:TE)(a:TA):TA:=λM H Q=>f M H λx n=>a M n λY A=>Q (x::Y) A
section
variable{X:Cx}{e:Expr}{es:List Expr}{te:TE}{t:TA}{pos:Pos}
theorem yI:PA X [] ja:=λ_ _ _ _ H Q I h=>Calls.spliced_nil ⟨[],H,I,.nil,h⟩
theorem sf(U:PE X e te)(m:PA X es t)(P:starEach (e::es) X.env=(false,eval e X.env)::starEach es X.env:=by rfl):PA X (e::es) (cV te t):=by
 intro pos G s M H Q I h;rw[P];show wpAny _ _ (spliced ((false,eval e X.env)::backTo pos (starEach es X.env))) _ _ s
 refine Calls.spliced_cons (bM (U G s M H _ I h) λu y ⟨x,H1,I1,r1,q1⟩=>?_)
 exact bM (m pos G y M H1 _ I1 q1) λS N ⟨xs,H2,I2,r2,q2⟩=>⟨x::xs,H2,I2,.cons r1 r2,q2⟩
def zW(t:TA):TE:=λM H Q=>t M H λY n=>Y.length<=sizeLine/\∀p,n p=none->Q (.ref p) (bF n p (.tup Y))
def DA(t:TA):TE:=λM H Q=>t M H λY n=>Y.length<=sizeLine/\∀p,n p=none->Q (.ref p) (bF n p (.lst Y))
theorem uj{x1}(h:PA X es t):PE X (.Tuple es x1 pos) (zW t):=by
 intro G s M H Q I k;refine wpAny_Tuple_spliced (bM (h pos G s M H _ I k) λS y ⟨xs,H1,I1,r,z,q⟩=>⟨by rw[<-r.length];exact z,?_⟩)
 have L:H1 y.heap.objs.size=none:=I1.hok.fresh (JR _)
 refine⟨.ref y.heap.objs.size,bF H1 y.heap.objs.size (.tup xs),I1.laid (t':=y.toks) (λb u e=>JQ _ e) (JR _) ?_,rfl,q _ L⟩
 exact⟨z,S,r,⟨_,Heap.get?_push_size _ rfl,rfl,_,rfl⟩⟩
theorem A9(h:PA X es t):PE X (.List es pos) (DA t):=by
 intro G s M H Q I k;refine wpAny_List_spliced (bM (h pos G s M H _ I k) λS y ⟨xs,H1,I1,r,z,q⟩=>⟨by rw[<-r.length];exact z,?_⟩)
 have L:H1 y.heap.objs.size=none:=I1.hok.fresh (JR _)
 refine⟨.ref y.heap.objs.size,bF H1 y.heap.objs.size (.lst xs),I1.laid (t':=y.toks) (λb u e=>JQ _ e) (JR _) ?_,rfl,q _ L⟩
 exact⟨z,S,0,r,Heap.get?_push_size _ rfl⟩
end
abbrev Sp:=List V->Hp->VK->XK->Prop
abbrev vK:=List Env->Hp->Shared->XK->Value->Shared->Prop
structure yx(P:Program)(w:World)(K:Fg)(mg:Str->Option Value)(base:Heap)(A:Around)(outer:List Env)(s:Shared)(H:Hp):Prop where
 frames:A.frames=some outer
 mod:Mod K mg base
 bs:∀b o,base.get? b=some o->s.heap.get? b=some o/\H b=none
 bsz:base.objs.size<=s.heap.objs.size
 funs:s.heap.FunFrames base outer
 frf:∀b∈u4 outer,H b=none
 hok:HOk P w H s.heap
 bare:AllBare s.gens
def CE(M:List Env)(P:Program)(w:World)(H:Hp)(s:Shared)(Q:VK)(u:Value)(K:Shared):Prop:=
 ∃v Y,K.os=s.os/\AllBare K.gens/\Un (u4 M) [] H Y s.heap K.heap/\HOk P w Y K.heap/\RelV v u/\Q v Y
def CR(h:vK)(M:List Env)(P:Program)(w:World)(H:Hp)(s:Shared)(Q:VK)(E:XK)(r:Result)(K:Shared):Prop:=
 match r with
 |.ok (.ret u)=>CE M P w H s Q u K
 |.ok _=>False
 |.error e=>h M H s E e K
structure dy(P:Program)(w:World)(K:Fg)(mg:Str->Option Value)(base:Heap)(CX:vK)(k:Nat)(f:Addr)(fd:FuncData)(ps:List Str)(sp:Sp):Prop where
 len:∀vs H Q E,sp vs H Q E->vs.length=ps.length
 run:∀(A:Around)(outer:List Env)(s:Shared)(H:Hp)(args:Args)(us:List Value)(vs:List V)(Q:VK)(E:XK),Room k A->yx P w K mg base A outer s H->BindsTo s fd args (ps.zip us)->Vals vs us->sp vs H Q E ->
  codeAny (model P w) A (.call (.ref f) args) (CR CX outer P w H s Q E) s
section
variable{X:Cx}{pins:List (Addr×Obj)}{σ:St}{H:Hp}{s s':Shared}
theorem Inv.env0(I:Inv X pins σ H s):yx X.prog X.w X.K X.mg X.base X.A X.stack s H:=
 ⟨I.ok.frames,I.ok.mod,I.bs,Nat.le_trans I.ok.bsz I.sz,I.stack,I.stkFree,I.hok,I.bare⟩
theorem Inv.after{Q:VK}(I:Inv X pins σ H s)(h:CE X.stack X.prog X.w H s Q u s'):EP X pins σ Q u s':=by
 obtain⟨v,Y,G,a,un,c,r,q⟩:=h;obtain⟨M,g,d,t,l⟩:=s'
 obtain rfl:l=s.os:=G
 exact⟨v,Y,I.call (h':=M) (g':=g) (d':=d) (t':=t) (ch:=[]) un c a (λb z=>absurd z (by simp)),r,q⟩
end
def jL(b:Sp)(a:List V)(E:XK)(t:TA):TE:=λM H Q=>t M H λL n=>b (L++a) n Q E
def Binds(K:Fg)(r:FuncData)(G:List Str)(t:List Value):Prop:=
 ∀(s:Shared)(us:List Value),K.In s.heap->(us++t).length=G.length->BindsTo s r ⟨us,[]⟩ (G.zip (us++t))
theorem Binds.all{K:Fg}{r:FuncData}{G:List Str}(h:∀S:List Value,S.length=G.length->bindArgs r ⟨S,[]⟩=pure (G.zip S)):Binds K r G []:=λs S _ N=>by
 rw[append_nil]at N ⊢;exact .of_eq (h S N)
def FP(h:vK)(X:Cx)(E:XK):Prop:=∀(G:List (Addr×Obj))(σ:St)(H:Hp)(s:Shared)(e:Value)(s':Shared),Inv X G σ H s->h X.stack H s E e s'->X.xe e s'
section
variable{X:Cx}{CX:vK}{k:Nat}{f C:Addr}{fd:FuncData}{ps:List Str}{sp:Sp}{dvs:List V}{ds:List Value}{E:XK}{x m:Str}{p pos apos:Pos}{e o:Expr}{es:List Expr}{ta:TE}{t:TA}
theorem Ag{G:List (Addr×Obj)}{M:St}{H:Hp}{s:Shared}{Q:VK}{L:List V}(F:dy X.prog X.w X.K X.mg X.base CX k f fd ps sp)(d:Room k X.A)(Z:Binds X.K fd ps ds)(U:Vals dvs ds)(A:FP CX X E)(I:Inv X G M H s)(r:Vals L S)(h:sp (L++dvs) H Q E):wpAny (model X.prog X.w) X.A (call (.ref f) S) (EP X G M Q) X.xe s:=by
 have c:Vals (L++dvs) (S++ds):=r.append U
 have N:(S++ds).length=ps.length:=by rw[<-c.length];exact F.len _ _ _ _ h
 refine wpAny_call (codeAny_mono (F.run X.A X.stack s H ⟨S,[]⟩ (S++ds) (L++dvs) Q E d I.env0 (Z s S I.kIn N) c h) λr K a=>?_)
 cases r with
 |error e=>exact A G M H s e K I a
 |ok b=>
  cases b with
  |ret u=>exact I.after a
  |next=>exact False.elim a
  |brk=>exact False.elim a
  |cont=>exact False.elim a
theorem C6(F:dy X.prog X.w X.K X.mg X.base CX k f fd ps sp)(b:Room k X.A)(l:Gl X x)(a:X.mg x=some (.ref f))(O:PySem.W.keepIn X.K (.ref f)=true)(Z:Binds X.K fd ps ds)(c:Vals dvs ds)(A:FP CX X E)(U:PA X (e::es) t)(d:(x==("__debug__":Str))=false:=by decide)(R:starEach (e::es) X.env=(false,eval e X.env)::starEach es X.env:=by rfl)(J:(backTo pos (starEach es X.env)).any (·.1)=false:=by rfl):PE X (.Call (.Name x p) (e::es) [] pos) (jL sp dvs E t):=by
 intro G s M H Q I h;refine wpAny_Call_Name_kw (pI I l a ?_ d)
 refine PySem.W.callWith_K (h₀:=X.base) I.ok.mod.kin O (bM (U pos G s M H _ I h) λS y ⟨vs,H1,I1,r,q⟩=>⟨I1.kIn,?_⟩) R J
 exact Ag F b Z c A I1 r q
end
structure dM(N P:List Str)(sc:Scope):Prop where
 kind:sc.kind=.function
 co:sc.isCoroutine=false
 gen:sc.isGenerator=false
 nd:N.Nodup
 pre:N.take P.length=P
 par:∀x∈P,sc.names.lookup x=some .local\/sc.names.lookup x=some .cell
 nofree:∀y∈sc.names,y.2≠.free
theorem kd{a:Str->Option NameKind}{x:Str}:∀{binds:List (Str×Value)}{m:Str->Option Value},(∀v,(x,v)∉binds)->bindL a binds m x=m x
 |[],_,_=>rfl
 |(n,v)::r,m,h=>by
  unfold bindL;rw[kd λw b=>h w (JL _ b)]
  split
  .have:x≠n:=by rintro rfl;exact h v mem_cons_self
   simp[this]
  .rfl
theorem kf{a:Str->Option NameKind}{x:Str}:∀{binds:List (Str×Value)}{m:Str->Option Value},(∀v,(x,v)∉binds)->bindC a binds m x=m x
 |[],_,_=>rfl
 |(n,v)::r,m,h=>by
  unfold bindC;rw[kf λw b=>h w (JL _ b)]
  split
  .rfl
  .have:x≠n:=by rintro rfl;exact h v mem_cons_self
   simp[this]
theorem ke{a:Str->Option NameKind}{x:Str}{v:Value}:∀{P:List Str}{vs:List Value}{i:Nat}{m:Str->Option Value},P.Nodup->P[i]?=some x->vs[i]?=some v->a x=some .local ->
  bindL a (P.zip vs) m x=some v
 |[],_,_,_,_,h,_,_=>by simp at h
 |_::_,[],_,_,_,_,h,_=>by simp at h
 |p::P,w::vs,0,m,nd,h1,h2,hk=>by
  simp at h1 h2;subst h1;subst h2;show bindL a ((p,w)::P.zip vs) m p=_
  unfold bindL;rw[kd λv R=>(List.nodup_cons.mp nd).1 (of_mem_zip R).1,if_pos hk]
  simp
 |p::P,w::vs,i+1,m,nd,h1,h2,hk=>by
  show bindL a ((p,w)::P.zip vs) m x=_
  unfold bindL;exact ke (i:=i) (List.nodup_cons.mp nd).2 (by simpa using h1) (by simpa using h2) hk
theorem kg{a:Str->Option NameKind}{x:Str}{v:Value}:∀{P:List Str}{vs:List Value}{i:Nat}{m:Str->Option Value},P.Nodup->P[i]?=some x->vs[i]?=some v->a x≠some .local ->
  bindC a (P.zip vs) m x=some v
 |[],_,_,_,_,h,_,_=>by simp at h
 |_::_,[],_,_,_,_,h,_=>by simp at h
 |p::P,w::vs,0,m,nd,h1,h2,hk=>by
  simp at h1 h2;subst h1;subst h2;show bindC a ((p,w)::P.zip vs) m p=_
  unfold bindC;rw[kf λv R=>(List.nodup_cons.mp nd).1 (of_mem_zip R).1,if_neg hk]
  simp
 |p::P,w::vs,i+1,m,nd,h1,h2,hk=>by
  show bindC a ((p,w)::P.zip vs) m x=_
  unfold bindC;exact kg (i:=i) (List.nodup_cons.mp nd).2 (by simpa using h1) (by simpa using h2) hk
def start(N:List Str)(L:List V):St:=L.map some++List.replicate (N.length-L.length) none
def jA(h:vK)(P:Program)(w:World)(K:Fg)(mg:Str->Option Value)(base:Heap)(N:List Str)(C:Str)(d:Scope)(f:Addr)(g:Value)(A:Around)(outer:List Env)(s:Shared)(H:Hp)(E:XK):Cx where
 prog:=P
 w:=w
 K:=K
 mg:=mg
 base:=base
 A:=A.deeper (envOfC C d s.heap.objs.size f g)
 N:=N
 s₀:=s
 H₀:=H
 env:=envOfC C d s.heap.objs.size f g
 outer:=outer
 stack:=envOfC C d s.heap.objs.size f g::outer
 ex:=[]
 calm:=true
 fn:=λ_=>true
 pn:=[]
 xe:=λe b=>wpAny (model P w) (A.deeper (envOfC C d s.heap.objs.size f g)) (leaving (envOfC C d s.heap.objs.size f g) e) (λ_ c=>h outer H s E e c) (λa c=>h outer H s E a c) b
theorem m6{sc:Scope}{n:Nat}(h:sc.names.lookup x=some .cell):∃c,(cellsFrom n sc.names []).lookup x=some c:=by
 have q:=PySem.W.cellsFrom_some sc.names n [] (.inl h)
 exact Option.isSome_iff_exists.mp q
theorem rg{CX:vK}{P:Program}{w:World}{K:Fg}{mg:Str->Option Value}{G:List Str}{C:Str}{d:Scope}{f:Addr}{g:Value}{M:List Env}{s s1:Shared}{H:Hp}{E:XK}{us:List Value}{L:List V}(S:dM N G d)(hd:A.handled=none)(Y:yx P w K mg X A M s H)(hl:L.length=G.length)(r:Vals L us)(x:InCallC s s.heap.objs.size (bindL (envOfC C d s.heap.objs.size f g).kindOf (G.zip us) λ_=>none) (cellsFrom (s.heap.objs.size+1) d.names []) (bindC (envOfC C d s.heap.objs.size f g).kindOf (G.zip us) λ_=>none) s1):Inv (jA CX P w K mg X N C d f g A M s H E) [] (start N L) H s1:=by
 have hpl:G.length<=N.length:=by have:=congrArg List.length S.pre;rw[length_take]at this;omega
 obtain⟨J,tk,rfl,O⟩:=x.done;have j:∀b:Addr,b∉(jA CX P w K mg X N C d f g A M s H E).ex:=λb z=>absurd (show b∈([]:List Addr)from z) (by simp)
 refine⟨⟨Y.mod,S.kind,rfl,rfl,JR _,λy z c J t=>?_,λy Z=>?_,λy c _ h=>?_,λ_=>hd,Around.frames_deeper Y.frames,.inr ⟨rfl,rfl⟩,λb z=>absurd z (j b),Y.bs,Y.bsz,λb _ _=>j b,λb z=>absurd z (j b),Y.funs,Y.frf⟩,
  rfl,Y.bare,Un.kept O,⟨_,x.toInCall.ns,λi y v J t I=>?_⟩,λy c h=>⟨_,x.cell y c h⟩,Y.hok.fresh (JR _),λy c h=>?_,λp R=>absurd (show p∈([]:List (Addr×Obj))from R) (by simp),Y.hok.kept O,?_⟩
 .exact name_of_addr x.apart (PySem.mem_of_lookup J) (PySem.mem_of_lookup t)
 .have Z:d.names.lookup y=some .cell\/d.names.lookup y=some .free:=Z
  rcases Z with Z|Z
  .exact m6 Z
  .exact absurd rfl (S.nofree _ (PySem.mem_of_lookup Z))
 .exact Nat.le_of_lt (x.above y c (PySem.mem_of_lookup h))
 .have l:i<L.length:=by
   unfold start at t;by_cases l:i<L.length
   .exact l
   .rw[getElem?_append_right (by simpa using l)]at t
    rw[getElem?_replicate]at t;split at t<;>cases t
  have U:L[i]?=some v:=by
   unfold start at t;rw[getElem?_append_left (by simpa using l),getElem?_map]at t
   cases e:L[i]? with
   |none=>rw[e]at t;cases t
   |some a=>rw[e]at t;cases t;rfl
  obtain⟨u,m,rv⟩:=r.get U;have R:G[i]?=some y:=by
   rw[<-S.pre,List.getElem?_take_of_lt (by omega)];exact J
  have o:G.Nodup:=by rw[<-S.pre];exact S.nd.sublist (List.take_sublist _ _)
  refine⟨u,rv,?_⟩
  rcases S.par y (mem_of_getElem? R)with k|k
  .exact .inl ⟨k,ke o R m k⟩
  .obtain⟨c,e⟩:=m6 (n:=s.heap.objs.size+1) k
   refine .inr ⟨.inl k,c,e,?_⟩
   have q:=x.cell y c e
   rw[kg o R m (by show d.names.lookup y≠_;rw[k];decide)]at q
   exact q
 .exact Y.hok.fresh (Nat.le_of_lt (x.above y c (PySem.mem_of_lookup h)))
 .unfold start
  show _=N.length
  rw[length_append,length_map,List.length_replicate];omega
theorem D8{h:vK}{P:Program}{w:World}{K:Fg}{p:Str->Option Value}{f:Addr}{i C:Str}{params:Arguments}{body:List Stmt}{d:Scope}{dV kV z c a ct oc:Value}{U od:Option Addr}{osl:Array (Option Value)}{G:List Str}{sp:Sp}(lk:K.lookup f=some ⟨oc,od,.func (PySem.W.fnOf i C params body d dV kV z c U a ct),osl⟩)(O:PySem.W.codeIn K a C=true)(S:dM N G d)(len:∀L H Q E,sp L H Q E->L.length=G.length)(l:∀(A:Around)(M:List Env)(s:Shared)(H:Hp)(L:List V)(Q:VK)(E:XK),Room k (A.deeper (envOfC C d s.heap.objs.size f a))->sp L H Q E ->
   ∃t,PSs (jA h P w K p X N C d f a A M s H E) body t/\t {nx:=λ_ Y=>Q .non Y,rt:=Q} (start N L) H):dy P w K p X h (k+1) f (PySem.W.fnOf i C params body d dV kV z c U a ct) G sp:=by
 refine⟨len,λA M s H args us L Q E m e0 Z r hsp=>?_⟩
 have hl:=len _ _ _ _ hsp
 have KX:K.In s.heap:=e0.mod.kin.keeps λb o e=>(e0.bs b o e).1
 have lim:s.heap.NoLimit:=e0.mod.nolimit.keeps λb o e=>(e0.bs b o e).1
 have hkind:∀y∈G.zip us,d.names.lookup y.1=some .local\/(d.names.lookup y.1=some .cell/\((cellsFrom (s.heap.objs.size+1) d.names []).lookup y.1).isSome=true):=λ⟨n,v⟩ hy=>by
  rcases S.par n (of_mem_zip hy).1 with q|q
  .exact .inl q
  .exact .inr ⟨q,PySem.W.cellsFrom_some _ _ _ (.inl q)⟩
 refine codeAny_call_function m.depth (KX _ _ lk) rfl S.co S.gen rfl (PySem.W.codeRec_of KX O) (Z _ _ _ _ ?_)
 refine wpAny_newFunctionEnv_cells S.kind hkind λg R s1 x=>?_
 subst R;refine⟨lim.keeps x.toInCall.keep,codeAny_func ?_⟩
 obtain⟨t,ht,hq⟩:=l A M s H L Q E (m.deeper _) hsp;have I:Inv (jA h P w K p X N C d f a A M s H E) [] (start N L) H s1:=rg S m.hd e0 hl r x
 refine wpAny_mono (ht [] s1 (start N L) H _ I hq) (λfl s' hs=>?_) λe s' hs=>hs
 have fin:∀{j:St}{Y:Hp}{v:V}{u:Value},Inv (jA h P w K p X N C d f a A M s H E) [] j Y s'->RelV v u->Q v Y->CE M P w H s Q u s':=
  λ{j Y v u} J rv q=>⟨v,Y,J.os,J.bare,J.base,J.hok,rv,q⟩
 cases fl with
 |ret u=>
  obtain⟨v,j,Y,J,rv,q⟩:=hs;exact fin J rv q
 |next=>
  obtain⟨j,Y,J,q⟩:=hs;exact fin (v:=V.non) (u:=Value.none) J rfl q
 |brk=>
  obtain⟨_,_,_,q⟩:=hs;exact False.elim q
 |cont=>
  obtain⟨_,_,_,q⟩:=hs;exact False.elim q
section
variable{X:Cx}{x:Str}{p pos:Pos}{e:Expr}{es:List Expr}{t:TA}{id T:String}{r:List V->Hp->VK->Prop}
def CJ(r:List V->Hp->VK->Prop)(t:TA):TE:=λM H Q=>t M H λL n=>r L n Q
theorem EL(f:CallR X (.builtin id) r)(l:Gl X x)(C:X.mg x=none)(R:bootBuiltins x=some (.builtin id))(U:PA X (e::es) t)(Y:x ≠ "__name__":=by decide)(d:(x==("__debug__":Str))=false:=by decide)(a:starEach (e::es) X.env=(false,eval e X.env)::starEach es X.env:=by rfl)(J:(backTo pos (starEach es X.env)).any (·.1)=false:=by rfl):PE X (.Call (.Name x p) (e::es) [] pos) (CJ r t):=by
 intro G s M H Q I h;refine wpAny_Call_Name_kw (yG I l C R ?_ Y d)
 exact PyProof.Rows.callWith_builtin1 (bM (U pos G s M H _ I h) λS y ⟨vs,H1,I1,r1,q1⟩=>f G y M H1 vs S Q I1 r1 q1) a J
theorem jW(f:CallR X (.type T) r)(l:Gl X x)(C:X.mg x=none)(R:bootBuiltins x=some (.type T))(U:PA X (e::es) t)(Y:x ≠ "__name__":=by decide)(d:(x==("__debug__":Str))=false:=by decide)(a:starEach (e::es) X.env=(false,eval e X.env)::starEach es X.env:=by rfl)(J:(backTo pos (starEach es X.env)).any (·.1)=false:=by rfl):PE X (.Call (.Name x p) (e::es) [] pos) (CJ r t):=by
 intro G s M H Q I h;refine wpAny_Call_Name_kw (yG I l C R ?_ Y d)
 exact PyProof.Rows.callWith_type1 (bM (U pos G s M H _ I h) λS y ⟨vs,H1,I1,r1,q1⟩=>f G y M H1 vs S Q I1 r1 q1) a J
end
end L2
namespace HT
open PySem PyProof.Rows
section
variable{prog:Program}{w:World}{A:Around}{E:Value->Shared->Prop}{s:Shared}
def sIx(n d:Nat):Option Int->Nat
 |none=>d
 |some v=>if v<0 then(v+(n:Int)).toNat else min v.toNat n
theorem sIx_none(n d:Nat):sIx n d none=d:=rfl
theorem sIx_nat(n d k:Nat):sIx n d (some (k:Int))=min k n:=by
 show(if(k:Int)<0 then((k:Int)+(n:Int)).toNat else min (k:Int).toNat n)=min k n
 rw[if_neg (by omega),Int.toNat_natCast]
end
end HT
namespace L2
open PySem PySem.Spec PyProof.Rows
variable{M:St}{Y:List V}{g S:List Value}
abbrev TO:=St->Hp->(Option Int->Hp->Prop)->Prop
def PO(X:Cx)(e:Option Expr)(t:TO):Prop:=
 ∀(G:List (Addr×Obj))(s:Shared)(σ:St)(H:Hp)(Q:Option Int->Hp->Prop),Inv X G σ H s->t σ H Q ->
  wpAny (model X.prog X.w) X.A (evalPart e X.env) (λu K=>∃o Y,Inv X G σ Y K/\IsPart u o/\Q o Y) X.xe s
def wt:TO:=λ_ H Q=>Q none H
def Dx(t:TE):TO:=λM H Q=>t M H λx n=>∃i,x=.int i/\Q (some i) n
section
variable{X:Cx}{e:Expr}{te:TE}{lo hi:Option Expr}{tl th:TO}{pos p2:Pos}
theorem xl:PO X none wt:=by
 intro G s M H Q I h;rw[evalPart_none];exact JP ⟨none,H,I,.none,h⟩
theorem pk(h:PE X e te):PO X (some e) (Dx te):=by
 intro G s M H Q I w;rw[evalPart_some];refine bM (h G s M H _ I w) λu y ⟨x,H1,I1,r1,q1⟩=>?_
 obtain⟨i,rfl,q⟩:=q1;obtain⟨t,rfl⟩:=r1;exact⟨some i,H1,I1,.int i t,q⟩
def Jg(X:Cx)(r:V->Option Int->Option Int->Hp->VK->Prop):Prop:=
 ∀(G:List (Addr×Obj))(s:Shared)(σ:St)(H:Hp)(x:V)(v vl vu:Value)(lo hi:Option Int)(sl:Addr)(Q:VK),Inv X G σ H s->RelV x v->s.heap.IsSliceOf sl vl vu .none->IsPart vl lo->IsPart vu hi->r x lo hi H Q ->
  ∃T i,typeLookup (.type T) "__getitem__"=pure (some (.builtin i))/\s.TypeIs v T/\wpAny (model X.prog X.w) X.A (getItem v (.ref sl)) (EP X G σ Q) X.xe s
def Jq(r:V->Option Int->Option Int->Hp->VK->Prop)(a:TE)(O b:TO):TE:=λM H Q=>a M H λx n=>O M n λl A=>b M A λu t=>r x l u t Q
theorem um{r:V->Option Int->Option Int->Hp->VK->Prop}(m:Jg X r)(R:PE X e te)(N:PO X lo tl)(g:PO X hi th):PE X (.Subscript e (.Slice lo hi none p2) pos) (Jq r te tl th):=by
 intro G s M H Q I h;refine Subscript_ (bM (R G s M H _ I h) λv y ⟨x,H1,I1,r1,q1⟩=>?_)
 refine wpAny_Slice (bM (N G y M H1 _ I1 q1) λf a ⟨l,H2,I2,pl,q2⟩=>bM (g G a M H2 _ I2 q2) λj S ⟨u,H3,I3,pu,q3⟩=>?_)
 rw[evalPart_none];refine JP ?_
 have c:Inv X G M H3 {S with heap:=S.heap.push {cls:=.type "slice",data:=.fields #[f,j,.none]} }:=I3.kept (t':=S.toks) λb K q=>JQ _ q
 obtain⟨T,i,C,d,k⟩:=m G {S with heap:=S.heap.push {cls:=.type "slice",data:=.fields #[f,j,.none]} } M H3 x v f j l u S.heap.objs.size Q c r1 (Heap.IsSliceOf.new ..) pl pu q3
 show wpAny (model X.prog X.w) X.A (subscriptTail e (.Slice lo hi none p2) v (.ref S.heap.objs.size)) (EP X G M Q) X.xe {S with heap:=S.heap.push {cls:=.type "slice",data:=.fields #[f,j,.none]} }
 exact tail_any (ops:=[.ref S.heap.objs.size,v]) d C k (by with_unfolding_all rfl)
def rQ(Y:List V)(O l:Option Int):List V:=(Y.drop (HT.sIx Y.length 0 O)).take (HT.sIx Y.length Y.length l-HT.sIx Y.length 0 O)
theorem mX(Y:List V)(O l:Option Int):(rQ Y O l).length<=Y.length:=by
 unfold rQ;rw[length_take,length_drop];omega
end
def dg(n:Nat)(i:Int):Option Nat:=if 0<=i then(if i<n then some i.toNat else none)else if -(n:Int)<=i then some (i+n).toNat else none
def dU{m:Type}(Y:List m)(i:Int):Option m:=(dg Y.length i).bind λj=>Y[j]?
theorem pK{n:Nat}{i:Int}{j:Nat}(h:dg n i=some j):seqIndex? i n=some j/\j<n/\-(n:Int)<=i/\i<n:=by
 unfold dg at h;by_cases a:0<=i
 .rw[if_pos a]at h
  by_cases J:i<n
  .rw[if_pos J]at h
   have e:i.toNat=j:=Option.some.inj h
   exact⟨by rw[seqIndex_of a J,e],by omega,by omega,J⟩
  .rw[if_neg J]at h;cases h
 .rw[if_neg a]at h
  by_cases J:-(n:Int)<=i
  .rw[if_pos J]at h
   have e:(i+n).toNat=j:=Option.some.inj h
   exact⟨by rw[seqIndex_neg (by omega) J,e],by omega,J,by omega⟩
  .rw[if_neg J]at h;cases h
theorem Gu{m:Type}{Y:List m}{i:Int}{v:m}(h:dU Y i=some v):∃j,seqIndex? i Y.length=some j/\Y[j]?=some v/\j<Y.length/\-(Y.length:Int)<=i/\i<Y.length:=by
 unfold dU at h
 cases e:dg Y.length i with
 |none=>rw[e]at h;cases h
 |some j=>
  rw[e]at h;obtain⟨J,S,I,x⟩:=pK e;exact⟨j,J,h,S,I,x⟩
def sD(b:Expr):Prop:=∀o i,subscripted b false o i=operate [o,i] (getItem o i)
def IxR(X:Cx)(r:R2):Prop:=
 ∀(f e:Expr)(pins:List (Addr×Obj))(s:Shared)(σ:St)(H:Hp)(x y:V)(v u:Value)(Q:VK),Inv X pins σ H s->RelV x v->RelV y u->r x y H Q ->
  subscripted e false v u=operate [v,u] (getItem v u)->wpAny (model X.prog X.w) X.A (subscriptTail f e v u) (EP X pins σ Q) X.xe s
def Jk(X:Cx)(i:String)(r:V->List V->Hp->VK->Prop):Prop:=
 ∀(G:List (Addr×Obj))(s:Shared)(σ:St)(H:Hp)(x:V)(xs:List V)(v:Value)(us:List Value)(Q:VK),Inv X G σ H s->RelV x v->Vals xs us->r x xs H Q ->
  wpAny (model X.prog X.w) X.A (call (.builtin i) (v::us)) (EP X G σ Q) X.xe s
section
variable{X:Cx}{a b:Expr}{ta tb:TE}{pos:Pos}
theorem IxR.or{r r':R2}(h:IxR X r)(j:IxR X r'):IxR X (λx y H Q=>r x y H Q\/r' x y H Q):=by
 intro f e G s M H x y v u Q I w o q P;rcases q with q|q
 .exact h f e G s M H x y v u Q I w o q P
 .exact j f e G s M H x y v u Q I w o q P
theorem jV{r:R2}(m:IxR X r)(U:PE X a ta)(Z:PE X b tb)(P:sD b):PE X (.Subscript a b pos) (qx r ta tb):=by
 intro G s M H Q I h;exact Subscript_ (B7 U Z I h λv u N x y A k w o q=>m a b G N M A x y v u Q k w o q (P _ _))
def DP(K:Fg):R2:=λx y H Q=>∃p Y i v,x=.ref p/\y=.int i/\SqL K H p Y/\dU Y i=some v/\Q v H
def DN(K:Fg):R2:=λx y H Q=>∃p Y i v,x=.ref p/\y=.int i/\SqT K H p Y/\dU Y i=some v/\Q v H
def DO:R2:=λx y H Q=>∃z i c,x=.str z/\y=.int i/\z.length<=sizeLine/\dU z.cps.toList i=some c/\Q (.str ⟨#[c]⟩) H
theorem ix_list:IxR X (DP X.K):=by
 intro f e G s M H x y v u Q I l o h P;obtain⟨p,Y,i,z,rfl,rfl,k,R,q⟩:=h
 cases l;obtain⟨t,rfl⟩:=o;obtain⟨g,r,d,L⟩:=I.list k;obtain⟨j,J,S,C,n,E⟩:=Gu R;obtain⟨w,U,m⟩:=r.get S;have N:=r.length
 have O:=yH
 have fin:EP X G M Q w s:=⟨z,H,I,m,q⟩
 by_cases c:0<=i
 .have A:i.toNat=j:=by
   rw[seqIndex_of c E]at J;exact Option.some.inj J
  exact item_listR d.isList c (by omega) (by rw[A];simpa using U) fin P
 .have A:(i+(g.toArray.size:Int)).toNat=j:=by
   rw[seqIndex_neg (by omega) n]at J
   rw[size_toArray,<-N];exact Option.some.inj J
  exact subscriptTail_builtinR (x:=w) d.isList.typeIs slot_list_getitem.lookup
   (wpAny_getItem_list_neg (Q:=λr K=>r=w/\EP X G M Q r K) d.isList (by omega) (by rw[size_toArray]<;>omega) (by omega) (by rw[A];simpa using U) ⟨rfl,fin⟩) P
theorem ix_tup:IxR X (DN X.K):=by
 intro f e G s M H x y v u Q I c o h P;obtain⟨p,Y,i,z,rfl,rfl,k,R,q⟩:=h
 cases c;obtain⟨t,rfl⟩:=o;obtain⟨g,r,d,n⟩:=I.tuple k;obtain⟨j,J,S,A,l,E⟩:=Gu R;obtain⟨w,U,m⟩:=r.get S;have N:=r.length
 have C:=yH
 have fin:EP X G M Q w s:=⟨z,H,I,m,q⟩
 exact subscriptTail_builtinR (x:=w) d.typeIs slot_tuple_getitem.lookup
  (getItem_tuple (j:=j) (Q:=λr K=>r=w/\EP X G M Q r K) d (by omega) (by omega) (by rw[size_toArray,<-N];exact J) (by simpa using U) ⟨rfl,fin⟩) P
theorem Bz:IxR X DO:=by
 intro f e G s M H x y v u Q I w o h P;obtain⟨z,i,c,rfl,rfl,m,d,q⟩:=h;obtain⟨t,rfl⟩:=w;obtain⟨O,rfl⟩:=o;obtain⟨j,J,S,l,k,E⟩:=Gu d;have N:z.cps.toList.length=z.length:=by simp[Str.length]
 rw[N]at J k E
 have Y:=yH
 exact tail_any (typeIs_str s z t) slot_str_getitem.lookup (getItem_str (c:=c) (by
  have g:decide (i < -(2 ^ 63:Int))=false:=decide_eq_false (by omega)
  have R:decide (i≥2 ^ 63)=false:=decide_eq_false (by omega)
  rw[g,R,Bool.or_false]) (by rw[J];simpa using S) ⟨.str ⟨#[c]⟩,H,I.tok _,⟨_,rfl⟩,q⟩) P
def AL(K:Fg):R2:=λx y H Q=>DP K x y H Q\/DN K x y H Q\/DO x y H Q
theorem Cv:IxR X (AL X.K):=ix_list.or (ix_tup.or Bz)
theorem nZ(g:List Value)(n j:Nat)(u:Value):Obj.mapSeq (·.setIfInBounds j u) {cls:=.type "list",data:=.seq g.toArray n}={cls:=.type "list",data:=.seq (g.set j u).toArray n}:=by
 simp[Obj.mapSeq]
theorem Inv.lst{G:List (Addr×Obj)}{M:St}{H:Hp}{s:Shared}{p:Addr}{Y:List V}(I:Inv X G M H s)(h:H p=some (.lst Y)):∃(g:List Value)(n:Nat),Vals Y g/\s.heap.get? p=some {cls:=.type "list",data:=.seq g.toArray n}/\Y.length<=sizeLine:=by
 obtain⟨z,g,n,r,e⟩:=I.hok p _ h;exact⟨g,n,r,e,z⟩
theorem Inv.lstUpd{G:List (Addr×Obj)}{H:Hp}{s:Shared}{p:Addr}{U:List V}{c:List Value}{n i:Nat}{f:Obj->Obj}(I:Inv X G M H s)(h:H p=some (.lst Y))(J:s.heap.get? p=some {cls:=.type "list",data:=.seq g.toArray n})(L:f {cls:=.type "list",data:=.seq g.toArray n}={cls:=.type "list",data:=.seq c.toArray i})(r:Vals U c)(P:U.length<=sizeLine)(t:Nat):Inv X G M (bF H p (.lst U)) {s with heap:=s.heap.update p f,toks:=t}:=by
 have e:(s.heap.update p f).get? p=some {cls:=.type "list",data:=.seq c.toArray i}:=by
  rw[Heap.get?_update_self f J (by rw[L]<;>rfl),L]
 refine I.write (x:=p) (e:=p) (by rw[h];trivial) (.inl rfl) (λb u Z q=>(Heap.get?_update_other _ _ (Ne.symm Z)).trans q) ⟨_,e⟩ ?_
 exact⟨P,c,i,r,e⟩
def jT:V->V->V->Hp->(Hp->Prop)->Prop:=λo i v H Q=>∃p Y k j,o=.ref p/\i=.int k/\H p=some (.lst Y)/\dg Y.length k=some j/\Q (bF H p (.lst (Y.set j v)))
theorem GE:Es X jT:=by
 intro G s M H o i v w e u Q I l f c h;obtain⟨p,Y,k,j,rfl,rfl,y,A,q⟩:=h
 cases l;obtain⟨t,rfl⟩:=f;obtain⟨g,n,r,m,P⟩:=I.lst y;obtain⟨J,S,C,x⟩:=pK A;have N:=r.length
 have E:=yH
 have d:Inv X G M (bF H p (.lst (Y.set j v))) {s with heap:=s.heap.update p (Obj.mapSeq (·.setIfInBounds j u))}:=
  I.lstUpd y m (nZ g n j u) (r.set c j) (by rw[length_set];exact P) s.toks
 by_cases z:0<=k
 .have O:k.toNat=j:=by
   rw[seqIndex_of z x]at J;exact Option.some.inj J
  exact PySem.W.ki_setAt m z (by omega) (by rw[size_toArray,<-N];exact x) (by rw[O];exact⟨_,d,q⟩)
 .have O:(k+(g.toArray.size:Int)).toNat=j:=by
   rw[seqIndex_neg (by omega) C]at J
   rw[size_toArray,<-N];exact Option.some.inj J
  exact PySem.W.ki_setBack m (by omega) (by rw[size_toArray,<-N];exact C) (by omega) (by rw[O];exact⟨_,d,q⟩)
theorem ko(O l:Option Int)(n:Nat):(sliceBounds O l none n).1=((HT.sIx n 0 O:Nat):Int)/\(sliceBounds O l none n).2.1=((HT.sIx n n l:Nat):Int)/\(sliceBounds O l none n).2.2=1:=by
 refine⟨?_,?_,rfl⟩
 .cases O with
  |none=>simp[sliceBounds,HT.sIx]
  |some i=>
   simp only[sliceBounds,HT.sIx,Option.getD_none,show(1:Int)>0 by decide,if_true]
   by_cases h:i<0
   .simp only[h,if_true]<;>omega
   .simp only[h,if_false]<;>omega
 .cases l with
  |none=>simp[sliceBounds,HT.sIx]
  |some i=>
   simp only[sliceBounds,HT.sIx,Option.getD_none,show(1:Int)>0 by decide,if_true]
   by_cases h:i<0
   .simp only[h,if_true]<;>omega
   .simp only[h,if_false]<;>omega
theorem jb(g:List Value)(O l:Option Int):slicePick g.toArray O l none=((g.drop (HT.sIx g.length 0 O)).take (HT.sIx g.length g.length l-HT.sIx g.length 0 O)).toArray:=by
 obtain⟨J,S,I⟩:=ko O l g.toArray.size;unfold slicePick;rw[J,S,I];simp only[sliceRange_one,pick_run,size_toArray]<;>rfl
def AJ(K:Fg):V->Option Int->Option Int->Hp->VK->Prop:=λx O l H Q=>∃a Y,x=.ref a/\SqL K H a Y/\∀p,H p=none->Q (.ref p) (bF H p (.lst (rQ Y O l)))
theorem wu:Jg X (AJ X.K):=by
 intro G s M H x v f j O l e Q I w P d p h;obtain⟨a,Y,rfl,A,q⟩:=h
 cases w;obtain⟨g,r,u,c⟩:=I.list A;have C:=r.length
 refine⟨"list",_,slot_list_getitem.lookup,u.isList.typeIs,?_⟩
 refine wpAny_getItem_list_slice u.isList P d p .none (by simp) ?_ (by rw[size_toArray]<;>omega)
 rw[jb,<-C];refine⟨.ref s.heap.objs.size,_,I.laid (t':=s.toks) (o:=.lst (rQ Y O l)) (λb K q=>JQ _ q) (JR _) ?_,rfl,q _ (I.hok.fresh (JR _))⟩
 exact⟨Nat.le_trans (mX Y O l) c,_,0,(r.drop (HT.sIx Y.length 0 O)).take (HT.sIx Y.length Y.length l-HT.sIx Y.length 0 O),Heap.get?_push_size _ rfl⟩
theorem call_len_seq:CallR X (.builtin "len") (λY H Q=>∃p U,Y=[.ref p]/\(SqL X.K H p U\/SqT X.K H p U)/\Q (.int U.length) H):=by
 intro G s M H Y S Q I r h;obtain⟨p,U,rfl,k,q⟩:=h;obtain⟨u,rfl,w⟩:=vals1 r
 cases w;have c:=yH
 rcases k with k|k
 .obtain⟨g,E,d,P⟩:=I.list k
  have C:=E.length
  exact Calls.call_len_list d.isList (by simp only[size_toArray]<;>omega) ⟨.int U.length,H,I.tok _,⟨s.toks+1,by rw[size_toArray,C]⟩,q⟩
 .obtain⟨g,E,d,P⟩:=I.tuple k
  have C:=E.length
  exact len_tuple d (by simp only[size_toArray]<;>omega) ⟨.int U.length,H,I.tok _,⟨s.toks+1,by rw[size_toArray,C]⟩,q⟩
theorem kZ:CallR X (.builtin "len") (λY H Q=>∃z,Y=[.str z]/\z.length<=sizeLine/\Q (.int z.length) H):=by
 intro G s M H Y S Q I r h;obtain⟨z,rfl,P,q⟩:=h;obtain⟨u,rfl,t,rfl⟩:=vals1 r;have c:=yH
 exact len_str (by omega) ⟨.int z.length,H,I.tok _,⟨_,rfl⟩,q⟩
theorem CallR.or{f:Value}{r r':List V->Hp->VK->Prop}(h:CallR X f r)(j:CallR X f r'):CallR X f (λY H Q=>r Y H Q\/r' Y H Q):=by
 intro G s M H Y S Q I l q;rcases q with q|q
 .exact h G s M H Y S Q I l q
 .exact j G s M H Y S Q I l q
theorem kY:CallR X (.type "list") (λY H Q=>∃p c,Y=[.ref p]/\(SqL X.K H p c\/SqT X.K H p c)/\∀l,H l=none->Q (.ref l) (bF H l (.lst c))):=by
 intro G s M H Y S Q I r h;obtain⟨p,c,rfl,k,q⟩:=h;obtain⟨u,rfl,w⟩:=vals1 r
 cases w;have fin:∀(g:List Value),Vals c g->c.length<=sizeLine->∀(j:Heap)(v:Nat),(∀b L,s.heap.get? b=some L->j.get? b=some L) ->
   j.get? s.heap.objs.size=some {cls:=.type "list",dict:=none,data:=.seq g.toArray v,slots:=#[]}->EP X G M Q (.ref s.heap.objs.size) {s with heap:=j}:=λg E P j v x e=>
  ⟨.ref s.heap.objs.size,_,I.laid (t':=s.toks) x (JR _) (show ObjOk X.prog X.w _ j _ (.lst c)from⟨P,g,v,E,e⟩),rfl,q _ (I.hok.fresh (JR _))⟩
 rcases k with k|k
 .obtain⟨g,E,d,P⟩:=I.list k
  have C:=E.length
  obtain⟨o,J,f,n,U⟩:=d.isList;exact call_list_seq p (.inl rfl) J f U (λj v x e=>fin g E P j v x e) (by simp only[size_toArray]<;>omega)
 .obtain⟨g,E,d,P⟩:=I.tuple k
  have C:=E.length
  obtain⟨o,J,f,n,U⟩:=d;exact call_list_seq p (.inr rfl) J f U (λj v x e=>fin g E P j v x e) (by simp only[size_toArray]<;>omega)
def Iz(K:Fg)(T:String)(x:V)(H:Hp):Prop:=match x with
 |.str _=>T = "str"
 |.int _=>T = "int"
 |.ref p=>(T = "list"/\∃Y,SqL K H p Y)\/(T = "tuple"/\∃o,K.lookup p=some o/\o.cls=.type "tuple"/\o.dict=none) \/
   (T = "dict"/\((∃j,H p=some (.dK j))\/∃j,H p=some (.dT j)))\/(T = "set"/\∃S n,H p=some (.set S n))
 |_=>False
theorem zT{G:List (Addr×Obj)}{H:Hp}{s:Shared}{T:String}{x:V}{v:Value}(I:Inv X G M H s)(r:RelV x v)(ty:Iz X.K T x H):s.TypeIs v T/\∀a,v=.ref a->∃K,s.heap.get? a=some K/\K.dict=none:=by
 cases x with
 |str z=>
  obtain⟨t,rfl⟩:=r
  cases(show T = "str" from ty)
  exact⟨typeIs_str s z t,λ_ e=>nomatch e⟩
 |int i=>
  obtain⟨t,rfl⟩:=r
  cases(show T = "int" from ty)
  exact⟨typeIs_int s i t,λ_ e=>nomatch e⟩
 |ref p=>
  cases r;rcases ty with⟨rfl,Y,k⟩|⟨rfl,o,O,hc,U⟩|⟨rfl,O⟩|⟨rfl,S,n,O⟩
  .obtain⟨g,_,d,_⟩:=I.list k
   refine⟨d.isList.typeIs,λa e=>?_⟩
   cases e;obtain⟨o,n,e,c,U,_⟩:=d;exact⟨o,e,U⟩
  .refine⟨⟨o,I.kIn p o O,hc⟩,λa e=>?_⟩
   cases e;exact⟨o,I.kIn _ o O,U⟩
  .have z:∃o,s.heap.get? p=some o/\o.ExactDict:=by
    rcases O with⟨j,O⟩|⟨j,O⟩
    .obtain⟨_,_,_,_,o,_,_,e,u,_⟩:=I.hok p _ O
     exact⟨o,e,u⟩
    .obtain⟨_,_,_,_,o,_,_,e,u,_⟩:=I.hok p _ O
     exact⟨o,e,u⟩
   obtain⟨o,e,u⟩:=z;refine⟨⟨o,e,u.1⟩,λa R=>?_⟩
   cases R;exact⟨o,e,u.2.1⟩
  .obtain⟨o,_,_,_,e,u,_⟩:=I.hok p _ O
   refine⟨⟨o,e,u.1⟩,λa R=>?_⟩
   cases R;exact⟨o,e,u.2.1⟩
 |_=>exact False.elim ty
def oS(K:Fg)(T:String)(r:V->List V->Hp->VK->Prop)(c:TE)(t:TA):TE:=λM H Q=>c M H λx n=>Iz K T x n/\t M n λY A=>r x Y A Q
variable{o e:Expr}{es:List Expr}{to:TE}{t:TA}{name:Str}{apos cpos:Pos}{T id:String}{r:V->List V->Hp->VK->Prop}
theorem eN(g:PlainAttrs T)(E:Slot T name id)(d:typeOf (.builtin id)=pure (.type "method_descriptor"))(C:Jk X id r)(i:PE X o to)(U:PA X (e::es) t)(j:attributeBase o name X.env (eval o X.env)=eval o X.env:=by rfl)(n:((backTo cpos (starEach (e::es) X.env)).all (λx=>!x.1)&&(backToKw cpos (keywordEach [] X.env)).all (λx=>x.1.isSome)
   && decide ((e::es).length+([]:List Keyword).length+(if([]:List Keyword).isEmpty then 0 else 1)<30))=true:=by rfl)(f:(apos.endLine==cpos.line)=true:=by rfl)(P:starEach (e::es) X.env=(false,eval e X.env)::starEach es X.env:=by rfl)(c:(backTo cpos (starEach es X.env)).any (·.1)=false:=by rfl):PE X (.Call (.Attribute o name apos) (e::es) [] cpos) (oS X.K T r to t):=by
 intro G s M H Q I h;refine wpAny_Call_method_late j n f rfl (bM (i G s M H _ I h) λv y ⟨x,H1,I1,r1,ty,q1⟩=>?_)
 obtain⟨J,S⟩:=zT I1 r1 ty;refine⟨T,id,g,E,d,J,S,?_⟩
 have k:=U cpos G y M H1 _ I1 q1
 rw[P]at k ⊢;refine Calls.callWith_builtin (by show(false||(backTo cpos (starEach es X.env)).any (·.1))=false;rw[c]<;>rfl) (Calls.evalArgs_plain ?_)
 exact bM k λl N ⟨vs,H2,I2,r2,q2⟩=>C G N M H2 x vs v l Q I2 r1 r2 q2
end
def Eu(X:Cx)(i:String)(r:V->List V->Hp->VK->Prop):Prop:=
 ∀(G:List (Addr×Obj))(s:Shared)(σ:St)(H:Hp)(x:V)(xs:List V)(v:Value)(us:List Value)(Q:VK),Inv X G σ H s->RelV x v->Vals xs us->r x xs H Q ->
  wpAny (model X.prog X.w) X.A (call (.builtin i) (v::us)) (EP X G σ Q) X.xe s
theorem Vals.one:∀{x:V}{us:List Value},Vals [x] us->∃u,us=[u]/\RelV x u
 |_,_,.cons r .nil=>⟨_,rfl,r⟩
theorem Vals.eraseIdx:∀{Y:List V}{us:List Value}(i:Nat),Vals Y us->Vals (Y.eraseIdx i) (us.eraseIdx i)
 |_,_,_,.nil=>.nil
 |_,_,0,.cons _ t=>t
 |_,_,i+1,.cons r t=>.cons r (Vals.eraseIdx i t)
theorem Vals.reverse(h:Vals Y S):Vals Y.reverse S.reverse:=by
 induction h with
 |nil=>exact .nil
 |cons r t E=>rw[List.reverse_cons,List.reverse_cons];exact Vals.append E (.cons r .nil)
theorem Vals.rep(h:Vals Y S):∀k:Nat,Vals (List.replicate k Y).flatten (List.replicate k S).flatten
 |0=>.nil
 |k+1=>by
  rw[replicate_succ,replicate_succ,flatten_cons,flatten_cons];exact Vals.append h (Vals.rep h k)
theorem Hh{m:Type}:∀(l:List m)(i:Nat),(l.eraseIdx i).length<=l.length
 |[],_=>JR _
 |_::_,0=>Nat.le_succ _
 |_::r,i+1=>Nat.succ_le_succ (Hh r i)
theorem foldl_rep(g:List Value):∀(k:Nat)(acc:List Value),
  List.foldl (λb p=>b++p) acc.toArray (List.replicate k g.toArray)=(acc++(List.replicate k g).flatten).toArray
 |0,acc=>by simp
 |k+1,acc=>by
  have e:acc.toArray++g.toArray=(acc++g).toArray:=by simp
  have R:(acc++g)++(List.replicate k g).flatten=acc++(List.replicate (k+1) g).flatten:=by
   rw[replicate_succ,flatten_cons,append_assoc]
  rw[<-R,<-foldl_rep g k (acc++g),<-e,replicate_succ,List.foldl_cons]
section
variable{X:Cx}{pins:List (Addr×Obj)}{σ:St}{H:Hp}{s:Shared}{l b:Addr}{xs ys zs:List V}
theorem Inv.lset{its':List Value}{n:Nat}{f:Array Value->Array Value}{O:Nat}(I:Inv X pins σ H s)(d:H l=some (.lst xs))(e:s.heap.get? l=some {cls:=.type "list",data:=.seq g.toArray n})(L:f g.toArray=its'.toArray)(R:Vals ys its')(P:ys.length<=sizeLine):Inv X pins σ (bF H l (.lst ys)) {s with heap:=s.heap.update l (Obj.mapSeq f),toks:=O}:=by
 have q:=PySem.IsL.update e f
 rw[L]at q;refine I.write (x:=l) (e:=l) (by rw[d];exact trivial) (.inl rfl) (λv u Z m=>(Heap.get?_update_other s.heap (Obj.mapSeq f) (Ne.symm Z)).trans m) ⟨_,q⟩ ?_
 exact⟨P,its',_,R,q⟩
theorem Inv.lnew{t':Nat}(I:Inv X pins σ H s)(R:Vals ys g)(P:ys.length<=sizeLine):Inv X pins σ (bF H s.heap.objs.size (.lst ys)) {s with heap:=s.heap.push {cls:=.type "list",data:=.seq g.toArray},toks:=t'}:=
 I.laid (λ_ _ q=>JQ _ q) (JR _) ⟨P,g,0,R,Heap.get?_push_size _ rfl⟩
theorem Inv.fresh(I:Inv X pins σ H s):H s.heap.objs.size=none:=I.hok.fresh (JR _)
theorem Inv.lstM(I:Inv X pins σ H s)(d:H l=some (.lst xs)):xs.length<=sizeLine/\∃(g:List Value)(n:Nat),Vals xs g/\xs.length=g.length/\s.heap.get? l=some {cls:=.type "list",data:=.seq g.toArray n}:=by
 obtain⟨z,g,n,r,e⟩:=I.hok l _ d;exact⟨z,g,n,r,r.length,e⟩
theorem mm{n:Nat}(h:n<=sizeLine):Builtin.List.listTooLong n=false:=by
 unfold Builtin.List.listTooLong;exact decide_eq_false (by omega)
end
section
variable{X:Cx}
def Gf:V->List V->Hp->VK->Prop:=λx L H Q=>∃l Y y,x=.ref l/\L=[y]/\H l=some (.lst Y)/\Y.length<sizeLine/\Q .non (bF H l (.lst (Y++[y])))
theorem Hj:Eu X "list.append" Gf:=by
 intro G s M H x L v S Q I w c h;obtain⟨l,Y,y,rfl,rfl,d,P,q⟩:=h
 cases w;obtain⟨u,rfl,E⟩:=c.one;obtain⟨z,g,n,r,N,e⟩:=I.lstM d;refine call_meets F.slot_list_append ⟨_,e,rfl⟩ F.entry_list_append (F.args_list_append_2 _ _) (PySem.list_append l g.toArray n u (by rw[size_toArray];omega)) ⟨e,?_⟩
 refine⟨.non,_,I.lset (its':=g++[u]) d e (by simp) (r.append (.cons E .nil)) ?_,rfl,q⟩
 rw[length_append,length_singleton];omega
def CY:V->List V->Hp->VK->Prop:=λx L H Q=>∃l Y i k y,x=.ref l/\L=[.int i]/\H l=some (.lst Y)/\-(2 ^ 63)<=i/\i<2 ^ 63/\seqIndex? i Y.length=some k/\Y[k]?=some y/\Q y (bF H l (.lst (Y.eraseIdx k)))
theorem G6:Eu X "list.pop" CY:=by
 intro G s M H x L v f Q I a c h;obtain⟨l,Y,i,k,y,rfl,rfl,d,J,S,O,Z,q⟩:=h
 cases a;obtain⟨u,rfl,E⟩:=c.one;obtain⟨t,rfl⟩:=E;obtain⟨z,g,n,r,N,e⟩:=I.lstM d;obtain⟨w,b,m⟩:=r.get Z;refine call_meets F.slot_list_pop ⟨_,e,rfl⟩ F.entry_list_pop (F.args_list_pop_2 _ _)
  (MeetsSeq.list_pop_at l g.toArray n i t k w (fitsIndex_both J S) (by rw[size_toArray,<-N];exact O) (by rw[<-Array.getElem?_toList];exact b) (by rw[size_toArray];omega)) ⟨e,?_⟩
 refine⟨y,_,I.lset (its':=g.eraseIdx k) d e ?_ (r.eraseIdx k) ?_,m,q⟩
 .show g.toArray.eraseIdxIfInBounds k=(g.eraseIdx k).toArray
  rw[List.eraseIdxIfInBounds_toArray]
 .have:=Hh Y k
  omega
def AK:R2:=λx y H Q=>∃l k Y,x=.ref l/\y=.int k/\H l=some (.lst Y)/\-(2 ^ 63)<=k/\k<2 ^ 63/\Y.length*k.toNat<=sizeLine /\
 ∀p,H p=none->Q (.ref p) (bF H p (.lst (List.replicate k.toNat Y).flatten))
theorem Gb{m:Type}(Y:List m)(k:Nat):(List.replicate k Y).flatten.length=k*Y.length:=by
 induction k with
 |zero=>simp
 |succ k E=>rw[replicate_succ,flatten_cons,length_append,E,Nat.succ_mul,Nat.add_comm]
theorem Bc:OpR X (binaryOp .Mult) AK:=by
 intro G s M H x y v u Q I w o h;obtain⟨l,k,Y,rfl,rfl,d,J,S,P,q⟩:=h
 cases w;obtain⟨t,rfl⟩:=o;obtain⟨z,g,n,r,N,e⟩:=I.lstM d;have C:g.toArray.size*k.toNat<=sizeLine:=by rw[size_toArray,<-N];exact P
 have i:¬g.toArray.size*k.toNat>(2 ^ 63-1) / 8:=by
  have:(sizeLine:Nat)<=(2 ^ 63-1) / 8:=by decide
  omega
 have f:¬(!Builtin.List.listFitsIndex k)=true:=by
  rw[fitsIndex_both J S];exact Bool.false_ne_true
 have c:¬Builtin.List.listTooLong (g.toArray.size*k.toNat)=true:=by
  rw[mm C];exact Bool.false_ne_true
 have j:List.foldl (λb p=>b++p) #[] (List.replicate (if g.toArray.isEmpty=true then 0 else k.toNat) g.toArray)=(List.replicate k.toNat g).flatten.toArray:=by
  have A:∀m:Nat,List.foldl (λb p=>b++p) #[] (List.replicate m g.toArray)=(List.replicate m g).flatten.toArray:=λm=>by
   have:=foldl_rep g m []
   rw[nil_append]at this;exact this
  rw[A]
  cases g with
  |nil=>simp
  |cons a E=>rw[if_neg (by simp)]
 refine wpAny_binaryOp_repeat_ref (T := "list") (U := "int") (by decide) ⟨_,e,rfl⟩ (λK=>typeIs_int K k t) noFill_list_mul F.fills_int_mul F.slot_int_rmul repeat_list F.slot_int_index.lookup
  (call_meets F.slot_int_rmul (typeIs_int s k t) F.entry_int_rmul (F.args_int_rmul_2 _ _) (int___rmul___int_list k t l g.toArray n)
   ⟨e,rfl,⟨_,e,rfl⟩,call_meets F.slot_list_mul ⟨_,e,rfl⟩ F.entry_list_mul (F.args_list_mul_2 _ _) (AutoListH.list___mul___list_int_3 l g.toArray n k t f i c) ⟨e,?_⟩⟩)
 rw[j];exact⟨.ref _,_,I.lnew (t':=s.toks) (r.rep k.toNat) (by rw[Gb,Nat.mul_comm];exact P),rfl,q _ I.fresh⟩
end
section
variable{prog:Program}{w:World}{A:Around}{E:Value->Shared->Prop}{s:Shared}
set_option maxRecDepth 100000 in
end
end L2
namespace Att
open PySem PySem.W PySem.Calls PyProof.Rows
variable{h:Heap}{l:OpenLaw}
theorem g6{P:Params}:∀(y:List Int)(L:List Value),WellAll P h L (y.map WData.int)->IntsAre L y:=by
 intro y;induction y with
 |nil=>
  intro L w;rw[List.map_nil]at w
  cases w;exact .nil
 |cons n y E=>
  intro L w;rw[map_cons]at w
  cases w with
  |cons a b=>
   cases a;exact .cons _ _ (E _ b)
theorem qA{n:Nat}(o:l.most=some n){P:Params}{args:List WData}{e:List Value}(m:l.row.toRowW.claim.pre args=true)(N:WellAll P h e args):∃a L y,e=[Value.ref a]/\args=[WData.list (y.map WData.int)]/\h.get? a=some {cls:=.type "list",data:=.seq L.toArray}/\IntsAre L y/\y.length<=n:=by
 have c:WShape.hasAll [] args [.list .int]=true:=(pre_splitW m).1
 have f:l.pre.holds [] {args:=args}=true:=(pre_splitW m).2
 obtain⟨d,r,rfl,J,S⟩:=hasAllW_cons c;obtain rfl:=hasAllW_nil S
 obtain⟨Y,rfl,I⟩:=hasW_list J;obtain⟨y,rfl⟩:=items_int I;have C:y.length<=n:=by
  unfold OpenLaw.pre at f;have x:(WTm.not (.lt (.lit (.int (n:Int))) (.len (.arg 0)))).holds [] {args:=[.list (y.map .int)]}=true:=by
   have x:=(holds_andW f).1
   rw[o]at x;exact x
  have E:=condW_of x (w_not (w_lt w_lit (w_len_list (w_arg rfl))))
  rw[length_map]at E;refine Nat.le_of_not_lt λq=>?_
  have i:(n:Int)<((y.length:Nat):Int):=by omega
  first
   |(rw[decide_eq_true i]at E;exact absurd E (by decide))
   |(simp at E;omega)
 cases N with
 |cons k b=>
  cases b
  cases k with
  |list g j=>exact⟨_,_,y,rfl,rfl,g,g6 y _ j,C⟩
theorem qL(l:OpenLaw)(args:List WData):l.row.toRowW.claim.post args (.bool true) args=true:=
 postW_of (r:=l.row.toRowW) (X:=(true==true))
  (show WShape.has [] (.bool true) .bool=true by first|rfl|decide|simp[WShape.has,WShape.arms,WShape.armsAll])
  (show(WTm.eq .res (.lit (.bool true))).value [] {args:=args,res:=some (.bool true),after:=args}=some (.bool (true==true))from w_eq_bool (w_res rfl) w_lit) rfl
theorem attach_call{n:Nat}{q:Program}{t:List Str}{Z:(Str->Option Value)->Heap->Prop}{H:World->Heap->Prop}{d:DefRec}(hn:l.most=some n)(v:d.params.defaults=[])(call:∀(w:World)(E i:Shared)(p j:Str->Option Value)(M:Addr)(o:Obj)(c g z:Value)(a:Addr)(L:List Value)(y:List Int),
   Ground q t [] Z w E p j i.heap->H w i.heap ->
   i.heap.get? M=some o->o.data=.func (docDef d.name d.params d.body d.scope c g z)->i.heap.CodeRec g d.name->p d.name=some (.ref M) ->
   i.heap.get? a=some {cls:=.type "list",data:=.seq L.toArray}->IntsAre L y->y.length<=n->i.gens=#[] ->
   codeAny (model l.prog w) callerA (.call (.ref M) ⟨[.ref a],[]⟩) (λr K=>r=.ok (.ret (.bool true))/\OldK i.heap K.heap/\K.os=i.os/\AllBare K.gens) i):WalkO q t Z H l.row.toRowW d [] (λf L=>PySem.call f L):=by
 intro w E i p j G Y M o c g z u kV J U O b h hg s e as m X R N hlo;obtain rfl:u=.none:=Dflts.none b v
 obtain rfl:kV=.none:=Dflts.noKw b
 obtain⟨a,L,y,rfl,rfl,P,A,hlen⟩:=qA hn m N;refine enter_call (codeAny_mono (call w E i p j M o c g z a L y G Y J (fd_plain U) O h P A hlen hg) λr K k=>?_)
 obtain⟨rfl,S,I,x⟩:=k;exact⟨.inl ⟨.bool true,.bool true,[],rfl,λ_=>rfl,.bool true,qL l _,λ_=>⟨List.Pairwise.nil,λ_ C=>(nomatch C)⟩⟩,S,I,x⟩
end Att
namespace L2
open PySem PySem.Spec PyProof.Rows
variable{k:NameKind}{a:Addr}{x C:Str}{X:Cx}{A B:Prop}{g:Env}
theorem jK:∀{L:List Value}{ns:List Int},IntsAre L ns->Vals (ns.map V.int) L
 |_,_,.nil=>.nil
 |_,_,.cons n t h=>.cons ⟨t,rfl⟩ (jK h)
def Ci(H:Hp):Prop:=∀b,H b=none\/∃o Y,H b=some (.frz o (.lst Y))
theorem uE{P:Program}{w:World}{K:Fg}{p mb:Str->Option Value}{CX:vK}{k:Nat}{M:Addr}{fd:FuncData}{sp:Sp}{i:Shared}{L:List Value}{y:List Int}(KX:K.In i.heap)(hns:i.heap.Ns mainGlobals p)(Z:i.heap.Ns builtinsNs mb)(hbb:∀x:Str,x ≠ "__name__"->mb x=bootBuiltins x)(hlim:i.heap.NoLimit)(hg:i.gens=#[])(U:i.heap.get? a=some {cls:=.type "list",data:=.seq L.toArray})(l:IntsAre L y)(N:y.length<=sizeLine)(hr:Room k callerA)(F:∀X:Heap,K.In X->X.Ns mainGlobals p->dy P w K p X CX k M fd [x] sp)(hbind:∀(s:Shared)(u:Value),BindsTo s fd ⟨[u],[]⟩ [(x,u)])(I:∀H:Hp,Ci H->SqL K H a (y.map V.int)->sp [.ref a] H (λv _=>v=.bl true) λ_ _ _=>False)(hCX:∀H e s',CX [] H i (λ_ _ _=>False) e s'->False):codeAny (model P w) callerA (.call (.ref M) ⟨[.ref a],[]⟩) (λr s'=>r=.ok (.ret (.bool true))/\OldK i.heap s'.heap/\s'.os=i.os/\AllBare s'.gens) i:=by
 have c:=jK l
 have lenV:=l.length
 have core:∀H:Hp,Ci H->SqL K H a (y.map V.int)->HOk P w H i.heap->(∀b,H b≠none->b=a)->(H a≠none->K.lookup a=none) ->
   codeAny (model P w) callerA (.call (.ref M) ⟨[.ref a],[]⟩) (λr s'=>r=.ok (.ret (.bool true))/\OldK i.heap s'.heap/\s'.os=i.os/\AllBare s'.gens) i:=by
  intro H j hS t hA hK;have A:∀{b:Addr}{o:Obj},i.heap.get? b=some o->H b=none->(kL i.heap H).get? b=some o:=λe n=>uP e n
  have noA:∀{b:Addr}{o:Obj}{es:Array DictEntry}{ep:Nat},i.heap.get? b=some o->o.data=.dict es ep->H b=none:=λ{b o es ep} e d=>by
   cases q:H b with
   |none=>rfl
   |some u=>
    have f:b=a:=hA b (by rw[q];simp)
    subst f
    rw[U]at e;cases e;have d':Data.seq L.toArray _=Data.dict es ep:=d
    cases d'
  have nsK:∀{b:Addr}{m:Str->Option Value},i.heap.Ns b m->(kL i.heap H).Ns b m:=λ{b m} ⟨o,es,ep,e,d,r⟩=>⟨o,es,ep,A e (noA e d),d,r⟩
  have hKb:K.In (kL i.heap H):=λb o e=>A (KX b o e) (by
   cases q:H b with
   |none=>rfl
   |some u=>
    have f:b=a:=hA b (by rw[q];simp)
    subst f
    rw[hK (by rw[q];simp)]at e;cases e)
  have hM:Mod K p (kL i.heap H):=⟨hKb,nsK hns,⟨mb,nsK Z,hbb⟩,let⟨mc,J,S⟩:=hlim;⟨mc,nsK J,S⟩⟩
  have e0:yx P w K p (kL i.heap H) callerA [] i H:=⟨rfl,hM,λb o e=>xw e,Nat.le_of_eq (rh _ _),trivial,λb Z=>absurd (show b∈([]:List Addr)from Z) (by simp),t,.of_eq hg⟩
  refine codeAny_mono ((F _ hKb (nsK hns)).run callerA [] i H ⟨[.ref a],[]⟩ [.ref a] [.ref a] _ _ hr e0 (hbind i (.ref a)) (.cons rfl .nil) (I H j hS)) λr s' h=>?_
  cases r with
  |error e=>exact(hCX H e s' h).elim
  |ok fl=>
   cases fl with
   |next=>exact False.elim h
   |brk=>exact False.elim h
   |cont=>exact False.elim h
   |ret u=>
    obtain⟨v,Y,G,bare,un,hok',E,q⟩:=h;have q':v=.bl true:=q
    subst q'
    obtain rfl:u=Value.bool true:=E
    refine⟨rfl,OldK.of_keep λb o e=>?_,G,bare⟩
    cases q:H b with
    |none=>exact un.keep b o e q (by intro z;exact absurd (show b∈([]:List Addr)from z) (by simp)) (by simp)
    |some u=>
     rcases j b with z|⟨ob,xs,z⟩
     .rw[q]at z;cases z
     .have z2:=un.frzs b ob _ z
      obtain⟨g,_⟩:=t b _ z;obtain⟨R,_⟩:=hok' b _ z2
      rw[e]at g;cases g;exact R
 cases O:K.lookup a with
 |some o=>
  have e:=KX a o O
  rw[U]at e
  cases e;refine core (λ_=>none) (λ_=>.inl rfl) (.inr ⟨_,L.toArray,_,O,rfl,rfl,rfl,by rw[size_toArray,lenV];exact N,by simpa using c⟩) (λb u z=>by have C:(none:Option HO)=some u:=z;cases C) (λb z=>absurd rfl z) λz=>absurd rfl z
 |none=>
  refine core (λb=>if b=a then some (.frz {cls:=.type "list",data:=.seq L.toArray} (.lst (y.map V.int)))else none) (λb=>?_) (.inl (.inr ⟨{cls:=.type "list",data:=.seq L.toArray},if_pos rfl⟩)) (λb u z=>?_) (λb z=>?_) λ_=>O
  .by_cases Z:b=a
   .exact .inr ⟨_,_,if_pos Z⟩
   .exact .inl (if_neg Z)
  .by_cases Z:b=a
   .have C:=(if_pos Z).symm.trans z
    cases C
    subst Z;exact⟨U,by rw[length_map];exact N,L,_,c,U⟩
   .have C:=(if_neg Z).symm.trans z
    cases C
  .by_cases Z:b=a
   .exact Z
   .exact absurd (if_neg Z) z
theorem walk_of{l:PySem.W.OpenLaw}{n k:Nat}{q:Program}{t:List Str}{XP:(Str->Option Value)->Heap->Prop}{YP:World->Heap->Prop}{d:DefRec}{K:Params->Fg}{CX:World->vK}{sp:World->Sp}(hn:l.most=some n)(hn2:n<=sizeLine)(hdf:d.params.defaults=[])(m:Room k callerA)(hY:∀(w:World)(h:Heap),YP w h->(K w.params).In h)(F:∀(w:World)(p:Str->Option Value)(M:Addr)(h:Heap),(K w.params).In h->h.Ns mainGlobals p->p d.name=some (.ref M) ->
   ∃r:FuncData,(∀(s:Shared)(u:Value),BindsTo s r ⟨[u],[]⟩ [(x,u)]) /\
    ∀X:Heap,(K w.params).In X->X.Ns mainGlobals p->dy l.prog w (K w.params) p X (CX w) k M r [x] (sp w))(I:∀(w:World)(H:Hp)(a:Addr)(y:List Int),y.length<=n->Ci H->SqL (K w.params) H a (y.map V.int)->sp w [.ref a] H (λv _=>v=.bl true) λ_ _ _=>False)(S:∀(w:World)(H:Hp)(s:Shared)(e:Value)(s':Shared),CX w [] H s (λ_ _ _=>False) e s'->False):PySem.W.WalkO q t XP YP l.row.toRowW d [] (λf L=>PySem.call f L):=by
 refine Att.attach_call hn hdf λw E i p mb M o c g z a L y G Y J U O hmg P A C hg=>?_
 have N:=hY w _ Y
 obtain⟨r,Z,b⟩:=F w p M _ N G.T.g hmg;exact uE N G.T.g G.T.b G.T.builtins G.T.nolimit hg P A (Nat.le_trans C hn2) m b Z (λH j R=>I w H a y C j R) λH e s'=>S w H i e s'
def Cy(s:Stmt):Arguments:=match s with
 |.FunctionDef _ a _ _ _ _ _ _ _ _=>a
 |_=>{posonlyargs:=[],args:=[],vararg:=none,kwonlyargs:=[],kw_defaults:=[],kwarg:=none,defaults:=[]}
def sd(s:Stmt):List Stmt:=match s with
 |.FunctionDef _ _ b _ _ _ _ _ _ _=>b
 |_=>[]
def gJ(s:Stmt):Scope:=match s with
 |.FunctionDef _ _ _ _ _ _ sc _ _ _=>sc
 |_=>{kind:=.function,names:=[],isGenerator:=false,isCoroutine:=false}
abbrev i6:vK:=λ_ _ _ _ _ _=>False
abbrev E0:XK:=λ_ _ _=>False
theorem ma:FP i6 X E0:=λ_ _ _ _ _ _ _ h=>h.elim
structure Fun(K:Fg)(x qual:Str)(st:Stmt)(f:Addr)(fd:FuncData):Prop where
 ex:∃(oc:Value)(od:Option Addr)(kV doc pm:Value)(an:Option Addr)(cdv ct:Value)(osl:Array (Option Value)),
  fd=PySem.W.fnOf x qual (Cy st) (sd st) (gJ st) .none kV doc pm an cdv ct/\K.lookup f=some ⟨oc,od,.func fd,osl⟩/\PySem.W.codeIn K cdv qual=true
 kp:PySem.W.keepIn K (.ref f)=true
section
variable{P:Program}{w:World}{K:Fg}{mg:Str->Option Value}{base:Heap}
theorem Fun.ok{d:Stmt}{f:Addr}{r:FuncData}{N G:List Str}{k:Nat}{b:Sp}(F:Fun K x C d f r)(S:dM N G (gJ d))(len:∀L H Q E,b L H Q E->L.length=G.length)(l:∀(a:Value)(A:Around)(M:List Env)(s:Shared)(H:Hp)(L:List V)(Q:VK)(E:XK),Room k (A.deeper (envOfC C (gJ d) s.heap.objs.size f a))->b L H Q E ->
   ∃t,PSs (jA i6 P w K mg base N C (gJ d) f a A M s H E).nox (sd d) t/\t {nx:=λ_ Y=>Q .non Y,rt:=Q} (start N L) H):dy P w K mg base i6 (k+1) f r G b:=by
 obtain⟨g,e,kV,z,c,U,a,ct,i,rfl,R,O⟩:=F.ex;refine D8 R O S len λA M s H L Q E m I=>?_
 obtain⟨t,h,q⟩:=l a A M s H L Q E m I;exact⟨t,h.nox,q⟩
theorem Fun.binds{d:Stmt}{f:Addr}{r:FuncData}{G:List Str}(F:Fun K x C d f r)(h:∀(kV z c:Value)(U:Option Addr)(a ct:Value)(us:List Value),us.length=G.length->bindArgs (PySem.W.fnOf x C (Cy d) (sd d) (gJ d) .none kV z c U a ct) ⟨us,[]⟩=pure (G.zip us)):Binds K r G []:=by
 obtain⟨S,m,kV,z,c,U,a,ct,i,rfl,R,O⟩:=F.ex;exact .all (h kV z c U a ct)
theorem BO{st:Stmt}{f:Addr}{S:Value}{m U:Option Addr}{i:Array (Option Value)}{kV z b a ct:Value}(l:K.lookup f=some ⟨S,m,.func (PySem.W.fnOf x C (Cy st) (sd st) (gJ st) .none kV z b U a ct),i⟩)(c:PySem.W.codeIn K a C=true)(k:PySem.W.keepIn K (.ref f)=true):Fun K x C st f (PySem.W.fnOf x C (Cy st) (sd st) (gJ st) .none kV z b U a ct):=⟨⟨S,m,kV,z,b,U,a,ct,i,rfl,l,c⟩,k⟩
end
theorem jN{n:Nat}(h:n<=1000):n<sizeLine:=Nat.lt_of_le_of_lt h (by decide)
theorem kK(h:B):if false=true then A else B:=by
 rw[if_neg Bool.false_ne_true];exact h
theorem kJ(h:A):if true=true then A else B:=by
 rw[if_pos rfl];exact h
def Same(H Y:Hp):Prop:=∀b o,H b=some o->Y b=some o
theorem Same.refl(H:Hp):Same H H:=λ_ _ h=>h
theorem Same.trans{H n A:Hp}(a:Same H n)(b:Same n A):Same H A:=λc o h=>b c o (a c o h)
theorem Same.free{H Y:Hp}(e:Same H Y){l:Addr}(h:Y l=Option.none):H l=Option.none:=by
 cases q:H l with
 |none=>rfl
 |some o=>
  rw[e l o q]at h
  cases h
theorem Same.seq{K:Fg}{H b:Hp}{Y:List V}(e:Same H b)(h:SqL K H a Y):SqL K b a Y:=by
 rcases h with(h|⟨o,h⟩)|h
 .exact .inl (.inl (e _ _ h))
 .exact .inl (.inr ⟨o,e _ _ h⟩)
 .exact .inr h
section
variable{prog:Program}{w:World}{A:Around}{R:Result->Shared->Prop}{s:Shared}
abbrev yv:Value->Shared->Prop:=λ_ _=>False
theorem kX{q a z:Expr}{G:List Expr}{d:Scope}{K:Pos}{y L:Value}(I:Nat->Shared->Prop)(E:∀n s,I n s->wpAny (model prog w) A (pyNext y) (λr i=>match r with
   |none=>R (.ok .next) i
   |some v=>wpAny (model prog w) A (letOwnedTupleGo a y v) (λ_ f=>wpAny (model prog w) A (assign a g v) (λ_ p=>
     wpAny (model prog w) A (forIn G true λc r=>if r=true then do let ok <-isTrue c g (eval c g);pure (ForInStep.yield ok)else pure (ForInStep.yield r)) (λok P=>
      if ok=true then wpAny (model prog w) A (eval q g) (λx b=>
       wpAny (model prog w) A (call (.builtin "list.append") [L,x]) (λ_ j=>∃m,m<n/\I m j) yv b) yv P
      else ∃m,m<n/\I m P) yv p) yv f) yv i) yv s)(n:Nat)(h:I n s):codeAny (model prog w) A (.compLoop (.ListComp q [⟨a,z,G,0⟩] d K) 0 y L g) R s:=by
 refine codeAny_loop rfl I (λn s O=>?_) n h
 show wpAny _ A ((compTurn (.ListComp q [⟨a,z,G,0⟩] d K) 0 y L g).onRaise (λx=>do noteFrame x g;theTreesLotGoes x)) _ _ s
 refine wpAny_noted ?_
 rw[compTurn_list];have F:∀{Z:Value->Shared->Prop},∀(e:Value)(s:Shared),yv e s->Z e s:=λ_ _ x=>x.elim
 refine JO (wpAny_standAt (JO (wpAny_mono (E n s O) (λr i l=>?_) F)))
 cases r with
 |none=>exact JP l
 |some v=>
  refine JO (wpAny_mono l (λ_ f o=>?_) F)
  refine JO (wpAny_mono o (λ_ p C=>JO (wpAny_mono C (λok P k=>?_) F)) F)
  cases ok with
  |false=>exact JP ⟨rfl,k⟩
  |true=>
   exact JO (JO (wpAny_mono k (λx b t=>JO (wpAny_mono t (λ_ j u=>JP (JP ⟨rfl,u⟩)) F)) F))
end
def cC(g:Env):List (Str×NameKind)->List (Str×Addr)->List (Str×Addr)
 |[],acc=>acc
 |(n,k)::r,acc=>if k==.free then cC g r ((n,(g.cells.lookup n).getD 0)::acc)else cC g r acc
theorem GO{env:Env}:∀(b:List (Str×NameKind))(acc:List (Str×Addr)),(∀n,(n,NameKind.free)∈b->∃c,env.cells.lookup n=some c) ->
  (forIn b acc λ(x:Str×NameKind)(cs:List (Str×Addr))=>(match x with|(name,kind)=>if kind==.free then(do let a <-cellOf env name;pure (ForInStep.yield ((name,a)::cs)))else pure (ForInStep.yield cs):Sem (ForInStep (List (Str×Addr)))))=(pure (cC env b acc):Sem (List (Str×Addr)))
 |[],acc,_=>by rw[List.forIn_nil];rfl
 |(n,k)::r,acc,h=>by
  rw[List.forIn_cons];unfold cC;by_cases O:(k==.free)=true
  .simp only[O,if_true]
   have t:k=.free:=by simpa using O
   obtain⟨c,f⟩:=h n (by rw[t];exact mem_cons_self)
   have e:cellOf env n=pure c:=by unfold cellOf;rw[f]
   rw[e,f];exact GO r ((n,c)::acc) λi Y=>h i (JL _ Y)
  .rw[if_neg O]
   simp only[O]
   exact GO r acc λi Y=>h i (JL _ Y)
theorem fQ{env:Env}{d:Scope}(h:∀n,(n,NameKind.free)∈d.names->∃c,env.cells.lookup n=some c):closureFor d env=pure (cC env d.names []):=by
 have:=GO (env:=env) d.names [] h
 unfold closureFor;rw[show(pure (cC env d.names []):Sem (List (Str×Addr)))=(pure (cC env d.names []) >>= λx=>pure x)from rfl,<-this]
theorem Hb{g:Env}{x:Str}{c:Addr}:∀{b:List (Str×NameKind)}{acc:List (Str×Addr)},(∀n,(n,NameKind.free)∈b->∃c,g.cells.lookup n=some c)->(cC g b acc).lookup x=some c->g.cells.lookup x=some c\/acc.lookup x=some c
 |[],_,_,e=>.inr e
 |(n,k)::r,acc,h,e=>by
  unfold cC at e;have j:∀i,(i,NameKind.free)∈r->∃c,g.cells.lookup i=some c:=λi Y=>h i (JL _ Y)
  by_cases O:(k==.free)=true
  .rw[if_pos O]at e
   rcases Hb j e with q|q
   .exact .inl q
   .rw[lookup_cons]at q
    have t:k=.free:=by simpa using O
    obtain⟨v,f⟩:=h n (by rw[t];exact mem_cons_self)
    cases A:x==n with
    |true=>
     rw[A,f]at q
     cases q;rw[eq_of_beq A];exact .inl f
    |false=>
     rw[A]at q;exact .inr q
  .rw[if_neg O]at e
   exact Hb j e
theorem CF{env:Env}{x:Str}:∀{names:List (Str×NameKind)}{acc:List (Str×Addr)},(x,NameKind.free)∈names\/(acc.lookup x).isSome=true->((cC env names acc).lookup x).isSome=true
 |[],_,h=>h.elim nofun id
 |(n,k)::r,acc,h=>by
  unfold cC;by_cases O:(k==.free)=true
  .rw[if_pos O]
   refine CF (names:=r) ?_
   rcases h with h|h
   .rcases JI h with e|h
    .cases e
     exact .inr (by rw[lookup_cons];simp)
    .exact .inl h
   .right
    rw[lookup_cons]
    cases A:x==n with
    |true=>rfl
    |false=>exact h
  .rw[if_neg O]
   refine CF (names:=r) ?_
   rcases h with h|h
   .rcases JI h with e|h
    .cases e
     exact absurd rfl O
    .exact .inl h
   .exact .inr h
theorem Df{x:Str}{c:Addr}:∀{b:List (Str×NameKind)}{n:Nat}{acc:List (Str×Addr)},(cellsFrom n b acc).lookup x=some c->((x,NameKind.cell)∈b/\n<=c)\/acc.lookup x=some c
 |[],_,_,e=>.inr e
 |(y,k)::r,n,acc,e=>by
  unfold cellsFrom at e;by_cases O:(k==.cell)=true
  .rw[if_pos O]at e
   have t:k=.cell:=by simpa using O
   rcases Df e with⟨q,l⟩|q
   .exact .inl ⟨JL _ q,by omega⟩
   .rw[lookup_cons]at q
    cases A:x==y with
    |true=>
     rw[A]at q
     cases q;exact .inl ⟨by rw[eq_of_beq A,t];exact mem_cons_self,JR _⟩
    |false=>
     rw[A]at q;exact .inr q
  .rw[if_neg O]at e
   rcases Df e with⟨q,l⟩|q
   .exact .inl ⟨JL _ q,l⟩
   .exact .inr q
theorem Ht{x y:Str}{c:Addr}:∀{names:List (Str×NameKind)}{n:Nat}{acc:List (Str×Addr)},(∀z d,acc.lookup z=some d->d<n)->(∀x y d,acc.lookup x=some d->acc.lookup y=some d->x=y) ->
  (cellsFrom n names acc).lookup x=some c->(cellsFrom n names acc).lookup y=some c->x=y
 |[],_,_,_,hi,e,e'=>hi _ _ _ e e'
 |(z,k)::r,n,acc,hl,hi,e,e'=>by
  unfold cellsFrom at e e'
  by_cases O:(k==.cell)=true
  .rw[if_pos O]at e e'
   refine Ht (names:=r) (n:=n+1) (acc:=(z,n)::acc) (λa d q=>?_) (λa b d q i=>?_) e e'
   .rw[lookup_cons]at q
    cases A:a==z with
    |true=>rw[A]at q;cases q;exact Nat.lt_succ_self _
    |false=>rw[A]at q;exact Nat.lt_succ_of_lt (hl a d q)
   .rw[lookup_cons]at q i
    cases A:a==z with
    |true=>
     rw[A]at q
     cases q
     cases Z:b==z with
     |true=>rw[eq_of_beq A,eq_of_beq Z]
     |false=>rw[Z]at i;exact absurd (hl b n i) (Nat.lt_irrefl _)
    |false=>
     rw[A]at q
     cases Z:b==z with
     |true=>rw[Z]at i;cases i;exact absurd (hl a n q) (Nat.lt_irrefl _)
     |false=>rw[Z]at i;exact hi a b d q i
  .rw[if_neg O]at e e'
   exact Ht hl hi e e'
theorem GS{g:Env}{x:Str}{c:Addr}:∀{b:List (Str×NameKind)}{acc:List (Str×Addr)},(cC g b acc).lookup x=some c->(x,NameKind.free)∈b\/acc.lookup x=some c
 |[],_,e=>.inr e
 |(n,k)::r,acc,e=>by
  unfold cC at e;by_cases O:(k==.free)=true
  .rw[if_pos O]at e
   have t:k=.free:=by simpa using O
   rcases GS e with q|q
   .exact .inl (JL _ q)
   .rw[lookup_cons]at q
    cases A:x==n with
    |true=>rw[eq_of_beq A,t];exact .inl mem_cons_self
    |false=>rw[A]at q;exact .inr q
  .rw[if_neg O]at e
   rcases GS e with q|q
   .exact .inl (JL _ q)
   .exact .inr q
theorem Fb{x:Str}:∀{names:List (Str×NameKind)}{n:Nat}{acc:List (Str×Addr)},(x,NameKind.cell)∈names\/(acc.lookup x).isSome=true->((cellsFrom n names acc).lookup x).isSome=true
 |[],_,_,h=>h.elim nofun id
 |(y,k)::r,n,acc,h=>by
  unfold cellsFrom;by_cases O:(k==.cell)=true
  .rw[if_pos O]
   refine Fb (names:=r) ?_
   rcases h with h|h
   .rcases JI h with e|h
    .cases e
     exact .inr (by rw[lookup_cons];simp)
    .exact .inl h
   .right
    rw[lookup_cons]
    cases A:x==y with
    |true=>rfl
    |false=>exact h
  .rw[if_neg O]
   refine Fb (names:=r) ?_
   rcases h with h|h
   .rcases JI h with e|h
    .cases e
     exact absurd rfl O
    .exact .inl h
   .exact .inr h
theorem E9{x:Str}:∀{b:List (Str×NameKind)}{n:Nat}{acc:List (Str×Addr)},(x,NameKind.cell)∉b->(cellsFrom n b acc).lookup x=acc.lookup x
 |[],_,_,_=>rfl
 |(y,k)::r,n,acc,h=>by
  unfold cellsFrom;have m:(x,NameKind.cell)∉r:=λz=>h (JL _ z)
  by_cases O:(k==.cell)=true
  .rw[if_pos O,E9 m,lookup_cons]
   have t:k=.cell:=by simpa using O
   cases A:x==y with
   |true=>exact absurd (by rw[eq_of_beq A,t];exact mem_cons_self) h
   |false=>rfl
  .rw[if_neg O]
   exact E9 m
theorem Fc{x:Str}{c:Addr}:∀{b:List (Str×NameKind)}{n:Nat}{acc:List (Str×Addr)},(x,NameKind.cell)∈b->(cellsFrom n b acc).lookup x=some c->(cellsFrom n b []).lookup x=some c
 |[],_,_,h,_=>nomatch h
 |(y,k)::r,n,acc,h,e=>by
  unfold cellsFrom at e ⊢
  by_cases O:(k==.cell)=true
  .rw[if_pos O]at e ⊢
   by_cases m:(x,NameKind.cell)∈r
   .have:∀{acc g:List (Str×Addr)},(cellsFrom (n+1) r acc).lookup x=some c->(cellsFrom (n+1) r g).lookup x=some c:=λ{a a'} q=>by
     have d:=Fc m q
     have P:=Fb (n:=n+1) (acc:=a') (.inl m)
     obtain⟨v,G⟩:=Option.isSome_iff_exists.mp P;have o:=Fc m G
     rw[d]at o
     cases o;exact G
    exact this e
   .rw[E9 m]at e ⊢
    rw[lookup_cons]at e ⊢
    cases A:x==y with
    |true=>rw[A]at e;exact e
    |false=>
     rcases JI h with z|z
     .cases z
      simp at A
     .exact absurd z m
  .rw[if_neg O]at e ⊢
   rcases JI h with z|z
   .cases z
    exact absurd rfl O
   .exact Fc z e
def blk(X:Cx)(scope:Scope)(cells:List (Str×Addr))(C:Addr)(s₀:Shared)(H₀:Hp)(ex:List Addr):Cx where
 prog:=X.prog
 w:=X.w
 K:=X.K
 mg:=X.mg
 base:=X.base
 A:=X.A
 N:=X.N
 s₀:=s₀
 H₀:=H₀
 env:={scope:=relabel scope X.env,locals:=C,globals:=X.env.globals,cells:=cells,qual:=X.env.qual,func:=none,code:=X.env.code,frame:=X.env.frame,builtins:=X.env.builtins}
 outer:=X.stack
 stack:=X.stack
 ex:=ex
 fn:=λx=>scope.names.any λy=>y.1==x&&y.2==.cell
 calm:=X.calm
 pn:=[]
 xe:=λ_ _=>False
structure de(N:List Str)(is:List Nat)(osc scope:Scope):Prop where
 kind:scope.kind=.function
 free:∀n,(n,NameKind.free)∈scope.names->osc.names.lookup n=some .cell\/osc.names.lookup n=some .free
 own:∀(i:Nat)(x:Str),N[i]?=some x->(x,NameKind.local)∈scope.names\/(x,NameKind.cell)∈scope.names->i∈is
 loc:∀x∈scope.names,x.2=.local->scope.names.lookup x.1=some .local
 one:∀n,(n,NameKind.free)∈scope.names->(n,NameKind.cell)∉scope.names
def bu(c:List Nat)(M:St):St:=M.mapIdx λi v=>if i∈c then none else v
theorem yQ(c:List Nat)(M:St):(bu c M).length=M.length:=by unfold bu;simp
theorem EU{c:List Nat}{M:St}{i:Nat}{v:V}(h:(bu c M)[i]?=some (some v)):i∉c/\M[i]?=some (some v):=by
 unfold bu at h;rw[List.getElem?_mapIdx]at h
 cases e:M[i]? with
 |none=>rw[e]at h;cases h
 |some o=>
  rw[e]at h;simp only[Option.map_some,Option.some.injEq]at h
  by_cases l:i∈c
  .rw[if_pos l]at h;cases h
  .rw[if_neg l]at h;exact⟨l,by rw[h]⟩
def Jl(a P:St):Prop:=P.length=a.length/\∀(i:Nat) v,a[i]?=some (some v)->P[i]?=some (some v)
theorem iI{l:List (Str×NameKind)}(h:l.lookup x=some k):(x,k)∈l:=PySem.mem_of_lookup h
theorem CH{d:Scope}(h:(relabel d g).names.lookup x=some k):(x,k)∈d.names\/((x,NameKind.free)∈d.names/\k=.cell):=by
 have h:=iI h
 unfold relabel at h;obtain⟨⟨n,o⟩,C,e⟩:=List.mem_map.mp h;dsimp only at e;by_cases f:(o==NameKind.free&&g.scope.kind==.function&&g.kindOf n==some .cell)=true
 .rw[if_pos f]at e
  cases e;have:o=.free:=by
   simp only[Bool.and_eq_true,beq_iff_eq]at f
   exact f.1.1
  exact .inr ⟨this▸C,rfl⟩
 .rw[if_neg f]at e
  cases e;exact .inl C
def kj(X:Cx)(d:Scope)(C:Addr):List (Str×Addr):=cellsFrom (C+1) d.names (cC X.env d.names [])
section
variable{X:Cx}{pins:List (Addr×Obj)}{σ:St}{H:Hp}{s:Shared}{scope:Scope}{is:List Nat}
theorem Inv.freeCells(I:Inv X pins σ H s)(S:de X.N is X.env.scope scope):∀n,(n,NameKind.free)∈scope.names->∃c,X.env.cells.lookup n=some c:=λn Y=>
 I.ok.has n (S.free n Y)
theorem Inv.blkOld(I:Inv X pins σ H s)(S:de X.N is X.env.scope scope){c:Addr}(h:(cC X.env scope.names []).lookup x=some c):X.env.cells.lookup x=some c:=by
 rcases Hb (I.freeCells S) h with q|q
 .exact q
 .cases q
theorem Inv.block{fp:List Addr}{t':Nat}(I:Inv X pins σ H s)(S:de X.N is X.env.scope scope)(L:∀b∈fp,jB X pins H b)(E:∀b∈fp,b<s.heap.objs.size):Inv (blk X scope (kj X scope (s.heap.objs.size+1)) (s.heap.objs.size+1) s H fp) [] (bu is σ) (bF H s.heap.objs.size (.lst []))
   {s with heap:=pushCells ((s.heap.push {cls:=.type "list",data:=.seq ([]:List Value).toArray}).push {cls:=.type "dict",data:=.dict #[]}) scope.names,toks:=t'}:=by
 generalize hC:s.heap.objs.size+1=C
 have hDn:H s.heap.objs.size=none:=I.hok.fresh (JR _)
 have s1:(s.heap.push {cls:=.type "list",data:=.seq ([]:List Value).toArray}).objs.size=C:=by rw[Heap.size_push,hC]
 have kept:∀b o,s.heap.get? b=some o->(pushCells ((s.heap.push {cls:=.type "list",data:=.seq ([]:List Value).toArray}).push {cls:=.type "dict",data:=.dict #[]}) scope.names).get? b=some o:=
  λb o e=>pushCells_keeps _ _ b o (JQ _ (JQ _ e))
 have J:∀x c,(kj X scope C).lookup x=some c->((x,NameKind.cell)∈scope.names/\C+1<=c)\/X.env.cells.lookup x=some c:=λx c e=>by
  rcases Df e with q|q
  .exact .inl q
  .exact .inr (I.blkOld S q)
 have M:∀x c,X.env.cells.lookup x=some c->c<s.heap.objs.size:=λx c e=>by
  obtain⟨v,q⟩:=I.cell x c e;exact q.lt
 have cok:CellsOk (pushCells ((s.heap.push {cls:=.type "list",data:=.seq ([]:List Value).toArray}).push {cls:=.type "dict",data:=.dict #[]}) scope.names) (C+1)
   (cellsFrom (C+1) scope.names []):=by
  have:=cellsFrom_ok scope.names ((s.heap.push {cls:=.type "list",data:=.seq ([]:List Value).toArray}).push {cls:=.type "dict",data:=.dict #[]}) (C+1) [] ⟨λ_ _ hm=>(nomatch hm),List.Pairwise.nil⟩ (by rw[Heap.size_push,s1];exact JR _)
  rw[Heap.size_push,s1]at this;exact this
 have lt1:∀{b:Nat},b<s.heap.objs.size->b≠C:=λ{b} h e=>by subst e;rw[<-hC]at h;exact absurd (Nat.lt_of_succ_lt h) (Nat.lt_irrefl _)
 have j:s.heap.objs.size<=C:=by rw[<-hC];exact Nat.le_succ _
 have K:∀x c,(kj X scope C).lookup x=some c->(C<c/\(pushCells ((s.heap.push {cls:=.type "list",data:=.seq ([]:List Value).toArray}).push {cls:=.type "dict",data:=.dict #[]}) scope.names).IsCell c none)\/X.env.cells.lookup x=some c:=λx c e=>by
  rcases J x c e with⟨q1,q2⟩|q
  .exact .inl ⟨q2,(cok.empty x c (PySem.mem_of_lookup (Fc q1 e))).1⟩
  .exact .inr q
 refine⟨⟨I.ok.mod,S.kind,I.ok.glob,I.ok.blt,j,?_,?_,?_,I.ok.hd,I.ok.frames,.inl rfl,?_,I.bs,Nat.le_trans I.ok.bsz I.sz,?_,?_,I.stack,I.stkFree⟩,rfl,I.bare,?_,?_,?_,?_,?_,λp hp=>absurd (show p∈([]:List (Addr×Obj))from hp) (by simp),?_,(yQ _ _).trans I.len⟩
 .-- inj
  intro x y c A hy;refine Ht (λz d q=>?_) (λa b d q q'=>I.ok.inj a b d (I.blkOld S q) (I.blkOld S q')) A hy
  exact Nat.lt_succ_of_lt (Nat.lt_of_lt_of_le (M z d (I.blkOld S q)) j)
 .-- has
  intro x A;have q:((kj X scope C).lookup x).isSome=true:=by
   refine Fb ?_
   have A:(relabel scope X.env).names.lookup x=some .cell\/(relabel scope X.env).names.lookup x=some .free:=A
   rcases A with A|A
   .rcases CH A with z|⟨z,_⟩
    .exact .inl z
    .exact .inr (CF (.inl z))
   .rcases CH A with z|⟨z,_⟩
    .exact .inr (CF (.inl z))
    .exact .inr (CF (.inl z))
  exact Option.isSome_iff_exists.mp q
 .-- cab
  intro x c A e;have A:(scope.names.any λy=>y.1==x&&y.2==NameKind.cell)=true:=A
  obtain⟨y,hy,P⟩:=List.any_eq_true.mp A;simp only[Bool.and_eq_true,beq_iff_eq]at P
  have hm:(x,NameKind.cell)∈scope.names:=by rw[<-P.1,<-P.2];exact hy
  rcases Df e with⟨_,q⟩|q
  .exact Nat.le_trans j (Nat.le_of_succ_le q)
  .rcases GS q with z|z
   .exact absurd hm (S.one x z)
   .cases z
 .-- exf
  intro b Z;obtain⟨f0,f1,f2,t,f4,f5⟩:=L b Z;refine⟨lt1 (E b Z),λx c e z=>?_⟩
  rcases J x c e with⟨_,q⟩|q
  .subst z
   exact absurd (Nat.lt_of_lt_of_le (E _ Z) j) (Nat.not_lt.mpr (Nat.le_of_succ_le q))
  .exact f4 x c q z
 .-- noex
  intro b o e Z;obtain⟨f0,f1,f2,t,f4,f5⟩:=L b Z;rcases t with z|z
  .exact I.ok.noex b o e z
  .exact absurd (Nat.lt_of_lt_of_le (Heap.lt_size e) (Nat.le_trans I.ok.bsz z)) (Nat.lt_irrefl _)
 .-- exfs
  intro b Z z;obtain⟨f0,f1,f2,t,f4,f5⟩:=L b Z;rcases JI (I.stkSub b z)with e|e
  .exact f1 e
  .exact f2 e
 .-- base
  exact Un.laid kept (JR _) hDn
 .-- loc
  refine⟨λ_=>none,?_,λi x v g R w=>?_⟩
  .have:=(Heap.Ns.new (s.heap.push {cls:=.type "list",data:=.seq ([]:List Value).toArray}) (.type "dict")).keeps (pushCells_keeps scope.names _)
   rw[s1]at this;exact this
  .obtain⟨n,e2'⟩:=EU R
   obtain⟨m,Y,N⟩:=id I.loc;have U:(x,NameKind.free)∈scope.names:=by
    have w:(relabel scope X.env).names.lookup x=some .local\/(relabel scope X.env).names.lookup x=some .cell\/(relabel scope X.env).names.lookup x=some .free:=w
    rcases w with z|z|z
    .rcases CH z with y|⟨y,_⟩
     .exact absurd (S.own i x g (.inl y)) n
     .exact y
    .rcases CH z with y|⟨y,_⟩
     .exact absurd (S.own i x g (.inr y)) n
     .exact y
    .rcases CH z with y|⟨y,_⟩
     .exact y
     .exact y
   have O:=S.free x U
   obtain⟨u,r,l⟩:=N i x v g e2' (.inr O)
   refine⟨u,r,?_⟩
   rcases l with⟨k,_⟩|⟨k,c,e,z⟩
   .have k:X.env.scope.names.lookup x=some .local:=k
    rcases O with q|q<;>(rw[q]at k;cases k)
   .refine .inr ⟨?_,c,?_,z.keeps kept⟩
    .have w:(relabel scope X.env).names.lookup x=some .local\/(relabel scope X.env).names.lookup x=some .cell\/(relabel scope X.env).names.lookup x=some .free:=w
     rcases w with y|y|y
     .rcases CH y with y'|⟨_,y'⟩
      .exact absurd (S.own i x g (.inl y')) n
      .cases y'
     .exact .inl y
     .exact .inr y
    .have q:=CF (env:=X.env) (acc:=[]) (.inl U)
     obtain⟨c',G⟩:=Option.isSome_iff_exists.mp q;have:=I.blkOld S G
     rw[e]at this
     cases this;show(kj X scope C).lookup x=some c
     unfold kj;rw[E9 (S.one x U)];exact G
 .-- cell
  intro x c e;rcases K x c e with⟨_,q⟩|q
  .exact⟨_,q⟩
  .obtain⟨v,z⟩:=I.cell x c q
   exact⟨v,z.keeps kept⟩
 .-- free
  show bF H s.heap.objs.size (.lst []) C=none
  rw[eA (by rw[<-hC];exact Nat.ne_of_gt (Nat.lt_succ_self _))]
  exact I.hok.fresh j
 .-- freeC
  intro x c e;show bF H s.heap.objs.size (.lst []) c=none
  rcases K x c e with⟨q,_⟩|q
  .have f:s.heap.objs.size<c:=Nat.lt_of_le_of_lt j q
   rw[eA (Nat.ne_of_gt f)];exact I.hok.fresh (Nat.le_of_lt f)
  .rw[eA (Nat.ne_of_lt (M x c q))]
   exact I.freeC x c q
 .-- hok
  exact I.hok.laid kept (JR _) ⟨Nat.zero_le _,[],0,.nil,pushCells_keeps _ _ _ _ (JQ _ (Heap.get?_push_size _ rfl))⟩
end
section
variable{M:Model}{A:Around}{E:Value->Shared->Prop}{s:Shared}
theorem jt{d:Scope}{U:List (Str×Addr)}{Q:Env->Shared->Prop}(k:Q (newEnv d s.heap.objs.size a (cellsFrom (s.heap.objs.size+1) d.names U) C none .none (some g) builtinsNs) {s with heap:=pushCells (s.heap.push {cls:=.type "dict",data:=.dict #[]}) d.names}):wpAny M A (newFunctionEnv d a U [] C none .none (some g)) Q E s:=by
 simp only[newFunctionEnv,Option.isSome_some,if_true]
 refine JO (wpAny_alloc ?_)
 refine JO (wpAny_layCells _ (λi b t=>by cases c:b==NameKind.cell<;>simp[c]) _ _ _ _ ?_)
 rw[show({s with heap:=s.heap.push {cls:=.type "dict",data:=.dict #[]} }:Shared).heap.objs.size=s.heap.objs.size+1 from Heap.size_push ..]
 rw[List.forIn_nil];exact JO (JP (JP k))
end
def PF(X:Cx)(m:List Expr)(t:TT):Prop:=
 ∀(G:List (Addr×Obj))(s:Shared)(σ:St)(H:Hp)(Q:Bool->Hp->Prop),Inv X G σ H s->t σ H Q ->
  wpAny (model X.prog X.w) X.A (forIn m true λc r=>if r=true then do let ok <-isTrue c X.env (eval c X.env);pure (ForInStep.yield ok)else pure (ForInStep.yield r)) (TP X G σ Q) X.xe s
def Dv:TT:=λ_ H Q=>Q true H
theorem A5:PF X [] Dv:=λG s M H Q I h=>wpAny_tests_nil ⟨H,I,h⟩
theorem AZ{c:Expr}{t:TT}(h:PT X c t):PF X [c] t:=λG s M H Q I q=>wpAny_tests_one (h G s M H Q I q)
def lH(c:List Nat)(e:TI)(g:TG)(i:TT)(a:TE):TE:=λM H Q=>e M H λJ n=>∀D,n D=none->∃W:Nat->Nat->List V->Hp->Prop,(∃m,W 0 m [] (bF n D (.lst [])))/\∀k m U H,W k m U H ->
 H D=some (.lst U)/\((J.stop k H/\Q (.ref D) H)\/(J.go k H/\U.length<sizeLine/\∀x Y,J.yld k H x Y->g x (bu c M) Y λP A=>Jl (bu c M) P/\i P A λb t=>
  if b=true then a P t λv d=>d D=some (.lst U)/\∃q,q<m/\W (k+1) q (U++[v]) (bF d D (.lst (U++[v])))else ∃q,q<m/\W (k+1) q U t))
section
variable{X:Cx}{scope:Scope}{is:List Nat}{tg iter elt:Expr}{ifs:List Expr}{wi:TI}{g:TG}{tc:TT}{te:TE}{pos:Pos}
theorem ka{G:List (Addr×Obj)}{s:Shared}{M:St}{H:Hp}{Q:VK}{RR:Value->Addr->Result->Shared->Prop}(S:de X.N is X.env.scope scope)(O:X.calm=true)(l:PI X tg iter wi)(hg:∀t C E w ex,PG (blk X scope t C E w ex) tg g)(f:∀t C E w ex,PF (blk X scope t C E w ex) ifs tc)(R:∀t C E w ex,PE (blk X scope t C E w ex) elt te)(I:Inv X G M H s)(h:lH is wi g tc te M H Q)(hRR:∀D C K Y m,Inv X G M Y K->K.heap.Ns C m->Q (.ref D) Y->Y C=none->C≠X.env.locals->X.s₀.heap.objs.size<=C->(∀x c,X.env.cells.lookup x=some c->c≠C)->(∀p∈X.pn++G,p.1≠C)->RR (.ref D) C (.ok .next) K):wpAny (model X.prog X.w) X.A (eval iter X.env) (λx i=>wpAny (model X.prog X.w) X.A (pyIter x) (λit s₂=>wpAny (model X.prog X.w) X.A (newList []) (λL P=>
   wpAny (model X.prog X.w) X.A (newFunctionEnv scope X.env.globals (cC X.env scope.names []) [] X.env.qual none .none (some X.env)) (λcenv s₄=>
    codeAny (model X.prog X.w) X.A (.compStart (.ListComp elt [⟨tg,iter,ifs,0⟩] scope pos) 0 it L {cenv with scope:=relabel scope X.env}) (RR L cenv.locals) s₄) X.xe P) X.xe s₂) X.xe i) X.xe s:=by
 refine bM (l G s M H _ I h) λv s1 h1=>bM h1 λitv N h2=>?_
 obtain⟨it,a,tn,J,A,e,I2,T,st2,f2,hW⟩:=h2;subst e;obtain⟨W,⟨m0,w0⟩,turn⟩:=hW N.heap.objs.size (I2.hok.fresh (JR _));refine wpAny_newObj_type (jt ?_)
 have s1:(N.heap.push {cls:=.type "list",dict:=none,data:=.seq ([]:List Value).toArray}).objs.size=N.heap.objs.size+1:=by rw[Heap.size_push]
 dsimp only;rw[s1];have hfs:∀b∈a,b<N.heap.objs.size:=λb Z=>by
  obtain⟨o,e,_⟩:=T.obj 0 _ st2 b Z;exact Heap.lt_size e
 have I4:=I2.block (t':=N.toks) S f2 hfs
 generalize hCC:N.heap.objs.size+1=C at I4 ⊢
 have hDC:N.heap.objs.size<C:=by rw[<-hCC];exact Nat.lt_succ_self _
 have Hg:=hg (kj X scope C) C N A a
 have Hc:=f (kj X scope C) C N A a
 have He:=R (kj X scope C) C N A a
 have Ha:=Hj (X:=blk X scope (kj X scope C) C N A a)
 have hYcell:∀x c,(blk X scope (kj X scope C) C N A a).env.cells.lookup x=some c->N.heap.objs.size<=c\/X.env.cells.lookup x=some c:=λx c e=>by
  have e:(cellsFrom (C+1) scope.names (cC X.env scope.names [])).lookup x=some c:=e
  rcases Df e with⟨_,q⟩|q
  .exact .inl (Nat.le_trans (Nat.le_of_lt hDC) (Nat.le_of_succ_le q))
  .exact .inr (I2.blkOld S q)
 have FY:∀{Y:Hp},(∀b∈a,Y b=none)->∀b∈a,jB (blk X scope (kj X scope C) C N A a) [] Y b:=λ{Y} hn b Z=>by
  obtain⟨f0,f1,f3,f4,f5,f6⟩:=f2 b Z;refine⟨hn b Z,Nat.ne_of_lt (Nat.lt_trans (hfs b Z) hDC),λz=>?_,.inl Z,λx c e z=>?_,λp hp=>absurd (show p∈([]:List (Addr×Obj))from hp) (by simp)⟩
  .rcases JI (I2.stkSub b z)with e|e
   .exact f1 e
   .exact f3 e
  .rcases hYcell x c e with q|q
   .rw[z]at q
    exact absurd (Nat.lt_of_lt_of_le (hfs b Z) q) (Nat.lt_irrefl _)
   .exact f5 x c q z
 have hCx:∀x c,X.env.cells.lookup x=some c->c≠C:=λx c e z=>by
  obtain⟨v,q⟩:=I2.cell x c e;have:=q.lt
  rw[z]at this;exact absurd (Nat.lt_trans this hDC) (Nat.lt_irrefl _)
 have hCp:∀p∈X.pn++G,p.1≠C:=λp hp z=>by
  have:=Heap.lt_size (I2.pin p hp).1
  rw[z]at this;exact absurd (Nat.lt_trans this hDC) (Nat.lt_irrefl _)
 have out:∀{j:St}{Y:Hp}{K:Shared},Inv (blk X scope (kj X scope C) C N A a) [] j Y K->Inv X G M Y K:=λ{j Y K} J=>
  I2.call' (ch:=a) J.os J.base J.hok J.bare λb Z=>by
   obtain⟨f0,f1,f3,f4,f5,f6⟩:=f2 b Z;exact⟨f4,f1,f5,f6⟩
 have loop:∀P:Shared,P={N with heap:=pushCells ((N.heap.push {cls:=.type "list",data:=.seq ([]:List Value).toArray}).push {cls:=.type "dict",data:=.dict #[]}) scope.names} ->
   codeAny (model X.prog X.w) X.A (.compLoop (.ListComp elt [⟨tg,iter,ifs,0⟩] scope pos) 0 (.ref it) (.ref N.heap.objs.size) (blk X scope (kj X scope C) C N A a).env) (RR (.ref N.heap.objs.size) C) P:=by
  rintro P rfl
  refine kX (λn K=>∃k U Y,Inv (blk X scope (kj X scope C) C N A a) [] (bu is M) Y K/\tn k K.heap/\(∀b∈a,Y b=none)/\W k n U Y) ?_ m0
   ⟨0,[],_,I4,T.keep 0 _ _ st2 λb _ o e=>pushCells_keeps _ _ b o (JQ _ (JQ _ e)),λb Z=>by rw[eA (Nat.ne_of_lt (hfs b Z))];exact(f2 b Z).1,w0⟩
  rintro n s3 ⟨k,U,H3,I3,st3,fr3,w3⟩
  obtain⟨hD3,hcase⟩:=turn k n U H3 w3;rcases hcase with⟨stop,qn⟩|⟨go,hlen,step⟩
  .refine bM (T.done (blk X scope (kj X scope C) C N A a) rfl rfl rfl O k [] s3 (bu is M) H3 yv I3 (FY fr3) st3 stop) λr s4 ⟨hr,I4⟩=>?_
   subst hr;obtain⟨m,hn,_⟩:=id I4.loc;exact hRR _ C s4 H3 m (out I4) hn qn I4.free (λz=>Nat.lt_irrefl _ (Nat.lt_trans (Nat.lt_of_lt_of_eq hDC z) I2.lt)) (Nat.le_trans I2.sz (Nat.le_of_lt hDC)) hCx hCp
  .refine bM (T.item (blk X scope (kj X scope C) C N A a) rfl rfl rfl O k [] s3 (bu is M) H3 yv I3 (FY fr3) st3 go) λr s4 ⟨u,hr,h4⟩=>?_
   subst hr;refine bM h4 λ_ s5 ⟨x,H5,I5,r5,y5,st5,fr5⟩=>?_
   have I5':=I5.pinned (FY fr5) (T.obj _ _ st5)
   refine bM (Hg _ s5 (bu is M) H5 x u _ I5' r5 (step x H5 y5)) λ_ s6 ⟨σ6,H6,I6,le6,q6⟩=>?_
   refine bM (Hc _ s6 σ6 H6 _ I6 q6) λok s7 ⟨H7,I7,q7⟩=>?_
   have again:∀{H8:Hp}{s8:Shared}{ys':List V},Inv (blk X scope (kj X scope C) C N A a) ([]++CW a s5.heap) σ6 H8 s8->(∃m',m'<n/\W (k+1) m' ys' H8) ->
     ∃m,m<n/\∃k U Y,Inv (blk X scope (kj X scope C) C N A a) [] (bu is M) Y s8/\tn k s8.heap/\(∀b∈a,Y b=none)/\W k m U Y:=λ{H8 s8 ys'} I8 ⟨m',hm,w8⟩=>by
    refine⟨m',hm,k+1,ys',H8,(I8.weak le6.1.symm le6.2).unpinned,T.keep _ _ _ st5 λb Z o e=>(I8.pin (b,o) (JF _ (JF _ (ET Z e)))).1,λb Z=>?_,w8⟩
    obtain⟨o,e,d⟩:=T.obj _ _ st5 b Z;exact(I8.pin (b,o) (JF _ (JF _ (ET Z e)))).2.1
   cases ok with
   |false=>
    rw[if_neg Bool.false_ne_true]at q7;exact again I7 q7
   |true=>
    rw[if_pos rfl]at q7;refine bM (He _ s7 σ6 H7 _ I7 q7) λy s8 ⟨v8,H8,I8,r8,q8⟩=>?_
    obtain⟨hD8,q8⟩:=q8;refine bM (Ha _ s8 σ6 H8 (.ref N.heap.objs.size) [v8] (.ref N.heap.objs.size) [y] (λ_ H9=>∃m',m'<n/\W (k+1) m' (U++[v8]) H9) I8 rfl (.cons r8 .nil) ⟨_,U,v8,rfl,rfl,hD8,hlen,q8⟩) λ_ s9 ⟨_,H9,I9,_,q9⟩=>?_
    exact again I9 q9
 exact codeAny_compStart_list (loop _ rfl) (T.self X.A 0 _ _ _ (T.keep 0 _ _ st2 λb _ o e=>pushCells_keeps _ _ b o (JQ _ (JQ _ e))) (loop _ rfl))
theorem pA(S:de X.N is X.env.scope scope)(O:X.calm=true)(l:PI X tg iter wi)(r:∀t C E w u,PG (blk X scope t C E w u) tg g)(f:∀t C E w u,PF (blk X scope t C E w u) ifs tc)(R:∀t C E w u,PE (blk X scope t C E w u) elt te)(P:∀x,foldedSetIterable iter X.env x=pure x:=by intro _;rfl):PE X (.ListComp elt [⟨tg,iter,ifs,0⟩] scope pos) (lH is wi g tc te):=by
 intro G s M H Q I h;rw[eval_ListComp];refine wpAny_comprehension_free (use:=none) rfl P (fQ (I.freeCells S)) S.kind S.loc (ka (RR:=λL C=>compPost (model X.prog X.w) X.A X.xe none (EP X G M Q) L C) S O l r f R I h ?_)
 intro D C K Y m d v q c k i p n
 refine⟨m,v,λj a=>?_⟩
 exact⟨.ref D,Y,d.turned (t':=K.toks) (λb o Z e=>(a.2 b Z).trans e) c k (.inr i) p n,rfl,q⟩
theorem nT{i:Nat}{y:Str}{K r:Pos}(J:X.N.Nodup)(hy:X.N[i]?=some y)(N:X.env.scope.names.lookup y=some .local)(S:de X.N is X.env.scope scope)(O:X.calm=true)(l:PI X tg iter wi)(hg:∀t C E w u,PG (blk X scope t C E w u) tg g)(f:∀t C E w u,PF (blk X scope t C E w u) ifs tc)(R:∀t C E w u,PE (blk X scope t C E w u) elt te)(hsw:swapsWith (.ListComp elt [⟨tg,iter,ifs,0⟩] scope pos) (some (.Name y K)) r.line X.env=pure true)(P:∀x,foldedSetIterable iter X.env x=pure x:=by intro _;rfl):PS X (.Assign [.Name y K] (.ListComp elt [⟨tg,iter,ifs,0⟩] scope pos) r) (λD M H=>lH is wi g tc te M H λv Y=>D.nx (M.set i (some v)) Y):=by
 intro G s M H Ds I h;rw[exec_Assign_Name_used _ _ _ _ hsw];refine JO (wpAny_standAt (JO ?_))
 show wpAny _ X.A (do let _ <-comprehension (.ListComp elt [⟨tg,iter,ifs,0⟩] scope pos) scope X.env _ (newList []) false (eval iter X.env) (some (assign (.Name y K) X.env))) _ _ s
 refine JO (wpAny_mono (wpAny_comprehension_free (use:=some (assign (.Name y K) X.env)) (Q:=λ_ s'=>SP X G Ds .next s') rfl P (fQ (I.freeCells S)) S.kind S.loc
  (ka (RR:=λL C=>compPost (model X.prog X.w) X.A X.xe (some (assign (.Name y K) X.env)) (λ_ s'=>SP X G Ds .next s') L C) S O l hg f R I h ?_)) (λ_ s' k=>JP (JP k)) λ_ _ e=>e)
 intro D C s' Y m d hn q n1 n2 n3 p n
 show wpAny _ X.A (assign (.Name y K) X.env (.ref D)) _ _ _
 refine wpAny_assign_Name (jM (v:=.ref D) d J hy (.inl N) rfl (λc I'' hch=>?_) (.inr N))
 obtain⟨a,A,U⟩:=hch;have z:C≠a:=by
  rcases U with e|e
  .rw[e];exact n2
  .exact(p y a e).symm
 refine⟨m,hn.sameBut A z,λj hs'=>?_⟩
 exact⟨_,Y,I''.turned (t':=c.toks) (λb o Z e=>(hs'.2 b Z).trans e) n1 n2 (.inr n3) p n,q⟩
end
end L2
namespace T
open PySem PySem.Spec L2
open PyProof.Rows hiding St
variable{a:Addr}{Y:List V}{o:List Nat}{O' F:List Addr}{Z u q:List (List Addr)}{A:Around}{R:V->V->Hp->Prop}{t:List JS}{U:List Expr}{X:Cx}{M:Hp}{x y:Str}{bs:List Bool}{N:List Str}{z:Expr}{own:Bool}{k:Nat}{h:List Comprehension}
abbrev D:=PyData
inductive Rep (K:Fg) (H:Hp):V->D->Prop where
 |non:Rep K H .non .none
 |bl (b:Bool):Rep K H (.bl b) (.bool b)
 |int (i:Int):Rep K H (.int i) (.int i)
 |str (x:Str):Rep K H (.str x) (.str x)
 |lst {p:Addr} {vs:List V} {ds:List D}:SqL K H p vs->vs.length=ds.length->(∀(i:Nat) v d,vs[i]?=some v->ds[i]?=some d->Rep K H v d)->Rep K H (.ref p) (.list ds)
 |tup {p:Addr} {vs:List V} {ds:List D}:SqT K H p vs->vs.length=ds.length->(∀(i:Nat) v d,vs[i]?=some v->ds[i]?=some d->Rep K H v d)->Rep K H (.ref p) (.tuple ds)
theorem pW{K:Fg}{H b:Hp}(e:Same H b)(h:SqT K H a Y):SqT K b a Y:=by
 rcases h with(h|⟨o,h⟩)|h
 .exact .inl (.inl (e _ _ h))
 .exact .inl (.inr ⟨o,e _ _ h⟩)
 .exact .inr h
theorem Rep.mono{K:Fg}{H Y:Hp}{v:V}{d:D}(e:Same H Y)(h:Rep K H v d):Rep K Y v d:=by
 induction h with
 |non=>exact .non
 |bl b=>exact .bl b
 |int i=>exact .int i
 |str x=>exact .str x
 |lst P N _ E=>exact .lst (e.seq P) N E
 |tup P N _ E=>exact .tup (pW e P) N E
def Reps(K:Fg)(H:Hp)(L:List V)(t:List D):Prop:=L.length=t.length/\∀(i:Nat) v d,L[i]?=some v->t[i]?=some d->Rep K H v d
def bV(H:Hp)(O:List Addr):Hp:=λa=>if a∈O then none else H a
theorem hid_le{H:Hp}{O:List Addr}:Same (bV H O) H:=λb o h=>by
 unfold bV at h;split at h
 .cases h
 .exact h
theorem se{H:Hp}{O:List Addr}{o:HO}(h:H a=some o)(n:a∉O):bV H O a=some o:=by
 unfold bV;rw[if_neg n];exact h
theorem p9{H Y:Hp}{O c:List Addr}(e:Same H Y)(h:∀a∈c,a∈O\/H a=none):Same (bV H O) (bV Y c):=λb o q=>by
 unfold bV at q ⊢
 split at q
 .cases q
 .rename_i d
  have Z:b∉c:=λz=>(h b z).elim d λz=>by rw[z]at q;cases q
  rw[if_neg Z];exact e b o q
theorem EH{H:Hp}{O:List Addr}{p:Addr}{o:HO}(h:p∈O):bV (bF H p o) O=bV H O:=by
 funext b
 unfold bV;split
 .rfl
 .rename_i Z
  exact eA λe=>Z (e▸h)
theorem Ga{H:Hp}:bV H []=H:=by
 funext b;unfold bV;simp
theorem i3{H:Hp}{p:Addr}{o:HO}(h:H p=none):Same H (bF H p o):=λb u e=>by
 rw[eA (vE e h)];exact e
inductive Sh where
 |view|leaf|lst (s:Sh)|tup (ss:List Sh)
def Sh.isView:Sh->Bool
 |.view=>true
 |_=>false
inductive Own (K:Fg) (O:List Addr) (H:Hp):Sh->List Addr->V->D->Prop where
 |view {v d}:Rep K H v d->Own K O H .view [] v d
 |leaf {v d}:Rep K (bV H O) v d->Own K O H .leaf [] v d
 |lst {s:Sh} {p:Addr} {vs:List V} {ds:List D} {Fs:List (List Addr)}:s.isView=false->H p=some (.lst vs)->vs.length=ds.length->Fs.length=ds.length->(p::Fs.flatten).Nodup ->
   (∀(i:Nat) v d F,vs[i]?=some v->ds[i]?=some d->Fs[i]?=some F->Own K O H s F v d)->Own K O H (.lst s) (p::Fs.flatten) (.ref p) (.list ds)
 |tup {ss:List Sh} {p:Addr} {vs:List V} {ds:List D} {Fs:List (List Addr)}:(∀s∈ss,s.isView=false)->H p=some (.tup vs)->p∉O->vs.length=ds.length->Fs.length=ds.length->ss.length=ds.length->Fs.flatten.Nodup ->
   (∀(i:Nat) v d F s,vs[i]?=some v->ds[i]?=some d->Fs[i]?=some F->ss[i]?=some s->Own K O H s F v d)->Own K O H (.tup ss) Fs.flatten (.ref p) (.tuple ds)
theorem Own.mono{K:Fg}{O:List Addr}{H Y:Hp}{s:Sh}{G:List Addr}{v:V}{d:D}(h:Own K O H s G v d)(e:Same H Y)(j:∀a∈O',a∈O\/H a=none):Own K O' Y s G v d:=by
 induction h with
 |view r=>exact .view (r.mono e)
 |leaf r=>exact .leaf (r.mono (p9 e j))
 |lst R y N L X _ E=>exact .lst R (e _ _ y) N L X λi v d F J S I=>E i v d F J S I
 |tup R y b N L P X _ E=>exact .tup R (e _ _ y) (λz=>(j _ z).elim b λz=>by rw[z]at y;cases y) N L P X λi v d F s J S I x=>E i v d F s J S I x
theorem Own.rep{K:Fg}{O:List Addr}{H:Hp}{s:Sh}{G:List Addr}{v:V}{d:D}(h:Own K O H s G v d):Rep K H v d:=by
 induction h with
 |view r=>exact r
 |leaf r=>exact r.mono hid_le
 |lst R y N L _ q E=>
  refine .lst (.of y) N λi v d J S=>?_
  rename_i Z _;obtain⟨F,b⟩:∃F,Z[i]?=some F:=by
   have:=(JN S).1
   exact⟨Z[i]'(by omega),JJ _⟩
  exact E i v d F J S b
 |tup R y Y N L P _ q E=>
  refine .tup (.of y) N λi v d J S=>?_
  rename_i o _ _ _ Z _;have l:=(JN S).1
  exact E i v d (Z[i]'(by omega)) (o[i]'(by omega)) J S (JJ _) (JJ _)
theorem gh{i:Nat}(h:Z[i]?=some F)(U:a∈F):a∈Z.flatten:=List.mem_flatten.mpr ⟨F,mem_of_getElem? h,U⟩
theorem Own.freeze{K:Fg}{O c:List Addr}{H:Hp}{s:Sh}{G:List Addr}{v:V}{d:D}(h:Own K O H s G v d)(P:s.isView=false)(J:∀a∈c,a∈O)(S:∀a∈G,a∉c):Rep K (bV H c) v d:=by
 induction h with
 |view r=>cases P
 |leaf r=>exact r.mono (p9 (Same.refl _) λa z=>.inl (J a z))
 |lst e y N L _ q E=>
  refine .lst (.of (se y (S _ mem_cons_self))) N λi v d g R=>?_
  rename_i Z _;obtain⟨F,b⟩:∃F,Z[i]?=some F:=by
   have:=(JN R).1
   exact⟨Z[i]'(by omega),JJ _⟩
  exact E i v d F g R b e λa U=>S a (JL _ (gh b U))
 |tup e y Y N L f _ q E=>
  refine .tup (.of (se y λz=>Y (J _ z))) N λi v d g R=>?_
  rename_i o _ _ _ Z _;have l:=(JN R).1
  have w:Z[i]?=some (Z[i]'(by omega)):=JJ _
  exact E i v d _ (o[i]'(by omega)) g R w (JJ _) (e _ (getElem_mem _)) λa U=>S a (gh w U)
theorem Own.mut{K:Fg}{O:List Addr}{H:Hp}{s:Sh}{G:List Addr}{v:V}{d:D}{p:Addr}{o:HO}(h:Own K O H s G v d)(P:s.isView=false)(y:p∈O)(l:p∉G)(N:H p=some (.lst Y)):Own K O (bF H p o) s G v d:=by
 induction h with
 |view r=>cases P
 |leaf r=>refine .leaf ?_;rw[EH y];exact r
 |lst a k A L X q E=>
  refine .lst a ?_ A L X λi v d F g R w=>E i v d F g R w a λz=>l (JL _ (gh w z))
  rw[eA (λz=>l (by rw[<-z];exact mem_cons_self))]
  exact k
 |tup a k c A L b X q E=>
  refine .tup a ?_ c A L b X λi v d F s g R w j=>E i v d F s g R w j (a _ (mem_of_getElem? j)) λz=>l (gh w z)
  rw[eA (λz=>by rw[z,N]at k;cases k)]
  exact k
inductive Sc:V->D->Prop where
 |non:Sc .non .none
 |bl (b:Bool):Sc (.bl b) (.bool b)
 |int (i:Int):Sc (.int i) (.int i)
 |str (x:Str):Sc (.str x) (.str x)
theorem Sc.rep{K:Fg}{H:Hp}{v:V}{d:D}(h:Sc v d):Rep K H v d:=by cases h<;>constructor
def aV:D->Bool
 |.list _=>false
 |.tuple _=>false
 |.dict _=>false
 |_=>true
theorem Rep.sc{K:Fg}{H:Hp}{v:V}{d:D}(h:Rep K H v d)(s:aV d=true):Sc v d:=by
 cases h with
 |non=>exact .non
 |bl b=>exact .bl b
 |int i=>exact .int i
 |str x=>exact .str x
 |lst _ _ _=>cases s
 |tup _ _ _=>cases s
structure PV where
 s:Sh
 d:D
abbrev Ev:=List (Option PV)
@[simp] abbrev JT(d:PySem.PyData):Option PV:=some ⟨.leaf,d⟩
inductive Out (α:Type) where
 |ok (a:α) (e:Ev)
 |er (c:Str) (e:Ev)
 |no
def Out.bind{m d:Type}(x:Out m)(k:m->Ev->Out d):Out d:=match x with
 |.ok a e=>k a e
 |.er c e=>.er c e
 |.no=>.no
structure EnvOk(K:Fg)(He:Hp)(O:List Addr)(Fs:List (List Addr))(H:Hp)(σ:St)(Γ:Ev):Prop where
 len1:σ.length=Γ.length
 len2:Fs.length=Γ.length
 same:Same He H
 nd:(O++Fs.flatten).Nodup
 inH:∀a∈O++Fs.flatten,H a≠none
 fresh:∀a∈Fs.flatten,He a=none
 slot:∀(i:Nat)(p:PV),Γ[i]?=some (some p)->p.s.isView=false/\∃v F,σ[i]?=some (some v)/\Fs[i]?=some F/\Own K (O++Fs.flatten) H p.s F v p.d
section
variable{K:Fg}{He H H':Hp}{O O' G:List Addr}{Fs:List (List Addr)}{σ:St}{Γ:Ev}
theorem EnvOk.grow(h:EnvOk K He O Fs H σ Γ)(e:Same H H'):EnvOk K He O Fs H' σ Γ:=
 ⟨h.len1,h.len2,h.same.trans e,h.nd,λa U z=>h.inH a U (e.free z),h.fresh,λi p q=>let⟨a,v,F,b,c,d⟩:=h.slot i p q;⟨a,v,F,b,c,d.mono e λ_ z=>.inl z⟩⟩
theorem EnvOk.drop(h:EnvOk K He O Fs H σ Γ)(P:∀a∈O',a∈O)(X:O'.Nodup):EnvOk K He O' Fs H σ Γ:=by
 obtain⟨t,k,m⟩:=JM h.nd;refine⟨h.len1,h.len2,h.same,List.nodup_append.mpr ⟨X,k,λa U b Z=>m a (P a U) b Z⟩,λa U=>h.inH a ?_,h.fresh,λi p q=>let⟨a,v,F,b,c,d⟩:=h.slot i p q;⟨a,v,F,b,c,d.mono (Same.refl _) λa z=>.inl ?_⟩⟩
 .rcases JH U with z|z
  .exact JG _ (P a z)
  .exact JF _ z
 .rcases JH z with z|z
  .exact JG _ (P a z)
  .exact JF _ z
theorem EnvOk.dropL(h:EnvOk K He (G++O) Fs H σ Γ):EnvOk K He O Fs H σ Γ:=h.drop (λa z=>JF _ z) (JM (JM h.nd).1).2.1
theorem EnvOk.hide(h:EnvOk K He O Fs H σ Γ)(e:Same H H')(X:G.Nodup)(Y:∀a∈G,H a=none)(l:∀a∈G,H' a≠none):EnvOk K He (G++O) Fs H' σ Γ:=by
 refine⟨h.len1,h.len2,h.same.trans e,?_,λa U=>?_,h.fresh,λi p q=>let⟨a,v,F,b,c,d⟩:=h.slot i p q;⟨a,v,F,b,c,d.mono e λa z=>?_⟩⟩
 .rw[append_assoc]
  exact List.nodup_append.mpr ⟨X,h.nd,λa U b Z z=>h.inH b Z (by rw[<-z];exact Y a U)⟩
 .rw[append_assoc]at U
  rcases JH U with z|z
  .exact l a z
  .exact λq=>h.inH a z (e.free q)
 .rw[append_assoc]at z
  rcases JH z with z|z
  .exact .inr (Y a z)
  .exact .inl z
end
structure Aft(K:Fg)(He:Hp)(O:List Addr)(Fs:List (List Addr))(H:Hp)(σ:St)(Γ':Ev)(p:PV)(v:V)(H':Hp)(G:List Addr)(Fs':List (List Addr)):Prop where
 same:Same H H'
 env:EnvOk K He (G++O) Fs' H' σ Γ'
 new:∀a∈G++Fs'.flatten,a∈Fs.flatten\/H a=none
 own:Own K (G++O++Fs'.flatten) H' p.s G v p.d
abbrev XW:=Str->St->Hp->Prop
abbrev F1:=Ev->Out PV
def tE(K:Fg)(W:XW)(f:F1):TE:=λM H Q=>∃a O Z C,EnvOk K a O Z H M C/\match f C with
 |.ok p X=>∀v Y G u,Aft K a O Z H M X p v Y G u->Q v Y
 |.er c X=>∀Y u,Same H Y->EnvOk K a O u Y M X->W c M Y
 |.no=>False
def Wants(K:Fg)(W:XW)(a:Hp)(O:List Addr)(Z:List (List Addr))(H:Hp)(M:St)(Q:VK)(o:Out PV):Prop:=match o with
 |.ok p X=>∀v Y G u,Aft K a O Z H M X p v Y G u->Q v Y
 |.er c X=>∀Y u,Same H Y->EnvOk K a O u Y M X->W c M Y
 |.no=>False
section
variable{K:Fg}{W:XW}{He H:Hp}{O:List Addr}{Fs:List (List Addr)}{σ:St}{Γ Γ':Ev}{Q:VK}
theorem Wants.scal{A:Hp}{b:List Addr}{r:List (List Addr)}{v:V}{d:D}(h:Wants K W He O Fs H σ Q (.ok ⟨.leaf,d⟩ Γ'))(s:Sc v d)(e:Same H A)(E:EnvOk K He b r A σ Γ')(j:∀a∈O,a∈b)(X:O.Nodup)(m:∀a∈r.flatten,a∈Fs.flatten\/H a=none):Q v A:=
 h v A [] r ⟨e,by rw[nil_append];exact E.drop j X,by rw[nil_append];exact m,.leaf s.rep⟩
theorem EnvOk.ndO(E:EnvOk K He O Fs H σ Γ):O.Nodup:=(JM E.nd).1
end
def aW{d:Type}(f:F1)(k:PV->Ev->Out d):Ev->Out d:=λC=>(f C).bind k
section
variable{K:Fg}{W:XW}{σ:St}{H:Hp}{Q:VK}{fa fb:F1}
theorem vO{k:PV->F1}{R:VK}(h:tE K W (aW fa k) σ H Q)(a:∀M O Z I p v n G N,O.Nodup->Aft K M O Z H σ I p v n G N->Wants K W M O Z H σ Q (k p I)->R v n):tE K W fa σ H R:=by
 obtain⟨M,O,Z,C,E,h⟩:=h;refine⟨M,O,Z,C,E,?_⟩
 unfold aW at h
 cases e:fa C with
 |ok p I=>
  rw[e]at h;exact λv Y G u A=>a M O Z I p v Y G u E.ndO A h
 |er c I=>
  rw[e]at h;exact h
 |no=>
  rw[e]at h;exact h
theorem Cw{k:PV->PV->F1}(h:tE K W (aW fa λp=>aW fb λq=>k p q) σ H Q)(f:∀M O Z o p q v u n A Y L r,O.Nodup->Same H n->Same n A->EnvOk K M (L++(Y++O)) r A σ o->(∀a∈L++(Y++r.flatten),a∈Z.flatten\/H a=none) ->
   Own K (L++(Y++O)++r.flatten) A p.s Y v p.d->Own K (L++(Y++O)++r.flatten) A q.s L u q.d->Wants K W M O Z H σ Q (k p q o)->R v u A):tE K W fa σ H λv n=>tE K W fb σ n λu A=>R v u A:=by
 refine vO (k:=λp=>aW fb λq=>k p q) h λM O Z I p v n Y N X d J=>?_
 refine⟨M,Y++O,N,I,d.env,?_⟩
 unfold aW at J
 cases e:fb I with
 |ok q o=>
  rw[e]at J;intro u A L r b;have m:∀a∈L++(Y++r.flatten),a∈Z.flatten\/H a=none:=λa U=>by
   have i:a∈Y++N.flatten->a∈Z.flatten\/H a=none:=d.new a
   rcases JH U with z|z
   .rcases b.new a (JG _ z)with y|y
    .exact i (JF _ y)
    .exact .inr (d.same.free y)
   .rcases JH z with z|z
    .exact i (JG _ z)
    .rcases b.new a (JF _ z)with y|y
     .exact i (JF _ y)
     .exact .inr (d.same.free y)
  refine f M O Z o p q v u n A Y L r X d.same b.same b.env m (d.own.mono b.same λa U=>?_) b.own J
  rcases JH U with z|z
  .rcases JH z with z|z
   .rcases b.new a (JG _ z)with y|y
    .exact .inl (JF _ y)
    .exact .inr y
   .exact .inl (JG _ z)
  .rcases b.new a (JF _ z)with y|y
   .exact .inl (JF _ y)
   .exact .inr y
 |er c o=>
  rw[e]at J;intro A r P S;exact J A r (d.same.trans P) S.dropL
 |no=>
  rw[e]at J;exact J
end
section
variable{X:Cx}{e:Expr}
theorem aZ{t O:TE}(h:PE X e t)(i:∀M H Q,O M H Q->t M H Q):PE X e O:=λG s M H Q I q=>h G s M H Q I (i M H Q q)
theorem vy{t O:TT}(h:PT X e t)(i:∀M H Q,O M H Q->t M H Q):PT X e O:=λG s M H Q I q=>h G s M H Q I (i M H Q q)
theorem zr{t O:TT}(h:PW X e t)(i:∀M H Q,O M H Q->t M H Q):PW X e O:=λd G s M H Q I q=>h d G s M H Q I (i M H Q q)
theorem zt{t O:TA}(h:PA X U t)(i:∀M H Q,O M H Q->t M H Q):PA X U O:=λK G s M H Q I q=>h K G s M H Q I (i M H Q q)
theorem bB{d:Stmt}{t O:TS}(h:PS X d t)(i:∀D M H,O D M H->t D M H):PS X d O:=λG s M H D I q=>h G s M H D I (i D M H q)
theorem Cr{d:List Stmt}{t O:TS}(h:PSs X d t)(i:∀D M H,O D M H->t D M H):PSs X d O:=λG s M H D I q=>h G s M H D I (i D M H q)
theorem Et{t O:TT}(h:PF X U t)(i:∀M H Q,O M H Q->t M H Q):PF X U O:=λG s M H Q I q=>h G s M H Q I (i M H Q q)
end
theorem Hn{h:Heap}:∀{L:List V}{its:List Value}{ds:List D},Vals L its->L.length=ds.length->(∀(i:Nat) v d,L[i]?=some v->ds[i]?=some d->∀u,RelV v u->∃f,Reads h u d f)->∃f,ReadsAll h its ds f
 |_,_,[],.nil,_,_=>⟨_,.nil⟩
 |_,_,d::ds,.cons (a:=v) (b:=u) r t,hl,h=>by
  obtain⟨f,l⟩:=h 0 v d rfl rfl u r;obtain⟨bs,R⟩:=Hn t (by simpa using hl) λi v d J S=>h (i+1) v d (by simpa using J) (by simpa using S)
  exact⟨_,.cons l R⟩
 |_,_,[],.cons _ _,hl,_=>by simp at hl
 |_,_,_::_,.nil,hl,_=>by simp at hl
theorem Rep.reads{G:List (Addr×Obj)}{M:St}{H:Hp}{s:Shared}{x:V}{d:D}(I:Inv X G M H s)(r:Rep X.K H x d):∀u,RelV x u->∃f,Reads s.heap u d f:=by
 induction r with
 |non=>rintro u rfl;exact⟨_,.none⟩
 |bl b=>rintro u rfl;exact⟨_,.bool b⟩
 |int i=>rintro u ⟨t,rfl⟩;exact⟨_,.int i t⟩
 |str x=>rintro u ⟨t,rfl⟩;exact⟨_,.str x t⟩
 |lst k N _ E=>
  rintro u rfl
  obtain⟨g,c,⟨o,n,a,R,w,j⟩,_⟩:=I.list k;obtain⟨f,l⟩:=Hn c N E;exact⟨_,.list a R j (by simpa using l)⟩
 |tup k N _ E=>
  rintro u rfl
  obtain⟨g,c,⟨o,a,R,n,j⟩,_⟩:=I.tuple k;obtain⟨f,l⟩:=Hn c N E;exact⟨_,.tuple a R j (by simpa using l)⟩
theorem ll{m:Type}{F G:List m}:∀{Fs:List (List m)}{i:Nat},Fs[i]?=some F->(F++(Fs.set i G).flatten).Perm (G++Fs.flatten)
 |[],_,h=>by simp at h
 |A::r,0,h=>by
  simp at h
  subst h;simp only[List.set_cons_zero,flatten_cons]
  rw[<-append_assoc,<-append_assoc];exact List.Perm.append_right _ perm_append_comm
 |A::r,i+1,h=>by
  have E:=ll (G:=G) (Fs:=r) (i:=i) (by simpa using h)
  simp only[List.set_cons_succ,flatten_cons]
  calc (F++(A++(r.set i G).flatten)).Perm (A++(F++(r.set i G).flatten)):=by
        rw[<-append_assoc,<-append_assoc];exact List.Perm.append_right _ perm_append_comm
    _ |>.Perm (A++(G++r.flatten)):=List.Perm.append_left _ E
    _ |>.Perm (G++(A++r.flatten)):=by
        rw[<-append_assoc,<-append_assoc];exact List.Perm.append_right _ perm_append_comm
section
variable{K:Fg}{He H:Hp}{O G:List Addr}{Fs:List (List Addr)}{σ:St}{Γ:Ev}
theorem EnvOk.lt(E:EnvOk K He O Fs H σ Γ){i:Nat}(h:i<Γ.length):∃F,Fs[i]?=some F:=⟨Fs[i]'(by rw[E.len2];exact h),JJ _⟩
theorem EnvOk.move{i:Nat}{p:PV}(E:EnvOk K He O Fs H σ Γ)(h:Γ[i]?=some (some p)):p.s.isView=false/\∃v F,σ[i]?=some (some v)/\EnvOk K He (F++O) (Fs.set i []) H σ (Γ.set i none)/\Own K (F++O++(Fs.set i []).flatten) H p.s F v p.d/\(∀a∈F++(Fs.set i []).flatten,a∈Fs.flatten):=by
 obtain⟨b,v,F,J,S,I⟩:=E.slot i p h;have c:(F++(Fs.set i []).flatten).Perm Fs.flatten:=by simpa using ll (G:=[]) S
 have d:(F++O++(Fs.set i []).flatten).Perm (O++Fs.flatten):=by
  rw[append_assoc]
  calc (F++(O++(Fs.set i []).flatten)).Perm (O++(F++(Fs.set i []).flatten)):=by
        rw[<-append_assoc,<-append_assoc];exact List.Perm.append_right _ perm_append_comm
    _ |>.Perm (O++Fs.flatten):=List.Perm.append_left _ c
 refine⟨b,v,F,J,⟨by rw[length_set];exact E.len1,by rw[length_set,length_set];exact E.len2,E.same,d.nodup_iff.mpr E.nd,λa U=>E.inH a (d.mem_iff.mp U),λa U=>E.fresh a (c.mem_iff.mp (JF _ U)),λj q k=>?_⟩,I.mono (Same.refl _) λa U=>.inl (d.mem_iff.mp U),λa U=>c.mem_iff.mp U⟩
 by_cases A:j=i
 .subst A
  rw[List.getElem?_set]at k;split at k
  .split at k<;>cases k
  .rename_i z
   exact absurd rfl z
 .rw[getElem?_set_ne (Ne.symm A)]at k
  obtain⟨L,C,f,g,R,w⟩:=E.slot j q k;exact⟨L,C,f,g,by rw[getElem?_set_ne (Ne.symm A)];exact R,w.mono (Same.refl _) λa U=>.inl (d.mem_iff.mp U)⟩
theorem EnvOk.put{i:Nat}{p:PV}{v:V}(E:EnvOk K He (G++O) Fs H σ Γ)(J:Own K (G++O++Fs.flatten) H p.s G v p.d)(d:p.s.isView=false)(Y:∀a∈G,He a=none)(l:i<Γ.length):EnvOk K He O (Fs.set i G) H (σ.set i (some v)) (Γ.set i (some p)):=by
 obtain⟨F,b⟩:=E.lt l;have c:=ll (G:=G) b
 have X:=E.nd
 rw[append_assoc]at X;have n:∀a∈O++(Fs.set i G).flatten,a∈G++O++Fs.flatten:=λa U=>by
  rw[append_assoc];rcases JH U with z|z
  .exact JF _ (JG _ z)
  .rcases JH (c.mem_iff.mp (JF _ z))with y|y
   .exact JG _ y
   .exact JF _ (JF _ y)
 refine⟨by rw[length_set,length_set];exact E.len1,by rw[length_set,length_set];exact E.len2,E.same,?_,λa U=>E.inH a (n a U),λa U=>?_,λj q k=>?_⟩
 .have P:(O++(F++(Fs.set i G).flatten)).Perm (G++(O++Fs.flatten)):=by
   calc (O++(F++(Fs.set i G).flatten)).Perm (O++(G++Fs.flatten)):=List.Perm.append_left _ c
     _ |>.Perm (G++(O++Fs.flatten)):=by
       rw[<-append_assoc,<-append_assoc];exact List.Perm.append_right _ perm_append_comm
  have e:=P.nodup_iff.mpr X
  refine e.sublist ?_
  exact List.Sublist.append_left (List.sublist_append_right _ _) _
 .rcases JH (c.mem_iff.mp (JF _ U))with y|y
  .exact Y a y
  .exact E.fresh a y
 .by_cases A:j=i
  .subst A
   rw[getElem?_set_self l]at k
   cases k;refine⟨d,v,G,?_,?_,J.mono (Same.refl _) λa U=>.inl (n a U)⟩
   .rw[getElem?_set_self (by rw[E.len1];exact l)]
   .rw[getElem?_set_self (by rw[E.len2];exact l)]
  .rw[getElem?_set_ne (Ne.symm A)]at k
   obtain⟨L,C,f,g,R,w⟩:=E.slot j q k;exact⟨L,C,f,by rw[getElem?_set_ne (Ne.symm A)];exact g,by rw[getElem?_set_ne (Ne.symm A)];exact R,w.mono (Same.refl _) λa U=>.inl (n a U)⟩
theorem Aft.freshG{X:Ev}{p:PV}{v:V}{Y:Hp}(E:EnvOk K He O Fs H σ Γ)(A:Aft K He O Fs H σ X p v Y G u):∀a∈G,He a=none:=λa U=>by
 rcases A.new a (JG _ U)with z|z
 .exact E.fresh a z
 .exact E.same.free z
end
def aa(i:Nat):F1:=λC=>match C[i]? with
 |some (some p)=>(match p.s with
  |.leaf=>.ok ⟨.leaf,p.d⟩ C
  |_=>.ok ⟨.view,p.d⟩ C)
 |_=>.no
def bh(i:Nat):F1:=λC=>match C[i]? with
 |some (some p)=>.ok p (C.set i none)
 |_=>.no
def eK(d:D):F1:=λC=>.ok ⟨.leaf,d⟩ C
section
variable{X:Cx}{W:XW}{i:Nat}{e:Expr}{pos:Pos}
theorem Ak{K:Fg}{M:St}{H:Hp}{Q:VK}(h:tE K W (aa i) M H Q):cm i M H Q:=by
 obtain⟨c,O,Z,C,E,h⟩:=h;unfold aa at h
 cases e:C[i]? with
 |none=>rw[e]at h;exact h.elim
 |some o=>
  rw[e]at h
  cases o with
  |none=>exact h.elim
  |some p=>
   obtain⟨R,v,F,J,S,I⟩:=E.slot i p e;obtain⟨s,d⟩:=p;have m:∀a∈[]++Z.flatten,a∈Z.flatten\/H a=none:=λa U=>.inl (by simpa using U)
   cases s with
   |leaf=>
    cases I with
    |leaf r=>exact⟨v,J,h v H [] Z ⟨Same.refl _,by simpa using E,m,.leaf r⟩⟩
   |view=>cases R
   |lst s=>exact⟨v,J,h v H [] Z ⟨Same.refl _,by simpa using E,m,.view I.rep⟩⟩
   |tup b=>exact⟨v,J,h v H [] Z ⟨Same.refl _,by simpa using E,m,.view I.rep⟩⟩
theorem wR{K:Fg}{M:St}{H:Hp}{Q:VK}(h:tE K W (bh i) M H Q):cm i M H Q:=by
 obtain⟨c,O,Z,C,E,h⟩:=h;unfold bh at h
 cases e:C[i]? with
 |none=>rw[e]at h;exact h.elim
 |some o=>
  rw[e]at h
  cases o with
  |none=>exact h.elim
  |some p=>
   obtain⟨R,v,F,J,b,L,n⟩:=E.move e;exact⟨v,J,h v H F (Z.set i []) ⟨Same.refl _,b,λa U=>.inl (n a U),L⟩⟩
theorem B1(h:PE X e (cm i)):PE X e (tE X.K W (aa i)):=aZ h λ_ _ _=>Ak
theorem yf(h:PE X e (cm i)):PE X e (tE X.K W (bh i)):=aZ h λ_ _ _=>wR
theorem tU{K:Fg}{M:St}{H:Hp}{Q:VK}{v:V}{d:D}(P:∀H,Rep K H v d)(h:tE K W (eK d) M H Q):Q v H:=by
 obtain⟨b,O,Z,C,E,h⟩:=h;exact h v H [] Z ⟨Same.refl _,by simpa using E,λa U=>.inl (by simpa using U),.leaf (P _)⟩
theorem yg{v:V}{u:Value}{d:D}(l:Gl X x)(C:X.mg x=some u)(r:RelV v u)(m:∀H,Rep X.K H v d)(U:(x==("__debug__":Str))=false:=by decide):PE X (.Name x pos) (tE X.K W (eK d)):=
 aZ (xo l C r U) λ_ _ _=>tU m
end
def az(g:D->D->Option D)(M e:F1):F1:=aW M λp=>aW e λq=>λC=>match g p.d q.d with
 |some d=>.ok ⟨.leaf,d⟩ C
 |none=>.no
def GOp(K:Fg)(r:R2)(g:D->D->Option D):Prop:=∀x y H Q a b d,Rep K H x a->Rep K H y b->g a b=some d->(∀v,Sc v d->Q v H)->r x y H Q
section
variable{K:Fg}{W:XW}{σ:St}{H:Hp}{Q:VK}{fa fb:F1}{r:R2}{g:D->D->Option D}
theorem gy(l:GOp K r g)(h:tE K W (az g fa fb) σ H Q):qx r (tE K W fa) (tE K W fb) σ H Q:=by
 refine Cw h ?_
 intro M O Z o p q v u n A Y L c X y N E m f b w
 cases e:g p.d q.d with
 |none=>rw[e]at w;exact w.elim
 |some d=>
  rw[e]at w;exact l v u A Q p.d q.d d f.rep b.rep e λz s=>w.scal s (y.trans N) E (λa U=>JF _ (JF _ U)) X λa U=>m a (JF _ (JF _ U))
end
theorem GOp.or{K:Fg}{r r':R2}{g g':D->D->Option D}(h:GOp K r g)(j:GOp K r' g'):GOp K (λx y H Q=>r x y H Q\/r' x y H Q) (λa b=>(g a b).or (g' a b)):=by
 intro x y H Q a b d l R e k;have e:(g a b).or (g' a b)=some d:=e
 cases c:g a b with
 |some z=>rw[c]at e;cases e;exact .inl (h x y H Q a b _ l R c k)
 |none=>rw[c]at e;exact .inr (j x y H Q a b d l R (by simpa using e) k)
def gI(C:Int->Int->Bool)(f:Int->Int->D):D->D->Option D
 |.int i,.int j=>if C i j then some (f i j)else none
 |_,_=>none
theorem pL{K:Fg}{C:Int->Int->Prop}{m:Int->Int->Bool}{g:Int->Int->V}{f:Int->Int->D}(h:∀i j,m i j=true->C i j)(P:∀i j,Sc (g i j) (f i j)):GOp K (rI C g) (gI m f):=by
 intro x y H Q a b d l R e k
 cases l<;>cases R<;>simp only[gI]at e<;>try cases e
 rename_i i j;split at e
 .rename_i c
  cases e;exact⟨i,j,rfl,rfl,h i j c,k _ (P i j)⟩
 .cases e
def zh(f:Int->Int->D):D->D->Option D
 |.int i,.int j=>some (f i j)
 |_,_=>none
theorem Cs{K:Fg}{g:Int->Int->V}{f:Int->Int->D}(P:∀i j,Sc (g i j) (f i j)):GOp K (pe g) (zh f):=by
 intro x y H Q a b d l R e k
 cases l<;>cases R<;>simp only[zh]at e<;>try cases e
 rename_i i j;exact⟨i,j,rfl,rfl,k _ (P i j)⟩
abbrev gSub:=zh λi j=>.int (i-j)
abbrev ba:=zh λi j=>.int (i+j)
def rZ(i j:Int):Bool:=(decide (-(2 ^ 64)<i)&&decide (i<2 ^ 64))||(decide (-(2 ^ 64)<j)&&decide (j<2 ^ 64))
abbrev mH:=gI rZ λi j=>.int (i*j)
def yo(_ j:Int):Bool:=decide (0<j)&&decide (j<1073741824)
abbrev u0:=gI yo λi j=>.int (i / j)
def yn(_ j:Int):Bool:=decide (0<j)
abbrev bN:=gI yn λi j=>.int (i % j)
def ym(i j:Int):Bool:=decide (0<=j)&&decide (j<=1000000)&&decide (i.natAbs<2 ^ 64)
abbrev xS:=gI ym λi j=>.int (i ^ j.toNat)
mutual
def Sh.same:Sh->Sh->Bool
 |.view,.view=>true
 |.leaf,.leaf=>true
 |.lst a,.lst b=>Sh.same a b
 |.tup as,.tup bs=>Sh.sameL as bs
 |_,_=>false
def Sh.sameL:List Sh->List Sh->Bool
 |[],[]=>true
 |a::as,b::bs=>Sh.same a b&&Sh.sameL as bs
 |_,_=>false
end
mutual
theorem Sh.same_eq:∀{a b:Sh},Sh.same a b=true->a=b
 |.view,.view,_=>rfl
 |.leaf,.leaf,_=>rfl
 |.lst a,.lst b,h=>by rw[Sh.same_eq (a:=a) (b:=b) (by simpa[Sh.same]using h)]
 |.tup as,.tup bs,h=>by rw[Sh.sameL_eq (as:=as) (bs:=bs) (by simpa[Sh.same]using h)]
 |.view,.leaf,h=>by simp[Sh.same]at h
 |.view,.lst _,h=>by simp[Sh.same]at h
 |.view,.tup _,h=>by simp[Sh.same]at h
 |.leaf,.view,h=>by simp[Sh.same]at h
 |.leaf,.lst _,h=>by simp[Sh.same]at h
 |.leaf,.tup _,h=>by simp[Sh.same]at h
 |.lst _,.view,h=>by simp[Sh.same]at h
 |.lst _,.leaf,h=>by simp[Sh.same]at h
 |.lst _,.tup _,h=>by simp[Sh.same]at h
 |.tup _,.view,h=>by simp[Sh.same]at h
 |.tup _,.leaf,h=>by simp[Sh.same]at h
 |.tup _,.lst _,h=>by simp[Sh.same]at h
theorem Sh.sameL_eq:∀{as bs:List Sh},Sh.sameL as bs=true->as=bs
 |[],[],_=>rfl
 |a::as,b::bs,h=>by
  have h:Sh.same a b=true/\Sh.sameL as bs=true:=by simpa[Sh.sameL]using h
  rw[Sh.same_eq h.1,Sh.sameL_eq h.2]
 |[],_::_,h=>by simp[Sh.sameL]at h
 |_::_,[],h=>by simp[Sh.sameL]at h
end
def coer(s:Sh)(p:PV):Bool:=match s with
 |.leaf=>!p.s.isView||aV p.d
 |.view=>false
 |s=>Sh.same s p.s
def aT(s:Sh)(G:List Addr):List Addr:=match s with
 |.leaf=>[]
 |_=>G
theorem rS{s:Sh}{p:PV}(h:coer s p=true):s.isView=false:=by
 cases s with
 |view=>simp[coer]at h
 |_=>rfl
theorem EX{s:Sh}{G:List Addr}(h:a∈aT s G):a∈G:=by
 unfold aT at h;split at h
 .simp at h
 .exact h
theorem Own.coer{K:Fg}{O O':List Addr}{H:Hp}{s:Sh}{p:PV}{G:List Addr}{v:V}(h:Own K O H p.s G v p.d)(c:coer s p=true)(J:∀a∈O',a∈O)(S:∀a∈G,a∈O'->a∈aT s G):Own K O' H s (aT s G) v p.d:=by
 cases s with
 |view=>simp[T.coer]at c
 |leaf=>
  show Own K O' H .leaf [] v p.d
  have c:(!p.s.isView||aV p.d)=true:=c
  cases R:p.s.isView with
  |false=>exact .leaf (h.freeze R J λa U z=>by simpa[aT]using S a U z)
  |true=>
   rw[R]at c;exact .leaf (h.rep.sc (by simpa using c)).rep
 |lst s=>
  have e:Sh.lst s=p.s:=Sh.same_eq c
  show Own K O' H (.lst s) G v p.d
  rw[e];exact h.mono (Same.refl _) λa U=>.inl (J a U)
 |tup o=>
  have e:Sh.tup o=p.s:=Sh.same_eq c
  show Own K O' H (.tup o) G v p.d
  rw[e];exact h.mono (Same.refl _) λa U=>.inl (J a U)
open PySem.SeqAt in
def bP:D->D->Option D:=λa b=>if shaped a&&shaped b then some (.bool (PyData.eqv a b))else none
open PySem.SeqAt in
def cO:D->D->Option D:=λa b=>if shaped a&&shaped b then some (.bool (!PyData.eqv a b))else none
open PySem.SeqAt in
def qK(K:Fg)(f:Bool):R2:=λx y H Q=>∃a b,Rep K H x a/\Rep K H y b/\shaped a=true/\shaped b=true/\Q (.bl (if f then !PyData.eqv a b else PyData.eqv a b)) H
section
variable{X:Cx}
theorem Bk(m:X.A.units+64<cLine):OpR X (compareOp .Eq) (qK X.K false):=by
 intro G s M H x y v u Q I w o h;obtain⟨a,b,l,R,c,r,q⟩:=h;obtain⟨f,J⟩:=l.reads I v w;obtain⟨bs,C⟩:=R.reads I u o;exact SeqAt.compareEq_shaped J C c r m ⟨.bl _,H,I,rfl,q⟩
theorem Bf(m:X.A.units+64<cLine):OpR X (compareOp .NotEq) (qK X.K true):=by
 intro G s M H x y v u Q I w o h;obtain⟨a,b,l,R,c,r,q⟩:=h;obtain⟨f,J⟩:=l.reads I v w;obtain⟨bs,C⟩:=R.reads I u o;exact SeqAt.compareNe_shaped J C c r m ⟨.bl _,H,I,rfl,q⟩
end
theorem BJ{K:Fg}:GOp K (qK K false) bP:=by
 intro x y H Q a b d l R e k;unfold bP at e;split at e
 .rename_i c
  cases e;simp only[Bool.and_eq_true]at c
  exact⟨a,b,l,R,c.1,c.2,k _ (.bl _)⟩
 .cases e
theorem BG{K:Fg}:GOp K (qK K true) cO:=by
 intro x y H Q a b d l R e k;unfold cO at e;split at e
 .rename_i c
  cases e;simp only[Bool.and_eq_true]at c
  exact⟨a,b,l,R,c.1,c.2,k _ (.bl _)⟩
 .cases e
def BM:D->D->Option D
 |.str i,.str j=>some (.bool (decide (i.cps.toList<j.cps.toList)))
 |_,_=>none
abbrev Ik:=zh λi j=>.bool (decide (i<j))
abbrev gG:D->D->Option D:=λa b=>(Ik a b).or (BM a b)
abbrev FD:=zh λi j=>.bool (decide (i<=j))
abbrev dS:=zh λi j=>.bool (decide (j<i))
abbrev JB:=zh λi j=>.bool (decide (j<=i))
theorem xK{K:Fg}:GOp K (λx y H Q=>∃i j,x=.str i/\y=.str j/\Q (.bl (decide (i.cps.toList<j.cps.toList))) H) BM:=by
 intro x y H Q a b d l R e k
 cases l<;>cases R<;>simp only[BM]at e<;>try cases e
 rename_i i j;exact⟨i,j,rfl,rfl,k _ (.bl _)⟩
theorem BH{K:Fg}:GOp K (λx y H Q=>pe (λi j=>.bl (decide (i<j))) x y H Q\/∃i j,x=.str i/\y=.str j/\Q (.bl (decide (i.cps.toList<j.cps.toList))) H) gG:=
 (Cs λ_ _=>.bl _).or xK
open PySem.SeqAt in
def bw(f:Bool):D->D->Option D
 |a,.list xs=>if shaped a&&shaped (.list xs)then some (.bool (if f then !xs.any λy=>PyData.eqv y a else xs.any λy=>PyData.eqv y a))else none
 |a,.tuple xs=>if shaped a&&shaped (.tuple xs)then some (.bool (if f then !xs.any λy=>PyData.eqv y a else xs.any λy=>PyData.eqv y a))else none
 |_,_=>none
def ub(K:Fg)(f:Bool):R2:=λx y H Q=>∃a b d,Rep K H x a/\Rep K H y b/\bw f a b=some (.bool d)/\Q (.bl d) H
theorem uS{K:Fg}{f:Bool}:GOp K (ub K f) (bw f):=by
 intro x y H Q a b d l R e k;have:∃c,d=.bool c:=by
  cases b<;>simp only[bw]at e<;>(try cases e)<;>(split at e<;>cases e<;>exact⟨_,rfl⟩)
 obtain⟨c,rfl⟩:=this;exact⟨a,b,c,l,R,e,k _ (.bl c)⟩
theorem E8{d:D}{Y:List D}(h:SeqAt.shaped d=true)(e:d=.list Y\/d=.tuple Y):PyData.canLayAll0 Y=true/\PyData.depthAll Y+1<=64:=by
 have J:=SeqAt.canLay_of_shaped h
 have S:=SeqAt.depth_of_shaped h
 rcases e with e|e<;>subst e<;>exact⟨by simpa[PyData.canLay0]using J,by simpa[PyData.depth]using S⟩
section
variable{X:Cx}
theorem Bj(m:X.A.units+64<cLine):OpR X (compareOp .In) (ub X.K false):=by
 intro G s M H x y v u Q I w o h;obtain⟨a,b,d,l,R,e,q⟩:=h;obtain⟨f,J⟩:=l.reads I v w;obtain⟨bs,C⟩:=R.reads I u o
 cases b<;>simp only[bw]at e<;>try cases e
 all_goals
  split at e
  .rename_i c
   simp only[Bool.and_eq_true]at c
   simp only[Option.some.injEq,PyData.bool.injEq]at e
   subst e;first
    | (obtain⟨P,z⟩:=E8 c.2 (.inl rfl)
       exact SeqAt.in_list_reads C J P (SeqAt.canLay_of_shaped c.1) (Nat.lt_of_le_of_lt (by have:=Nat.min_le_left (PyData.depthAll ‹_›) a.depth;omega) m) ⟨.bl _,H,I,rfl,q⟩)
    | (obtain⟨P,z⟩:=E8 c.2 (.inr rfl)
       exact SeqAt.in_tuple_reads C J P (SeqAt.canLay_of_shaped c.1) (Nat.lt_of_le_of_lt (by have:=Nat.min_le_left (PyData.depthAll ‹_›) a.depth;omega) m) ⟨.bl _,H,I,rfl,q⟩)
  .cases e
theorem qP(m:X.A.units+64<cLine):OpR X (compareOp .NotIn) (ub X.K true):=by
 intro G s M H x y v u Q I w o h;obtain⟨a,b,d,l,R,e,q⟩:=h;obtain⟨f,J⟩:=l.reads I v w;obtain⟨bs,C⟩:=R.reads I u o
 cases b<;>simp only[bw]at e<;>try cases e
 all_goals
  split at e
  .rename_i c
   simp only[Bool.and_eq_true]at c
   simp only[Option.some.injEq,PyData.bool.injEq]at e
   subst e;first
    | (obtain⟨P,z⟩:=E8 c.2 (.inl rfl)
       exact SeqAt.notIn_list_reads C J P (SeqAt.canLay_of_shaped c.1) (Nat.lt_of_le_of_lt (by have:=Nat.min_le_left (PyData.depthAll ‹_›) a.depth;omega) m) ⟨.bl _,H,I,rfl,q⟩)
    | (obtain⟨P,z⟩:=E8 c.2 (.inr rfl)
       exact SeqAt.notIn_tuple_reads C J P (SeqAt.canLay_of_shaped c.1) (Nat.lt_of_le_of_lt (by have:=Nat.min_le_left (PyData.depthAll ‹_›) a.depth;omega) m) ⟨.bl _,H,I,rfl,q⟩)
  .cases e
end
def WantsB(K:Fg)(W:XW)(d:Hp)(O:List Addr)(Z:List (List Addr))(H:Hp)(M:St)(Q:Bool->Hp->Prop)(o:Out Bool):Prop:=match o with
 |.ok b X=>∀Y u,Same H Y->EnvOk K d O u Y M X->(∀a∈u.flatten,a∈Z.flatten\/H a=none)->Q b Y
 |.er c X=>∀Y u,Same H Y->EnvOk K d O u Y M X->W c M Y
 |.no=>False
abbrev FB:=Ev->Out Bool
def tT(K:Fg)(W:XW)(f:FB):TT:=λM H Q=>∃a O Z C,EnvOk K a O Z H M C/\WantsB K W a O Z H M Q (f C)
section
variable{K:Fg}{W:XW}{He H H1:Hp}{O:List Addr}{Fs Fs1:List (List Addr)}{σ:St}{Γ Γ':Ev}{Q:VK}{QB:Bool->Hp->Prop}
theorem Wants.after{o:Out PV}(h:Wants K W He O Fs H σ Q o)(s:Same H H1)(n:∀a∈Fs1.flatten,a∈Fs.flatten\/H a=none):Wants K W He O Fs1 H1 σ Q o:=by
 cases o with
 |ok p Γ'=>exact λv Y G u A=>h v Y G u ⟨s.trans A.same,A.env,λa U=>(A.new a U).elim (n a) λz=>.inr (s.free z),A.own⟩
 |er c Γ'=>exact λY u e E=>h Y u (s.trans e) E
 |no=>exact h
theorem WantsB.after{o:Out Bool}(h:WantsB K W He O Fs H σ QB o)(s:Same H H1)(n:∀a∈Fs1.flatten,a∈Fs.flatten\/H a=none):WantsB K W He O Fs1 H1 σ QB o:=by
 cases o with
 |ok p Γ'=>exact λY u e E i=>h Y u (s.trans e) E λa U=>(i a U).elim (n a) λz=>.inr (s.free z)
 |er c Γ'=>exact λY u e E=>h Y u (s.trans e) E
 |no=>exact h
theorem Aft.go{p:PV}{v:V}{G:List Addr}(A:Aft K He O Fs H σ Γ' p v H1 G Fs1):EnvOk K He O Fs1 H1 σ Γ':=A.env.dropL
theorem Aft.newF{p:PV}{v:V}{G:List Addr}(A:Aft K He O Fs H σ Γ' p v H1 G Fs1):∀a∈Fs1.flatten,a∈Fs.flatten\/H a=none:=λa U=>A.new a (JF _ U)
end
section
variable{K:Fg}{W:XW}{σ:St}{H:Hp}{Q:VK}{QB:Bool->Hp->Prop}{fa fb fc:F1}{ga gb:FB}
def aG(g:D->Option Bool)(f:F1):FB:=λC=>(f C).bind λp X=>match g p.d with
 |some b=>.ok b X
 |none=>.no
theorem oQ{g:D->Option Bool}{R:VK}(h:tT K W (aG g fa) σ H QB)(a:∀v d b n,Rep K n v d->g d=some b->QB b n->R v n):tE K W fa σ H R:=by
 obtain⟨M,O,Z,C,E,h⟩:=h;refine⟨M,O,Z,C,E,?_⟩
 unfold aG at h
 cases e:fa C with
 |ok p X=>
  rw[e]at h;intro v Y G u A
  have h:WantsB K W M O Z H σ QB (match g p.d with|some b=>.ok b X|none=>.no):=h
  cases f:g p.d with
  |some b=>
   rw[f]at h;exact a v p.d b Y A.own.rep f (h Y u A.same A.go A.newF)
  |none=>rw[f]at h;exact h.elim
 |er c X=>rw[e]at h;exact h
 |no=>rw[e]at h;exact h
def aj:D->Option Bool
 |.bool b=>some b
 |_=>none
theorem wK{t:TE}(l:∀Q,tE K W fa σ H Q->t σ H Q)(h:tT K W (aG aj fa) σ H QB):yU t σ H QB:=by
 refine l _ (oQ h λv d b n r e q=>?_)
 cases r<;>simp only[aj]at e<;>try cases e
 exact⟨_,rfl,q⟩
def bI:D->Option Bool
 |.none=>some false
 |.bool b=>some b
 |.int i=>some (i != 0)
 |.str x=>if x.length<=sizeLine then some ((x.length:Int) != 0)else none
 |.list Y=>some (!Y.isEmpty)
 |.tuple Y=>some (!Y.isEmpty)
 |.dict _=>none
theorem Ao(h:tT K W (aG bI fa) σ H QB):tE K W fa σ H λx Y=>∃k,vw K x Y k/\QB k Y:=by
 refine oQ h λv d b n r e q=>?_
 cases r with
 |non=>cases e;exact⟨_,rfl,q⟩
 |bl c=>cases e;exact⟨_,rfl,q⟩
 |int i=>cases e;exact⟨_,rfl,q⟩
 |str x=>
  simp only[bI]at e
  split at e
  .rename_i z;cases e;exact⟨_,⟨z,rfl⟩,q⟩
  .cases e
 |@lst p vs ds hq hl _=>
  cases e;exact⟨_,.inl ⟨vs,hq,by cases vs<;>cases ds<;>simp_all⟩,q⟩
 |@tup p vs ds hq hl _=>
  cases e;exact⟨_,.inr (.inl ⟨vs,hq,by cases vs<;>cases ds<;>simp_all⟩),q⟩
def bK(a b:FB):FB:=λC=>(a C).bind λc X=>if c then b X else .ok false X
def fm(a b:FB):FB:=λC=>(a C).bind λc X=>if c then .ok true X else b X
def cQ(a:FB):FB:=λC=>(a C).bind λc X=>.ok (!c) X
theorem F6{k:Bool->Ev->Out Bool}{R:Bool->Hp->Prop}(h:tT K W (λC=>(ga C).bind k) σ H QB)(a:∀(M:Hp) (O:List Addr) I b H1 Fs1,Same H H1->EnvOk K M O Fs1 H1 σ I->WantsB K W M O Fs1 H1 σ QB (k b I)->R b H1):tT K W ga σ H R:=by
 obtain⟨M,O,Z,C,E,h⟩:=h;have h:WantsB K W M O Z H σ QB ((ga C).bind k):=h
 refine⟨M,O,Z,C,E,?_⟩
 cases e:ga C with
 |ok b I=>rw[e]at h;exact λY u s d n=>a M O I b Y u s d (WantsB.after (o:=k b I) h s n)
 |er c I=>rw[e]at h;exact h
 |no=>rw[e]at h;exact h
theorem WantsB.now{O:List Addr}{C:Ev}{b:Bool}(h:WantsB K W M O Z H σ QB (.ok b C))(E:EnvOk K M O Z H σ C):QB b H:=h H Z (Same.refl _) E λ_ z=>.inl z
theorem xg(h:tT K W (bK ga gb) σ H QB):DC (tT K W ga) (tT K W gb) σ H QB:=by
 refine F6 h λM O I b n N s E w=>?_
 cases b with
 |true=>exact kJ ⟨M,O,N,I,E,w⟩
 |false=>exact kK (WantsB.now w E)
theorem AG(h:tT K W (fm ga gb) σ H QB):IB (tT K W ga) (tT K W gb) σ H QB:=by
 refine F6 h λM O I b n N s E w=>?_
 cases b with
 |false=>exact kK ⟨M,O,N,I,E,w⟩
 |true=>exact kJ (WantsB.now w E)
theorem xf(h:tT K W (cQ ga) σ H QB):Dz (tT K W ga) σ H QB:=F6 h λM O I b n N s E w=>WantsB.now w E
def ff(M e:F1):F1:=aW M λp C=>match p.d with
 |.bool true=>e C
 |.bool false=>.ok ⟨.leaf,.bool false⟩ C
 |_=>.no
def CL(M e:F1):F1:=aW M λp C=>match p.d with
 |.bool true=>.ok ⟨.leaf,.bool true⟩ C
 |.bool false=>e C
 |_=>.no
def va(M:F1):F1:=aW M λp C=>match p.d with
 |.bool b=>.ok ⟨.leaf,.bool (!b)⟩ C
 |_=>.no
theorem AI(h:tE K W (ff fa fb) σ H Q):yW (tE K W fa) (tE K W fb) σ H Q:=by
 refine vO h λM O Z I p v n G N X A w=>?_
 have r:=A.own.rep
 obtain⟨s,d⟩:=p
 cases r with
 |bl b=>
  cases b with
  |true=>exact⟨true,rfl,kJ ⟨M,O,N,I,A.go,Wants.after w A.same A.newF⟩⟩
  |false=>exact⟨false,rfl,kK (Wants.scal w (.bl false) A.same A.env (λa U=>JF _ U) X A.newF)⟩
 |_=>exact w.elim
theorem DG(h:tE K W (CL fa fb) σ H Q):Dy (tE K W fa) (tE K W fb) σ H Q:=by
 refine vO h λM O Z I p v n G N X A w=>?_
 have r:=A.own.rep
 obtain⟨s,d⟩:=p
 cases r with
 |bl b=>
  cases b with
  |false=>exact⟨false,rfl,kK ⟨M,O,N,I,A.go,Wants.after w A.same A.newF⟩⟩
  |true=>exact⟨true,rfl,kJ (Wants.scal w (.bl true) A.same A.env (λa U=>JF _ U) X A.newF)⟩
 |_=>exact w.elim
theorem Au(h:tE K W (va fa) σ H Q):yV (tE K W fa) σ H Q:=by
 refine vO h λM O Z I p v n G N X A w=>?_
 have r:=A.own.rep
 obtain⟨s,d⟩:=p
 cases r with
 |bl b=>exact⟨b,rfl,Wants.scal w (.bl _) A.same A.env (λa U=>JF _ U) X A.newF⟩
 |_=>exact w.elim
def vJ(c:FB)(M e:F1):F1:=λC=>(c C).bind λb X=>if b then M X else e X
theorem DH(h:tE K W (vJ ga fa fb) σ H Q):IC (tT K W ga) (tE K W fa) (tE K W fb) σ H Q:=by
 obtain⟨M,O,Z,C,E,h⟩:=h;refine⟨M,O,Z,C,E,?_⟩
 unfold vJ at h
 cases e:ga C with
 |ok b I=>
  rw[e]at h;intro Y u s R n
  have j:=Wants.after (o:=if b then fa I else fb I) h s n
  cases b with
  |true=>exact kJ ⟨M,O,u,I,R,j⟩
  |false=>exact kK ⟨M,O,u,I,R,j⟩
 |er c I=>rw[e]at h;exact h
 |no=>rw[e]at h;exact h
def zw(g S:D->D->Option D)(M e n:F1):F1:=aW M λp=>aW e λq=>λC=>match g p.d q.d with
 |some (.bool true)=>if aV q.d then(n C).bind λz X=>(match S q.d z.d with|some d=>.ok ⟨.leaf,d⟩ X|none=>.no)else .no
 |some (.bool false)=>.ok ⟨.leaf,.bool false⟩ C
 |_=>.no
theorem tZ{r r':R2}{g S:D->D->Option D}(l:GOp K r g)(k:GOp K r' S)(h:tE K W (zw g S fa fb fc) σ H Q):tw r r' (tE K W fa) (tE K W fb) (tE K W fc) σ H Q:=by
 refine Cw h ?_
 intro M O Z o p q v u n A G1 L Fs2 nd y N E m o1 o2 w;have sub:∀a∈O,a∈L++(G1++O):=λa U=>JF _ (JF _ U)
 have newF:∀a∈Fs2.flatten,a∈Z.flatten\/H a=none:=λa U=>m a (JF _ (JF _ U))
 cases e:g p.d q.d with
 |none=>rw[e]at w;exact w.elim
 |some d=>
  rw[e]at w;refine l v u A _ p.d q.d d o1.rep o2.rep e λz s=>?_
  cases s with
  |bl b=>
   cases b with
   |false=>exact⟨false,rfl,kK (Wants.scal w (.bl false) (y.trans N) E sub nd newF)⟩
   |true=>
    refine⟨true,rfl,kJ ?_⟩
    have w:Wants K W M O Z H σ Q (if aV q.d then(fc o).bind λz X=>(match S q.d z.d with|some d=>.ok ⟨.leaf,d⟩ X|none=>.no)else .no):=w
    cases P:aV q.d with
    |false=>rw[P]at w;exact w.elim
    |true=>
     rw[P]at w;have w:Wants K W M O Z H σ Q ((fc o).bind λz X=>(match S q.d z.d with|some d=>.ok ⟨.leaf,d⟩ X|none=>.no)):=w
     have C:=o2.rep.sc P
     refine⟨M,O,Fs2,o,E.drop sub nd,?_⟩
     cases e3:fc o with
     |ok p3 G=>
      rw[e3]at w;intro v3 t J I f;have w:Wants K W M O Z H σ Q (match S q.d p3.d with|some d=>.ok ⟨.leaf,d⟩ G|none=>.no):=w
      cases j:S q.d p3.d with
      |none=>rw[j]at w;exact w.elim
      |some d4=>
       rw[j]at w;exact k u v3 t Q q.d p3.d d4 C.rep f.own.rep j λz s=>Wants.scal w s ((y.trans N).trans f.same) f.env (λa U=>JF _ U) nd λa U=>(f.new a (JF _ U)).elim (newF a) λz=>.inr ((y.trans N).free z)
     |er c G=>
      rw[e3]at w;exact λY Fs' s R=>w Y Fs' ((y.trans N).trans s) R
     |no=>rw[e3]at w;exact w
  |non=>exact w.elim
  |int i=>exact w.elim
  |str x=>exact w.elim
end
structure AftL(K:Fg)(He:Hp)(O:List Addr)(Fs:List (List Addr))(H:Hp)(σ:St)(Γ':Ev)(ps:List PV)(vs:List V)(H':Hp)(Gs Fs':List (List Addr)):Prop where
 same:Same H H'
 len1:vs.length=ps.length
 len2:Gs.length=ps.length
 env:EnvOk K He (Gs.flatten++O) Fs' H' σ Γ'
 new:∀a∈Gs.flatten++Fs'.flatten,a∈Fs.flatten\/H a=none
 own:∀(i:Nat) v p G,vs[i]?=some v->ps[i]?=some p->Gs[i]?=some G->Own K (Gs.flatten++O++Fs'.flatten) H' p.s G v p.d
abbrev FL:=Ev->Out (List PV)
def vt(K:Fg)(W:XW)(a:Hp)(O:List Addr)(Z:List (List Addr))(H:Hp)(M:St)(Q:List V->Hp->Prop)(o:Out (List PV)):Prop:=match o with
 |.ok G X=>∀L Y q u,AftL K a O Z H M X G L Y q u->Q L Y
 |.er c X=>∀Y u,Same H Y->EnvOk K a O u Y M X->W c M Y
 |.no=>False
def tA(K:Fg)(W:XW)(f:FL):TA:=λM H Q=>∃a O Z C,EnvOk K a O Z H M C/\vt K W a O Z H M Q (f C)
def ah:FL:=λC=>.ok [] C
def ae(M:F1)(b:FL):FL:=λC=>(M C).bind λp I=>(b I).bind λG o=>.ok (p::G) o
section
variable{K:Fg}{W:XW}{σ:St}{H:Hp}{Q:VK}{QL:List V->Hp->Prop}{fa fb:F1}{fl:FL}
theorem Av(h:tA K W ah σ H QL):ja σ H QL:=by
 obtain⟨M,O,Z,C,E,h⟩:=h;exact h [] H [] Z ⟨Same.refl _,rfl,rfl,by simpa using E,λa U=>.inl (by simpa using U),λi v p G e=>by simp at e⟩
theorem jU{m:Type}(A B C:List m):(A++(B++C)).Perm (B++(A++C)):=by
 rw[<-append_assoc,<-append_assoc];exact List.Perm.append_right _ perm_append_comm
theorem EnvOk.perm{H:Hp}{O c:List Addr}{C:Ev}(E:EnvOk K M O Z H σ C)(p:c.Perm O):EnvOk K M c Z H σ C:=E.drop (λa U=>p.mem_iff.mp U) (p.nodup_iff.mpr E.ndO)
theorem Own.perm{H:Hp}{O c:List Addr}{s:Sh}{G:List Addr}{v:V}{d:D}(h:Own K O H s G v d)(p:∀a∈c,a∈O):Own K c H s G v d:=h.mono (Same.refl _) λa U=>.inl (p a U)
theorem xb(h:tA K W (ae fa fl) σ H QL):cV (tE K W fa) (tA K W fl) σ H QL:=by
 obtain⟨M,O,Z,C,E,h⟩:=h;refine⟨M,O,Z,C,E,?_⟩
 unfold ae at h
 cases e:fa C with
 |ok p I=>
  rw[e]at h;intro v n Y N d;refine⟨M,Y++O,N,I,d.env,?_⟩
  have h:vt K W M O Z H σ QL ((fl I).bind λl o=>.ok (p::l) o):=h
  cases R:fl I with
  |ok l o=>
   rw[R]at h;intro L A f r b;have k:((Y::f).flatten++O).Perm (f.flatten++(Y++O)):=by
    rw[flatten_cons,append_assoc];exact jU _ _ _
   refine h (v::L) A (Y::f) r ⟨d.same.trans b.same,by simp[b.len1],by simp[b.len2],b.env.perm k,λa U=>?_,λi u q G J S j=>?_⟩
   .rcases JH U with z|z
    .rw[flatten_cons]at z
     rcases JH z with z|z
     .exact d.new a (JG _ z)
     .exact(b.new a (JG _ z)).elim (λy=>d.new a (JF _ y)) λy=>.inr (d.same.free y)
    .exact(b.new a (JF _ z)).elim (λy=>d.new a (JF _ y)) λy=>.inr (d.same.free y)
   .have g:∀a∈(Y::f).flatten++O++r.flatten,a∈f.flatten++(Y++O)++r.flatten:=λa U=>by
     rcases JH U with z|z
     .exact JG _ (k.mem_iff.mp z)
     .exact JF _ z
    cases i with
    |zero=>
     simp at J S j
     subst J S j;refine(d.own.mono b.same λa U=>?_).perm g
     rcases JH U with z|z
     .rcases JH z with z|z
      .exact(b.new a (JG _ z)).elim (λy=>.inl (JF _ y)) .inr
      .exact .inl (JG _ z)
     .exact(b.new a (JF _ z)).elim (λy=>.inl (JF _ y)) .inr
    |succ i=>
     simp at J S j
     exact(b.own i u q G J S j).perm g
  |er c o=>
   rw[R]at h;exact λA r s m=>h A r (d.same.trans s) m.dropL
  |no=>rw[R]at h;exact h
 |er c I=>rw[e]at h;exact h
 |no=>rw[e]at h;exact h
theorem AftL.reps{O:List Addr}{X:Ev}{G:List PV}{L:List V}{Y:Hp}(A:AftL K M O Z H σ X G L Y q u):Reps K Y L (G.map (·.d)):=by
 refine⟨by rw[length_map];exact A.len1,λi v d J S=>?_⟩
 rw[getElem?_map]at S
 cases e:G[i]? with
 |none=>rw[e]at S;cases S
 |some p=>
  rw[e]at S
  cases S;have l:=(JN e).1
  exact(A.own i v p (q[i]'(by rw[A.len2];exact l)) J e (JJ _)).rep
def bc(g:List D->Option D)(b:FL):F1:=λC=>(b C).bind λG X=>match g (G.map (·.d))with
 |some d=>.ok ⟨.leaf,d⟩ X
 |none=>.no
def GCall(K:Fg)(r:List V->Hp->VK->Prop)(g:List D->Option D):Prop:=∀L H Q t d,Reps K H L t->g t=some d->(∀v,Sc v d->Q v H)->r L H Q
theorem o7{r:List V->Hp->VK->Prop}{g:List D->Option D}(l:GCall K r g)(h:tE K W (bc g fl) σ H Q):CJ r (tA K W fl) σ H Q:=by
 obtain⟨M,O,Z,C,E,h⟩:=h;refine⟨M,O,Z,C,E,?_⟩
 unfold bc at h
 cases e:fl C with
 |ok G X=>
  rw[e]at h;intro L Y q u A
  have h:Wants K W M O Z H σ Q (match g (G.map (·.d))with|some d=>.ok ⟨.leaf,d⟩ X|none=>.no):=h
  cases R:g (G.map (·.d))with
  |none=>rw[R]at h;exact h.elim
  |some d=>
   rw[R]at h;exact l L Y Q _ d A.reps R λv s=>Wants.scal h s A.same A.env (λa U=>JF _ U) E.ndO λa U=>A.new a (JF _ U)
 |er c X=>rw[e]at h;exact h
 |no=>rw[e]at h;exact h
theorem GCall.or{r r':List V->Hp->VK->Prop}{g g':List D->Option D}(h:GCall K r g)(j:GCall K r' g'):GCall K (λY H Q=>r Y H Q\/r' Y H Q) (λt=>(g t).or (g' t)):=by
 intro L H Q t d l e k;have e:(g t).or (g' t)=some d:=e
 cases a:g t with
 |some z=>rw[a]at e;cases e;exact .inl (h L H Q t _ l a k)
 |none=>rw[a]at e;exact .inr (j L H Q t d l (by simpa using e) k)
theorem Reps.one{L:List V}{d:D}(h:Reps K H L [d]):∃v,L=[v]/\Rep K H v d:=by
 obtain⟨N,h⟩:=h;match L,N with
 |[v],_=>exact⟨v,rfl,h 0 v d rfl rfl⟩
theorem Reps.two{L:List V}{d e:D}(h:Reps K H L [d,e]):∃v u,L=[v,u]/\Rep K H v d/\Rep K H u e:=by
 obtain⟨N,h⟩:=h;match L,N with
 |[v,u],_=>exact⟨v,u,rfl,h 0 v d rfl rfl,h 1 u e rfl rfl⟩
end
def zg:List D->Option D
 |[.list xs]=>some (.int xs.length)
 |[.tuple xs]=>some (.int xs.length)
 |_=>none
def uY:List D->Option D
 |[.str x]=>if x.length<=sizeLine then some (.int x.length)else none
 |_=>none
abbrev aI:List D->Option D:=λt=>(zg t).or (uY t)
theorem BK{K:Fg}:GCall K (λY H Q=>(∃p U,Y=[.ref p]/\(SqL K H p U\/SqT K H p U)/\Q (.int U.length) H)\/∃z,Y=[.str z]/\z.length<=sizeLine/\Q (.int z.length) H) aI:=by
 refine GCall.or (g:=zg) (g':=uY) (r:=λY H Q=>∃p U,Y=[.ref p]/\(SqL K H p U\/SqT K H p U)/\Q (.int U.length) H) (r':=λY H Q=>∃z,Y=[.str z]/\z.length<=sizeLine/\Q (.int z.length) H) ?_ ?_
 .intro L H Q t d l e k
  match t,e with
  |[.list Y],e=>
   obtain⟨v,rfl,r⟩:=l.one
   cases e
   cases r with
   |@lst p us _ hq hl _=>exact⟨p,us,rfl,.inl hq,by rw[hl];exact k _ (.int _)⟩
  |[.tuple Y],e=>
   obtain⟨v,rfl,r⟩:=l.one
   cases e
   cases r with
   |@tup p us _ hq hl _=>exact⟨p,us,rfl,.inr hq,by rw[hl];exact k _ (.int _)⟩
 .intro L H Q t d l e k
  match t,e with
  |[.str x],e=>
   obtain⟨v,rfl,r⟩:=l.one;simp only[uY]at e
   split at e
   .rename_i z
    cases e
    cases r;exact⟨x,rfl,z,k _ (.int _)⟩
   .cases e
def uZ:List D->Option D
 |[.int i]=>some (.int i)
 |[.bool b]=>some (.int (if b then 1 else 0))
 |_=>none
theorem BL{K:Fg}:GCall K (λY H Q=>(∃i,Y=[.int i]/\Q (.int i) H)\/∃k,Y=[.bl k]/\Q (.int (if k then 1 else 0)) H) uZ:=by
 intro L H Q t d l e k;match t,e with
 |[.int i],e=>
  obtain⟨v,rfl,r⟩:=l.one
  cases e;cases r;exact .inl ⟨i,rfl,k _ (.int _)⟩
 |[.bool b],e=>
  obtain⟨v,rfl,r⟩:=l.one
  cases e;cases r;exact .inr ⟨b,rfl,k _ (.int _)⟩
def JA:List D->Option D
 |[.int i,.int j]=>some (.int (if j>i then j else i))
 |_=>none
def sE:List D->Option (List Bool)
 |[]=>some []
 |.bool b::r=>(sE r).map (b :: ·)
 |_=>none
theorem iV:∀{t:List D}{bs:List Bool},sE t=some bs->t=bs.map PyData.bool
 |[],bs,h=>by cases h;rfl
 |.bool b::r,bs,h=>by
  simp only[sE]at h
  cases e:sE r with
  |none=>rw[e]at h;cases h
  |some o=>rw[e]at h;cases h;rw[iV e];rfl
 |.none::_,_,h=>by cases h
 |.int _::_,_,h=>by cases h
 |.str _::_,_,h=>by cases h
 |.list _::_,_,h=>by cases h
 |.tuple _::_,_,h=>by cases h
 |.dict _::_,_,h=>by cases h
def cL(any:Bool):List D->Option D
 |[.list xs]=>(sE xs).map λbs=>.bool (if any then bs.any id else bs.all id)
 |_=>none
theorem iB{K:Fg}{H:Hp}:∀{vs:List V}{bs:List Bool},Reps K H vs (bs.map PyData.bool)->vs=bs.map V.bl
 |[],[],_=>rfl
 |v::vs,b::bs,⟨hl,h⟩=>by
  have r:=h 0 v (.bool b) rfl rfl
  cases r;rw[iB (bs:=bs) (vs:=vs) ⟨by simpa using hl,λi v d J S=>h (i+1) v d (by simpa using J) (by simpa using S)⟩]
  rfl
 |[],_::_,⟨hl,_⟩=>by simp at hl
 |_::_,[],⟨hl,_⟩=>by simp at hl
def AQ(K:Fg)(any:Bool):List V->Hp->VK->Prop:=λY H Q=>∃(p:Addr)(bs:List Bool),Y=[.ref p]/\SqL K H p (bs.map V.bl)/\Q (.bl (if any then bs.any id else bs.all id)) H
theorem uW{K:Fg}{any:Bool}:GCall K (AQ K any) (cL any):=by
 intro L H Q t d l e k;match t,e with
 |[.list xs],e=>
  obtain⟨v,rfl,r⟩:=l.one;simp only[cL]at e
  cases a:sE xs with
  |none=>rw[a]at e;cases e
  |some bs=>
   rw[a]at e
   cases e;have:=iV a
   subst this
   cases r with
   |@lst p us _ hq hl hr=>
    have:=iB ⟨hl,hr⟩
    subst this;exact⟨p,bs,rfl,hq,k _ (.bl _)⟩
section
variable{X:Cx}
theorem kc:∀{g:List Value},Vals (bs.map V.bl) g->g=bs.map Value.bool:=by
 induction bs with
 |nil=>intro g h;cases h;rfl
 |cons b bs E=>
  intro g h
  cases h with
  |cons r t=>
   cases(show _=Value.bool b from r)
   rw[E t];rfl
theorem jS(bs:List Bool):(List.range bs.length).all (λi=>bs.getD i false)=bs.all id:=by
 rw[Bool.eq_iff_iff,all_eq_true,all_eq_true];constructor
 .intro h b Z
  obtain⟨i,l,e⟩:=List.mem_iff_getElem.mp Z;have:=h i (List.mem_range.mpr l)
  rw[JK,JJ l]at this;rw[<-e];simpa using this
 .intro h i l
  have l:=List.mem_range.mp l
  rw[JK,JJ l];exact h _ (getElem_mem l)
theorem qJ(bs:List Bool):(List.range bs.length).any (λi=>bs.getD i false)=bs.any id:=by
 rw[Bool.eq_iff_iff,any_eq_true,any_eq_true];constructor
 .rintro⟨i,l,h⟩
  have l:=List.mem_range.mp l
  rw[JK,JJ l]at h;exact⟨_,getElem_mem l,h⟩
 .rintro⟨b,Z,h⟩
  obtain⟨i,l,e⟩:=List.mem_iff_getElem.mp Z;refine⟨i,List.mem_range.mpr l,?_⟩
  rw[JK,JJ l,e];exact h
theorem gk{o:Program}{w:World}:TruthOf o w A (λi v=>(bs.map Value.bool).toArray[i]?=some v) (λi=>bs.getD i false):=by
 intro i v s Q E N k;simp only[getElem?_toArray,getElem?_map]at N
 cases e:bs[i]? with
 |none=>rw[e]at N;cases N
 |some b=>
  rw[e]at N
  cases N;have k:Q (bs.getD i false) s:=k
  rw[JK,e]at k;exact wpAny_truthy_bool k
theorem rY(f:X.calm=true):CallR X (.builtin "all") (AQ X.K false):=by
 intro G s M H L S Q I c h;obtain⟨p,bs,rfl,k,q⟩:=h;obtain⟨u,rfl,E⟩:=vals1 c
 cases E;obtain⟨g,c,d,P⟩:=I.list k;have:=kc c
 subst this;have U:=I.ok.hd f
 refine call_all_walk (wpAny_pyIter_list d.isList ?_)
 have t:p≠s.heap.objs.size:=by
  obtain⟨o,n,e,_⟩:=d;exact Nat.ne_of_lt (Heap.lt_size e)
 refine⟨s.heap.objs.size,_,_,_,_,_,λi=>bs.getD i false,rfl,Walks.list (prog:=X.prog) (w:=X.w) (A:=X.A.in1) U s.heap.objs.size p t (bs.map Value.bool).toArray,⟨⟨_,Heap.get?_push_size _ rfl,rfl,rfl⟩,d.isList.at λo e=>JQ _ e⟩,gk,λh' C O=>?_⟩
 refine⟨.bl _,H,I.kept (h':=h') (t':=C) λb o e=>O b o (λz=>?_) (JQ _ e),rfl,?_⟩
 .have z:b=s.heap.objs.size:=by simpa using z
  exact absurd (Heap.lt_size e) (by rw[z];exact Nat.lt_irrefl _)
 .rw[size_toArray,length_map,jS]
  exact q
theorem rW(f:X.calm=true):CallR X (.builtin "any") (AQ X.K true):=by
 intro G s M H L S Q I c h;obtain⟨p,bs,rfl,k,q⟩:=h;obtain⟨u,rfl,E⟩:=vals1 c
 cases E;obtain⟨g,c,d,P⟩:=I.list k;have:=kc c
 subst this;have U:=I.ok.hd f
 refine call_any_walk (wpAny_pyIter_list d.isList ?_)
 have t:p≠s.heap.objs.size:=by
  obtain⟨o,n,e,_⟩:=d;exact Nat.ne_of_lt (Heap.lt_size e)
 refine⟨s.heap.objs.size,_,_,_,_,_,λi=>bs.getD i false,rfl,Walks.list (prog:=X.prog) (w:=X.w) (A:=X.A.in1) U s.heap.objs.size p t (bs.map Value.bool).toArray,⟨⟨_,Heap.get?_push_size _ rfl,rfl,rfl⟩,d.isList.at λo e=>JQ _ e⟩,gk,λh' C O=>?_⟩
 refine⟨.bl _,H,I.kept (h':=h') (t':=C) λb o e=>O b o (λz=>?_) (JQ _ e),rfl,?_⟩
 .have z:b=s.heap.objs.size:=by simpa using z
  exact absurd (Heap.lt_size e) (by rw[z];exact Nat.lt_irrefl _)
 .rw[size_toArray,length_map,qJ]
  exact q
end
def ni(s:Sh)(j:Nat)(d:D):Option Sh:=match s with
 |.leaf=>some .leaf
 |.view=>some (if aV d then .leaf else .view)
 |.lst s=>some s
 |.tup o=>o[j]?
def aq(M e:F1):F1:=aW M λp=>aW e λq=>λC=>match q.d with
 |.int i=>(match p.d with
  |.list t=>(match dg t.length i with
   |some j=>(match t[j]? with
    |some d=>(match ni p.s j d with
     |some s=>.ok ⟨s,d⟩ C
     |none=>.no)
    |none=>.no)
   |none=>.no)
  |.tuple t=>(match dg t.length i with
   |some j=>(match t[j]? with
    |some d=>(match ni p.s j d with
     |some s=>.ok ⟨s,d⟩ C
     |none=>.no)
    |none=>.no)
   |none=>.no)
  |.str z=>if z.length<=sizeLine then(match dU z.cps.toList i with
   |some c=>.ok ⟨.leaf,.str ⟨#[c]⟩⟩ C
   |none=>.no)else .no
  |_=>.no)
 |_=>.no
theorem Own.item{K:Fg}{O:List Addr}{H:Hp}{s i:Sh}{G:List Addr}{p:Addr}{t:List D}{j:Nat}{d:D}(h:Own K O H s G (.ref p) (.list t))(g:t[j]?=some d)(P:ni s j d=some i):∃L v f,SqL K H p L/\L.length=t.length/\L[j]?=some v/\(∀a∈f,a∈G)/\f.Nodup/\Own K O H i f v d:=by
 have l:=(JN g).1
 cases h with
 |view r=>
  cases r with
  |@lst _ L _ hq hl hr=>
   have R:L[j]?=some (L[j]'(by omega)):=JJ _
   have E:=hr j _ d R g
   simp only[ni,Option.some.injEq]at P
   cases e:aV d with
   |true=>
    rw[e]at P
    cases P;exact⟨L,_,[],hq,hl,R,(λ_ z=>nomatch z),nodup_nil,.leaf (E.sc e).rep⟩
   |false=>
    rw[e]at P
    cases P;exact⟨L,_,[],hq,hl,R,(λ_ z=>nomatch z),nodup_nil,.view E⟩
 |leaf r=>
  cases r with
  |@lst _ L _ hq hl hr=>
   have R:L[j]?=some (L[j]'(by omega)):=JJ _
   cases P;exact⟨L,_,[],hid_le.seq hq,hl,R,(λ_ z=>nomatch z),nodup_nil,.leaf (hr j _ d R g)⟩
 |@lst s₀ _ L _ Fs R hp hl hf nd hr=>
  have c:L[j]?=some (L[j]'(by omega)):=JJ _
  have b:Fs[j]?=some (Fs[j]'(by omega)):=JJ _
  cases P;refine⟨L,_,_,.of hp,hl,c,λa U=>JL _ (gh b U),?_,hr j _ d _ c g b⟩
  exact((List.nodup_cons.mp nd).2).sublist (List.sublist_flatten_of_mem (mem_of_getElem? b))
theorem Own.itemT{K:Fg}{O:List Addr}{H:Hp}{s i:Sh}{G:List Addr}{p:Addr}{t:List D}{j:Nat}{d:D}(h:Own K O H s G (.ref p) (.tuple t))(g:t[j]?=some d)(P:ni s j d=some i):∃L v f,SqT K H p L/\L.length=t.length/\L[j]?=some v/\(∀a∈f,a∈G)/\f.Nodup/\Own K O H i f v d:=by
 have l:=(JN g).1
 cases h with
 |view r=>
  cases r with
  |@tup _ L _ hq hl hr=>
   have R:L[j]?=some (L[j]'(by omega)):=JJ _
   have E:=hr j _ d R g
   simp only[ni,Option.some.injEq]at P
   cases e:aV d with
   |true=>
    rw[e]at P
    cases P;exact⟨L,_,[],hq,hl,R,(λ_ z=>nomatch z),nodup_nil,.leaf (E.sc e).rep⟩
   |false=>
    rw[e]at P
    cases P;exact⟨L,_,[],hq,hl,R,(λ_ z=>nomatch z),nodup_nil,.view E⟩
 |leaf r=>
  cases r with
  |@tup _ L _ hq hl hr=>
   have R:L[j]?=some (L[j]'(by omega)):=JJ _
   cases P;exact⟨L,_,[],pW hid_le hq,hl,R,(λ_ z=>nomatch z),nodup_nil,.leaf (hr j _ d R g)⟩
 |@tup ss _ L _ Fs R hp hn hl hf hl2 nd hr=>
  have c:L[j]?=some (L[j]'(by omega)):=JJ _
  have b:Fs[j]?=some (Fs[j]'(by omega)):=JJ _
  have P:ss[j]?=some i:=P
  refine⟨L,_,_,.of hp,hl,c,λa U=>gh b U,?_,hr j _ d _ _ c g b P⟩
  exact nd.sublist (List.sublist_flatten_of_mem (mem_of_getElem? b))
theorem Wants.part{K:Fg}{W:XW}{M:St}{g H A:Hp}{O G f:List Addr}{c r:List (List Addr)}{X:Ev}{Q:VK}{s:Sh}{v:V}{d:D}(h:Wants K W g O c H M Q (.ok ⟨s,d⟩ X))(e:Same H A)(E:EnvOk K g (G++O) r A M X)(n:∀a∈f,a∈G)(j:f.Nodup)(m:∀a∈G++r.flatten,a∈c.flatten\/H a=none)(o:Own K (G++O++r.flatten) A s f v d):Q v A:=by
 have i:∀a∈f++O,a∈G++O:=λa U=>by
  rcases JH U with z|z
  .exact JG _ (n a z)
  .exact JF _ z
 obtain⟨t,k,l⟩:=JM E.ndO;refine h v A f r ⟨e,E.drop i (List.nodup_append.mpr ⟨j,k,λa U b Z=>l a (n a U) b Z⟩),λa U=>m a ?_,o.perm λa U=>?_⟩
 .rcases JH U with z|z
  .exact JG _ (n a z)
  .exact JF _ z
 .rcases JH U with z|z
  .exact JG _ (i a z)
  .exact JF _ z
theorem FR{m d:Type}{Y:List m}{U:List d}{i:Int}{j:Nat}{v:m}(N:Y.length=U.length)(h:dg U.length i=some j)(R:Y[j]?=some v):dU Y i=some v:=by
 unfold dU;rw[N,h];exact R
section
variable{K:Fg}{W:XW}{σ:St}{H:Hp}{Q:VK}{fa fb:F1}
theorem Az(h:tE K W (aq fa fb) σ H Q):qx (AL K) (tE K W fa) (tE K W fb) σ H Q:=by
 refine Cw h ?_
 intro M O Z o p q v u n A Y G2 r X y N E m e o2 w;obtain⟨G,pd⟩:=p;obtain⟨qs,qd⟩:=q;have ri:=o2.rep
 cases qd<;>try exact w.elim
 rename_i i
 cases ri;have E':EnvOk K M ((G2++Y)++O) r A σ o:=by rw[append_assoc];exact E
 have l:∀a∈(G2++Y)++r.flatten,a∈Z.flatten\/H a=none:=λa U=>m a (by rw[<-append_assoc];exact U)
 have o1':Own K ((G2++Y)++O++r.flatten) A G Y v pd:=e.perm λa U=>by rw[append_assoc G2]at U;exact U
 have rp:=e.rep
 cases pd with
 |list t=>
  obtain⟨p0,rfl⟩:∃p0,v=.ref p0:=by cases rp;exact⟨_,rfl⟩
  have w:Wants K W M O Z H σ Q (match dg t.length i with|some j=>(match t[j]? with|some d=>(match ni G j d with|some s=>.ok ⟨s,d⟩ o|none=>.no)|none=>.no)|none=>.no):=w
  cases g:dg t.length i with
  |none=>rw[g]at w;exact w.elim
  |some j=>
   rw[g]at w;have w:Wants K W M O Z H σ Q (match t[j]? with|some d=>(match ni G j d with|some s=>.ok ⟨s,d⟩ o|none=>.no)|none=>.no):=w
   cases R:t[j]? with
   |none=>rw[R]at w;exact w.elim
   |some d=>
    rw[R]at w;have w:Wants K W M O Z H σ Q (match ni G j d with|some s=>.ok ⟨s,d⟩ o|none=>.no):=w
    cases e3:ni G j d with
    |none=>rw[e3]at w;exact w.elim
    |some s=>
     rw[e3]at w;obtain⟨L,C,f,J,S,I,x,h5,h6⟩:=o1'.item R e3
     exact .inl ⟨p0,L,i,C,rfl,rfl,J,FR S g I,Wants.part w (y.trans N) E' (λa U=>JF _ (x a U)) h5 l h6⟩
 |tuple t=>
  obtain⟨p0,rfl⟩:∃p0,v=.ref p0:=by cases rp;exact⟨_,rfl⟩
  have w:Wants K W M O Z H σ Q (match dg t.length i with|some j=>(match t[j]? with|some d=>(match ni G j d with|some s=>.ok ⟨s,d⟩ o|none=>.no)|none=>.no)|none=>.no):=w
  cases g:dg t.length i with
  |none=>rw[g]at w;exact w.elim
  |some j=>
   rw[g]at w;have w:Wants K W M O Z H σ Q (match t[j]? with|some d=>(match ni G j d with|some s=>.ok ⟨s,d⟩ o|none=>.no)|none=>.no):=w
   cases R:t[j]? with
   |none=>rw[R]at w;exact w.elim
   |some d=>
    rw[R]at w;have w:Wants K W M O Z H σ Q (match ni G j d with|some s=>.ok ⟨s,d⟩ o|none=>.no):=w
    cases e3:ni G j d with
    |none=>rw[e3]at w;exact w.elim
    |some s=>
     rw[e3]at w;obtain⟨L,C,f,J,S,I,x,h5,h6⟩:=o1'.itemT R e3
     exact .inr (.inl ⟨p0,L,i,C,rfl,rfl,J,FR S g I,Wants.part w (y.trans N) E' (λa U=>JF _ (x a U)) h5 l h6⟩)
 |str z=>
  cases rp;have w:Wants K W M O Z H σ Q (if z.length<=sizeLine then(match dU z.cps.toList i with|some c=>.ok ⟨.leaf,.str ⟨#[c]⟩⟩ o|none=>.no)else .no):=w
  by_cases P:z.length<=sizeLine
  .rw[if_pos P]at w
   cases g:dU z.cps.toList i with
   |none=>rw[g]at w;exact w.elim
   |some c=>
    rw[g]at w;exact .inr (.inr ⟨z,i,c,rfl,rfl,P,g,Wants.scal w (.str _) (y.trans N) E (λa U=>JF _ (JF _ U)) X λa U=>m a (JF _ (JF _ U))⟩)
  .rw[if_neg P]at w
   exact w.elim
 |none=>exact w.elim
 |bool b=>exact w.elim
 |int k=>exact w.elim
 |dict k=>exact w.elim
end
theorem mw(s:Sh):∀q:List (List Addr),((q.map (aT s)).flatten).Sublist q.flatten
 |[]=>List.Sublist.refl _
 |G::q=>by
  simp only[map_cons,flatten_cons]
  refine List.Sublist.append ?_ (mw s q)
  unfold aT;split
  .exact nil_sublist _
  .exact List.Sublist.refl _
theorem j0:∀q:List (List Addr),(q.map (aT .leaf)).flatten=[]
 |[]=>rfl
 |_::q=>by simp only[map_cons,flatten_cons,j0 q];rfl
section
variable{K:Fg}{W:XW}{σ:St}{He H H':Hp}{O:List Addr}{Fs Fs' Gs:List (List Addr)}{Γ':Ev}{ps:List PV}{vs:List V}{Q:VK}
theorem AftL.newList{s:Sh}{p:Addr}(A:AftL K He O Fs H σ Γ' ps vs H' Gs Fs')(P:s.isView=false)(f:ps.all (T.coer s)=true)(y:H' p=none):Aft K He O Fs H σ Γ' ⟨.lst s,.list (ps.map (·.d))⟩ (.ref p) (bF H' p (.lst vs)) (p::(Gs.map (aT s)).flatten) Fs':=by
 obtain⟨t,k,m⟩:=JM A.env.ndO;obtain⟨C,E,n⟩:=JM A.env.nd;have c:=mw s Gs
 have x:EnvOk K He ((Gs.map (aT s)).flatten++O) Fs' H' σ Γ':=A.env.drop (λa U=>by
   rcases JH U with z|z
   .exact JG _ (c.subset z)
   .exact JF _ z) (List.nodup_append.mpr ⟨t.sublist c,k,λa U b Z=>m a (c.subset U) b Z⟩)
 have l:=x.hide (G:=[p]) (i3 (o:=.lst vs) y) (by simp) (λa U=>by simp at U;rw[U];exact y) (λa U=>by simp at U;rw[U,fT];exact Option.some_ne_none _)
 have h:∀{a},a∈Gs.flatten++O++Fs'.flatten->a≠p:=λ{a} U z=>A.env.inH a U (by rw[z];exact y)
 refine⟨A.same.trans (i3 y),l,λa U=>?_,?_⟩
 .rcases JH U with z|z
  .rcases JI z with z|z
   .rw[z];exact .inr (A.same.free y)
   .exact A.new a (JG _ (c.subset z))
  .exact A.new a (JF _ z)
 .refine .lst P fT (by rw[length_map];exact A.len1) (by rw[length_map,length_map];exact A.len2) ?_ λi v d F J S I=>?_
  .refine List.nodup_cons.mpr ⟨λz=>h (JG _ (JG _ (c.subset z))) rfl,t.sublist c⟩
  .rw[getElem?_map]at S I
   cases R:ps[i]? with
   |none=>rw[R]at S;cases S
   |some q=>
    cases w:Gs[i]? with
    |none=>rw[w]at I;cases I
    |some G=>
     rw[R]at S;rw[w]at I
     cases S
     cases I;have g:T.coer s q=true:=List.all_eq_true.mp f q (mem_of_getElem? R)
     have e:=(A.own i v q G J R w).mono (O':=p::(Gs.flatten++O++Fs'.flatten)) (i3 (o:=.lst vs) y) λa U=>by
      rcases JI U with z|z
      .rw[z];exact .inr y
      .exact .inl z
     refine e.coer g (λa U=>?_) λa U j=>?_
     .rw[append_assoc]at U
      rcases JH U with z|z
      .rcases JI z with z|z
       .rw[z];exact mem_cons_self
       .exact JL _ (JG _ (JG _ (c.subset z)))
      .rcases JH z with z|z
       .exact JL _ (JG _ (JF _ z))
       .exact JL _ (JF _ z)
     .have u:a∈Gs.flatten:=gh w U
      cases s with
      |leaf=>
       rw[j0]at j;exfalso
       rw[append_assoc]at j;rcases JH j with z|z
       .have z:a=p:=by simpa using z
        exact h (JG _ (JG _ u)) z
       .rcases JH z with z|z
        .exact m a u a z rfl
        .exact n a (JG _ u) a z rfl
      |view=>cases P
      |lst s=>exact U
      |tup r=>exact U
def aH(s:Sh)(b:FL):F1:=λC=>(b C).bind λps Γ'=>if !s.isView&&ps.all (T.coer s)&&decide (ps.length<=sizeLine)then .ok ⟨.lst s,.list (ps.map (·.d))⟩ Γ' else .no
theorem wU{s:Sh}{b:FL}(h:tE K W (aH s b) σ H Q):DA (tA K W b) σ H Q:=by
 obtain⟨He,O,Fs,C,E,h⟩:=h;refine⟨He,O,Fs,C,E,?_⟩
 unfold aH at h
 cases e:b C with
 |ok ps Γ'=>
  rw[e]at h;intro vs H' Gs Fs' A
  have h:Wants K W He O Fs H σ Q (if(!s.isView&&ps.all (T.coer s)&&decide (ps.length<=sizeLine))=true then .ok ⟨.lst s,.list (ps.map (·.d))⟩ Γ' else .no):=h
  by_cases f:(!s.isView&&ps.all (T.coer s)&&decide (ps.length<=sizeLine))=true
  .rw[if_pos f]at h
   simp only[Bool.and_eq_true,decide_eq_true_eq,Bool.not_eq_true']at f
   exact⟨by rw[A.len1];exact f.2,λp y=>h _ _ _ _ (A.newList f.1.1 f.1.2 y)⟩
  .rw[if_neg f]at h
   exact h.elim
 |er c Γ'=>rw[e]at h;exact h
 |no=>rw[e]at h;exact h
def wo(p:PV):Sh:=if p.s.isView then .leaf else p.s
def tok(p:PV):Bool:=!p.s.isView||aV p.d
theorem AftL.newTup{p:Addr}(A:AftL K He O Fs H σ Γ' ps vs H' Gs Fs')(f:ps.all tok=true)(y:H' p=none):Aft K He O Fs H σ Γ' ⟨.tup (ps.map wo),.tuple (ps.map (·.d))⟩ (.ref p) (bF H' p (.tup vs)) Gs.flatten Fs':=by
 obtain⟨t,k,m⟩:=JM A.env.ndO;have h:p∉Gs.flatten++O++Fs'.flatten:=λU=>A.env.inH p U y
 refine⟨A.same.trans (i3 y),A.env.grow (i3 y),A.new,?_⟩
 refine .tup (λs P=>?_) fT h (by rw[length_map];exact A.len1) (by rw[length_map];exact A.len2) (by rw[length_map,length_map]) t λi v d F s J S I x=>?_
 .obtain⟨q,_,rfl⟩:=List.mem_map.mp P
  unfold wo;split
  .rfl
  .rename_i z;simpa using z
 .rw[getElem?_map]at S x
  cases R:ps[i]? with
  |none=>rw[R]at S;cases S
  |some q=>
   rw[R]at S x
   cases S
   cases x;have g:tok q=true:=List.all_eq_true.mp f q (mem_of_getElem? R)
   have e:=(A.own i v q F J R I).mono (O':=Gs.flatten++O++Fs'.flatten) (i3 (o:=.tup vs) y) λa U=>.inl U
   unfold wo
   cases b:q.s.isView with
   |false=>exact e
   |true=>
    unfold tok at g;rw[b]at g;obtain⟨s,d⟩:=q
    cases s with
    |view=>
     cases e with
     |view r=>exact .leaf (r.sc (by simpa using g)).rep
    |_=>cases b
def cG(b:FL):F1:=λC=>(b C).bind λps Γ'=>if ps.all tok&&decide (ps.length<=sizeLine)then .ok ⟨.tup (ps.map wo),.tuple (ps.map (·.d))⟩ Γ' else .no
theorem An{b:FL}(h:tE K W (cG b) σ H Q):zW (tA K W b) σ H Q:=by
 obtain⟨He,O,Fs,C,E,h⟩:=h;refine⟨He,O,Fs,C,E,?_⟩
 unfold cG at h
 cases e:b C with
 |ok ps Γ'=>
  rw[e]at h;intro vs H' Gs Fs' A
  have h:Wants K W He O Fs H σ Q (if(ps.all tok&&decide (ps.length<=sizeLine))=true then .ok ⟨.tup (ps.map wo),.tuple (ps.map (·.d))⟩ Γ' else .no):=h
  by_cases f:(ps.all tok&&decide (ps.length<=sizeLine))=true
  .rw[if_pos f]at h
   simp only[Bool.and_eq_true,decide_eq_true_eq]at f
   exact⟨by rw[A.len1];exact f.2,λp y=>h _ _ _ _ (A.newTup f.1 y)⟩
  .rw[if_neg f]at h
   exact h.elim
 |er c Γ'=>rw[e]at h;exact h
 |no=>rw[e]at h;exact h
end
def cS(p:PV)(t:List D):Bool:=!p.s.isView||t.all aV
theorem Own.items{K:Fg}{O:List Addr}{H:Hp}{s:Sh}{G:List Addr}{v:V}{t:List D}(h:Own K O H s G v (.list t))(f:cS ⟨s,.list t⟩ t=true)(J:∀a∈O',a∈O)(S:∀a∈G,a∉O'):∃p L,v=.ref p/\SqL K H p L/\(s.isView=false->SqL K (bV H O') p L)/\Reps K (bV H O') L t:=by
 have m:=h.rep
 cases b:s.isView with
 |false=>
  have r:=h.freeze b J S
  cases r with
  |@lst p L _ hq hl m=>exact⟨p,L,rfl,hid_le.seq hq,λ_=>hq,hl,m⟩
 |true=>
  unfold cS at f;have f:t.all aV=true:=by simpa[b]using f
  cases m with
  |@lst p L _ hq hl m=>exact⟨p,L,rfl,hq,nofun,hl,λi v d g R=>((m i v d g R).sc (List.all_eq_true.mp f d (mem_of_getElem? R))).rep⟩
theorem Own.itemsT{K:Fg}{O:List Addr}{H:Hp}{s:Sh}{G:List Addr}{v:V}{t:List D}(h:Own K O H s G v (.tuple t))(f:cS ⟨s,.tuple t⟩ t=true)(J:∀a∈O',a∈O)(S:∀a∈G,a∉O'):∃p L,v=.ref p/\SqT K H p L/\(s.isView=false->SqT K (bV H O') p L)/\Reps K (bV H O') L t:=by
 have m:=h.rep
 cases b:s.isView with
 |false=>
  have r:=h.freeze b J S
  cases r with
  |@tup p L _ hq hl m=>exact⟨p,L,rfl,pW hid_le hq,λ_=>hq,hl,m⟩
 |true=>
  unfold cS at f;have f:t.all aV=true:=by simpa[b]using f
  cases m with
  |@tup p L _ hq hl m=>exact⟨p,L,rfl,hq,nofun,hl,λi v d g R=>((m i v d g R).sc (List.all_eq_true.mp f d (mem_of_getElem? R))).rep⟩
theorem Dd{K:Fg}{M:St}{f H c:Hp}{O:List Addr}{N:List (List Addr)}{I:Ev}{L:List V}{t:List D}{p:Addr}(E:EnvOk K f O N c M I)(s:Same H c)(n:∀a∈N.flatten,a∈Z.flatten\/H a=none)(m:Reps K (bV c (O++N.flatten)) L t)(y:c p=none):Aft K f O Z H M I ⟨.lst .leaf,.list t⟩ (.ref p) (bF c p (.lst L)) [p] N:=by
 have g:=E.hide (G:=[p]) (i3 (o:=.lst L) y) (by simp) (λa U=>by simp at U;rw[U];exact y) (λa U=>by simp at U;rw[U,fT];exact Option.some_ne_none _)
 refine⟨s.trans (i3 y),g,λa U=>?_,?_⟩
 .rcases JH U with z|z
  .have z:a=p:=by simpa using z
   rw[z];exact .inr (s.free y)
  .exact n a z
 .have b:(List.replicate t.length ([]:List Addr)).flatten=[]:=by simp
  have:[p]=p::(List.replicate t.length ([]:List Addr)).flatten:=by rw[b]
  rw[this];refine .lst rfl fT m.1 (by simp) (by rw[b];simp) λi v d F J S e=>?_
  rw[getElem?_replicate]at e;split at e
  .cases e
   refine .leaf ((m.2 i v d J S).mono (p9 (i3 y) λa U=>?_))
   rw[b]at U;rcases JH U with z|z
   .rcases JH z with z|z
    .have z:a=p:=by simpa using z
     rw[z];exact .inr y
    .exact .inl (JG _ z)
   .exact .inl (JF _ z)
  .cases e
def lh(M:F1):F1:=aW M λp C=>match p.d with
 |.list t=>if cS p t then .ok ⟨.lst .leaf,.list t⟩ C else .no
 |.tuple t=>if cS p t then .ok ⟨.lst .leaf,.list t⟩ C else .no
 |_=>.no
section
variable{K:Fg}{W:XW}{σ:St}{H:Hp}{Q:VK}{fa fb:F1}
theorem Aft.disj{n:Hp}{O G:List Addr}{N:List (List Addr)}{I:Ev}{p:PV}{v:V}(A:Aft K M O Z H σ I p v n G N):∀a∈G,a∉O++N.flatten:=λa U z=>by
 have X:=A.env.nd
 rw[append_assoc]at X;exact(JM X).2.2 a U a z rfl
theorem gO{G O:List Addr}:∀a∈O++F,a∈G++O++F:=λa U=>by
 rw[append_assoc];exact JF _ U
theorem qH(h:tE K W (lh fa) σ H Q):CJ (λY H Q=>∃p U,Y=[.ref p]/\(SqL K H p U\/SqT K H p U)/\∀l,H l=none->Q (.ref l) (bF H l (.lst U))) (tA K W (ae fa ah)) σ H Q:=by
 have J:tE K W fa σ H λx n=>∃p U,x=.ref p/\(SqL K n p U\/SqT K n p U)/\∀l,n l=none->Q (.ref l) (bF n l (.lst U)):=by
  refine vO h λM O Z I p v n G b o A w=>?_
  obtain⟨s,d⟩:=p
  cases d with
  |list t=>
   have w:Wants K W M O Z H σ Q (if cS ⟨s,.list t⟩ t then .ok ⟨.lst .leaf,.list t⟩ I else .no):=w
   cases f:cS ⟨s,.list t⟩ t with
   |false=>rw[f]at w;exact w.elim
   |true=>
    rw[f]at w;obtain⟨p,L,rfl,k,_,m⟩:=A.own.items (O':=O++b.flatten) f gO A.disj
    exact⟨p,L,rfl,.inl k,λl N=>w _ _ _ _ (Dd A.go A.same A.newF m N)⟩
  |tuple t=>
   have w:Wants K W M O Z H σ Q (if cS ⟨s,.tuple t⟩ t then .ok ⟨.lst .leaf,.list t⟩ I else .no):=w
   cases f:cS ⟨s,.tuple t⟩ t with
   |false=>rw[f]at w;exact w.elim
   |true=>
    rw[f]at w;obtain⟨p,L,rfl,k,_,m⟩:=A.own.itemsT (O':=O++b.flatten) f gO A.disj
    exact⟨p,L,rfl,.inr k,λl N=>w _ _ _ _ (Dd A.go A.same A.newF m N)⟩
  |_=>exact w.elim
 obtain⟨M,O,Z,C,E,J⟩:=J;refine⟨M,O,Z,C,E,?_⟩
 unfold ae ah
 cases e:fa C with
 |ok p X=>
  rw[e]at J;intro L g i u A
  match L,i,A.len1,A.len2 with
  |[v],[G],_,_=>
   have a:Aft K M O Z H σ X p v g G u:=⟨A.same,by simpa using A.env,by simpa using A.new,by simpa using A.own 0 v p G rfl rfl rfl⟩
   obtain⟨q,U,rfl,S,j⟩:=J v g G u a
   exact⟨q,U,rfl,S,j⟩
 |er c X=>rw[e]at J;exact J
 |no=>rw[e]at J;exact J
end
structure yw(J:It)(P:Hp->Prop)(vs:List V):Prop where
 go:∀(i:Nat) H v,P H->vs[i]?=some v->J.go i H/\∀x H',J.yld i H x H'->H'=H/\x=v
 stop:∀H,P H->J.stop vs.length H
theorem xG{K:Fg}{L:List V}:yw (FM K a) (λH=>SqL K H a L) L:=
 ⟨λi H v y R=>⟨⟨L,v,y,R⟩,λx Y ⟨e,q⟩=>⟨e,Option.some.inj ((q L y).symm.trans R)⟩⟩,λH y=>⟨L,y,JR _⟩⟩
def kA(O:Int)(n:Nat):List V:=(List.range n).map λi=>.int (O+(i:Nat))
def rngD(O:Int)(n:Nat):List D:=(List.range n).map λi=>.int (O+(i:Nat))
theorem uI{O:Int}{n:Nat}:yw (Cm O n) (λ_=>True) (kA O n):=by
 refine⟨λi H v _ R=>?_,λH _=>?_⟩
 .unfold kA at R
  rw[getElem?_map]at R
  cases e:(List.range n)[i]? with
  |none=>rw[e]at R;cases R
  |some k=>
   rw[e]at R;obtain⟨J,S⟩:=JN e
   simp at J S
   subst S
   cases R;exact⟨J,λx Y ⟨q1,q2⟩=>⟨q1,q2⟩⟩
 .show n<=(kA O n).length
  simp[kA]
theorem lV{K:Fg}{H:Hp}{O:Int}{n:Nat}:Reps K H (kA O n) (rngD O n):=by
 refine⟨by simp[kA,rngD],λi v d J S=>?_⟩
 unfold kA at J;unfold rngD at S;rw[getElem?_map]at J S
 cases e:(List.range n)[i]? with
 |none=>rw[e]at J;cases J
 |some k=>
  rw[e]at J S
  cases J
  cases S;exact .int _
structure Jm where
 ds:List D
 st:Bool
abbrev FI:=Ev->Out Jm
def Ex(K:Fg)(W:XW)(b:Hp)(O:List Addr)(Z:List (List Addr))(H:Hp)(M:St)(R:It->Hp->Prop)(o:Out Jm):Prop:=match o with
 |.ok t X=>∀J Y u L P,Same H Y->EnvOk K b O u Y M X->(∀a∈u.flatten,a∈Z.flatten\/H a=none)->yw J P L->P Y->(∀A,Same Y A->P A)->(t.st=true->∀A,Same (bV Y u.flatten) A->P A) ->
   Reps K (bV Y (O++u.flatten)) L t.ds->R J Y
 |.er c X=>∀Y u,Same H Y->EnvOk K b O u Y M X->W c M Y
 |.no=>False
def tI(K:Fg)(W:XW)(f:FI):TI:=λM H R=>∃a O Z C,EnvOk K a O Z H M C/\Ex K W a O Z H M R (f C)
theorem pX{m:Expr}{t O:TI}(h:PI X m z t)(i:∀M H R,O M H R->t M H R):PI X m z O:=λG s M H R I q=>h G s M H R I (i M H R q)
def aF(M:F1):FI:=λC=>(M C).bind λp X=>match p.d with
 |.list t=>if cS p t then .ok ⟨t,!p.s.isView⟩ X else .no
 |_=>.no
section
variable{K:Fg}{W:XW}{σ:St}{H:Hp}{R:It->Hp->Prop}{fa fb:F1}
theorem sub_hid{H:Hp}{O:List Addr}:Same (bV H (O++F)) (bV H F):=p9 (Same.refl _) λa U=>.inl (JF _ U)
theorem w4(h:tI K W (aF fa) σ H R):uN K (tE K W fa) σ H R:=by
 obtain⟨M,O,Z,C,E,h⟩:=h;refine⟨M,O,Z,C,E,?_⟩
 unfold aF at h
 cases e:fa C with
 |ok p I=>
  rw[e]at h;intro v n G N A;obtain⟨s,d⟩:=p
  cases d with
  |list t=>
   have h:Ex K W M O Z H σ R (if cS ⟨s,.list t⟩ t then .ok ⟨t,!s.isView⟩ I else .no):=h
   cases f:cS ⟨s,.list t⟩ t with
   |false=>rw[f]at h;exact h.elim
   |true=>
    rw[f]at h;obtain⟨p,L,rfl,k,q,m⟩:=A.own.items (O':=O++N.flatten) f gO A.disj
    exact⟨p,rfl,⟨L,k⟩,h (FM K p) n N L (λH=>SqL K H p L) A.same A.go A.newF xG k (λb a=>a.seq k) (λu b a=>a.seq (sub_hid.seq (q (by simpa using u)))) m⟩
  |_=>exact h.elim
 |er c X=>rw[e]at h;exact h
 |no=>rw[e]at h;exact h
def cJ(j:Int):Bool:=decide (-(2 ^ 62)<=j)&&decide (j<2 ^ 62)
def qF:List D->Option Int
 |[.int j]=>if cJ j then some j else none
 |_=>none
def qE:List D->Option (Int×Int)
 |[.int i,.int j]=>if cJ i&&cJ j then some (i,j)else none
 |_=>none
theorem wD{t:List D}{j:Int}(h:qF t=some j):t=[.int j]/\-(2 ^ 62)<=j/\j<2 ^ 62:=by
 unfold qF at h;split at h
 .split at h
  .rename_i f
   cases h;simp only[cJ,Bool.and_eq_true,decide_eq_true_eq]at f
   exact⟨rfl,f.1,f.2⟩
  .cases h
 .cases h
theorem wC{t:List D}{i j:Int}(h:qE t=some (i,j)):t=[.int i,.int j]/\(-(2 ^ 62)<=i/\i<2 ^ 62/\-(2 ^ 62)<=j/\j<2 ^ 62):=by
 unfold qE at h;split at h
 .split at h
  .rename_i f
   cases h;simp only[cJ,Bool.and_eq_true,decide_eq_true_eq]at f
   exact⟨rfl,f.1.1,f.1.2,f.2.1,f.2.2⟩
  .cases h
 .cases h
def i5(b:FL):FI:=λC=>(b C).bind λG X=>match qF (G.map (·.d))with
 |some j=>.ok ⟨rngD 0 j.toNat,true⟩ X
 |none=>.no
def vI(b:FL):FI:=λC=>(b C).bind λG X=>match qE (G.map (·.d))with
 |some (i,j)=>.ok ⟨rngD i (j-i).toNat,true⟩ X
 |none=>.no
theorem AB{b:FL}(h:tI K W (i5 b) σ H R):zf (tA K W b) σ H R:=by
 obtain⟨M,O,Z,C,E,h⟩:=h;refine⟨M,O,Z,C,E,?_⟩
 unfold i5 at h
 cases e:b C with
 |ok G I=>
  rw[e]at h;intro L n q N A;have h:Ex K W M O Z H σ R (match qF (G.map (·.d))with|some j=>.ok ⟨rngD 0 j.toNat,true⟩ I|none=>.no):=h
  have l:=A.reps
  cases g:qF (G.map (·.d))with
  |none=>rw[g]at h;exact h.elim
  |some j=>
   rw[g]at h;obtain⟨d,J,S⟩:=wD g;rw[d]at l;obtain⟨v,rfl,r⟩:=l.one
   cases r;exact⟨j,rfl,J,S,h (Cm 0 j.toNat) n N (kA 0 j.toNat) (λ_=>True) A.same A.env.dropL (λa U=>A.new a (JF _ U)) uI trivial (λ_ _=>trivial) (λ_ _ _=>trivial) lV⟩
 |er c X=>rw[e]at h;exact h
 |no=>rw[e]at h;exact h
theorem AA{b:FL}(h:tI K W (vI b) σ H R):ze (tA K W b) σ H R:=by
 obtain⟨M,O,f,C,E,h⟩:=h;refine⟨M,O,f,C,E,?_⟩
 unfold vI at h
 cases e:b C with
 |ok G I=>
  rw[e]at h;intro L n q N A;have h:Ex K W M O f H σ R (match qE (G.map (·.d))with|some (i,j)=>.ok ⟨rngD i (j-i).toNat,true⟩ I|none=>.no):=h
  have l:=A.reps
  cases g:qE (G.map (·.d))with
  |none=>rw[g]at h;exact h.elim
  |some d=>
   obtain⟨i,j⟩:=d;rw[g]at h;obtain⟨k,Z⟩:=wC g;rw[k]at l;obtain⟨v,u,rfl,r,m⟩:=l.two
   cases r
   cases m
   exact⟨i,j,rfl,Z,h (Cm i (j-i).toNat) n N (kA i (j-i).toNat) (λ_=>True) A.same A.env.dropL (λa U=>A.new a (JF _ U)) uI trivial (λ_ _=>trivial) (λ_ _ _=>trivial) lV⟩
 |er c X=>rw[e]at h;exact h
 |no=>rw[e]at h;exact h
end
def pZ(i:Nat)(n:FB)(G:F1)(s:Sh):List D->Ev->List D->Out (List D)
 |[],Γ,acc=>.ok acc Γ
 |d::r,Γ,acc=>match n (Γ.set i (JT d))with
  |.ok true I=>(match G I with
   |.ok p o=>if T.coer s p&&decide (acc.length<sizeLine)then pZ i n G s r (o.set i none) (acc++[p.d])else .no
   |_=>.no)
  |.ok false I=>if acc.length<sizeLine then pZ i n G s r (I.set i none) acc else .no
  |_=>.no
def aw(s:Sh)(i:Nat)(k:FI)(n:FB)(G:F1):F1:=λC=>(k C).bind λt I=>match pZ i n G s t.ds (I.set i none) []with
 |.ok a o=>if !s.isView&&decide (i<I.length)then .ok ⟨.lst s,.list a⟩ (o.set i (I.getD i none))else .no
 |_=>.no
abbrev W0:XW:=λ_ _ _=>False
section
variable{K:Fg}{He H H1 H2:Hp}{O G:List Addr}{Fs Fs1 Fs2:List (List Addr)}{σ:St}{Γ Γ1 Γ2:Ev}
theorem GW{c:List Nat}{M:St}{j:Nat}(h:j∉c):(bu c M)[j]?=M[j]?:=by
 unfold bu;rw[List.getElem?_mapIdx]
 cases M[j]? with
 |none=>rfl
 |some o=>simp[h]
theorem EZ{C:Ev}{i j:Nat}{p:PV}(h:(C.set i none)[j]?=some (some p)):j≠i/\C[j]?=some (some p):=by
 by_cases A:j=i
 .subst A
  rw[List.getElem?_set]at h;split at h
  .split at h<;>cases h
  .rename_i z;exact absurd rfl z
 .rw[getElem?_set_ne (Ne.symm A)]at h
  exact⟨A,h⟩
theorem EnvOk.shut{i:Nat}(E:EnvOk K He O Fs H σ Γ)(l:i<Γ.length):∃F,Fs[i]?=some F/\EnvOk K He (F++O) (Fs.set i []) H (bu [i] σ) (Γ.set i none)/\∀a,a∈F++(Fs.set i []).flatten↔a∈Fs.flatten:=by
 obtain⟨F,b⟩:=E.lt l;have c:(F++(Fs.set i []).flatten).Perm Fs.flatten:=by simpa using ll (G:=[]) b
 have d:(F++O++(Fs.set i []).flatten).Perm (O++Fs.flatten):=by
  rw[append_assoc];exact(jU _ _ _).trans (List.Perm.append_left _ c)
 refine⟨F,b,⟨by rw[yQ,length_set];exact E.len1,by rw[length_set,length_set];exact E.len2,E.same,d.nodup_iff.mpr E.nd,λa U=>E.inH a (d.mem_iff.mp U),λa U=>E.fresh a (c.mem_iff.mp (JF _ U)),λj q k=>?_⟩,λa=>c.mem_iff⟩
 obtain⟨A,k⟩:=EZ k;obtain⟨L,C,f,g,R,w⟩:=E.slot j q k;exact⟨L,C,f,by rw[GW (by simpa using A)];exact g,by rw[getElem?_set_ne (Ne.symm A)];exact R,w.mono (Same.refl _) λa U=>.inl (d.mem_iff.mp U)⟩
theorem EnvOk.forget{i:Nat}{x:Option V}(E:EnvOk K He O Fs H ((bu [i] σ).set i x) Γ)(l:i<Γ.length):EnvOk K He O (Fs.set i []) H (bu [i] σ) (Γ.set i none):=by
 obtain⟨F,d⟩:=E.lt l;have c:(F++(Fs.set i []).flatten).Perm Fs.flatten:=by simpa using ll (G:=[]) d
 have n:∀a∈O++(Fs.set i []).flatten,a∈O++Fs.flatten:=λa U=>by
  rcases JH U with z|z
  .exact JG _ z
  .exact JF _ (c.mem_iff.mp (JF _ z))
 have X:=E.len1
 rw[length_set]at X;obtain⟨t,e,m⟩:=JM E.nd;have p:((Fs.set i []).flatten).Nodup:=(JM (c.nodup_iff.mpr e)).2.1
 refine⟨by rw[length_set];exact X,by rw[length_set,length_set];exact E.len2,E.same,List.nodup_append.mpr ⟨t,p,λa U b Z=>m a U b (c.mem_iff.mp (JF _ Z))⟩,λa U=>E.inH a (n a U),λa U=>E.fresh a (c.mem_iff.mp (JF _ U)),λj q k=>?_⟩
 obtain⟨A,k⟩:=EZ k;obtain⟨L,C,f,g,R,w⟩:=E.slot j q k;rw[getElem?_set_ne (Ne.symm A)]at g;exact⟨L,C,f,g,by rw[getElem?_set_ne (Ne.symm A)];exact R,w.mono (Same.refl _) λa U=>.inl (n a U)⟩
theorem EnvOk.reopen{i:Nat}(x:EnvOk K He O Fs1 H1 σ Γ1)(b:Fs1[i]?=some F)(S:EnvOk K He (G++(F++O)) Fs2 H2 (bu [i] σ) Γ2)(N:Γ2.length=Γ1.length)(s:Same H1 H2)(Y:Γ2[i]?=some none)(J:Fs2[i]?=some [])(m:∀a∈G++Fs2.flatten,a∈Fs1.flatten\/H1 a=none):EnvOk K He (G++O) (Fs2.set i F) H2 σ (Γ2.set i (Γ1.getD i none)):=by
 have c:((Fs2.set i F).flatten).Perm (F++Fs2.flatten):=by simpa using ll (G:=F) J
 have d:(G++O++(Fs2.set i F).flatten).Perm (G++(F++O)++Fs2.flatten):=by
  refine(List.Perm.append_left _ c).trans ?_
  rw[append_assoc,append_assoc];refine List.Perm.append_left _ ?_
  rw[append_assoc];exact jU _ _ _
 have l:i<Γ2.length:=(JN Y).1
 refine⟨by rw[length_set,N];exact x.len1,by rw[length_set,length_set];exact S.len2,S.same,d.nodup_iff.mpr S.nd,λa U=>S.inH a (d.mem_iff.mp U),λa U=>?_,λj q k=>?_⟩
 .rcases JH (c.mem_iff.mp U)with z|z
  .exact x.fresh a (gh b z)
  .exact S.fresh a z
 .by_cases A:j=i
  .subst A
   rw[getElem?_set_self l]at k;have k:Γ1.getD j none=some q:=Option.some.inj k
   rw[JK]at k;have h:Γ1[j]?=some (some q):=by
    cases e:Γ1[j]? with
    |none=>rw[e]at k;cases k
    |some o=>rw[e]at k;simp only[Option.getD_some]at k;rw[k]
   obtain⟨L,C,f,g,R,w⟩:=x.slot j q h
   rw[b]at R
   cases R;refine⟨L,C,F,g,getElem?_set_self (by rw[S.len2];exact l),w.mono s λa U=>?_⟩
   rcases JH U with z|z
   .rcases JH z with z|z
    .exact(m a (JG _ z)).elim (λy=>.inl (JF _ y)) .inr
    .exact .inl (JG _ z)
   .rcases JH (c.mem_iff.mp z)with y|y
    .exact .inl (JF _ (gh b y))
    .exact(m a (JF _ y)).elim (λy=>.inl (JF _ y)) .inr
  .rw[getElem?_set_ne (Ne.symm A)]at k
   obtain⟨L,C,f,g,R,w⟩:=S.slot j q k;rw[GW (by simpa using A)]at g
   exact⟨L,C,f,g,by rw[getElem?_set_ne (Ne.symm A)];exact R,w.mono (Same.refl _) λa U=>.inl (d.mem_iff.mp U)⟩
theorem EnvOk.mutO{p:Addr}{o:HO}(E:EnvOk K He O Fs H σ Γ)(y:p∈O)(N:H p=some (.lst Y))(c:He p=none):EnvOk K He O Fs (bF H p o) σ Γ:=by
 obtain⟨t,d,m⟩:=JM E.nd;refine⟨E.len1,E.len2,λb u e=>?_,E.nd,λa U=>?_,E.fresh,λj q k=>?_⟩
 .rw[eA (vE e c)]
  exact E.same b u e
 .by_cases h:a=p
  .rw[h,fT];exact Option.some_ne_none _
  .rw[eA h];exact E.inH a U
 .obtain⟨L,C,f,g,R,w⟩:=E.slot j q k
  exact⟨L,C,f,g,R,w.mut L (JG _ y) (λz=>m p y p (gh R z) rfl) N⟩
end
structure Iu(K:Fg)(He:Hp)(O F:List Addr)(Fs1:List (List Addr))(H1:Hp)(σ:St)(i:Nat)(s:Sh)(A0:Addr)(n:Nat)(ys:List V)(H:Hp)(Γk:Ev)(Fk Gs:List (List Addr))(acc:List D):Prop where
 env:EnvOk K He (A0::Gs.flatten++(F++O)) Fk H (bu [i] σ) Γk
 same:Same H1 H
 at_:H A0=some (.lst ys)
 new:∀a∈Gs.flatten++Fk.flatten,a∈Fs1.flatten\/H1 a=none
 l1:ys.length=acc.length
 l2:Gs.length=acc.length
 own:∀(j:Nat) v d G,ys[j]?=some v->acc[j]?=some d->Gs[j]?=some G->Own K (A0::Gs.flatten++(F++O)++Fk.flatten) H s G v d
 noneG:Γk[i]?=some none
 noneF:Fk[i]?=some []
 len:Γk.length=n
theorem vW{m:Type}(q:List (List m))(G:List m):(q++[G]).flatten=q.flatten++G:=by simp
section
variable{K:Fg}{W:XW}{σ:St}{H:Hp}{Q:VK}{fe:F1}{fc:FB}{fi:FI}{s:Sh}{i:Nat}
theorem o6(h:tE K W (aw s i fi fc fe) σ H Q):lH [i] (tI K W fi) (gName i) (tT K W0 fc) (tE K W0 fe) σ H Q:=by
 obtain⟨M,O,Fs,C,E,h⟩:=h;refine⟨M,O,Fs,C,E,?_⟩
 unfold aw at h
 cases e:fi C with
 |er c X=>rw[e]at h;exact h
 |no=>rw[e]at h;exact h
 |ok t I=>
  rw[e]at h;intro J n N L P s1 E1 n1 it hP hP1 _ hr r hD;have h:Wants K W M O Fs H σ Q (match pZ i fc fe s t.ds (I.set i none) []with|.ok ds Γ2=>if !s.isView&&decide (i<I.length)then .ok ⟨.lst s,.list ds⟩ (Γ2.set i (I.getD i none))else .no|_=>.no):=h
  cases eg:pZ i fc fe s t.ds (I.set i none) []with
  |er c X=>rw[eg]at h;exact h.elim
  |no=>rw[eg]at h;exact h.elim
  |ok ds' Γ2=>
   rw[eg]at h;have h:Wants K W M O Fs H σ Q (if(!s.isView&&decide (i<I.length))=true then .ok ⟨.lst s,.list ds'⟩ (Γ2.set i (I.getD i none))else .no):=h
   by_cases f:(!s.isView&&decide (i<I.length))=true
   case neg=>rw[if_neg f]at h;exact h.elim
   rw[if_pos f]at h;simp only[Bool.and_eq_true,decide_eq_true_eq,Bool.not_eq_true']at f
   obtain⟨hsv,l⟩:=f;obtain⟨F,hF,E0,hmem⟩:=E1.shut l;have hHeD:M r=none:=E1.same.free hD
   have E0':EnvOk K M (r::([]:List (List Addr)).flatten++(F++O)) (N.set i []) (bF n r (.lst [])) (bu [i] σ) (I.set i none):=
    E0.hide (G:=[r]) (i3 hD) (by simp) (λa U=>by simp at U;rw[U];exact hD) (λa U=>by simp at U;rw[U,fT];exact Option.some_ne_none _)
   refine⟨λk m ys Y=>m=L.length-k/\k<=L.length/\∃Γk Fk q acc,Iu K M O F N n σ i s r I.length ys Y Γk Fk q acc/\pZ i fc fe s (t.ds.drop k) Γk acc=.ok ds' Γ2,⟨L.length,by simp,Nat.zero_le _,I.set i none,N.set i [],[],[],⟨E0',i3 hD,fT,λa U=>.inl ((hmem a).mp (JF _ (by simpa using U))),rfl,rfl,λj v d G h1=>by simp at h1,getElem?_set_self l,getElem?_set_self (by rw[E1.len2];exact l),by rw[length_set]⟩,by simpa using eg⟩,?_⟩
   rintro k m ys Y ⟨rfl,hk,Γk,Fk,q,acc,g,eg'⟩
   refine⟨g.at_,?_⟩
   have hPk:P Y:=hP1 Y g.same
   have hlen:L.length=t.ds.length:=hr.1
   by_cases hlt:k<L.length
   case neg=>
    have hke:k=L.length:=by omega
    left
    have:t.ds.drop k=[]:=List.drop_eq_nil_of_le (by omega)
    rw[this]at eg';have eg'':(Out.ok acc Γk:Out (List D))=.ok ds' Γ2:=eg'
    injection eg'' with e1 e2
    subst e1;subst e2;refine⟨by rw[hke];exact it.stop Y hPk,?_⟩
    have E3:EnvOk K M ((r::q.flatten)++O) (Fk.set i F) Y σ (Γk.set i (I.getD i none)):=
     EnvOk.reopen (G:=r::q.flatten) E1 hF g.env g.len g.same g.noneG g.noneF λa U=>by
      rcases JH U with z|z
      .rcases JI z with z|z
       .rw[z];exact .inr hD
       .exact g.new a (JG _ z)
      .exact g.new a (JF _ z)
    have pmF:((Fk.set i F).flatten).Perm (F++Fk.flatten):=by simpa using ll (G:=F) g.noneF
    obtain⟨n1',_,n3'⟩:=JM g.env.ndO;refine h (.ref r) Y (r::q.flatten) (Fk.set i F) ⟨s1.trans g.same,E3,λa U=>?_,?_⟩
    .have up:a∈N.flatten\/n a=none->a∈Fs.flatten\/H a=none:=λz=>z.elim (n1 a) λy=>.inr (s1.free y)
     rcases JH U with z|z
     .rcases JI z with z|z
      .exact up (.inr (by rw[z];exact hD))
      .exact up (g.new a (JG _ z))
     .rcases JH (pmF.mem_iff.mp z)with y|y
      .exact up (.inl (gh hF y))
      .exact up (g.new a (JF _ y))
    .refine .lst hsv g.at_ g.l1 g.l2 n1' λj v d G h1 S h3=>(g.own j v d G h1 S h3).perm λa U=>?_
     rw[append_assoc]at U ⊢;rcases JH U with z|z
     .exact JG _ z
     .refine JF _ ?_
      rcases JH z with z|z
      .exact JG _ (JF _ z)
      .rcases JH (pmF.mem_iff.mp z)with y|y
       .exact JG _ (JG _ y)
       .exact JF _ y
   case pos=>
    right
    have R:L[k]?=some L[k]:=JJ hlt
    have hkd:k<t.ds.length:=by omega
    have hd:t.ds[k]?=some t.ds[k]:=JJ hkd
    have hdr:t.ds.drop k=t.ds[k]::t.ds.drop (k+1):=List.drop_eq_getElem_cons hkd
    rw[hdr]at eg';generalize hdk:t.ds[k]=d at hd eg'
    generalize hvk:L[k]=v at R
    obtain⟨hgo,hyld⟩:=it.go k Y v hPk R
    simp only[pZ]at eg'
    have hik:i<Γk.length:=by rw[g.len];exact l
    have rep:Rep K (bV Y (r::q.flatten++(F++O)++Fk.flatten)) v d:=(hr.2 k v d R hd).mono (p9 g.same λa U=>by
     rcases JH U with z|z
     .rcases JH z with z|z
      .rcases JI z with z|z
       .rw[z];exact .inr hD
       .exact(g.new a (JG _ z)).elim (λy=>.inl (JF _ y)) .inr
      .rcases JH z with z|z
       .exact .inl (JF _ (gh hF z))
       .exact .inl (JG _ z)
     .exact(g.new a (JF _ z)).elim (λy=>.inl (JF _ y)) .inr)
    have Ep:EnvOk K M (r::q.flatten++(F++O)) (Fk.set i []) Y ((bu [i] σ).set i (some v)) (Γk.set i (JT d)):=
     EnvOk.put (G:=[]) (p:=⟨.leaf,d⟩) (v:=v) g.env (.leaf rep) rfl (λa U=>by simp at U) hik
    have hsl:ys.length<sizeLine:=by
     rw[g.l1]
     cases ec:fc (Γk.set i (JT d))with
     |no=>rw[ec]at eg';cases eg'
     |er c X=>rw[ec]at eg';cases eg'
     |ok b Γa=>
      rw[ec]at eg'
      cases b with
      |false=>
       dsimp only at eg'
       split at eg'
       .assumption
       .cases eg'
      |true=>
       dsimp only at eg'
       split at eg'
       .split at eg'
        .rename_i z
         simp only[Bool.and_eq_true,decide_eq_true_eq]at z
         exact z.2
        .cases eg'
       .cases eg'
    refine⟨hgo,hsl,λx Hx A=>?_⟩
    obtain⟨rfl,rfl⟩:=hyld x Hx A;show Jl (bu [i] σ) ((bu [i] σ).set i (some x))/\_
    refine⟨⟨by rw[length_set],λj u hj=>?_⟩,?_⟩
    .have:=(EU hj).1
     rw[getElem?_set_ne (by simp at this;exact λz=>this z.symm)]
     exact hj
    refine⟨M,_,_,_,Ep,?_⟩
    cases ec:fc (Γk.set i (JT d))with
    |no=>rw[ec]at eg';cases eg'
    |er c X=>rw[ec]at eg';cases eg'
    |ok b Γa=>
     rw[ec]at eg';intro H3 Fs3 s3 E3 n3;have lena:Γa.length=I.length:=by
      have:=E3.len1
      rw[length_set,yQ,E1.len1]at this;exact this.symm
     have n3':∀a∈Fs3.flatten,a∈N.flatten\/n a=none:=λa U=>(n3 a U).elim (λz=>by
      have pm:((Fk.set i []).flatten).Perm Fk.flatten:=by simpa using ll (G:=[]) g.noneF
      exact g.new a (JF _ (pm.mem_iff.mp z))) λz=>.inr (g.same.free z)
     cases b with
     |false=>
      dsimp only at eg'
      split at eg'
      case isFalse=>cases eg'
      refine kK ⟨L.length-(k+1),by omega,rfl,hlt,Γa.set i none,Fs3.set i [],q,acc,⟨E3.forget (by rw[lena];exact l),g.same.trans s3,s3 _ _ g.at_,λa U=>?_,g.l1,g.l2,λj v d G h1 S h3=>(g.own j v d G h1 S h3).mono s3 λa U=>?_,getElem?_set_self (by rw[lena];exact l),getElem?_set_self (by rw[E3.len2,lena];exact l),by rw[length_set];exact lena⟩,eg'⟩
      .rcases JH U with z|z
       .exact g.new a (JG _ z)
       .obtain⟨F3,hF3⟩:=E3.lt (i:=i) (by rw[lena];exact l)
        have pm:(F3++(Fs3.set i []).flatten).Perm Fs3.flatten:=by simpa using ll (G:=[]) hF3
        exact n3' a (pm.mem_iff.mp (JF _ z))
      .rcases JH U with z|z
       .exact .inl (JG _ z)
       .obtain⟨F3,hF3⟩:=E3.lt (i:=i) (by rw[lena];exact l)
        have pm:(F3++(Fs3.set i []).flatten).Perm Fs3.flatten:=by simpa using ll (G:=[]) hF3
        have pm2:((Fk.set i []).flatten).Perm Fk.flatten:=by simpa using ll (G:=[]) g.noneF
        exact(n3 a (pm.mem_iff.mp (JF _ z))).elim (λy=>.inl (JF _ (pm2.mem_iff.mp y))) .inr
     |true=>
      refine kJ ⟨M,_,_,_,E3,?_⟩
      dsimp only at eg'
      cases ee:fe Γa with
      |no=>rw[ee]at eg';cases eg'
      |er c X=>rw[ee]at eg';cases eg'
      |ok p Γb=>
       rw[ee]at eg';dsimp only at eg'
       split at eg'
       case isFalse=>cases eg'
       rename_i hco;simp only[Bool.and_eq_true,decide_eq_true_eq]at hco
       obtain⟨hco,_⟩:=hco;intro u H4 G Fs4 A4;have lenb:Γb.length=I.length:=by
        have:=A4.env.len1
        rw[length_set,yQ,E1.len1]at this;exact this.symm
       have hib:i<Γb.length:=by rw[lenb];exact l
       have at4:H4 r=some (.lst ys):=A4.same _ _ (s3 _ _ g.at_)
       have s14:Same n H4:=(g.same.trans s3).trans A4.same
       have pmk:((Fk.set i []).flatten).Perm Fk.flatten:=by simpa using ll (G:=[]) g.noneF
       obtain⟨F4,hF4⟩:=A4.env.lt hib;have pm4:(F4++(Fs4.set i []).flatten).Perm Fs4.flatten:=by simpa using ll (G:=[]) hF4
       have new4:∀a∈G++Fs4.flatten,a∈N.flatten\/n a=none:=λa U=>(A4.new a U).elim (n3' a) λz=>.inr ((g.same.trans s3).free z)
       have hG':∀a∈aT s G,a∈G:=λa U=>EX U
       obtain⟨k1,k2,k3⟩:=JM A4.env.ndO;have ndk:(aT s G).Nodup:=by
        cases s<;>first|exact nodup_nil|exact k1
       have pmO:(r::(q++[aT s G]).flatten++(F++O)).Perm (aT s G++(r::q.flatten++(F++O))):=by
        rw[vW];show(r::((q.flatten++aT s G)++(F++O))).Perm _
        refine List.Perm.trans ?_ List.perm_middle.symm
        refine List.Perm.cons _ ?_
        rw[append_assoc];exact jU _ _ _
       have E5:EnvOk K M (aT s G++(r::q.flatten++(F++O))) Fs4 H4 ((bu [i] σ).set i (some x)) Γb:=A4.env.drop (λa U=>by
        rcases JH U with z|z
        .exact JG _ (hG' a z)
        .exact JF _ z) (List.nodup_append.mpr ⟨ndk,k2,λa U b Z=>k3 a (hG' a U) b Z⟩)
       have E6:=(E5.perm pmO).forget hib
       have hDin:r∈r::(q++[aT s G]).flatten++(F++O):=mem_cons_self
       have E7:=E6.mutO (o:=.lst (ys++[u])) hDin at4 hHeD
       have subH:∀a∈r::(q++[aT s G]).flatten++(F++O)++(Fs4.set i []).flatten,a∈G++(r::q.flatten++(F++O))++Fs4.flatten:=λa U=>by
        rcases JH U with z|z
        .rcases JH (pmO.mem_iff.mp z)with y|y
         .exact JG _ (JG _ (hG' a y))
         .exact JG _ (JF _ y)
        .exact JF _ (pm4.mem_iff.mp (JF _ z))
       have Dnot:∀{j:Nat}{Gj:List Addr},q[j]?=some Gj->r∉Gj:=λ{j Gj} hj z=>by
        have nd:=g.env.ndO
        exact(List.nodup_cons.mp nd).1 (JG _ (gh hj z))
       refine⟨at4,L.length-(k+1),by omega,rfl,hlt,Γb.set i none,Fs4.set i [],q++[aT s G],acc++[p.d],⟨E7,λb o Z=>?_,fT,λa U=>?_,by simp[g.l1],by simp[g.l2],λj w d' G' h1 S h3=>?_,getElem?_set_self hib,getElem?_set_self (by rw[A4.env.len2];exact hib),by rw[length_set];exact lenb⟩,eg'⟩
       .rw[eA (vE Z hD)]
        exact s14 b o Z
       .rcases JH U with z|z
        .rw[vW]at z
         rcases JH z with z|z
         .exact g.new a (JG _ z)
         .exact new4 a (JG _ (hG' a z))
        .exact new4 a (JF _ (pm4.mem_iff.mp (JF _ z)))
       .by_cases hj:j<ys.length
        .rw[getElem?_append_left hj]at h1
         rw[getElem?_append_left (by rw[<-g.l1];exact hj)]at S
         rw[getElem?_append_left (by rw[g.l2,<-g.l1];exact hj)]at h3
         have o1:=g.own j w d' G' h1 S h3
         have o2:=o1.mono (O':=r::(q++[aT s G]).flatten++(F++O)++(Fs4.set i []).flatten) (s3.trans A4.same) λa U=>by
          have up:a∈G++Fs4.flatten->a∈r::q.flatten++(F++O)++Fk.flatten\/Hx a=none:=λz=>(A4.new a z).elim (λy=>(n3 a y).elim (λy=>.inl (JF _ (pmk.mem_iff.mp y))) .inr) λy=>.inr (s3.free y)
          rcases JH (subH a U)with z|z
          .rcases JH z with z|z
           .exact up (JG _ z)
           .exact .inl (JG _ z)
          .exact up (JF _ z)
         exact o2.mut hsv (JG _ hDin) (Dnot h3) at4
        .have hj':j=ys.length:=by
          have:=(JN h1).1
          rw[length_append,length_singleton]at this;omega
         subst hj'
         rw[getElem?_append_right (JR _),Nat.sub_self]at h1;rw[getElem?_append_right (by rw[g.l1];exact JR _),show ys.length-acc.length=0 by rw[g.l1];exact Nat.sub_self _]at S
         rw[getElem?_append_right (by rw[g.l2,g.l1];exact JR _),show ys.length-q.length=0 by rw[g.l2,g.l1];exact Nat.sub_self _]at h3
         cases h1
         cases S
         cases h3;have o3:=A4.own.coer (s:=s) (O':=r::(q++[aT s G]).flatten++(F++O)++(Fs4.set i []).flatten) hco subH λa U hO=>by
          cases s with
          |leaf=>
           exfalso
           have hO':a∈(r::q.flatten++(F++O))++(Fs4.set i []).flatten:=by
            rw[vW]at hO;simpa[aT]using hO
           rcases JH hO' with z|z
           .exact k3 a U a z rfl
           .have nd:=A4.env.nd
            exact(JM nd).2.2 a (JG _ U) a (pm4.mem_iff.mp (JF _ z)) rfl
          |view=>cases hsv
          |lst s=>exact U
          |tup ss=>exact U
         refine o3.mut hsv (JG _ hDin) (λz=>?_) at4
         exact k3 r (hG' r z) r mem_cons_self rfl
end
inductive OutS where
 |nx (e:Ev)|bk (e:Ev)|ct (e:Ev)|rt (p:PV)|er (c:Str) (e:Ev)|no
abbrev FS:=Ev->OutS
structure RetOk(K:Fg)(He:Hp)(O:List Addr)(p:PV)(v:V)(H':Hp)(G:List Addr):Prop where
 same:Same He H'
 fresh:∀a∈G,He a=none
 inH:∀a∈G,H' a≠none
 nd:G.Nodup
 own:Own K (G++O) H' p.s G v p.d
 nv:p.s.isView=false
def fU(K:Fg)(W:XW)(M:Hp)(O:List Addr)(D:cP):OutS->Prop
 |.nx X=>∀j Y u,EnvOk K M O u Y j X->D.nx j Y
 |.bk X=>∀j Y u,EnvOk K M O u Y j X->D.bk j Y
 |.ct X=>∀j Y u,EnvOk K M O u Y j X->D.ct j Y
 |.rt p=>∀v Y G,RetOk K M O p v Y G->D.rt v Y
 |.er c X=>∀j Y u,EnvOk K M O u Y j X->W c j Y
 |.no=>False
def tS(K:Fg)(W:XW)(g:FS):TS:=λD M H=>∃a O Z C,EnvOk K a O Z H M C/\fU K W a O D (g C)
def aD:FS:=λC=>.nx C
def ax(K G:FS):FS:=λC=>match K C with
 |.nx X=>G X
 |o=>o
def eX(f:F1)(k:PV->Ev->OutS):FS:=λC=>match f C with
 |.ok p X=>k p X
 |.er c X=>.er c X
 |.no=>.no
def bA(c:FB)(a b:FS):FS:=λC=>match c C with
 |.ok t X=>if t then a X else b X
 |.er c X=>.er c X
 |.no=>.no
section
variable{K:Fg}{W:XW}{σ:St}{H:Hp}{D:cP}{fa fb:F1}{ga gb:FB}{g1 g2:FS}
theorem o5(h:tS K W aD D σ H):tu D σ H:=by
 obtain⟨M,O,Z,C,E,h⟩:=h;exact h σ H Z E
theorem tP(h:tS K W (ax g1 g2) D σ H):zX (tS K W g1) (tS K W g2) D σ H:=by
 obtain⟨M,O,Z,C,E,h⟩:=h;refine⟨M,O,Z,C,E,?_⟩
 unfold ax at h
 cases e:g1 C with
 |nx X=>rw[e]at h;exact λj Y u R=>⟨M,O,u,X,R,h⟩
 |bk X=>rw[e]at h;exact h
 |ct X=>rw[e]at h;exact h
 |rt p=>rw[e]at h;exact h
 |er c X=>rw[e]at h;exact h
 |no=>rw[e]at h;exact h
theorem dO{k:PV->Ev->OutS}{R:VK}(h:tS K W (eX fa k) D σ H)(b:∀M O Z I p v n G N,EnvOk K M O Z H σ I\/True->(∀a∈G,M a=none)->Aft K M O Z H σ I p v n G N->fU K W M O D (k p I)->R v n):tE K W fa σ H R:=by
 obtain⟨M,O,Z,C,E,h⟩:=h;refine⟨M,O,Z,C,E,?_⟩
 unfold eX at h
 cases e:fa C with
 |ok p I=>rw[e]at h;exact λv Y G u A=>b M O Z I p v Y G u (.inr trivial) (A.freshG E) A h
 |er c I=>rw[e]at h;exact λY u s d=>h σ Y u d
 |no=>rw[e]at h;exact h
theorem tW(h:tS K W (bA ga g1 g2) D σ H):zZ (tT K W ga) (tS K W g1) (tS K W g2) D σ H:=by
 obtain⟨M,O,Z,C,E,h⟩:=h;refine⟨M,O,Z,C,E,?_⟩
 unfold bA at h
 cases e:ga C with
 |ok b I=>
  rw[e]at h;intro Y u s R n
  cases b with
  |true=>exact kJ ⟨M,O,u,I,R,h⟩
  |false=>exact kK ⟨M,O,u,I,R,h⟩
 |er c I=>rw[e]at h;exact λY u s R=>h σ Y u R
 |no=>rw[e]at h;exact h
def aN(f:F1):FS:=eX f λp _=>if p.s.isView then(if aV p.d then .rt ⟨.leaf,p.d⟩else .no)else .rt p
theorem Ar(h:tS K W (aN fa) D σ H):Dw (tE K W fa) D σ H:=by
 refine dO h λM O Z I p v n G N _ X A w=>?_
 obtain⟨t,k,m⟩:=JM A.env.ndO;have b:∀a∈G,n a≠none:=λa U=>A.env.inH a (JG _ (JG _ U))
 cases R:p.s.isView with
 |false=>
  have w:fU K W M O D (.rt p):=by simpa[R]using w
  exact w v n G ⟨A.env.same,X,b,t,A.own.perm λa U=>JG _ U,R⟩
 |true=>
  cases P:aV p.d with
  |false=>rw[R,P]at w;exact w.elim
  |true=>
   have w:fU K W M O D (.rt ⟨.leaf,p.d⟩):=by simpa[R,P]using w
   exact w v n [] ⟨A.env.same,(λ_ z=>nomatch z),(λ_ z=>nomatch z),nodup_nil,.leaf (A.own.rep.sc P).rep,rfl⟩
def aB(own:Bool)(i:Nat)(f:F1):FS:=eX f λp C=>if i<C.length then(if own&&!p.s.isView then .nx (C.set i (some p))else if T.coer .leaf p then .nx (C.set i (JT p.d))else .no)else .no
theorem F5{i:Nat}(h:tS K W (aB own i fa) D σ H):gN (tE K W fa) (gName i) D σ H:=by
 refine dO h λM O Z I p v n G N _ X A w=>?_
 show D.nx (σ.set i (some v)) n
 have w:fU K W M O D (if i<I.length then(if own&&!p.s.isView then .nx (I.set i (some p))else if T.coer .leaf p then .nx (I.set i (JT p.d))else .no)else .no):=w
 by_cases l:i<I.length
 case neg=>rw[if_neg l]at w;exact w.elim
 rw[if_pos l]at w
 cases J:(own&&!p.s.isView)with
 |true=>
  rw[J]at w;have R:p.s.isView=false:=by
   simp only[Bool.and_eq_true,Bool.not_eq_true']at J
   exact J.2
  exact w _ n _ (EnvOk.put A.env A.own R X l)
 |false=>
  rw[J]at w
  cases f:T.coer .leaf p with
  |false=>rw[f]at w;exact w.elim
  |true=>
   rw[f]at w;have o:=A.own.coer (s:=.leaf) (O':=O++N.flatten) f gO λa U z=>absurd z (A.disj a U)
   exact w _ n _ (EnvOk.put (G:=[]) (p:=⟨.leaf,p.d⟩) (v:=v) A.go o rfl (λa U=>by simp at U) l)
def dQ(f:F1):FS:=eX f λ_ C=>.nx C
theorem xa(h:tS K W (dQ fa) D σ H):dq (tE K W fa) D σ H:=
 dO h λM O Z I p v n G N _ X A w=>w σ n N A.go
theorem sI{m:Type}{l:List m}{i:Nat}{x:m}(h:l[i]?=some x):l.set i x=l:=by
 apply ext_getElem?
 intro j;by_cases A:j=i
 .subst A
  rw[getElem?_set_self (JN h).1,h]
 .rw[getElem?_set_ne (Ne.symm A)]
def yt(i:Nat)(p:PV)(C:Ev):OutS:=match C[i]? with
 |some (some ⟨.lst s,.list ds⟩)=>if T.coer s p&&decide (ds.length<sizeLine)then .nx (C.set i (some ⟨.lst s,.list (ds++[p.d])⟩))else .no
 |_=>.no
def Cu:Option (Option PV)->Bool
 |some (some ⟨.lst _,.list _⟩)=>true
 |_=>false
def fS(i:Nat)(f:F1):FS:=λC=>if Cu C[i]? then eX f (yt i) C else .no
theorem yr{H:Hp}{O G:List Addr}{Fs:List (List Addr)}{C:Ev}{i:Nat}{s:Sh}{p:PV}{v:V}(E:EnvOk K M (G++O) Fs H σ C)(o:Own K (G++O++Fs.flatten) H p.s G v p.d)(X:∀a∈G,M a=none)(h:C[i]?=some (some ⟨.lst s,.list t⟩))(f:T.coer s p=true):∃l L,σ[i]?=some (some (.ref l))/\H l=some (.lst L)/\L.length=t.length/\∃Fs',EnvOk K M O Fs' (bF H l (.lst (L++[v]))) σ (C.set i (some ⟨.lst s,.list (t++[p.d])⟩)):=by
 obtain⟨hv,u,F,J,x,e,n⟩:=E.move h;have hi:i<C.length:=(JN h).1
 cases e with
 |@lst _ l L _ Fs0 hsv hp hl hf nd q=>
  refine⟨l,L,J,hp,hl,Fs.set i (l::(Fs0++[aT s G]).flatten),?_⟩
  have hlF:l∈Fs.flatten:=n l (JG _ mem_cons_self)
  have k:M l=none:=E.fresh l hlF
  have c:∀a∈aT s G,a∈G:=λa U=>EX U
  obtain⟨k1,k2,k3⟩:=JM x.ndO;obtain⟨g1,g2,g3⟩:=JM k2;have ndk:(aT s G).Nodup:=by
   cases s<;>first|exact nodup_nil|exact g1
  have m:((l::(Fs0++[aT s G]).flatten)++O).Perm ((l::Fs0.flatten)++(aT s G++O)):=by
   rw[vW];show(l::((Fs0.flatten++aT s G)++O)).Perm (l::(Fs0.flatten++(aT s G++O)))
   rw[append_assoc]
  have S:EnvOk K M ((l::Fs0.flatten)++(aT s G++O)) (Fs.set i []) H σ (C.set i none):=x.drop (λa U=>by
   rcases JH U with z|z
   .exact JG _ z
   .refine JF _ ?_
    rcases JH z with z|z
    .exact JG _ (c a z)
    .exact JF _ z) (List.nodup_append.mpr ⟨k1,List.nodup_append.mpr ⟨ndk,g2,λa U b Z=>g3 a (c a U) b Z⟩,λa U b Z=>k3 a U b (by
     rcases JH Z with z|z
     .exact JG _ (c b z)
     .exact JF _ z)⟩)
  have N:=S.perm m
  have hlin:l∈(l::(Fs0++[aT s G]).flatten)++O:=mem_cons_self
  have E4:=N.mutO (o:=.lst (L++[v])) hlin hp k
  have lnG:l∉G:=λz=>k3 l mem_cons_self l (JG _ z) rfl
  have d:∀a∈(l::(Fs0++[aT s G]).flatten)++O++(Fs.set i []).flatten,a∈(l::Fs0.flatten)++(G++O)++(Fs.set i []).flatten:=λa U=>by
   rcases JH U with z|z
   .refine JG _ ?_
    rcases JH (m.mem_iff.mp z)with y|y
    .exact JG _ y
    .refine JF _ ?_
     rcases JH y with y|y
     .exact JG _ (c a y)
     .exact JF _ y
   .exact JF _ z
  have ownL:Own K ((l::(Fs0++[aT s G]).flatten)++O++(Fs.set i []).flatten) (bF H l (.lst (L++[v]))) (.lst s) (l::(Fs0++[aT s G]).flatten) (.ref l) (.list (t++[p.d])):=by
   refine .lst hsv fT (by simp[hl]) (by simp[hf]) ?_ λj w Y G' g R e3=>?_
   .have nd2:=N.ndO
    exact(JM nd2).1
   .by_cases A:j<L.length
    .rw[getElem?_append_left A]at g
     rw[getElem?_append_left (by omega)]at R
     rw[getElem?_append_left (by omega)]at e3
     exact((q j w Y G' g R e3).perm d).mut hsv (JG _ hlin) (λz=>(List.nodup_cons.mp nd).1 (gh e3 z)) hp
    .have hj':j=L.length:=by
      have:=(JN g).1
      rw[length_append,length_singleton]at this;omega
     subst hj'
     rw[getElem?_append_right (JR _),Nat.sub_self]at g;rw[getElem?_append_right (by omega),show L.length-t.length=0 by omega]at R
     rw[getElem?_append_right (by omega),show L.length-Fs0.length=0 by omega]at e3
     cases g
     cases R
     cases e3;have osub:∀a∈(l::(Fs0++[aT s G]).flatten)++O++(Fs.set i []).flatten,a∈G++O++Fs.flatten:=λa U=>by
      rcases JH (d a U)with z|z
      .rcases JH z with z|z
       .exact JF _ (n a (JG _ z))
       .exact JG _ z
      .exact JF _ (n a (JF _ z))
     have o3:=o.coer (s:=s) f osub λa U hO=>by
      cases s with
      |leaf=>
       exfalso
       rw[vW]at hO;have P:a∈(l::Fs0.flatten)++O++(Fs.set i []).flatten:=by simpa[aT]using hO
       have r:=E.nd
       rw[append_assoc]at r;have I:=(JM r).2.2
       rcases JH P with z|z
       .rcases JH z with z|z
        .exact I a U a (JF _ (n a (JG _ z))) rfl
        .exact I a U a (JG _ z) rfl
       .exact I a U a (JF _ (n a (JF _ z))) rfl
      |view=>cases hsv
      |lst s=>exact U
      |tup ss=>exact U
     exact o3.mut hsv (JG _ hlin) (λz=>lnG (c l z)) hp
  have fin:=EnvOk.put (i:=i) (p:=⟨.lst s,.list (t++[p.d])⟩) (v:=.ref l) E4 ownL rfl (λa U=>?_) (by rw[length_set];exact hi)
  .rw[set_set,set_set,sI J]at fin
   exact fin
  .rcases JI U with z|z
   .rw[z];exact k
   .rw[vW]at z
    rcases JH z with z|z
    .exact E.fresh a (n a (JG _ (JL _ z)))
    .exact X a (c a z)
theorem EE{a:List V->Hp->Prop}(J:tE K W fa σ H λv Y=>a [v] Y):tA K W (ae fa ah) σ H a:=by
 obtain⟨M,O,Z,C,E,J⟩:=J;refine⟨M,O,Z,C,E,?_⟩
 unfold ae ah
 cases e:fa C with
 |ok p X=>
  rw[e]at J;intro L Y q u A
  match L,q,A.len1,A.len2 with
  |[v],[G],_,_=>exact J v Y G u ⟨A.same,by simpa using A.env,by simpa using A.new,by simpa using A.own 0 v p G rfl rfl rfl⟩
 |er c X=>rw[e]at J;exact J
 |no=>rw[e]at J;exact J
theorem rf{o:Option (Option PV)}(h:Cu o=true):∃s t,o=some (some ⟨.lst s,.list t⟩):=by
 unfold Cu at h;split at h
 .exact⟨_,_,rfl⟩
 .cases h
theorem EnvOk.ownL{H:Hp}{O:List Addr}{C:Ev}{i:Nat}{s:Sh}(E:EnvOk K M O Z H σ C)(h:C[i]?=some (some ⟨.lst s,.list t⟩)):∃l L,σ[i]?=some (some (.ref l))/\H l=some (.lst L)/\L.length=t.length:=by
 obtain⟨R,v,F,J,S,I⟩:=E.slot i _ h
 cases I with
 |@lst _ l L _ Fs0 hsv hp hl hf nd q=>exact⟨l,L,J,hp,hl⟩
theorem qI{i:Nat}(h:tS K W (fS i fa) D σ H):dq (oS K "list" Gf (cm i) (tA K W (ae fa ah))) D σ H:=by
 obtain⟨M,O,Z,C,E,h⟩:=h;unfold fS at h
 cases b:Cu C[i]? with
 |false=>rw[b]at h;exact h.elim
 |true=>
  rw[b]at h;obtain⟨s,t,Y⟩:=rf b;obtain⟨l,L,J,S,c⟩:=E.ownL Y;refine⟨.ref l,J,.inl ⟨rfl,L,.of S⟩,EE (dO (D:=D) ⟨M,O,Z,C,E,h⟩ λM O Z I p v n G N _ X A w=>?_)⟩
  unfold yt at w;split at w
  .rename_i y r g
   cases f:(T.coer y p&&decide (r.length<sizeLine))with
   |false=>rw[f]at w;exact w.elim
   |true=>
    rw[f]at w;simp only[Bool.and_eq_true,decide_eq_true_eq]at f
    obtain⟨d,a,o,k,e,u,R⟩:=yr A.env A.own X g f.1;rw[J]at o
    cases o;exact⟨l,a,v,rfl,rfl,k,by rw[e];exact f.2,w σ _ u R⟩
  .exact w.elim
def bf(i:Nat)(w:FS):List JS->Ev->OutS
 |[],Γ=>.nx Γ
 |d::r,Γ=>if i<Γ.length then(match w (Γ.set i (JT d))with
  |.nx X=>bf i w r X
  |.ct X=>bf i w r X
  |.bk X=>.nx X
  |.rt p=>.rt p
  |.er c X=>.er c X
  |.no=>.no)else .no
def cM(i:Nat)(k:FI)(w:FS):FS:=λC=>match k C with
 |.ok t I=>if t.st then bf i w t.ds I else .no
 |.er c I=>.er c I
 |.no=>.no
theorem EnvOk.rebase{H:Hp}{O:List Addr}{C:Ev}(E:EnvOk K M O Z H σ C):EnvOk K (bV H Z.flatten) O Z H σ C/\Same M (bV H Z.flatten):=
 ⟨⟨E.len1,E.len2,hid_le,E.nd,E.inH,λa U=>by unfold bV;rw[if_pos U],E.slot⟩,λb o e=>se (E.same b o e) λz=>by have:=E.fresh b z;rw[e]at this;cases this⟩
theorem EnvOk.unbase{b H:Hp}{O:List Addr}{C:Ev}(E:EnvOk K b O Z H σ C)(s:Same M b):EnvOk K M O Z H σ C:=
 ⟨E.len1,E.len2,s.trans E.same,E.nd,E.inH,λa U=>s.free (E.fresh a U),E.slot⟩
theorem RetOk.unbase{b H:Hp}{O G:List Addr}{p:PV}{v:V}(r:RetOk K b O p v H G)(s:Same M b):RetOk K M O p v H G:=
 ⟨s.trans r.same,λa U=>s.free (r.fresh a U),r.inH,r.nd,r.own,r.nv⟩
theorem AD{i:Nat}{fi:FI}{w:FS}(h:tS K W (cM i fi w) D σ H):Aa (tI K W fi) (gName i) (tS K W w) D σ H:=by
 obtain⟨M,O,Fs,C,E,h⟩:=h;refine⟨M,O,Fs,C,E,?_⟩
 unfold cM at h
 cases e:fi C with
 |er c I=>rw[e]at h;exact λY Fs' s E'=>h σ Y Fs' E'
 |no=>rw[e]at h;exact h
 |ok t I=>
  rw[e]at h;intro J n N L P y E1 n1 it hP hP1 hst hr;have h:fU K W M O D (if t.st then bf i w t.ds I else .no):=h
  cases ht:t.st with
  |false=>rw[ht]at h;exact h.elim
  |true=>
   rw[ht]at h;have h:fU K W M O D (bf i w t.ds I):=h
   obtain⟨E1',sHe⟩:=E1.rebase;have hlen:L.length=t.ds.length:=hr.1
   refine⟨λk m j Y=>m=L.length-k/\k<=L.length/\∃f g,EnvOk K (bV n N.flatten) O g Y j f/\fU K W M O D (bf i w (t.ds.drop k) f),⟨L.length,by simp,Nat.zero_le _,I,N,E1',by simpa using h⟩,?_⟩
   rintro k m j Y ⟨rfl,hk,f,g,Ek,hw⟩
   have hPk:P Y:=hst ht Y Ek.same
   by_cases hlt:k<L.length
   case neg=>
    left
    have hke:k=L.length:=by omega
    have:t.ds.drop k=[]:=List.drop_eq_nil_of_le (by omega)
    rw[this]at hw;exact⟨by rw[hke];exact it.stop Y hPk,hw j Y g (Ek.unbase sHe)⟩
   case pos=>
    right
    have R:L[k]?=some L[k]:=JJ hlt
    have hkd:k<t.ds.length:=by omega
    have hd:t.ds[k]?=some t.ds[k]:=JJ hkd
    have hdr:t.ds.drop k=t.ds[k]::t.ds.drop (k+1):=List.drop_eq_getElem_cons hkd
    rw[hdr]at hw;generalize hdk:t.ds[k]=d at hd hw
    generalize hvk:L[k]=v at R
    obtain⟨hgo,hyld⟩:=it.go k Y v hPk R
    simp only[bf]at hw
    by_cases l:i<f.length
    case neg=>rw[if_neg l]at hw;exact hw.elim
    rw[if_pos l]at hw;have rep:Rep K (bV Y (O++g.flatten)) v d:=by
     refine(hr.2 k v d R hd).mono λb o Z=>?_
     have hb1:bV n N.flatten b=some o:=sub_hid b o Z
     have hbO:b∉O:=λz=>by
      unfold bV at Z;rw[if_pos (JG _ z)]at Z
      cases Z
     have hbF:b∉g.flatten:=λz=>by
      have:=Ek.fresh b z
      rw[hb1]at this
      cases this
     exact se (Ek.same b o hb1) λz=>(JH z).elim hbO hbF
    have Ep:EnvOk K (bV n N.flatten) O (g.set i []) Y (j.set i (some v)) (f.set i (JT d)):=
     EnvOk.put (G:=[]) (p:=⟨.leaf,d⟩) (v:=v) Ek (.leaf rep) rfl (λa U=>by simp at U) l
    refine⟨hgo,λσ2 H2=>∃f g,EnvOk K (bV n N.flatten) O g H2 σ2 f/\fU K W M O D (bf i w (t.ds.drop (k+1)) f),λσ2 H2 q=>⟨L.length-(k+1),by omega,rfl,hlt,q⟩,λx Hx A=>?_⟩
    obtain⟨rfl,rfl⟩:=hyld x Hx A;show tS K W w _ (j.set i (some x)) Hx
    refine⟨bV n N.flatten,O,_,_,Ep,?_⟩
    cases eb:w (f.set i (JT d))with
    |nx X=>rw[eb]at hw;exact λσ2 H2 F2 S=>⟨X,F2,S,hw⟩
    |ct X=>rw[eb]at hw;exact λσ2 H2 F2 S=>⟨X,F2,S,hw⟩
    |bk X=>rw[eb]at hw;exact λσ2 H2 F2 S=>hw σ2 H2 F2 (S.unbase sHe)
    |rt p=>rw[eb]at hw;exact λu H2 G r=>hw u H2 G (r.unbase sHe)
    |er c X=>rw[eb]at hw;exact λσ2 H2 F2 S=>hw σ2 H2 F2 (S.unbase sHe)
    |no=>rw[eb]at hw;exact hw
end
inductive Res where
 |ok (p:PV)|er (c:Str)|no
def qy(K:Fg)(n:Nat)(w:List JS->Res):Sp:=λL H Q _=>L.length=n/\∃O t,O.Nodup/\(∀a∈O,H a≠none)/\Reps K (bV H O) L t/\match w t with
 |.ok p=>∀v Y G,RetOk K H O p v Y G->Q v Y
 |.er _=>False
 |.no=>False
def bp(n:Nat)(t:List JS):Ev:=t.map (λd=>some ⟨.leaf,d⟩)++List.replicate (n-t.length) none
def aU(n:Nat)(g:FS)(t:List JS):Res:=match g (bp n t)with
 |.nx _=>.ok ⟨.leaf,.none⟩
 |.rt p=>.ok p
 |.er c _=>.er c
 |_=>.no
section
variable{P:Program}{w:World}{K:Fg}{mg:Str->Option Value}{base:Heap}
theorem rn{H:Hp}{O:List Addr}{L:List V}(Y:L.length<=N.length)(X:O.Nodup)(n:∀a∈O,H a≠none)(c:Reps K (bV H O) L t):EnvOk K H O (List.replicate N.length []) H (L2.start N L) (bp N.length t):=by
 have b:(List.replicate N.length ([]:List Addr)).flatten=[]:=by simp
 have d:=c.1
 refine⟨by simp[L2.start,bp,d],by simp[bp];omega,Same.refl _,by rw[b];simpa using X,by rw[b];simpa using n,λa U=>by rw[b]at U;simp at U,λi p y=>?_⟩
 unfold bp at y;by_cases l:i<t.length
 .rw[getElem?_append_left (by simpa using l),getElem?_map,JJ l]at y
  cases y;refine⟨rfl,L[i]'(by omega),[],?_,?_,?_⟩
  .unfold L2.start
   rw[getElem?_append_left (by simp;omega),getElem?_map,JJ (by omega)]
   rfl
  .rw[getElem?_replicate,if_pos (by omega)]
  .refine .leaf ?_
   rw[b,append_nil];exact c.2 i _ _ (JJ _) (JJ l)
 .rw[getElem?_append_right (by simpa using l),getElem?_replicate]at y
  split at y<;>cases y
theorem BP{C:Str}{d:Stmt}{f:Addr}{r:FuncData}{G:List Str}{g:FS}(F:Fun K x C d f r)(S:dM N G (gJ d))(Z:∀(a:Value)(A:Around)(M:List Env)(s:Shared)(H:Hp)(E:XK),Room k (A.deeper (envOfC C (gJ d) s.heap.objs.size f a)) ->
   PSs (jA i6 P w K mg base N C (gJ d) f a A M s H E).nox (sd d) (tS K W0 g)):dy P w K mg base i6 (k+1) f r G (qy K G.length (aU N.length g)):=by
 have J:G.length<=N.length:=by have:=congrArg List.length S.pre;rw[length_take]at this;omega
 refine F.ok S (λL H Q E h=>h.1) (λa A M s H L Q E m h=>⟨_,Z a A M s H E m,?_⟩)
 obtain⟨i,O,t,b,n,l,w⟩:=h;refine⟨H,O,List.replicate N.length [],bp N.length t,rn (by omega) b n l,?_⟩
 unfold aU at w
 cases e:g (bp N.length t)with
 |nx X=>
  rw[e]at w;exact λj Y u R=>w .non Y [] ⟨R.same,(λ_ z=>nomatch z),(λ_ z=>nomatch z),nodup_nil,.leaf .non,rfl⟩
 |rt p=>rw[e]at w;exact w
 |bk X=>rw[e]at w;exact w.elim
 |ct X=>rw[e]at w;exact w.elim
 |er c X=>rw[e]at w;exact w.elim
 |no=>rw[e]at w;exact w.elim
end
def ar(n:Nat)(w:List JS->Res)(b:FL):F1:=λC=>(b C).bind λG X=>if G.length=n then(match w (G.map (·.d))with
 |.ok p=>if G.all (T.coer .leaf)then .ok p X else if aV p.d then .ok ⟨.leaf,p.d⟩ X else .ok ⟨.view,p.d⟩ X
 |_=>.no)else .no
section
variable{K:Fg}{W:XW}{σ:St}{H:Hp}{Q:VK}{fl:FL}
theorem xc{n:Nat}{w:List JS->Res}{E:XK}(h:tE K W (ar n w fl) σ H Q):jL (qy K n w) [] E (tA K W fl) σ H Q:=by
 obtain⟨M,O,Z,C,E0,h⟩:=h;refine⟨M,O,Z,C,E0,?_⟩
 unfold ar at h
 cases e:fl C with
 |er c X=>rw[e]at h;exact h
 |no=>rw[e]at h;exact h
 |ok j I=>
  rw[e]at h;intro L H1 Gs g A;have h:Wants K W M O Z H σ Q (if j.length=n then(match w (j.map (·.d))with|.ok p=>if j.all (T.coer .leaf)then .ok p I else if aV p.d then .ok ⟨.leaf,p.d⟩ I else .ok ⟨.view,p.d⟩ I|_=>.no)else .no):=h
  by_cases Y:j.length=n
  case neg=>rw[if_neg Y]at h;exact h.elim
  rw[if_pos Y]at h;have N:(L++[]).length=n:=by rw[append_nil,A.len1];exact Y
  cases x:w (j.map (·.d))with
  |er c=>rw[x]at h;exact h.elim
  |no=>rw[x]at h;exact h.elim
  |ok p=>
   rw[x]at h;have h:Wants K W M O Z H σ Q (if j.all (T.coer .leaf)then .ok p I else if aV p.d then .ok ⟨.leaf,p.d⟩ I else .ok ⟨.view,p.d⟩ I):=h
   obtain⟨t,k,m⟩:=JM A.env.nd;obtain⟨m1,m2,m3⟩:=JM t;have newF:∀a∈g.flatten,a∈Z.flatten\/H a=none:=λa U=>A.new a (JF _ U)
   cases f:j.all (T.coer .leaf)with
   |true=>
    rw[f]at h;have h:Wants K W M O Z H σ Q (.ok p I):=h
    refine⟨N,O++g.flatten,j.map (·.d),A.env.dropL.nd,A.env.dropL.inH,?_,?_⟩
    .rw[append_nil]
     refine⟨A.reps.1,λi v d J S=>?_⟩
     rw[getElem?_map]at S
     cases R:j[i]? with
     |none=>rw[R]at S;cases S
     |some q=>
      rw[R]at S
      cases S;have l:=(JN R).1
      have e3:Gs[i]?=some (Gs[i]'(by rw[A.len2];exact l)):=JJ _
      have o:=A.own i v q _ J R e3
      have b:=o.coer (s:=.leaf) (O':=O++g.flatten) (List.all_eq_true.mp f q (mem_of_getElem? R)) gO λa U z=>by
       exfalso
       have u:=gh e3 U
       rcases JH z with y|y
       .exact m3 a u a y rfl
       .exact m a (JG _ u) a y rfl
      cases b with
      |leaf r=>exact r
    .rw[x]
     intro v H2 G r;refine h v H2 G g ⟨A.same.trans r.same,A.env.dropL.hide r.same r.nd r.fresh r.inH,λa U=>?_,by rw[append_assoc];exact r.own⟩
     rcases JH U with z|z
     .exact .inr (A.same.free (r.fresh a z))
     .exact newF a z
   |false=>
    rw[f]at h;have h:Wants K W M O Z H σ Q (if aV p.d then .ok ⟨.leaf,p.d⟩ I else .ok ⟨.view,p.d⟩ I):=h
    refine⟨N,[],j.map (·.d),nodup_nil,(λ_ z=>nomatch z),by rw[append_nil,Ga];exact A.reps,?_⟩
    rw[x];intro v H2 G r
    cases P:aV p.d with
    |true=>
     rw[P]at h;exact Wants.scal h (r.own.rep.sc P) (A.same.trans r.same) (A.env.dropL.grow r.same) (λa U=>U) E0.ndO newF
    |false=>
     rw[P]at h;have h:Wants K W M O Z H σ Q (.ok ⟨.view,p.d⟩ I):=h
     exact h v H2 [] g ⟨A.same.trans r.same,by simpa using A.env.dropL.grow r.same,by simpa using newF,.view r.own.rep⟩
end
theorem Ej:bootBuiltins "len"=some (.builtin "len"):=by decide +kernel
theorem zm:bootBuiltins "all"=some (.builtin "all"):=by decide +kernel
theorem Em:bootBuiltins "any"=some (.builtin "any"):=by decide +kernel
theorem m7:bootBuiltins "sorted"=some (.builtin "sorted"):=by decide +kernel
theorem la:bootBuiltins "isinstance"=some (.builtin "isinstance"):=by decide +kernel
theorem El:bootBuiltins "int"=some (.type "int"):=by decide +kernel
theorem B9:bootBuiltins "list"=some (.type "list"):=by decide +kernel
theorem Ca:bootBuiltins "bool"=some (.type "bool"):=by decide +kernel
section
variable{X:Cx}{W:XW}{a b c e:Expr}{es:List Expr}{pos:Pos}{fa fb fc:F1}{fl:FL}{ga gb:FB}{g1 g2:FS}
theorem B2{j:CmpOp}{r:R2}{g:JS->JS->Option JS}(J:OpR X (compareOp j) r)(l:GOp X.K r g)(U:PE X a (tE X.K W fa))(Z:PE X b (tE X.K W fb))(C:behindInMarks j b=false:=by with_unfolding_all rfl):PE X (.Compare a [j] [b] pos) (tE X.K W (az g fa fb)):=aZ (xp J U Z C) λ_ _ _=>gy l
theorem BX{j:CmpOp}{r:R2}{g:JS->JS->Option JS}(J:OpR X (compareOp j) r)(l:GOp X.K r g)(U:PE X a (tE X.K W fa))(Z:PE X b (tE X.K W fb))(C:behindInMarks j b=false:=by with_unfolding_all rfl):PT X (.Compare a [j] [b] pos) (tT X.K W (aG aj (az g fa fb))):=vy (xk J U Z C) λM H d=>wK λQ=>gy l
theorem vh{j m:CmpOp}{r E:R2}{g S:JS->JS->Option JS}(J:OpR X (compareOp j) r)(l:GOp X.K r g)(i:OpR X (compareOp m) E)(k:GOp X.K E S)(U:PE X a (tE X.K W fa))(Z:PE X b (tE X.K W fb))(f:PE X c (tE X.K W fc))(C:lastMarks [j,m] [b,c]=false:=by with_unfolding_all rfl):PE X (.Compare a [j,m] [b,c] pos) (tE X.K W (zw g S fa fb fc)):=aZ (uq J i U Z f C) λ_ _ _=>tZ l k
theorem da_nil:PA X [] (tA X.K W ah):=zt yI λ_ _ _=>Av
theorem da_cons(U:PE X e (tE X.K W fa))(m:PA X es (tA X.K W fl))(P:starEach (e::es) X.env=(false,eval e X.env)::starEach es X.env:=by rfl):PA X (e::es) (tA X.K W (ae fa fl)):=zt (sf U m P) λ_ _ _=>xb
theorem pR{i:String}{r:List V->Hp->VK->Prop}{g:List JS->Option JS}{p:Pos}(f:CallR X (.builtin i) r)(l:GCall X.K r g)(R:bootBuiltins x=some (.builtin i))(C:X.mg x=none)(U:PA X (e::es) (tA X.K W fl))(u:Gl X x:=by rfl)(Y:x ≠ "__name__":=by decide)(d:(x==("__debug__":Str))=false:=by decide)(h:starEach (e::es) X.env=(false,eval e X.env)::starEach es X.env:=by rfl)(J:(backTo pos (starEach es X.env)).any (·.1)=false:=by rfl):PE X (.Call (.Name x p) (e::es) [] pos) (tE X.K W (bc g fl)):=aZ (EL f u C R U Y d h J) λ_ _ _=>o7 l
theorem Ec{i:String}{r:List V->Hp->VK->Prop}{g:List JS->Option JS}{p:Pos}(f:CallR X (.type i) r)(l:GCall X.K r g)(R:bootBuiltins x=some (.type i))(C:X.mg x=none)(U:PA X (e::es) (tA X.K W fl))(u:Gl X x:=by rfl)(Y:x ≠ "__name__":=by decide)(d:(x==("__debug__":Str))=false:=by decide)(h:starEach (e::es) X.env=(false,eval e X.env)::starEach es X.env:=by rfl)(J:(backTo pos (starEach es X.env)).any (·.1)=false:=by rfl):PE X (.Call (.Name x p) (e::es) [] pos) (tE X.K W (bc g fl)):=aZ (jW f u C R U Y d h J) λ_ _ _=>o7 l
theorem rN{p:Pos}(C:X.mg "list"=none)(U:PE X e (tE X.K W fa))(u:Gl X "list":=by rfl)(P:starEach [e] X.env=[(false,eval e X.env)]:=by rfl):PE X (.Call (.Name "list" p) [e] [] pos) (tE X.K W (lh fa)):=aZ (jW kY u C B9 (da_cons U da_nil P) (by decide) (by decide) P rfl) λ_ _ _=>qH
theorem yi{f:Addr}{r:FuncData}{G:List Str}{n:Nat}{w:List JS->Res}{p:Pos}(F:dy X.prog X.w X.K X.mg X.base i6 k f r G (qy X.K n w))(m:Room k X.A)(C:X.mg x=some (.ref f))(O:PySem.W.keepIn X.K (.ref f)=true)(Z:Binds X.K r G [])(U:PA X (e::es) (tA X.K W fl))(l:Gl X x:=by rfl)(d:(x==("__debug__":Str))=false:=by decide)(R:starEach (e::es) X.env=(false,eval e X.env)::starEach es X.env:=by rfl)(J:(backTo pos (starEach es X.env)).any (·.1)=false:=by rfl):PE X (.Call (.Name x p) (e::es) [] pos) (tE X.K W (ar n w fl)):=aZ (C6 F m l C O Z .nil ma U d R J) λ_ _ _=>xc
theorem Eb{m:Expr}{p:Pos}(C:X.mg "range"=none)(U:PA X [a] (tA X.K W fl))(l:Gl X "range":=by rfl)(P:starEach [a] X.env=[(false,eval a X.env)]:=by rfl):PI X m (.Call (.Name "range" p) [a] [] pos) (tI X.K W (i5 fl)):=pX (qN l C U P) λ_ _ _=>AB
theorem Ea{m:Expr}{p:Pos}(C:X.mg "range"=none)(U:PA X [a,b] (tA X.K W fl))(l:Gl X "range":=by rfl)(P:starEach [a,b] X.env=[(false,eval a X.env),(false,eval b X.env)]:=by rfl)(w:starEach [b] X.env=[(false,eval b X.env)]:=by rfl):PI X m (.Call (.Name "range" p) [a,b] [] pos) (tI X.K W (vI fl)):=pX (qM l C U P w) λ_ _ _=>AA
def aR:FB:=λC=>.ok true C
theorem yh{d:Scope}{o:Pos}{q:Expr}{m:List Expr}{k:FI}{G:F1}{n:FB}(s:Sh)(i:Nat)(S:de X.N [i] X.env.scope d)(J:X.N.Nodup)(I:PI X (.Name x o) z (tI X.K W k))(f:∀t C E w u,PF (blk X d t C E w u) m (tT X.K W0 n))(R:∀t C E w u,PE (blk X d t C E w u) q (tE X.K W0 G))(O:X.calm=true:=by rfl)(A:X.N[i]?=some x:=by rfl)(N:∀t C E w u,Loc (blk X d t C E w u).env.scope x:=by first|exact λ_ _ _ _ _=>Or.inl rfl|exact λ_ _ _ _ _=>Or.inr rfl)(L:∀t C E w u,(blk X d t C E w u).fn x=true\/(blk X d t C E w u).env.scope.names.lookup x=some .local:=by first|exact λ_ _ _ _ _=>Or.inr rfl|exact λ_ _ _ _ _=>Or.inl rfl)(P:∀x,foldedSetIterable z X.env x=pure x:=by intro _;rfl):PE X (.ListComp q [⟨.Name x o,z,m,0⟩] d pos) (tE X.K W (aw s i k n G)):=
 aZ (pA S O I (λt C E w u=>nq (X:=blk X d t C E w u) (i:=i) J A (N t C E w u) (L t C E w u)) f R P) λ_ _ _=>o6
theorem BY(own:Bool)(i:Nat){K:Pos}(J:X.N.Nodup)(U:PE X a (tE X.K W fa))(l:X.N[i]?=some x:=by rfl)(A:Loc X.env.scope x:=by first|exact Or.inl rfl|exact Or.inr rfl)(P:swapsWith a (some (.Name x K)) pos.line X.env=pure false:=by rfl)(L:X.fn x=true\/X.env.scope.names.lookup x=some .local:=by first|exact .inl rfl|exact .inr rfl):PS X (.Assign [.Name x K] a pos) (tS X.K W (aB own i fa)):=bB (FZ J l A U P L) λ_ _ _=>F5
theorem ou(own:Bool)(j:Nat){d:Scope}{o K r:Pos}{q:Expr}{m:List Expr}{k:FI}{G:F1}{n:FB}(s:Sh)(i:Nat)(S:de X.N [i] X.env.scope d)(J:X.N.Nodup)(I:PI X (.Name x o) z (tI X.K W k))(f:∀t C E w u,PF (blk X d t C E w u) m (tT X.K W0 n))(R:∀t C E w u,PE (blk X d t C E w u) q (tE X.K W0 G))(v:swapsWith (.ListComp q [⟨.Name x o,z,m,0⟩] d pos) (some (.Name y K)) r.line X.env=pure true:=by rfl)(Z:X.N[j]?=some y:=by rfl)(g:X.env.scope.names.lookup y=some .local:=by rfl)(O:X.calm=true:=by rfl)(A:X.N[i]?=some x:=by rfl)(N:∀t C E w u,Loc (blk X d t C E w u).env.scope x:=by first|exact λ_ _ _ _ _=>Or.inl rfl|exact λ_ _ _ _ _=>Or.inr rfl)(L:∀t C E w u,(blk X d t C E w u).fn x=true\/(blk X d t C E w u).env.scope.names.lookup x=some .local:=by first|exact λ_ _ _ _ _=>Or.inr rfl|exact λ_ _ _ _ _=>Or.inl rfl)(P:∀x,foldedSetIterable z X.env x=pure x:=by intro _;rfl):PS X (.Assign [.Name y K] (.ListComp q [⟨.Name x o,z,m,0⟩] d pos) r) (tS X.K W (aB own j (aw s i k n G))):=
 bB (nT J Z g S O I (λt C E w u=>nq (X:=blk X d t C E w u) (i:=i) J A (N t C E w u) (L t C E w u)) f R v P) λD M H h=>by
  have l:gN (tE X.K W (aw s i k n G)) (gName j) D M H:=F5 h
  exact o6 l
theorem rq(i:Nat){p d h:Pos}(U:PE X a (tE X.K W fa))(J:X.N[i]?=some x:=by rfl)(R:Ce X.env.scope x:=by first|exact Or.inl rfl|exact Or.inr (Or.inl rfl)|exact Or.inr (Or.inr rfl))(g:(x==("__debug__":Str))=false:=by decide)(O:(x==("__classdict__":Str))=false:=by decide)(P:starEach [a] X.env=[(false,eval a X.env)]:=by rfl)(j:attributeBase (.Name x p) "append" X.env (eval (.Name x p) X.env)=eval (.Name x p) X.env:=by rfl)(f:(d.endLine==h.line)=true:=by rfl)(n:((backTo h (starEach [a] X.env)).all (λx=>!x.1)&&(backToKw h (keywordEach [] X.env)).all (λx=>x.1.isSome)
   && decide ([a].length+([]:List Keyword).length+(if([]:List Keyword).isEmpty then 0 else 1)<30))=true:=by rfl)(v:swapsWith (.Call (.Attribute (.Name x p) "append" d) [a] [] h) none pos.line X.env=pure false:=by rfl):PS X (.Expr (.Call (.Attribute (.Name x p) "append" d) [a] [] h) pos) (tS X.K W (fS i fa)):=
 bB (vB (eN PySem.F.plainAttrs_list PySem.F.slot_list_append PySem.F.type_list_append Hj (lz J R g O) (da_cons U da_nil P) j n f P rfl) v) λ_ _ _=>qI
theorem BZ(i:Nat){o:Pos}{w:List Stmt}{k:FI}{g:FS}(y:PassesOwn (model X.prog X.w) X.A X.env X.xe)(J:X.N.Nodup)(I:PI X (.Name x o) z (tI X.K W k))(Z:PSs X w (tS X.K W g))(O:X.calm=true:=by rfl)(A:X.N[i]?=some x:=by rfl)(N:Loc X.env.scope x:=by first|exact Or.inl rfl|exact Or.inr rfl)(L:X.fn x=true\/X.env.scope.names.lookup x=some .local:=by first|exact .inl rfl|exact .inr rfl)(P:∀x,foldedSetIterable z X.env x=pure x:=by intro _;rfl):PS X (.For (.Name x o) z w [] pos) (tS X.K W (cM i k g)):=
 bB (uh y O I (nq J A N L) Z P) λ_ _ _=>AD
end
structure Cp(X:Cx)(N gl:List Str)(vs cs ls lo gs:List Nat):Prop where
 hN:X.N=N
 nd:N.Nodup
 nm:∀x∈N,(x==("__debug__":Str))=false/\(x==("__classdict__":Str))=false
 ng:∀x∈gl,(x==("__debug__":Str))=false/\x ≠ "__name__"
 vis:∀(i:Nat) x,N[i]?=some x->vs.contains i=true->Ce X.env.scope x
 cel:∀(i:Nat) x,N[i]?=some x->cs.contains i=true->X.env.scope.names.lookup x=some .cell\/X.env.scope.names.lookup x=some .free
 loc:∀(i:Nat) x,N[i]?=some x->ls.contains i=true->Loc X.env.scope x/\(X.fn x=true\/X.env.scope.names.lookup x=some .local)
 loo:∀(i:Nat) x,N[i]?=some x->lo.contains i=true->X.env.scope.names.lookup x=some .local
 glb:∀(j:Nat) x,gl[j]?=some x->gs.contains j=true->Gl X x
 calm:X.calm=true
 kind:X.env.scope.kind=.function
def yF(sc:Scope)(a:List NameKind)(o:Option Str):Bool:=match o with
 |some x=>(match sc.names.lookup x with
  |some k=>a.any λz=>decide (z=k)
  |none=>false)
 |none=>true
def sx(N t:List Str)(L o m O u:List Nat)(sc:Scope):Bool:=
 decide (sc.kind=.function)&&(L.all λi=>yF sc [.local,.cell,.free] N[i]?)&&(o.all λi=>yF sc [.cell,.free] N[i]?)&&(m.all λi=>yF sc [.local,.cell] N[i]?)&&(O.all λi=>yF sc [.local] N[i]?)&&(u.all λj=>yF sc [.globalImplicit] t[j]?)
def D1(N t:List Str):Bool:=decide N.Nodup&&(N.all λx=>!(x==("__debug__":Str))&&!(x==("__classdict__":Str)))&&(t.all λx=>!(x==("__debug__":Str))&&!decide (x = "__name__"))
theorem CI{sc:Scope}{a:List NameKind}(h:yF sc a (some x)=true):∃k∈a,sc.names.lookup x=some k:=by
 unfold yF at h;simp only at h
 split at h
 .rename_i k e
  simp only[any_eq_true,decide_eq_true_eq]at h
  obtain⟨z,P,rfl⟩:=h;exact⟨z,P,e⟩
 .cases h
theorem CO{P:Nat->Bool}{l:List Nat}{i:Nat}(h:l.all P=true)(a:l.contains i=true):P i=true:=by
 rw[all_eq_true]at h;exact h i (by simpa using a)
structure JC(N gl:List Str)(vs cs ls lo gs:List Nat)(sc:Scope):Prop where
 kind:sc.kind=.function
 vis:∀(i:Nat) x,N[i]?=some x->vs.contains i=true->Ce sc x
 cel:∀(i:Nat) x,N[i]?=some x->cs.contains i=true->sc.names.lookup x=some .cell\/sc.names.lookup x=some .free
 loc:∀(i:Nat) x,N[i]?=some x->ls.contains i=true->Loc sc x
 loo:∀(i:Nat) x,N[i]?=some x->lo.contains i=true->sc.names.lookup x=some .local
 glb:∀(j:Nat) x,gl[j]?=some x->gs.contains j=true->sc.names.lookup x=some .globalImplicit
theorem FU{t:List Str}{L m b u:List Nat}{sc:Scope}(h:sx N t L o m b u sc=true):JC N t L o m b u sc:=by
 unfold sx at h;simp only[Bool.and_eq_true,decide_eq_true_eq]at h
 obtain⟨⟨⟨⟨⟨a,J⟩,S⟩,I⟩,c⟩,E⟩:=h;refine⟨a,λi x e l=>?_,λi x e l=>?_,λi x e l=>?_,λi x e l=>?_,λi x e l=>?_⟩
 .have q:=CO J l
  rw[e]at q;obtain⟨k,O,q⟩:=CI q;simp only[mem_cons,not_mem_nil,or_false]at O
  rcases O with rfl|rfl|rfl
  .exact .inl q
  .exact .inr (.inl q)
  .exact .inr (.inr q)
 .have q:=CO S l
  rw[e]at q;obtain⟨k,O,q⟩:=CI q;simp only[mem_cons,not_mem_nil,or_false]at O
  rcases O with rfl|rfl
  .exact .inl q
  .exact .inr q
 .have q:=CO I l
  rw[e]at q;obtain⟨k,O,q⟩:=CI q;simp only[mem_cons,not_mem_nil,or_false]at O
  rcases O with rfl|rfl
  .exact .inl q
  .exact .inr q
 .have q:=CO c l
  rw[e]at q;obtain⟨k,O,q⟩:=CI q;simp only[mem_cons,not_mem_nil,or_false]at O
  rw[O]at q;exact q
 .have q:=CO E l
  rw[e]at q;obtain⟨k,O,q⟩:=CI q;simp only[mem_cons,not_mem_nil,or_false]at O
  rw[O]at q;exact q
theorem uy{t:List Str}(h:D1 N t=true):N.Nodup/\(∀x∈N,(x==("__debug__":Str))=false/\(x==("__classdict__":Str))=false)/\∀x∈t,(x==("__debug__":Str))=false/\x ≠ "__name__":=by
 unfold D1 at h;simp only[Bool.and_eq_true,decide_eq_true_eq,all_eq_true,Bool.not_eq_true',decide_eq_false_iff_not]at h
 exact⟨h.1.1,h.1.2,h.2⟩
theorem Cp.fn{P:Program}{w:World}{K:Fg}{p:Str->Option Value}{X:Heap}{t:List Str}{L m O u:List Nat}{C:Str}{sc:Scope}{f:Addr}{g:Value}{M:List Env}{s:Shared}{H:Hp}{E:XK}(h:sx N t L o m O u sc=true)(j:D1 N t=true):Cp (jA i6 P w K p X N C sc f g A M s H E).nox N t L o m O u:=by
 obtain⟨a,b,c⟩:=uy j
 have q:=FU h
 exact⟨rfl,a,b,c,q.vis,q.cel,λi x e l=>⟨q.loc i x e l,.inl rfl⟩,q.loo,q.glb,rfl,q.kind⟩
theorem yX{g:Env}{x:Str}{k:NameKind}:∀{b:List (Str×NameKind)},b.lookup x=some k ->
  (b.map λ(n,k)=>if(k==NameKind.free&&g.scope.kind==.function&&g.kindOf n==some .cell)then(n,NameKind.cell)else(n,k)).lookup x=some k \/
  (k=.free/\(b.map λ(n,k)=>if(k==NameKind.free&&g.scope.kind==.function&&g.kindOf n==some .cell)then(n,NameKind.cell)else(n,k)).lookup x=some .cell)
 |[],h=>by simp at h
 |(n,k')::r,h=>by
  have E:=@yX g x k r
  rw[map_cons];show List.lookup x ((if(k'==NameKind.free&&g.scope.kind==.function&&g.kindOf n==some .cell)=true then(n,NameKind.cell)else(n,k'))::_)=_\/_/\List.lookup x ((if(k'==NameKind.free&&g.scope.kind==.function&&g.kindOf n==some .cell)=true then(n,NameKind.cell)else(n,k'))::_)=_
  by_cases f:(k'==NameKind.free&&g.scope.kind==.function&&g.kindOf n==some .cell)=true
  .rw[if_pos f]
   cases A:x==n with
   |true=>
    simp only[lookup_cons,A]at h ⊢
    cases h;simp only[Bool.and_eq_true,beq_iff_eq]at f
    exact .inr ⟨f.1.1,trivial⟩
   |false=>
    simp only[lookup_cons,A]at h ⊢
    exact E h
  .rw[if_neg f]
   cases A:x==n with
   |true=>
    simp only[lookup_cons,A]at h ⊢
    cases h;exact .inl rfl
   |false=>
    simp only[lookup_cons,A]at h ⊢
    exact E h
theorem vN{d:Scope}{env:Env}{k:NameKind}(h:d.names.lookup x=some k):(relabel d env).names.lookup x=some k\/(k=.free/\(relabel d env).names.lookup x=some .cell):=yX h
theorem Cp.blk{X:Cx}{N t:List Str}{L o m O u r v a g H:List Nat}{d:Scope}(S:Cp X N t L o m O u)(h:sx N t r v a g H d=true)(cells C s₀ H₀ ex):Cp (blk X d cells C s₀ H₀ ex) N t r v a g H:=by
 have q:=FU h
 refine⟨S.hN,S.nd,S.nm,S.ng,λi x e l=>?_,λi x e l=>?_,λi x e l=>?_,λi x e l=>?_,λi x e l=>?_,S.calm,q.kind⟩
 .show Ce (relabel d X.env) x
  rcases q.vis i x e l with z|z|z
  .rcases vN (env:=X.env) z with y|⟨y,_⟩
   .exact .inl y
   .cases y
  .rcases vN (env:=X.env) z with y|⟨y,_⟩
   .exact .inr (.inl y)
   .cases y
  .rcases vN (env:=X.env) z with y|⟨_,y⟩
   .exact .inr (.inr y)
   .exact .inr (.inl y)
 .show(relabel d X.env).names.lookup x=some .cell\/(relabel d X.env).names.lookup x=some .free
  rcases q.cel i x e l with z|z
  .rcases vN (env:=X.env) z with y|⟨y,_⟩
   .exact .inl y
   .cases y
  .rcases vN (env:=X.env) z with y|⟨_,y⟩
   .exact .inr y
   .exact .inl y
 .show Loc (relabel d X.env) x/\((d.names.any λy=>y.1==x&&y.2==.cell)=true\/(relabel d X.env).names.lookup x=some .local)
  rcases q.loc i x e l with z|z
  .rcases vN (env:=X.env) z with y|⟨y,_⟩
   .exact⟨.inl y,.inr y⟩
   .cases y
  .rcases vN (env:=X.env) z with y|⟨y,_⟩
   .refine⟨.inr y,.inl ?_⟩
    rw[any_eq_true];exact⟨(x,.cell),iI z,by simp⟩
   .cases y
 .show(relabel d X.env).names.lookup x=some .local
  rcases vN (env:=X.env) (q.loo i x e l)with y|⟨y,_⟩
  .exact y
  .cases y
 .show(relabel d X.env).names.lookup x=some .globalImplicit
  rcases vN (env:=X.env) (q.glb i x e l)with y|⟨y,_⟩
  .exact y
  .cases y
def kb(N:List Str)(i:Nat)(o:List Nat)(sc:Scope):Bool:=
 decide (sc.kind=.function)&&(sc.names.all λp=>!decide (p.2=.free)||o.any λj=>decide (N[j]?=some p.1)) &&
 ((List.range N.length).all λj=>j==i||(sc.names.all λp=>!decide (some p.1=N[j]?)||(!decide (p.2=.local)&&!decide (p.2=.cell)))) &&
 (sc.names.all λp=>!decide (p.2=.local)||decide (sc.names.lookup p.1=some .local)) &&
 (sc.names.all λp=>!decide (p.2=.free)||sc.names.all λq=>!decide (q.1=p.1)||!decide (q.2=.cell))
theorem mY{t:List Str}{L m O u:List Nat}{d:Scope}{i:Nat}(S:Cp X N t L o m O u)(h:kb N i o d=true):de X.N [i] X.env.scope d:=by
 unfold kb at h;simp only[Bool.and_eq_true,decide_eq_true_eq,all_eq_true,Bool.or_eq_true,Bool.not_eq_true',decide_eq_false_iff_not,any_eq_true,mem_range,beq_iff_eq]at h
 obtain⟨⟨⟨⟨a,J⟩,g⟩,I⟩,c⟩:=h;refine⟨a,λn Y=>?_,λj x e b=>?_,λx A e=>?_,λn Y f=>?_⟩
 .rcases J _ Y with z|⟨j,b,e⟩
  .exact absurd rfl z
  .exact S.cel j n e (by simpa using b)
 .rw[S.hN]at e
  rcases g j (JN e).1 with z|z
  .rw[z];exact List.mem_singleton.mpr rfl
  .exfalso
   rcases b with y|y
   .rcases z _ y with w|w
    .exact w e.symm
    .exact w.1 rfl
   .rcases z _ y with w|w
    .exact w e.symm
    .exact w.2 rfl
 .rcases I x A with z|z
  .exact absurd e z
  .exact z
 .rcases c _ Y with z|z
  .exact z rfl
  .rcases z _ f with w|w
   .exact w rfl
   .exact w rfl
structure Fx(X Y:Cx):Prop where
 prog:Y.prog=X.prog
 w:Y.w=X.w
 K:Y.K=X.K
 mg:Y.mg=X.mg
 base:Y.base=X.base
 A:Y.A=X.A
def Rm(X:Cx):Prop:=X.A.units+64<cLine
def CN(X:Cx)(x:Str)(n:Nat)(w:List JS->Res):Prop:=∃(k:Nat)(f:Addr)(fd:FuncData)(ps:List Str),dy X.prog X.w X.K X.mg X.base i6 k f fd ps (qy X.K n w)/\Room k X.A/\X.mg x=some (.ref f)/\PySem.W.keepIn X.K (.ref f)=true/\Binds X.K fd ps []
def JD(X:Cx)(x:Str)(d:JS):Prop:=∃u v,X.mg x=some u/\RelV v u/\∀H,Rep X.K H v d
section
variable{X:Cx}{N gl:List Str}{vs cs ls lo gs:List Nat}{W:XW}{a b c e:Expr}{es:List Expr}{pos p:Pos}{fa fb fc:F1}{fl:FL}{ga gb:FB}{g1 g2:FS}
theorem Cp.g(S:Cp X N gl vs cs ls lo gs){j:Nat}(A:gl[j]?=some x)(l:gs.contains j=true):Gl X x/\(x==("__debug__":Str))=false/\x ≠ "__name__":=
 ⟨S.glb j x A l,S.ng x (mem_of_getElem? A)⟩
def DM:R2:=λx y H Q=>pe (λi j=>.bl (decide (i<j))) x y H Q\/∃i j,x=.str i/\y=.str j/\Q (.bl (decide (i.cps.toList<j.cps.toList))) H
theorem DZ:OpR X (compareOp .Lt) DM:=op_lt.or qQ
def BN:JS->JS->Option JS
 |.str i,.str j=>some (.bool (!decide (i.cps.toList<j.cps.toList)))
 |_,_=>none
abbrev oj:JS->JS->Option JS:=λa b=>(JB a b).or (BN a b)
def AN:R2:=λx y H Q=>pe (λi j=>.bl (decide (j<=i))) x y H Q\/∃i j,x=.str i/\y=.str j/\Q (.bl (!decide (i.cps.toList<j.cps.toList))) H
theorem qR:OpR X (compareOp .GtE) (λx y H Q=>∃i j,x=.str i/\y=.str j/\Q (.bl (!decide (i.cps.toList<j.cps.toList))) H):=by
 intro G s M H x y v u Q I w o h;obtain⟨i,j,rfl,rfl,q⟩:=h;obtain⟨t,rfl⟩:=w;obtain⟨O,rfl⟩:=o;exact PySem.P.ge_str (Ez I q rfl)
theorem D0:OpR X (compareOp .GtE) AN:=op_ge.or qR
theorem xN{K:Fg}:GOp K (λx y H Q=>∃i j,x=.str i/\y=.str j/\Q (.bl (!decide (i.cps.toList<j.cps.toList))) H) BN:=by
 intro x y H Q a b d l R e k
 cases l<;>cases R<;>simp only[BN]at e<;>try cases e
 rename_i i j;exact⟨i,j,rfl,rfl,k _ (.bl _)⟩
theorem BI{K:Fg}:GOp K AN oj:=(Cs λ_ _=>.bl _).or xN
structure Ck(X:Cx)(op:CmpOp)(r:R2)(g:JS->JS->Option JS):Prop where
 o:OpR X (compareOp op) r
 g:GOp X.K r g
theorem lY(R:Rm X):Ck X .Lt DM gG:=⟨DZ,BH⟩
theorem Ib(R:Rm X):Ck X .LtE (pe λi j=>.bl (decide (i<=j))) FD:=⟨DW,Cs λ_ _=>.bl _⟩
theorem fC(R:Rm X):Ck X .Gt (pe λi j=>.bl (decide (j<i))) dS:=⟨DX,Cs λ_ _=>.bl _⟩
theorem Ic(R:Rm X):Ck X .GtE AN oj:=⟨D0,BI⟩
theorem cD(R:Rm X):Ck X .Eq (qK X.K false) bP:=⟨Bk R,BJ⟩
theorem d5(R:Rm X):Ck X .NotEq (qK X.K true) cO:=⟨Bf R,BG⟩
theorem dv(R:Rm X):Ck X .In (ub X.K false) (bw false):=⟨Bj R,uS⟩
theorem vU(R:Rm X):Ck X .NotIn (ub X.K true) (bw true):=⟨qP R,uS⟩
theorem ct{j:CmpOp}{r:R2}{g:JS->JS->Option JS}(k:Ck X j r g)(U:PE X a (tE X.K W fa))(Z:PE X b (tE X.K W fb))(C:behindInMarks j b=false):PT X (.Compare a [j] [b] pos) (tT X.K W (aG aj (az g fa fb))):=BX k.o k.g U Z C
abbrev sA(X:Cx)(N t:List Str)(L o m O u:List Nat)(R:Cx->Prop):Prop:=∀Y:Cx,Cp Y N t L o m O u->Fx X Y->R Y
theorem co{d:Scope}{o:Pos}{q:Expr}{m:List Expr}{k:FI}{G:F1}{n:FB}{r v g H:List Nat}(S:Cp X N gl vs cs ls lo gs)(s:Sh)(i:Nat)(A:N[i]?=some x)(J:kb N i cs d=true)(h:sx N gl r v [i] g H d=true)(I:PI X (.Name x o) z (tI X.K W k))(f:sA X N gl r v [i] g H λY=>PF Y m (tT Y.K W0 n))(R:sA X N gl r v [i] g H λY=>PE Y q (tE Y.K W0 G))(P:∀x,foldedSetIterable z X.env x=pure x):PE X (.ListComp q [⟨.Name x o,z,m,0⟩] d pos) (tE X.K W (aw s i k n G)):=by
 have B:=λt C E w u=>S.blk h t C E w u
 have L:=λt C E w u=>(B t C E w u).loc i x A (by simp)
 exact yh (X:=X) s i (mY S J) (by rw[S.hN];exact S.nd) I (λt C E w u=>f _ (B t C E w u) ⟨rfl,rfl,rfl,rfl,rfl,rfl⟩) (λt C E w u=>R _ (B t C E w u) ⟨rfl,rfl,rfl,rfl,rfl,rfl⟩)
  S.calm (by rw[S.hN];exact A) (λt C E w u=>(L t C E w u).1) (λt C E w u=>(L t C E w u).2) P
theorem nM{q:Expr}{d:Scope}{K:Pos}{f:Nat}(O:X.env.scope.kind=.function)(Z:X.env.scope.names.lookup y=some .local)(i:(K.line==pos.line)=true)(Y:(d.names.any λ(n,k)=>n==y&&(k==NameKind.local||k==NameKind.cell))=false):swapsWith (.ListComp q h d pos) (some (.Name y K)) f X.env=pure true:=by
 have g:(X.env.blockKind==ScopeKind.function)=true:=by unfold Env.blockKind;rw[O];rfl
 have R:(X.env.kindOf y==some NameKind.local)=true:=by unfold Env.kindOf;rw[Z];rfl
 show(pure (X.env.blockKind==.function&&X.env.kindOf y==some .local&&K.line==pos.line&&!(d.names.any λ(n,k)=>n==y&&(k==NameKind.local||k==NameKind.cell))):Sem Bool)=pure true
 rw[g,R,i,Y];rfl
theorem gq{q:Expr}{d:Scope}{K:Pos}{f:Nat}(Z:X.env.scope.names.lookup y=some .cell\/X.env.scope.names.lookup y=some .free):swapsWith (.ListComp q h d pos) (some (.Name y K)) f X.env=pure false:=by
 have R:(X.env.kindOf y==some NameKind.local)=false:=by
  unfold Env.kindOf;rcases Z with Z|Z<;>rw[Z]<;>rfl
 show(pure (X.env.blockKind==.function&&X.env.kindOf y==some .local&&K.line==pos.line&&!(d.names.any λ(n,k)=>n==y&&(k==NameKind.local||k==NameKind.cell))):Sem Bool)=pure false
 rw[R,Bool.and_false,Bool.false_and,Bool.false_and]
theorem cs_append(S:Cp X N gl vs cs ls lo gs)(i:Nat){d h:Pos}(l:N[i]?=some x)(R:vs.contains i=true)(U:PE X a (tE X.K W fa))(P:starEach [a] X.env=[(false,eval a X.env)])(j:attributeBase (.Name x p) "append" X.env (eval (.Name x p) X.env)=eval (.Name x p) X.env)(f:(d.endLine==h.line)=true)(n:((backTo h (starEach [a] X.env)).all (λx=>!x.1)&&(backToKw h (keywordEach [] X.env)).all (λx=>x.1.isSome)
   && decide ([a].length+([]:List Keyword).length+(if([]:List Keyword).isEmpty then 0 else 1)<30))=true)(v:swapsWith (.Call (.Attribute (.Name x p) "append" d) [a] [] h) none pos.line X.env=pure false):PS X (.Expr (.Call (.Attribute (.Name x p) "append" d) [a] [] h) pos) (tS X.K W (fS i fa)):=
 rq i U (by rw[S.hN];exact l) (S.vis i x l R) (S.nm x (mem_of_getElem? l)).1 (S.nm x (mem_of_getElem? l)).2 P j f n v
end
def eU(g:JS->Option JS)(M:F1):F1:=aW M λp C=>match g p.d with
 |some d=>.ok ⟨.leaf,d⟩ C
 |none=>.no
def Jz:JS->Option JS
 |.int i=>some (.int (-i))
 |_=>none
def fZ(M e:F1):F1:=aW M λp=>aW e λq=>λC=>match p.s,p.d,q.d with
 |.lst .leaf,.list ds,.int k=>if cJ k&&decide (ds.length*k.toNat<=sizeLine)then .ok ⟨.lst .leaf,.list (List.replicate k.toNat ds).flatten⟩ C else .no
 |_,_,_=>.no
def ik:Option (Option PV)->Bool
 |some (some ⟨.lst .leaf,.list _⟩)=>true
 |_=>false
def Af(i:Nat)(p q:PV)(C:Ev):OutS:=match C[i]? with
 |some (some ⟨.lst .leaf,.list ds⟩)=>(match q.d with
  |.int k=>(match dg ds.length k with
   |some j=>if T.coer .leaf p then .nx (C.set i (some ⟨.lst .leaf,.list (ds.set j p.d)⟩))else .no
   |none=>.no)
  |_=>.no)
 |_=>.no
def cg(i:Nat)(b a:F1):FS:=λC=>if ik C[i]? then eX b (λp=>eX a (Af i p)) C else .no
def iA(i:Nat)(g:FS):FS:=λC=>match C[i]? with
 |some (some p)=>g (C.set i (JT p.d))
 |_=>.no
def AU(i j k:Nat)(p q r:PV)(C:Ev):OutS:=if i<C.length/\j<C.length/\k<C.length/\p.s.isView=false/\q.s.isView=false/\r.s.isView=false then .nx (((C.set i (some p)).set j (some q)).set k (some r))else .no
def qD(i j k:Nat)(f:F1):FS:=eX f λp C=>match p.s,p.d with
 |.tup [s1,s2,s3],.tuple [d1,d2,d3]=>AU i j k ⟨s1,d1⟩ ⟨s2,d2⟩ ⟨s3,d3⟩ C
 |_,_=>.no
def p7(n:Nat)(o:List Sh)(t:List JS):Ev:=(o.zip t).map (λx=>some ⟨x.1,x.2⟩)++List.replicate (n-t.length) none
def rK(n:Nat)(o:List Sh)(g:FS)(t:List JS):Res:=match g (p7 n o t)with
 |.nx _=>.ok ⟨.leaf,.none⟩
 |.rt p=>.ok p
 |.er c _=>.er c
 |_=>.no
def vH:List Sh->List PV->Bool
 |[],[]=>true
 |s::ss,p::ps=>T.coer s p&&vH ss ps
 |_,_=>false
def ix(own:Bool)(j:Nat)(o:List Sh)(w:List JS->Res)(b:FL):FS:=λC=>match b C with
 |.ok G I=>if vH o G&&decide (j<I.length)then(match w (G.map (·.d))with
  |.ok p=>if p.s.isView then .no else .nx (I.set j (some (if own then p else⟨.leaf,p.d⟩)))
  |_=>.no)else .no
 |.er c I=>.er c I
 |.no=>.no
section
variable{K:Fg}{W:XW}{σ:St}{H:Hp}{Q:VK}{D:cP}{fa fb:F1}{fl:FL}
theorem mJ{m d:Type}{Y:List m}{U:List d}(N:Y.length=U.length):∀(k j:Nat){x:m}{y:d},(List.replicate k Y).flatten[j]?=some x->(List.replicate k U).flatten[j]?=some y->∃i:Nat,Y[i]?=some x/\U[i]?=some y
 |0,j,x,y,h,_=>by simp at h
 |k+1,j,x,y,h1,h2=>by
  rw[replicate_succ,flatten_cons]at h1 h2
  by_cases A:j<Y.length
  .rw[getElem?_append_left A]at h1
   rw[getElem?_append_left (by omega)]at h2
   exact⟨j,h1,h2⟩
  .rw[getElem?_append_right (by omega)]at h1
   rw[getElem?_append_right (by omega),<-N]at h2
   exact mJ N k (j-Y.length) h1 h2
theorem GV:∀{Z:List (List Addr)},(∀F∈Z,F=[])->Z.flatten=[]
 |[],_=>rfl
 |F::r,h=>by rw[flatten_cons,h F mem_cons_self,GV λG u=>h G (JL _ u)];rfl
theorem Own.leaves{O:List Addr}{G:List Addr}{v:V}(h:Own K O H (.lst .leaf) G v (.list t)):∃l L,v=.ref l/\G=[l]/\H l=some (.lst L)/\L.length=t.length/\∀(j:Nat) u d,L[j]?=some u->t[j]?=some d->Rep K (bV H O) u d:=by
 cases h with
 |@lst _ l L _ Fs hsv hp hl hf nd q=>
  have b:∀F∈Fs,F=[]:=λF b=>by
   obtain⟨j,A,e⟩:=getElem_of_mem b;have o:=q j (L[j]'(by omega)) (t[j]'(by omega)) F (JJ _) (JJ _) (by rw[JJ A,e])
   cases o;rfl
  refine⟨l,L,rfl,by rw[GV b],hp,hl,λj u d J S=>?_⟩
  have A:=(JN S).1
  have o:=q j u d (Fs[j]'(by omega)) J S (JJ _)
  generalize Fs[j]'(by omega)=F at o
  cases o with
  |leaf r=>exact r
theorem Own.mkLeaves{O:List Addr}{l:Addr}{L:List V}(y:H l=some (.lst L))(N:L.length=t.length)(q:∀(j:Nat) u d,L[j]?=some u->t[j]?=some d->Rep K (bV H O) u d):Own K O H (.lst .leaf) [l] (.ref l) (.list t):=by
 have b:(List.replicate t.length ([]:List Addr)).flatten=[]:=GV λF b=>(List.mem_replicate.mp b).2
 have o:Own K O H (.lst .leaf) (l::(List.replicate t.length ([]:List Addr)).flatten) (.ref l) (.list t):=by
  refine .lst rfl y N (by simp) (by rw[b];simp) λj u d F J S I=>?_
  have:F=[]:=(List.mem_replicate.mp (mem_of_getElem? I)).2
  subst this;exact .leaf (q j u d J S)
 rw[b]at o;exact o
theorem As(h:tE K W (fZ fa fb) σ H Q):qx AK (tE K W fa) (tE K W fb) σ H Q:=by
 refine Cw (R:=λv u A=>AK v u A Q) h λM O Z C p q v u n A Y G2 r X s1 s2 E P e b w=>?_
 obtain⟨s,d⟩:=p;obtain⟨s',d'⟩:=q;dsimp only at w e b
 split at w
 .rename_i t k
  have hq:=b.rep
  cases hq;obtain⟨l,L,rfl,rfl,y,N,m⟩:=e.leaves;by_cases f:(cJ k&&decide (t.length*k.toNat<=sizeLine))=true
  .rw[if_pos f]at w
   simp only[Bool.and_eq_true,decide_eq_true_eq,cJ]at f
   refine⟨l,k,L,rfl,rfl,y,by omega,by omega,by rw[N];exact f.2,λc I=>?_⟩
   have nd2:O.Nodup:=X
   have E1:EnvOk K M O r A σ C:=E.drop (λa U=>JF _ (JF _ U)) X
   have E2:=E1.hide (G:=[c]) (i3 (o:=.lst (List.replicate k.toNat L).flatten) I) (by simp) (by simpa using I) (λa U=>by rw[List.mem_singleton.mp U,fT];exact Option.some_ne_none _)
   refine w (.ref c) _ [c] r ⟨(s1.trans s2).trans (i3 I),E2,λa U=>?_,?_⟩
   .rcases JH U with z|z
    .rw[List.mem_singleton.mp z]
     exact .inr (s1.free (s2.free I))
    .exact P a (JF _ (JF _ z))
   .refine Own.mkLeaves fT (by rw[Gb,Gb,N]) λj x d J S=>?_
    obtain⟨i,g,e2⟩:=mJ N _ j J S;refine(m i x d g e2).mono (p9 (i3 I) λa U=>?_)
    rcases JH U with z|z
    .rcases JH z with z|z
     .rw[List.mem_singleton.mp z];exact .inr I
     .exact .inl (JG _ (JF _ (JF _ z)))
    .exact .inl (JF _ z)
  .rw[if_neg f]at w;exact w.elim
 .exact w.elim
theorem zY{k:PV->PV->Ev->OutS}(h:tS K W (eX fa λp=>eX fb (k p)) D σ H)(g:∀M O o p q v u n A Y L r,O.Nodup->Same H n->Same n A->EnvOk K M (L++(Y++O)) r A σ o->(∀a∈L++Y,M a=none) ->
   Own K (L++(Y++O)++r.flatten) A p.s Y v p.d->Own K (L++(Y++O)++r.flatten) A q.s L u q.d->fU K W M O D (k p q o)->R v u A):tE K W fa σ H λv n=>tE K W fb σ n λu A=>R v u A:=by
 refine dO h λM O Z I p v n Y N _ f d J=>?_
 refine⟨M,Y++O,N,I,d.env,?_⟩
 unfold eX at J;have X:O.Nodup:=(JM d.env.ndO).2.1
 cases e:fb I with
 |ok q o=>
  rw[e]at J;intro u A L r b;refine g M O o p q v u n A Y L r X d.same b.same b.env (λa U=>?_) (d.own.mono b.same λa U=>?_) b.own J
  .rcases JH U with z|z
   .exact b.freshG d.env a z
   .exact f a z
  .rcases JH U with z|z
   .rcases JH z with z|z
    .rcases b.new a (JG _ z)with y|y
     .exact .inl (JF _ y)
     .exact .inr y
    .exact .inl (JG _ z)
   .rcases b.new a (JF _ z)with y|y
    .exact .inl (JF _ y)
    .exact .inr y
 |er c o=>
  rw[e]at J;intro A r P S;exact J σ A r S.dropL
 |no=>
  rw[e]at J;exact J
theorem oR{b:VK}(h:tE K W fa σ H Q)(k:∀v Y,Q v Y->b v Y):tE K W fa σ H b:=by
 obtain⟨M,O,Z,C,E,h⟩:=h;refine⟨M,O,Z,C,E,?_⟩
 cases e:fa C with
 |ok p X=>rw[e]at h;exact λv Y G u A=>k v Y (h v Y G u A)
 |er c X=>rw[e]at h;exact h
 |no=>rw[e]at h;exact h
theorem EnvOk.chg{O:List Addr}{C:Ev}{i:Nat}(E:EnvOk K M O Z H σ C)(h:C[i]?=some (some ⟨.lst .leaf,.list t⟩)):∃l L,σ[i]?=some (some (.ref l))/\H l=some (.lst L)/\L.length=t.length/\(∀(j:Nat) u d,L[j]?=some u->t[j]?=some d->Rep K (bV H (O++Z.flatten)) u d) /\
   ∀(r:List V)(f:List JS),r.length=f.length->(∀(j:Nat) u d,r[j]?=some u->f[j]?=some d->Rep K (bV H (O++Z.flatten)) u d)->∃Fs',EnvOk K M O Fs' (bF H l (.lst r)) σ (C.set i (some ⟨.lst .leaf,.list f⟩)):=by
 obtain⟨R,v,F,J,x,e,n⟩:=E.move h;have hi:i<C.length:=(JN h).1
 obtain⟨_,v0,F0,s,S,X⟩:=E.slot i _ h;obtain⟨l,L,rfl,rfl,y,N,m⟩:=e.leaves;obtain⟨l',r,Y,g,I,A,hr'⟩:=X.leaves;rw[J]at s
 cases s
 cases Y;rw[y]at I
 cases I
 refine⟨l,L,J,y,N,hr',λc f w q=>?_⟩
 have G:l∈Z.flatten:=n l (JG _ (List.mem_singleton.mpr rfl))
 have k:M l=none:=E.fresh l G
 have E4:=x.mutO (o:=.lst c) (JG _ (List.mem_singleton.mpr rfl)) y k
 have ownL:Own K ([l]++O++(Z.set i []).flatten) (bF H l (.lst c)) (.lst .leaf) [l] (.ref l) (.list f):=by
  refine Own.mkLeaves fT w λj u d P b=>?_
  rw[EH (JG _ (JG _ (List.mem_singleton.mpr rfl)))];refine(q j u d P b).mono (p9 (Same.refl _) λa U=>.inl ?_)
  rcases JH U with z|z
  .rcases JH z with z|z
   .rw[List.mem_singleton.mp z];exact JF _ G
   .exact JG _ z
  .exact JF _ (n a (JF _ z))
 have fin:=EnvOk.put (i:=i) (p:=⟨.lst .leaf,.list f⟩) (v:=.ref l) E4 ownL rfl (λa U=>by rw[List.mem_singleton.mp U];exact k) (by rw[length_set];exact hi)
 rw[set_set,set_set,sI J]at fin;exact⟨_,fin⟩
theorem zL{o:Option (Option PV)}(h:ik o=true):∃t,o=some (some ⟨.lst .leaf,.list t⟩):=by
 unfold ik at h;split at h
 .exact⟨_,rfl⟩
 .cases h
theorem oZ{i:Nat}(h:tS K W (cg i fa fb) D σ H):gN (tE K W fa) (L2.gSub (cm i) (tE K W fb) jT) D σ H:=by
 obtain⟨M,O,Z,C,E,h⟩:=h;unfold cg at h
 cases ho:ik C[i]? with
 |false=>rw[ho]at h;exact h.elim
 |true=>
  rw[ho]at h;obtain⟨t,e0⟩:=zL ho;obtain⟨l,L,J,S,I,_,_⟩:=E.chg e0;refine oR (zY (D:=D) (R:=λv u A=>jT (.ref l) u v A λH3=>D.nx σ H3) ⟨M,O,Z,C,E,h⟩ λM O o p q v u n A G1 G2 r X y N E2 fr e o2 w=>?_) λv Y q=>⟨.ref l,J,q⟩
  unfold Af at w;split at w
  .rename_i ds1 g
   split at w
   .rename_i k ek
    split at w
    .rename_i j ej
     cases f:T.coer .leaf p with
     |false=>rw[f]at w;exact w.elim
     |true=>
      rw[f]at w;have E3:EnvOk K M O r A σ o:=E2.drop (λa U=>JF _ (JF _ U)) X
      obtain⟨l1,vs1,q1,q2,q3,q4,q5⟩:=E3.chg g;rw[J]at q1
      cases q1;have hu:=o2.rep
      rw[ek]at hu
      cases hu;have ov:Own K (O++r.flatten) A .leaf [] v p.d:=by
       refine e.coer (s:=.leaf) f (λa U=>?_) λa U z=>?_
       .rcases JH U with z|z
        .exact JG _ (JF _ (JF _ z))
        .exact JF _ z
       .exfalso
        have ndE:=E2.nd
        rw[append_assoc]at ndE;have n2:=(JM ndE).2.1
        rw[append_assoc]at n2;exact(JM n2).2.2 a U a z rfl
      cases ov with
      |leaf c=>
       have G:dg vs1.length k=some j:=by rw[q3];exact ej
       obtain⟨Fs',E4⟩:=q5 (vs1.set j v) (ds1.set j p.d) (by rw[length_set,length_set,q3]) λm x d P b=>by
        by_cases hm:m=j
        .subst hm
         rw[List.getElem?_set]at P b
         rw[if_pos rfl]at P b
         split at P
         .split at b
          .cases P;cases b;exact c
          .cases b
         .cases P
        .rw[getElem?_set_ne (Ne.symm hm)]at P b
         exact q4 m x d P b
       exact⟨l,vs1,k,j,rfl,rfl,q2,G,w σ _ Fs' E4⟩
    .exact w.elim
   .exact w.elim
  .exact w.elim
theorem AC{i:Nat}{g:FS}(h:tS K W (iA i g) D σ H):tS K W g D σ H:=by
 obtain⟨M,O,Z,C,E,h⟩:=h;unfold iA at h;split at h
 .rename_i p Y
  obtain⟨R,v,F,J,x,e,n⟩:=E.move Y;have l:i<C.length:=(JN Y).1
  have c:T.coer .leaf p=true:=by show(!p.s.isView||aV p.d)=true;rw[R];rfl
  have o:=e.coer (s:=.leaf) (O':=O++(Z.set i []).flatten) c gO λa U z=>by
   exfalso
   have X:=x.nd
   rw[append_assoc]at X;exact(JM X).2.2 a U a z rfl
  have S:EnvOk K M O ((Z.set i []).set i []) H (σ.set i (some v)) ((C.set i none).set i (JT p.d)):=
   EnvOk.put (G:=[]) (p:=⟨.leaf,p.d⟩) (v:=v) (by rw[nil_append];exact x.dropL) (by rw[nil_append];exact o) rfl (λa U=>by simp at U) (by rw[length_set];exact l)
  rw[set_set,set_set,sI J]at S;exact⟨M,O,_,_,S,h⟩
 .exact h.elim
theorem ue{O Y L J:List Addr}{C:Ev}{i j:Nat}{p q r:PV}{c o d:V}(E:EnvOk K M (Y++(L++(J++O))) Z H σ C)(X:∀a∈Y++(L++J),M a=none)(e:Own K (Y++(L++(J++O))++Z.flatten) H p.s Y c p.d)(n:Own K (Y++(L++(J++O))++Z.flatten) H q.s L o q.d)(h:Own K (Y++(L++(J++O))++Z.flatten) H r.s J d r.d)(w:fU K W M O D (AU i j k p q r C)):D.nx (((σ.set i (some c)).set j (some o)).set k (some d)) H:=by
 unfold AU at w;by_cases f:i<C.length/\j<C.length/\k<C.length/\p.s.isView=false/\q.s.isView=false/\r.s.isView=false
 .rw[if_pos f]at w
  obtain⟨l,A,u,t,v,m⟩:=f;have x:=EnvOk.put (i:=i) E e t (λa U=>X a (JG _ U)) l
  have g:∀a∈(L++(J++O))++(Z.set i Y).flatten,a∈Y++(L++(J++O))++Z.flatten:=λa U=>by
   rcases JH U with z|z
   .exact JG _ (JF _ z)
   .obtain⟨F,b⟩:=E.lt l
    rcases JH ((ll (G:=Y) b).mem_iff.mp (JF _ z))with y|y
    .exact JG _ (JG _ y)
    .exact JF _ y
  have S:=EnvOk.put (i:=j) x (n.perm g) v (λa U=>X a (JF _ (JG _ U))) (by rw[length_set];exact A)
  have N:∀a∈(J++O)++((Z.set i Y).set j L).flatten,a∈(L++(J++O))++(Z.set i Y).flatten:=λa U=>by
   rcases JH U with z|z
   .exact JG _ (JF _ z)
   .obtain⟨F,b⟩:=x.lt (i:=j) (by rw[length_set];exact A)
    rcases JH ((ll (G:=L) b).mem_iff.mp (JF _ z))with y|y
    .exact JG _ (JG _ y)
    .exact JF _ y
  have s:=EnvOk.put (i:=k) S ((h.perm g).perm N) m (λa U=>X a (JF _ (JF _ U))) (by rw[length_set,length_set];exact u)
  exact w _ H _ s
 .rw[if_neg f]at w;exact w.elim
theorem Am{i j:Nat}(h:tS K W (qD i j k fa) D σ H):gN (tE K W fa) (uX K 3 (iN (gName i) (iN (gName j) (iN (gName k) xT)))) D σ H:=by
 refine dO h λM O Z I p v n G N _ X A w=>?_
 obtain⟨s,d⟩:=p;have o:=A.own
 have E:=A.env
 dsimp only at w o
 split at w
 .rename_i y b S l a f
  cases o with
  |@tup _ p vs _ Fs0 hv hp hn hl hf hs nd q=>
   match vs,hl,Fs0,hf with
   |[v1,v2,v3],_,[G1,G2,G3],_=>
    have fl:[G1,G2,G3].flatten=G1++(G2++G3):=by simp
    rw[fl]at E X q
    have c:((G1++(G2++G3))++O)=G1++(G2++(G3++O)):=by simp[append_assoc]
    rw[c]at E q
    refine⟨p,[v1,v2,v3],rfl,.of hp,rfl,v1,_,rfl,v2,_,rfl,v3,_,rfl,rfl,?_⟩
    exact ue E X (q 0 v1 l G1 y rfl rfl rfl rfl) (q 1 v2 a G2 b rfl rfl rfl rfl) (q 2 v3 f G3 S rfl rfl rfl rfl) w
 .exact w.elim
end
def Ff(K:Fg)(o:List Sh)(w:List JS->Res):Sp:=λL H Q _=>L.length=o.length/\∃(O:List Addr)(Gs:List (List Addr))(ds:List JS),(Gs.flatten++O).Nodup/\(∀a∈Gs.flatten++O,H a≠none)/\Gs.length=o.length/\ds.length=o.length/\(∀s∈o,s.isView=false) /\
 (∀(i:Nat) v d G s,L[i]?=some v->ds[i]?=some d->Gs[i]?=some G->o[i]?=some s->Own K (Gs.flatten++O) H s G v d)/\match w ds with
 |.ok p=>∀v Y G,RetOk K (bV H Gs.flatten) O p v Y G->Q v Y
 |.er _=>False
 |.no=>False
section
variable{P:Program}{w:World}{K:Fg}{mg:Str->Option Value}{base:Heap}
theorem iP{H:Hp}{O:List Addr}{o:List Sh}{L:List V}(Y:o.length<=N.length)(R:L.length=o.length)(u:q.length=o.length)(f:t.length=o.length)(X:(q.flatten++O).Nodup)(n:∀a∈q.flatten++O,H a≠none)(h:∀s∈o,s.isView=false)(I:∀(i:Nat) v d G s,L[i]?=some v->t[i]?=some d->q[i]?=some G->o[i]?=some s->Own K (q.flatten++O) H s G v d):EnvOk K (bV H q.flatten) O (q++List.replicate (N.length-o.length) []) H (L2.start N L) (p7 N.length o t):=by
 have b:(q++List.replicate (N.length-o.length) ([]:List Addr)).flatten=q.flatten:=by simp
 have c:(O++q.flatten).Perm (q.flatten++O):=perm_append_comm
 refine⟨by simp[L2.start,p7,f,R],by simp[p7,f,u],hid_le,by rw[b];exact c.nodup_iff.mpr X,λa U=>n a (by rw[b]at U;exact c.mem_iff.mp U),λa U=>by rw[b]at U;unfold bV;rw[if_pos U],λi p y=>?_⟩
 unfold p7 at y;have e:((o.zip t).map (λx=>some (⟨x.1,x.2⟩:PV))).length=o.length:=by simp[f]
 by_cases l:i<o.length
 .rw[getElem?_append_left (by rw[e];exact l),getElem?_map]at y
  have g:(o.zip t)[i]?=some (o[i]'l,t[i]'(by omega)):=by
   rw[JJ (by simp;omega),List.getElem_zip]
  rw[g]at y
  cases y;refine⟨h _ (getElem_mem _),L[i]'(by omega),q[i]'(by omega),?_,?_,?_⟩
  .unfold L2.start
   rw[getElem?_append_left (by simp;omega),getElem?_map,JJ (by omega)]
   rfl
  .rw[getElem?_append_left (by omega),JJ]
  .refine(I i _ _ _ _ (JJ _) (JJ (by omega)) (JJ (by omega)) (JJ l)).perm λa U=>?_
   rw[b]at U;exact c.mem_iff.mp U
 .rw[getElem?_append_right (by rw[e];omega),getElem?_replicate]at y
  split at y<;>cases y
theorem xV{C:Str}{d:Stmt}{f:Addr}{r:FuncData}{G:List Str}{g:FS}{o:List Sh}(F:Fun K x C d f r)(S:dM N G (gJ d))(i:o.length=G.length)(Z:∀(a:Value)(A:Around)(M:List Env)(s:Shared)(H:Hp)(E:XK),Room k (A.deeper (envOfC C (gJ d) s.heap.objs.size f a)) ->
   PSs (jA i6 P w K mg base N C (gJ d) f a A M s H E).nox (sd d) (tS K W0 g)):dy P w K mg base i6 (k+1) f r G (Ff K o (rK N.length o g)):=by
 have J:G.length<=N.length:=by have:=congrArg List.length S.pre;rw[length_take]at this;omega
 refine F.ok S (λL H Q E h=>by rw[h.1];exact i) (λa A M s H L Q E m h=>⟨_,Z a A M s H E m,?_⟩)
 obtain⟨l,O,q,t,v,n,b,U,y,I,w⟩:=h;refine⟨_,O,_,p7 N.length o t,iP (by omega) l b U v n y I,?_⟩
 unfold rK at w
 cases e:g (p7 N.length o t)with
 |nx X=>
  rw[e]at w;exact λj Y u R=>w .non Y [] ⟨R.same,(λ_ z=>nomatch z),(λ_ z=>nomatch z),nodup_nil,.leaf .non,rfl⟩
 |rt p=>rw[e]at w;exact w
 |bk X=>rw[e]at w;exact w.elim
 |ct X=>rw[e]at w;exact w.elim
 |er c X=>rw[e]at w;exact w.elim
 |no=>rw[e]at w;exact w.elim
end
theorem Own.step{K:Fg}{O c M:List Addr}{H Y:Hp}{s:Sh}{G:List Addr}{v:V}{d:JS}(h:Own K O H s G v d)(P:s.isView=false)(e:Same (bV H M) Y)(g:∀a∈M,a∈O)(u:∀a∈G,a∉M)(j:∀a∈c,a∈O\/bV H M a=none):Own K c Y s G v d:=by
 induction h with
 |view r=>cases P
 |leaf r=>
  refine .leaf (r.mono λb o q=>?_)
  have Z:b∉O:=λz=>by unfold bV at q;rw[if_pos z]at q;cases q
  have l:H b=some o:=hid_le b o q
  have k:bV H M b=some o:=se l λz=>Z (g b z)
  exact se (e b o k) λz=>(j b z).elim Z λy=>by rw[k]at y;cases y
 |lst R f N L X q E=>exact .lst R (e _ _ (se f (u _ mem_cons_self))) N L X λi v d F J S I=>E i v d F J S I R λa U=>u a (JL _ (gh I U))
 |@tup ss p vs ds Fs R f hn N L hs' X q E=>
  have k:bV H M p=some (.tup vs):=se f λz=>hn (g _ z)
  exact .tup R (e _ _ k) (λz=>(j _ z).elim hn λy=>by rw[k]at y;cases y) N L hs' X λi v d F s J S I x=>E i v d F s J S I x (R _ (mem_of_getElem? x)) λa U=>u a (gh I U)
section
variable{K:Fg}{W:XW}{σ:St}{H:Hp}{Q:VK}{D:cP}{fa fb:F1}{fl:FL}
theorem EnvOk.step{h Y:Hp}{O G M:List Addr}{g:List (List Addr)}{C:Ev}(E:EnvOk K h (M++O) g H σ C)(e:Same (bV H M) Y)(f:∀a∈M,h a=none)(gn:G.Nodup)(c:∀a∈G,bV H M a=none)(gi:∀a∈G,Y a≠none):EnvOk K h (G++O) g Y σ C:=by
 have X:=E.nd
 rw[append_assoc]at X;obtain⟨t,k,m⟩:=JM X;have d:∀a∈O++g.flatten,Y a≠none/\a∉G:=λa U=>by
  have J:H a≠none:=E.inH a (by rw[append_assoc];exact JF _ U)
  cases S:H a with
  |none=>exact absurd S J
  |some o=>
   have I:bV H M a=some o:=se S λz=>m a z a U rfl
   exact⟨by rw[e a o I];exact Option.some_ne_none _,λz=>by have:=c a z;rw[I]at this;cases this⟩
 refine⟨E.len1,E.len2,λb o q=>e b o (se (E.same b o q) λz=>by have:=f b z;rw[q]at this;cases this),?_,λa U=>?_,E.fresh,λi p q=>?_⟩
 .rw[append_assoc]
  exact List.nodup_append.mpr ⟨gn,k,λa U b Z z=>(d b Z).2 (z▸U)⟩
 .rw[append_assoc]at U
  rcases JH U with z|z
  .exact gi a z
  .exact(d a z).1
 .obtain⟨R,v,F,J,S,I⟩:=E.slot i p q
  refine⟨R,v,F,J,S,I.step R e (λa U=>JG _ (JG _ U)) (λa U z=>m a z a (JF _ (gh S U)) rfl) λa U=>?_⟩
  rw[append_assoc]at U;rcases JH U with z|z
  .exact .inr (c a z)
  .exact .inl (by rw[append_assoc];exact JF _ z)
theorem pB:∀{o:List Sh}{ps:List PV},vH o ps=true->ps.length=o.length
 |[],[],_=>rfl
 |s::o,p::ps,h=>by
  simp only[vH,Bool.and_eq_true]at h
  rw[length_cons,length_cons,pB h.2]
 |[],_::_,h=>by cases h
 |_::_,[],h=>by cases h
theorem Ge:∀{o:List Sh}{ps:List PV}{i:Nat}{s:Sh}{p:PV},vH o ps=true->o[i]?=some s->ps[i]?=some p->T.coer s p=true
 |s::o,p::ps,0,_,_,h,h1,h2=>by
  simp only[vH,Bool.and_eq_true]at h
  simp at h1 h2
  subst h1 h2;exact h.1
 |s::o,p::ps,i+1,_,_,h,h1,h2=>by
  simp only[vH,Bool.and_eq_true]at h
  exact Ge (i:=i) h.2 (by simpa using h1) (by simpa using h2)
 |[],[],i,_,_,_,h1,_=>by simp at h1
 |[],_::_,_,_,_,h,_,_=>by cases h
 |_::_,[],_,_,_,h,_,_=>by cases h
def nB:List Sh->List (List Addr)->List (List Addr)
 |s::ss,G::Gs=>aT s G::nB ss Gs
 |_,_=>[]
theorem Hs:∀{ss:List Sh}{Gs:List (List Addr)},Gs.length=ss.length->(nB ss Gs).length=ss.length
 |[],[],_=>rfl
 |s::ss,G::Gs,h=>by simp[nB,Hs (ss:=ss) (Gs:=Gs) (by simpa using h)]
 |[],_::_,h=>by cases h
 |_::_,[],h=>by cases h
theorem j1:∀{ss:List Sh}{Gs:List (List Addr)},(nB ss Gs).flatten.Sublist Gs.flatten
 |[],Gs=>by cases Gs<;>exact nil_sublist _
 |s::ss,[]=>nil_sublist _
 |s::ss,G::Gs=>by
  rw[nB,flatten_cons,flatten_cons];refine List.Sublist.append ?_ j1
  cases s<;>first|exact nil_sublist _|exact List.Sublist.refl _
theorem Hr:∀{ss:List Sh}{Gs:List (List Addr)}{i:Nat}{s:Sh}{G:List Addr},ss[i]?=some s->(nB ss Gs)[i]?=some G->∃a,Gs[i]?=some a/\G=aT s a
 |s::ss,G::Gs,0,_,_,h1,h2=>by
  simp[nB]at h1 h2
  subst h1;exact⟨G,rfl,h2.symm⟩
 |s::ss,G::Gs,i+1,_,_,h1,h2=>by
  obtain⟨a,g,R⟩:=Hr (ss:=ss) (Gs:=Gs) (i:=i) (by simpa using h1) (by simpa[nB]using h2)
  exact⟨a,by simpa using g,R⟩
 |[],Gs,i,_,_,h1,_=>by simp at h1
 |_::_,[],i,_,_,_,h2=>by simp[nB]at h2
theorem GU:∀{Gs:List (List Addr)}{i j:Nat}{A B:List Addr},Gs.flatten.Nodup->Gs[i]?=some A->Gs[j]?=some B->i≠j->∀a∈A,a∉B
 |G::Gs,0,j+1,A,B,nd,h1,h2,_,a,ha=>by
  rw[flatten_cons]at nd;simp at h1 h2
  subst h1;exact λz=>(JM nd).2.2 a ha a (gh h2 z) rfl
 |G::Gs,i+1,0,A,B,nd,h1,h2,_,a,ha=>by
  rw[flatten_cons]at nd;simp at h1 h2
  subst h2;exact λz=>(JM nd).2.2 a z a (gh h1 ha) rfl
 |G::Gs,i+1,j+1,A,B,nd,h1,h2,hij,a,ha=>by
  rw[flatten_cons]at nd;exact GU (Gs:=Gs) (i:=i) (j:=j) (JM nd).2.1 (by simpa using h1) (by simpa using h2) (by omega) a ha
 |G::Gs,0,0,A,B,_,_,_,h,_,_=>absurd rfl h
 |[],i,j,A,B,_,h1,_,_,_,_=>by simp at h1
theorem wM{j:Nat}{ss:List Sh}{w:List JS->Res}{E:XK}(h:tS K W (ix own j ss w fl) D σ H):gN (jL (Ff K ss w) [] E (tA K W fl)) (gName j) D σ H:=by
 obtain⟨M,O,Fs,C,E0,h⟩:=h;refine⟨M,O,Fs,C,E0,?_⟩
 unfold ix at h
 cases e:fl C with
 |er c X=>rw[e]at h;exact λY u s E'=>h σ Y u E'
 |no=>rw[e]at h;exact h
 |ok ps I=>
  rw[e]at h;intro L n Gs N A;have h:fU K W M O D (if vH ss ps&&decide (j<I.length)then(match w (ps.map (·.d))with|.ok p=>if p.s.isView then .no else .nx (I.set j (some (if own then p else⟨.leaf,p.d⟩)))|_=>.no)else .no):=h
  cases t:(vH ss ps&&decide (j<I.length))with
  |false=>rw[t]at h;exact h.elim
  |true=>
   rw[t]at h;simp only[Bool.and_eq_true,decide_eq_true_eq]at t
   obtain⟨t,hj⟩:=t;have J:=pB t
   have hGl:Gs.length=ss.length:=A.len2.trans J
   have ndA:=A.env.nd
   rw[append_assoc]at ndA;obtain⟨n1,k,n3⟩:=JM ndA;have sl:=j1 (ss:=ss) (Gs:=Gs)
   have x:EnvOk K M ((nB ss Gs).flatten++O) N n σ I:=A.env.drop (λa U=>by
    rcases JH U with z|z
    .exact JG _ (sl.subset z)
    .exact JF _ z) (by
     obtain⟨f,m2,m3⟩:=JM A.env.ndO;exact List.nodup_append.mpr ⟨f.sublist sl,m2,λa U b Z=>m3 a (sl.subset U) b Z⟩)
   have nd2:((nB ss Gs).flatten++(O++N.flatten)).Nodup:=by rw[<-append_assoc];exact x.nd
   have inH2:∀a∈(nB ss Gs).flatten++(O++N.flatten),n a≠none:=λa U=>x.inH a (by rw[append_assoc];exact U)
   have nv:∀s∈ss,s.isView=false:=λs P=>by
    obtain⟨i,l,e⟩:=getElem_of_mem P;exact rS (Ge (i:=i) (p:=ps[i]'(by omega)) t (by rw[JJ l,e]) (JJ _))
   refine⟨by rw[append_nil,A.len1,J],O++N.flatten,nB ss Gs,ps.map (·.d),nd2,inH2,Hs hGl,by rw[length_map,J],nv,λi v d G s a1 a2 a3 a4=>?_,?_⟩
   .rw[append_nil]at a1
    obtain⟨G0,g,b2⟩:=Hr a4 a3;subst b2;rw[getElem?_map]at a2
    cases R:ps[i]? with
    |none=>rw[R]at a2;cases a2
    |some q=>
     rw[R]at a2
     cases a2;have o:=A.own i v q G0 a1 R g
     have c:=Ge t a4 R
     refine o.coer c (λa U=>?_) λa U z=>?_
     .rcases JH U with z|z
      .exact JG _ (JG _ (sl.subset z))
      .rw[append_assoc];exact JF _ z
     .cases s with
      |leaf=>
       exfalso
       rcases JH z with y|y
       .-- a handed part of another
        obtain⟨B,hB,hy⟩:=List.mem_flatten.mp y;obtain⟨m,hm,eB⟩:=getElem_of_mem hB;have hm2:m<ss.length:=by rw[<-Hs hGl];exact hm
        obtain⟨B0,c1,c2⟩:=Hr (JJ hm2) (by rw[JJ hm,eB])
        by_cases hmi:m=i
        .subst hmi
         rw[JJ hm2]at a4;have q4:=Option.some.inj a4
         rw[c2,q4]at hy;simp[aT]at hy
        .exact GU n1 g c1 (Ne.symm hmi) a U (EX (c2▸hy))
       .exact n3 a (gh g U) a y rfl
      |view=>simp[T.coer]at c
      |lst s=>exact U
      |tup ss=>exact U
   .cases ed:w (ps.map (·.d))with
    |er c=>rw[ed]at h;exact h.elim
    |no=>rw[ed]at h;exact h.elim
    |ok p=>
     rw[ed]at h;intro v H2 G r;show D.nx (σ.set j (some v)) H2
     have h:fU K W M O D (if p.s.isView then .no else .nx (I.set j (some (if own then p else⟨.leaf,p.d⟩)))):=h
     rw[r.nv]at h;have hHe:∀a∈(nB ss Gs).flatten,M a=none:=λa U=>(A.new a (JG _ (sl.subset U))).elim (E0.fresh a) E0.same.free
     have S:=x.step (G:=G) r.same hHe r.nd r.fresh r.inH
     have fr:∀a∈G,M a=none:=λa U=>by
      by_cases hm:a∈(nB ss Gs).flatten
      .exact hHe a hm
      .have:=r.fresh a U
       unfold bV at this;rw[if_neg hm]at this;exact x.same.free this
     have ow:Own K (G++O++N.flatten) H2 p.s G v p.d:=by rw[append_assoc];exact r.own
     cases own with
     |true=>exact h _ H2 _ (EnvOk.put S ow r.nv fr hj)
     |false=>
      have c:T.coer .leaf p=true:=by show(!p.s.isView||aV p.d)=true;rw[r.nv];rfl
      have o:=ow.coer (s:=.leaf) (O':=O++N.flatten) c gO λa U z=>by
       exfalso
       have nd:=S.nd
       rw[append_assoc]at nd;exact(JM nd).2.2 a U a z rfl
      exact h _ H2 _ (EnvOk.put (G:=[]) (p:=⟨.leaf,p.d⟩) (v:=v) (by rw[nil_append];exact S.dropL) (by rw[nil_append];exact o) rfl (λa U=>by simp at U) hj)
end
section
variable{X:Cx}
theorem zS:Jf X (unaryOp .USub) (λx H Q=>∃i,x=.int i/\Q (.int (-i)) H):=by
 intro G s M H x v Q I w h;obtain⟨i,rfl,q⟩:=h;obtain⟨t,rfl⟩:=w;exact neg_int ⟨.int (-i),H,I.tok _,⟨_,rfl⟩,q⟩
end
section
variable{X:Cx}
variable{N gl:List Str}{vs cs ls lo gs:List Nat}{W:XW}{a b c e:Expr}{es:List Expr}{pos p:Pos}{fa fb fc:F1}{fl:FL}{g:FS}
theorem cs_setI(S:Cp X N gl vs cs ls lo gs)(i:Nat){o K:Pos}(l:N[i]?=some x)(R:vs.contains i=true)(U:PE X a (tE X.K W fa))(Z:PE X b (tE X.K W fb))(P:swapsWithSole [.Subscript (.Name x o) b K] a pos.line X.env=pure false)(w:swappedStores [.Subscript (.Name x o) b K] a X.env=pure none)(J:(assignEach [.Subscript (.Name x o) b K] X.env).map (·.2)=[assign (.Subscript (.Name x o) b K) X.env])(has:∀v,assign (.Subscript (.Name x o) b K) X.env v=(do
   let ov <-holding [v] (eval (.Name x o) X.env)
   let iv <-holding [v,ov] (eval b X.env)
   standAt K
   holding [v,ov,iv] (setItem ov iv v)
   release [v,ov,iv] [])):PS X (.Assign [.Subscript (.Name x o) b K] a pos) (tS X.K W (cg i fa fb)):=by
 have m:=S.nm x (mem_of_getElem? l)
 exact bB (zB U (FX (lz (by rw[S.hN];exact l) (S.vis i x l R) m.1 m.2) Z GE has) P w J) λ_ _ _=>oZ
def Co(X:Cx)(x:Str)(o:List Sh)(w:List JS->Res):Prop:=∃(k:Nat)(f:Addr)(fd:FuncData)(ps:List Str),dy X.prog X.w X.K X.mg X.base i6 k f fd ps (Ff X.K o w)/\Room k X.A/\X.mg x=some (.ref f)/\PySem.W.keepIn X.K (.ref f)=true/\Binds X.K fd ps []
end
def yE:Expr->Bool
 |.Starred ..=>true
 |_=>false
theorem dB{e:Expr}{g:Env}(h:yE e=false):starEach (e::U) g=(false,eval e g)::starEach U g:=by
 cases e<;>first|rfl|cases h
theorem dk{a:Expr}{g:Env}(h:yE a=false):starEach [a] g=[(false,eval a g)]:=dB h
theorem lJ{a b:Expr}{g:Env}(h:yE a=false)(S:yE b=false):starEach [a,b] g=[(false,eval a g),(false,eval b g)]:=by rw[dB h,dk S]
def DefOk(P:Program)(w:World)(K:Fg)(p:Str->Option Value)(X:Heap)(j:Nat)(x:Str)(n:Nat)(a:List JS->Res):Prop:=
 ∃(f:Addr)(fd:FuncData)(ps:List Str),dy P w K p X i6 j f fd ps (qy K n a)/\p x=some (.ref f)/\PySem.W.keepIn K (.ref f)=true/\Binds K fd ps []
def DefOkM(P:Program)(w:World)(K:Fg)(p:Str->Option Value)(X:Heap)(j:Nat)(x:Str)(o:List Sh)(a:List JS->Res):Prop:=
 ∃(f:Addr)(fd:FuncData)(ps:List Str),dy P w K p X i6 j f fd ps (Ff K o a)/\p x=some (.ref f)/\PySem.W.keepIn K (.ref f)=true/\Binds K fd ps []
def oK(K:Fg)(p:Str->Option Value)(x:Str)(d:JS):Prop:=∃u v,p x=some u/\RelV v u/\∀H,Rep K H v d
theorem DefOk.cal{j n:Nat}{w:List JS->Res}(h:DefOk X.prog X.w X.K X.mg X.base j x n w)(m:Room k X.A)(A:decide (j<=k)=true):CN X x n w:=by
 obtain⟨f,r,G,F,a,b,c⟩:=h;exact⟨j,f,r,G,F,m.mono (of_decide_eq_true A),a,b,c⟩
theorem DefOkM.cal{j:Nat}{o:List Sh}{w:List JS->Res}(h:DefOkM X.prog X.w X.K X.mg X.base j x o w)(m:Room k X.A)(A:decide (j<=k)=true):Co X x o w:=by
 obtain⟨f,r,G,F,a,b,c⟩:=h;exact⟨j,f,r,G,F,m.mono (of_decide_eq_true A),a,b,c⟩
def HA:JS->V
 |.none=>.non
 |.bool b=>.bl b
 |.int i=>.int i
 |.str x=>.str x
 |_=>.non
def rU:List Value->List JS->Bool
 |.int i _::r,.int j::ds=>decide (i=j)&&rU r ds
 |.str x _::r,.str y::ds=>decide (x=y)&&rU r ds
 |[],[]=>true
 |_,_=>false
theorem Gv:∀{S:List Value}{ds:List JS},rU S ds=true->Vals (ds.map HA) S/\∀d∈ds,Sc (HA d) d
 |[],[],_=>⟨.nil,λd U=>(nomatch U)⟩
 |.int i t::r,.int j::ds,h=>by
  simp only[rU,Bool.and_eq_true,decide_eq_true_eq]at h
  obtain⟨rfl,h⟩:=h;obtain⟨a,b⟩:=Gv h;refine⟨.cons ⟨t,rfl⟩ a,λd U=>?_⟩
  rcases JI U with z|z
  .rw[z];exact .int i
  .exact b d z
 |.str i t::r,.str j::ds,h=>by
  simp only[rU,Bool.and_eq_true,decide_eq_true_eq]at h
  obtain⟨rfl,h⟩:=h;obtain⟨a,b⟩:=Gv h;refine⟨.cons ⟨t,rfl⟩ a,λd U=>?_⟩
  rcases JI U with z|z
  .rw[z];exact .str i
  .exact b d z
def B5(g:Array Value)(t:List JS):Bool:=decide (g.size<=sizeLine)&&rU g.toList t
theorem yj{K:Fg}{p:Str->Option Value}{u:Option Addr}{g:Array Value}{n:Nat}{M:Array (Option Value)}(C:p x=some (.ref a))(l:K.lookup a=some ⟨.type "tuple",u,.seq g n,M⟩)(h:B5 g t=true):oK K p x (.tuple t):=by
 unfold B5 at h;simp only[Bool.and_eq_true,decide_eq_true_eq]at h
 obtain⟨v,s⟩:=Gv h.2;refine⟨.ref a,.ref a,C,rfl,λH=>.tup (vs:=t.map HA) (.inr ⟨_,g,n,l,rfl,rfl,h.1,v⟩) (by simp) λi v d J S=>?_⟩
 rw[getElem?_map,S]at J
 cases J;exact(s d (mem_of_getElem? S)).rep
theorem yk{K:Fg}{p:Str->Option Value}{i:Int}{t:Tok}(C:p x=some (.int i t)):oK K p x (.int i):=⟨.int i t,.int i,C,⟨t,rfl⟩,λH=>.int i⟩
theorem Bt{K:Fg}{m:List JS->Res}{H:Hp}{y:List Int}{E:XK}(h:m [.list (y.map .int)]=.ok ⟨.leaf,.bool true⟩)(R:SqL K H a (y.map V.int)):qy K 1 m [.ref a] H (λv _=>v=.bl true) E:=by
 refine⟨rfl,[],[.list (y.map .int)],nodup_nil,(λ_ z=>nomatch z),⟨rfl,λi v d J S=>?_⟩,?_⟩
 .rw[Ga]
  match i,J,S with
  |0,J,S=>
   cases J
   cases S;refine .lst R (by simp) λi v d J S=>?_
   rw[getElem?_map]at J S
   cases e:y[i]? with
   |none=>rw[e]at J;cases J
   |some z=>
    rw[e]at J S
    cases J
    cases S;exact .int z
  |i+1,J,S=>simp at J
 .rw[h]
  intro v Y G r
  have o:=r.own.rep
  cases o;rfl
end T
namespace TQ
open PySem PySem.Spec L2 T
open PyProof.Rows hiding St
variable{x y:Str}{o h:Pos}{z q:Expr}{k:FI}{vs' cs' lo' gs':List Nat}
structure Q(p:Prop):Prop where
 p:p
section
variable{X:Cx}{N gl:List Str}{vs cs ls lo gs:List Nat}{W:XW}{a b c e:Expr}{es:List Expr}{pos p:Pos}{fa fb fc:F1}{fl:FL}{ga gb:FB}{g1 g2 g:FS}
theorem Hv(S:Cp X N gl vs cs ls lo gs)(i:Nat)(J:N[i]?=some x)(R:vs.contains i=true):Q (PE X (.Name x pos) (tE X.K W (aa i))):=⟨by
 have m:=S.nm x (mem_of_getElem? J)
 exact B1 (lz (by rw[S.hN];exact J) (S.vis i x J R) m.1 m.2)⟩
theorem dW(S:Cp X N gl vs cs ls lo gs)(i:Nat)(J:N[i]?=some x)(R:vs.contains i=true):Q (PE X (.Name x pos) (tE X.K W (bh i))):=⟨by
 have m:=S.nm x (mem_of_getElem? J)
 exact yf (lz (by rw[S.hN];exact J) (S.vis i x J R) m.1 m.2)⟩
theorem zO(S:Cp X N gl vs cs ls lo gs)(j:Nat){d:JS}(A:gl[j]?=some x)(l:gs.contains j=true)(h:JD X x d):Q (PE X (.Name x pos) (tE X.K W (eK d))):=⟨by
 obtain⟨u,v,J,f,I⟩:=h;have q:=S.g A l
 exact yg q.1 J f I q.2.1⟩
theorem aJ{j:Int}{k pos}:Q (PE X (.Constant (.int j) k pos) (tE X.K W (eK (.int j)))):=⟨aZ CU λ_ _ _=>tU λ_=>.int j⟩
theorem jD{j:Bool}{k pos}:Q (PE X (.Constant (.bool j) k pos) (tE X.K W (eK (.bool j)))):=⟨aZ DV λ_ _ _=>tU λ_=>.bl j⟩
theorem gK{k pos}:Q (PE X (.Constant .none k pos) (tE X.K W (eK .none))):=⟨aZ A8 λ_ _ _=>tU λ_=>.non⟩
theorem Dc{j:Str}{k pos}:Q (PE X (.Constant (.str j) k pos) (tE X.K W (eK (.str j)))):=⟨aZ uk λ_ _ _=>tU λ_=>.str j⟩
theorem nt(U:Q (PE X a (tE X.K W fa)))(Z:Q (PE X b (tE X.K W fb))):Q (PE X (.BinOp a .Add b pos) (tE X.K W (az ba fa fb))):=⟨have U:=U.p;have Z:=Z.p;aZ (gC Bl U Z) λ_ _ _=>gy (Cs λ_ _=>.int _)⟩
theorem EN(U:Q (PE X a (tE X.K W fa)))(Z:Q (PE X b (tE X.K W fb))):Q (PE X (.BinOp a .Sub b pos) (tE X.K W (az gSub fa fb))):=⟨have U:=U.p;have Z:=Z.p;aZ (gC Bb U Z) λ_ _ _=>gy (Cs λ_ _=>.int _)⟩
theorem Da(U:Q (PE X a (tE X.K W fa)))(Z:Q (PE X b (tE X.K W fb))):Q (PE X (.BinOp a .Mult b pos) (tE X.K W (az mH fa fb))):=⟨have U:=U.p;have Z:=Z.p;aZ (gC Bg U Z) λ_ _ _=>gy (pL (λi j h=>by
 simp only[rZ,Bool.or_eq_true,Bool.and_eq_true,decide_eq_true_eq]at h
 exact h) λ_ _=>.int _)⟩
theorem lB(U:Q (PE X a (tE X.K W fa)))(Z:Q (PE X b (tE X.K W fb))):Q (PE X (.BinOp a .FloorDiv b pos) (tE X.K W (az u0 fa fb))):=⟨have U:=U.p;have Z:=Z.p;aZ (gC xt U Z) λ_ _ _=>gy (pL (λi j h=>by
 simp only[yo,Bool.and_eq_true,decide_eq_true_eq]at h
 exact h) λ_ _=>.int _)⟩
theorem lq(U:Q (PE X a (tE X.K W fa)))(Z:Q (PE X b (tE X.K W fb))):Q (PE X (.BinOp a .Mod b pos) (tE X.K W (az bN fa fb))):=⟨have U:=U.p;have Z:=Z.p;aZ (gC Bh U Z) λ_ _ _=>gy (pL (λi j h=>by
 simp only[yn,decide_eq_true_eq]at h
 exact h) λ_ _=>.int _)⟩
theorem sU(U:Q (PE X a (tE X.K W fa)))(Z:Q (PE X b (tE X.K W fb))):Q (PE X (.BinOp a .Pow b pos) (tE X.K W (az xS fa fb))):=⟨have U:=U.p;have Z:=Z.p;aZ (gC Be U Z) λ_ _ _=>gy (pL (λi j h=>by
 simp only[ym,Bool.and_eq_true,decide_eq_true_eq]at h
 exact⟨h.1.1,h.1.2,h.2⟩) λ_ _=>.int _)⟩
theorem lD(U:Q (PE X a (tE X.K W fa)))(Z:Q (PE X b (tE X.K W fb))):Q (PE X (.BinOp a .Mult b pos) (tE X.K W (fZ fa fb))):=⟨have U:=U.p;have Z:=Z.p;aZ (gC Bc U Z) λ_ _ _=>As⟩
theorem sV(U:Q (PE X a (tE X.K W fa))):Q (PE X (.UnaryOp .Not a pos) (tE X.K W (va fa))):=⟨have U:=U.p;aZ (A7 U) λ_ _ _=>Au⟩
theorem Hy{j:CmpOp}{r:R2}{g:JS->JS->Option JS}(k:Ck X j r g)(U:Q (PE X a (tE X.K W fa)))(Z:Q (PE X b (tE X.K W fb)))(C:behindInMarks j b=false):Q (PE X (.Compare a [j] [b] pos) (tE X.K W (az g fa fb))):=⟨have U:=U.p;have Z:=Z.p;B2 k.o k.g U Z C⟩
theorem Dk{j m:CmpOp}{r E:R2}{g S:JS->JS->Option JS}(k:Ck X j r g)(o:Ck X m E S)(U:Q (PE X a (tE X.K W fa)))(Z:Q (PE X b (tE X.K W fb)))(f:Q (PE X c (tE X.K W fc)))(C:lastMarks [j,m] [b,c]=false):Q (PE X (.Compare a [j,m] [b,c] pos) (tE X.K W (zw g S fa fb fc))):=⟨have U:=U.p;have Z:=Z.p;have f:=f.p;vh k.o k.g o.o o.g U Z f C⟩
theorem vT{op}(h:Q (PE X a (tE X.K W fa))):Q (PE X (.BoolOp op [a] pos) (tE X.K W fa)):=⟨L2.pe_one h.p⟩
theorem vF(U:Q (PE X a (tE X.K W fa)))(Z:Q (PE X (.BoolOp .And (b::es) pos) (tE X.K W fb))):Q (PE X (.BoolOp .And (a::b::es) pos) (tE X.K W (ff fa fb))):=⟨have U:=U.p;have Z:=Z.p;aZ (Ba U Z) λ_ _ _=>AI⟩
theorem wc(U:Q (PE X a (tE X.K W fa)))(Z:Q (PE X (.BoolOp .Or (b::es) pos) (tE X.K W fb))):Q (PE X (.BoolOp .Or (a::b::es) pos) (tE X.K W (CL fa fb))):=⟨have U:=U.p;have Z:=Z.p;aZ (DU U Z) λ_ _ _=>DG⟩
theorem oO(f:Q (PT X c (tT X.K W ga)))(U:Q (PE X a (tE X.K W fa)))(Z:Q (PE X b (tE X.K W fb))):Q (PE X (.IfExp c a b pos) (tE X.K W (vJ ga fa fb))):=⟨have f:=f.p;have U:=U.p;have Z:=Z.p;aZ (uo f U Z) λ_ _ _=>DH⟩
theorem sW(U:Q (PE X a (tE X.K W fa)))(Z:Q (PE X b (tE X.K W fb)))(P:sD b):Q (PE X (.Subscript a b pos) (tE X.K W (aq fa fb))):=⟨have U:=U.p;have Z:=Z.p;aZ (jV Cv U Z P) λ_ _ _=>Az⟩
theorem fV(s:Sh)(h:Q (PA X es (tA X.K W fl))):Q (PE X (.List es pos) (tE X.K W (aH s fl))):=⟨have h:=h.p;aZ (A9 h) λ_ _ _=>wU⟩
theorem qa{x1}(h:Q (PA X es (tA X.K W fl))):Q (PE X (.Tuple es x1 pos) (tE X.K W (cG fl))):=⟨have h:=h.p;aZ (uj h) λ_ _ _=>An⟩
theorem oM :Q (PA X [] (tA X.K W ah)):=⟨T.da_nil ⟩
theorem jF(U:Q (PE X e (tE X.K W fa)))(m:Q (PA X es (tA X.K W fl)))(P:starEach (e::es) X.env=(false,eval e X.env)::starEach es X.env):Q (PA X (e::es) (tA X.K W (ae fa fl))):=⟨T.da_cons U.p m.p P⟩
theorem Dj{d:Scope}{m:List Expr}{G:F1}{n:FB}(S:Cp X N gl vs cs ls lo gs)(s:Sh)(i:Nat)(A:N[i]?=some x)(J:kb N i cs d=true)(h:sx N gl vs' cs' [i] lo' gs' d=true)(I:Q (PI X (.Name x o) z (tI X.K W k)))(f:sA X N gl vs' cs' [i] lo' gs' λY=>Q (PF Y m (tT Y.K W0 n)))(R:sA X N gl vs' cs' [i] lo' gs' λY=>Q (PE Y q (tE Y.K W0 G)))(P:∀x,foldedSetIterable z X.env x=pure x):Q (PE X (.ListComp q [⟨.Name x o,z,m,0⟩] d pos) (tE X.K W (aw s i k n G))):=⟨T.co S s i A J h I.p (λY S F=>(f Y S F).p) (λY S F=>(R Y S F).p) P⟩
theorem so{d:Scope}{K r:Pos}{m:List Expr}{H:FI}{G:F1}{M:FB}(S:Cp X N gl vs cs ls lo gs)(own:Bool)(j:Nat)(s:Sh)(i:Nat)(Z:N[j]?=some y)(l:lo.contains j=true)(A:N[i]?=some x)(h:(K.line==pos.line)=true)(v:(d.names.any λ(n,k)=>n==y&&(k==NameKind.local||k==NameKind.cell))=false)(J:kb N i cs d=true)(O:sx N gl vs' cs' [i] lo' gs' d=true)(I:Q (PI X (.Name x o) z (tI X.K W H)))(f:sA X N gl vs' cs' [i] lo' gs' λY=>Q (PF Y m (tT Y.K W0 M)))(R:sA X N gl vs' cs' [i] lo' gs' λY=>Q (PE Y q (tE Y.K W0 G)))(P:∀x,foldedSetIterable z X.env x=pure x):Q (PS X (.Assign [.Name y K] (.ListComp q [⟨.Name x o,z,m,0⟩] d pos) r) (tS X.K W (aB own j (aw s i H M G)))):=⟨by
 have I:=I.p
 have f:=λY S F=>(f Y S F).p
 have R:=λY S F=>(R Y S F).p
 have B:=λt C E w u=>S.blk O t C E w u
 have L:=λt C E w u=>(B t C E w u).loc i x A (by simp)
 exact ou (X:=X) own j s i (mY S J) (by rw[S.hN];exact S.nd) I (λt C E w u=>f _ (B t C E w u) ⟨rfl,rfl,rfl,rfl,rfl,rfl⟩) (λt C E w u=>R _ (B t C E w u) ⟨rfl,rfl,rfl,rfl,rfl,rfl⟩)
  (nM S.kind (S.loo j y Z l) h v) (by rw[S.hN];exact Z) (S.loo j y Z l) S.calm (by rw[S.hN];exact A) (λt C E w u=>(L t C E w u).1) (λt C E w u=>(L t C E w u).2) P⟩
theorem tf(S:Cp X N gl vs cs ls lo gs)(j:Nat)(A:gl[j]?=some ("len":Str))(l:gs.contains j=true)(C:X.mg "len"=none)(U:Q (PA X (e::es) (tA X.K W fl)))(R:starEach (e::es) X.env=(false,eval e X.env)::starEach es X.env)(J:(backTo pos (starEach es X.env)).any (·.1)=false):Q (PE X (.Call (.Name "len" p) (e::es) [] pos) (tE X.K W (bc aI fl))):=⟨have U:=U.p;pR (call_len_seq.or kZ) BK Ej C U (S.g A l).1 (S.g A l).2.2 (S.g A l).2.1 R J⟩
theorem sh(S:Cp X N gl vs cs ls lo gs)(j:Nat)(A:gl[j]?=some ("all":Str))(l:gs.contains j=true)(C:X.mg "all"=none)(U:Q (PA X (e::es) (tA X.K W fl)))(R:starEach (e::es) X.env=(false,eval e X.env)::starEach es X.env)(J:(backTo pos (starEach es X.env)).any (·.1)=false):Q (PE X (.Call (.Name "all" p) (e::es) [] pos) (tE X.K W (bc (cL false) fl))):=⟨have U:=U.p;pR (rY S.calm) uW zm C U (S.g A l).1 (S.g A l).2.2 (S.g A l).2.1 R J⟩
theorem GJ(S:Cp X N gl vs cs ls lo gs)(j:Nat)(A:gl[j]?=some ("any":Str))(l:gs.contains j=true)(C:X.mg "any"=none)(U:Q (PA X (e::es) (tA X.K W fl)))(R:starEach (e::es) X.env=(false,eval e X.env)::starEach es X.env)(J:(backTo pos (starEach es X.env)).any (·.1)=false):Q (PE X (.Call (.Name "any" p) (e::es) [] pos) (tE X.K W (bc (cL true) fl))):=⟨have U:=U.p;pR (rW S.calm) uW Em C U (S.g A l).1 (S.g A l).2.2 (S.g A l).2.1 R J⟩
theorem tj(S:Cp X N gl vs cs ls lo gs)(j:Nat)(A:gl[j]?=some ("int":Str))(l:gs.contains j=true)(C:X.mg "int"=none)(U:Q (PA X (e::es) (tA X.K W fl)))(R:starEach (e::es) X.env=(false,eval e X.env)::starEach es X.env)(J:(backTo pos (starEach es X.env)).any (·.1)=false):Q (PE X (.Call (.Name "int" p) (e::es) [] pos) (tE X.K W (bc uZ fl))):=⟨have U:=U.p;Ec rV BL El C U (S.g A l).1 (S.g A l).2.2 (S.g A l).2.1 R J⟩
theorem vX(S:Cp X N gl vs cs ls lo gs)(j:Nat)(A:gl[j]?=some ("list":Str))(l:gs.contains j=true)(C:X.mg "list"=none)(U:Q (PE X e (tE X.K W fa)))(P:starEach [e] X.env=[(false,eval e X.env)]):Q (PE X (.Call (.Name "list" p) [e] [] pos) (tE X.K W (lh fa))):=⟨have U:=U.p;rN C U (S.g A l).1 P⟩
theorem Hz{n:Nat}{w:List JS->Res}(S:Cp X N gl vs cs ls lo gs)(j:Nat)(A:gl[j]?=some x)(l:gs.contains j=true)(C:CN X x n w)(U:Q (PA X (e::es) (tA X.K W fl)))(R:starEach (e::es) X.env=(false,eval e X.env)::starEach es X.env)(J:(backTo pos (starEach es X.env)).any (·.1)=false):Q (PE X (.Call (.Name x p) (e::es) [] pos) (tE X.K W (ar n w fl))):=⟨by
 have U:=U.p
 obtain⟨k,f,r,G,F,m,d,O,Z⟩:=C;exact yi F m d O Z U (S.g A l).1 (S.g A l).2.1 R J⟩
theorem fo{m:Expr}(S:Cp X N gl vs cs ls lo gs)(j:Nat)(A:gl[j]?=some ("range":Str))(l:gs.contains j=true)(C:X.mg "range"=none)(U:Q (PA X [a] (tA X.K W fl)))(P:starEach [a] X.env=[(false,eval a X.env)]):Q (PI X m (.Call (.Name "range" p) [a] [] pos) (tI X.K W (i5 fl))):=⟨have U:=U.p;Eb C U (S.g A l).1 P⟩
theorem yS{m:Expr}(S:Cp X N gl vs cs ls lo gs)(j:Nat)(A:gl[j]?=some ("range":Str))(l:gs.contains j=true)(C:X.mg "range"=none)(U:Q (PA X [a,b] (tA X.K W fl)))(P:starEach [a,b] X.env=[(false,eval a X.env),(false,eval b X.env)])(w:starEach [b] X.env=[(false,eval b X.env)]):Q (PI X m (.Call (.Name "range" p) [a,b] [] pos) (tI X.K W (vI fl))):=⟨have U:=U.p;Ea C U (S.g A l).1 P w⟩
theorem cT{m:Expr}(U:Q (PE X a (tE X.K W fa))):Q (PI X m a (tI X.K W (aF fa))):=⟨have U:=U.p;pX (pw U) λ_ _ _=>w4⟩
theorem Hw{j:CmpOp}{r:R2}{g:JS->JS->Option JS}(k:Ck X j r g)(U:Q (PE X a (tE X.K W fa)))(Z:Q (PE X b (tE X.K W fb)))(C:behindInMarks j b=false):Q (PT X (.Compare a [j] [b] pos) (tT X.K W (aG aj (az g fa fb)))):=⟨T.ct k U.p Z.p C⟩
theorem sj(U:Q (PT X a (tT X.K W ga))):Q (PT X (.UnaryOp .Not a pos) (tT X.K W (cQ ga))):=⟨have U:=U.p;vy (AV U) λ_ _ _=>xf⟩
theorem qc(U:Q (PT X a (tT X.K W ga))):Q (PW X (.BoolOp .And [a] pos) (tT X.K W ga)):=⟨have U:=U.p;xh U⟩
theorem vR(U:Q (PT X a (tT X.K W ga))):Q (PW X (.BoolOp .Or [a] pos) (tT X.K W ga)):=⟨have U:=U.p;AR U⟩
theorem qb(U:Q (PT X a (tT X.K W ga)))(Z:Q (PW X (.BoolOp .And (b::es) pos) (tT X.K W gb))):Q (PW X (.BoolOp .And (a::b::es) pos) (tT X.K W (bK ga gb))):=⟨have U:=U.p;have Z:=Z.p;zr (AS U Z) λ_ _ _=>xg⟩
theorem nF(U:Q (PT X a (tT X.K W ga)))(Z:Q (PW X (.BoolOp .Or (b::es) pos) (tT X.K W gb))):Q (PW X (.BoolOp .Or (a::b::es) pos) (tT X.K W (fm ga gb))):=⟨have U:=U.p;have Z:=Z.p;zr (DQ U Z) λ_ _ _=>AG⟩
theorem iZ(h:Q (PW X a (tT X.K W ga))):Q (PT X a (tT X.K W ga)):=⟨L2.PW.pt h.p⟩
theorem lx(U:Q (PE X a (tE X.K W fa)))(R:∀d,isTrue a X.env d=(do let v <-d;standAt a.pos;holding [v] (truthy v))):Q (PT X a (tT X.K W (aG bI fa))):=⟨have U:=U.p;vy (uf U R) λ_ _ _=>Ao⟩
theorem dz :Q (PSs X [] (tS X.K W aD)):=⟨Cr pj λ_ _ _=>o5⟩
theorem dA{d:Stmt}(J:Q (PS X d (tS X.K W g1))):Q (PSs X [d] (tS X.K W g1)):=⟨have J:=J.p;ph J⟩
theorem bj{d:Stmt}{U:List Stmt}(J:Q (PS X d (tS X.K W g1)))(S:Q (PSs X U (tS X.K W g2))):Q (PSs X (d::U) (tS X.K W (ax g1 g2))):=⟨have J:=J.p;have S:=S.p;Cr (lZ J S) λ_ _ _=>tP⟩
theorem GL(i:Nat){d:List Stmt}(h:Q (PSs X d (tS X.K W g))):Q (PSs X d (tS X.K W (iA i g))):=⟨have h:=h.p;Cr h λ_ _ _=>AC⟩
theorem sS(U:Q (PE X a (tE X.K W fa))):Q (PS X (.Return (some a) pos) (tS X.K W (aN fa))):=⟨have U:=U.p;bB (AW U) λ_ _ _=>Ar⟩
theorem dj{A B:List Stmt}(f:Q (PT X c (tT X.K W ga)))(U:Q (PSs X A (tS X.K W g1)))(Z:Q (PSs X B (tS X.K W g2))):Q (PS X (.If c A B pos) (tS X.K W (bA ga g1 g2))):=⟨have f:=f.p;have U:=U.p;have Z:=Z.p;bB (y3 f U Z) λ_ _ _=>tW⟩
theorem nG(S:Cp X N gl vs cs ls lo gs)(i:Nat){w:List Stmt}{g:FS}(A:N[i]?=some x)(d:ls.contains i=true)(y:PassesOwn (model X.prog X.w) X.A X.env X.xe)(I:Q (PI X (.Name x o) z (tI X.K W k)))(Z:Q (PSs X w (tS X.K W g)))(P:∀x,foldedSetIterable z X.env x=pure x):Q (PS X (.For (.Name x o) z w [] pos) (tS X.K W (cM i k g))):=⟨have I:=I.p;have Z:=Z.p;BZ i y (by rw[S.hN];exact S.nd) I Z S.calm (by rw[S.hN];exact A) (S.loc i x A d).1 (S.loc i x A d).2 P⟩
theorem GM(S:Cp X N gl vs cs ls lo gs)(own:Bool)(i:Nat){K:Pos}(l:N[i]?=some x)(d:ls.contains i=true)(P:swapsWith a (some (.Name x K)) pos.line X.env=pure false)(U:Q (PE X a (tE X.K W fa))):Q (PS X (.Assign [.Name x K] a pos) (tS X.K W (aB own i fa))):=⟨have U:=U.p;BY own i (by rw[S.hN];exact S.nd) U (by rw[S.hN];exact l) (S.loc i x l d).1 P (S.loc i x l d).2⟩
theorem qm(S:Cp X N gl vs cs ls lo gs)(own:Bool)(i j:Nat){o:List Sh}{w:List JS->Res}{K:Pos}(l:N[i]?=some y)(d:ls.contains i=true)(A:gl[j]?=some x)(n:gs.contains j=true)(C:Co X x o w)(U:Q (PA X (e::es) (tA X.K W fl)))(R:starEach (e::es) X.env=(false,eval e X.env)::starEach es X.env)(J:(backTo h (starEach es X.env)).any (·.1)=false)(P:swapsWith (.Call (.Name x p) (e::es) [] h) (some (.Name y K)) pos.line X.env=pure false):Q (PS X (.Assign [.Name y K] (.Call (.Name x p) (e::es) [] h) pos) (tS X.K W (ix own i o w fl))):=⟨by
 have U:=U.p
 obtain⟨k,f,r,G,F,m,q,O,Z⟩:=C;exact bB (FZ (by rw[S.hN];exact S.nd) (by rw[S.hN];exact l) (S.loc i y l d).1 (C6 F m (S.g A n).1 q O Z .nil ma U (S.g A n).2.1 R J) P (S.loc i y l d).2) λ_ _ _=>wM⟩
theorem jG(S:Cp X N gl vs cs ls lo gs)(i:Nat){K:Pos}(l:N[i]?=some x)(R:vs.contains i=true)(U:Q (PE X a (tE X.K W fa)))(Z:Q (PE X b (tE X.K W fb)))(P:swapsWithSole [.Subscript (.Name x o) b K] a pos.line X.env=pure false)(w:swappedStores [.Subscript (.Name x o) b K] a X.env=pure none)(J:(assignEach [.Subscript (.Name x o) b K] X.env).map (·.2)=[assign (.Subscript (.Name x o) b K) X.env])(has:∀v,assign (.Subscript (.Name x o) b K) X.env v=(do
   let ov <-holding [v] (eval (.Name x o) X.env)
   let iv <-holding [v,ov] (eval b X.env)
   standAt K
   holding [v,ov,iv] (setItem ov iv v)
   release [v,ov,iv] [])):Q (PS X (.Assign [.Subscript (.Name x o) b K] a pos) (tS X.K W (cg i fa fb))):=⟨T.cs_setI S i l R U.p Z.p P w J has⟩
theorem qk(S:Cp X N gl vs cs ls lo gs)(i j k:Nat){z:Str}{I pt:Pos}{r:Nat}(l:N[i]?=some x)(A:N[j]?=some y)(O:N[k]?=some z)(d:ls.contains i=true)(f:ls.contains j=true)(R:ls.contains k=true)(U:Q (PE X a (tE X.K W fa)))(P:swapsWithSole [.Tuple [.Name x o,.Name y I,.Name z h] r pt] a pos.line X.env=pure false)(w:swappedStores [.Tuple [.Name x o,.Name y I,.Name z h] r pt] a X.env=pure none):Q (PS X (.Assign [.Tuple [.Name x o,.Name y I,.Name z h] r pt] a pos) (tS X.K W (qD i j k fa))):=⟨by
 have U:=U.p
 have J:X.N.Nodup:=by rw[S.hN];exact S.nd
 exact bB (zB U (CV S.calm (sg (nq J (by rw[S.hN];exact l) (S.loc i x l d).1 (S.loc i x l d).2) (sg (nq J (by rw[S.hN];exact A) (S.loc j y A f).1 (S.loc j y A f).2) (sg (nq J (by rw[S.hN];exact O) (S.loc k z O R).1 (S.loc k z O R).2) C7)))) P w) λ_ _ _=>Am⟩
theorem zK(S:Cp X N gl vs cs ls lo gs)(i:Nat){d:Pos}(l:N[i]?=some x)(R:vs.contains i=true)(U:Q (PE X a (tE X.K W fa)))(P:starEach [a] X.env=[(false,eval a X.env)])(j:attributeBase (.Name x p) "append" X.env (eval (.Name x p) X.env)=eval (.Name x p) X.env)(f:(d.endLine==h.line)=true)(n:((backTo h (starEach [a] X.env)).all (λx=>!x.1)&&(backToKw h (keywordEach [] X.env)).all (λx=>x.1.isSome)
   && decide ([a].length+([]:List Keyword).length+(if([]:List Keyword).isEmpty then 0 else 1)<30))=true)(v:swapsWith (.Call (.Attribute (.Name x p) "append" d) [a] [] h) none pos.line X.env=pure false):Q (PS X (.Expr (.Call (.Attribute (.Name x p) "append" d) [a] [] h) pos) (tS X.K W (fS i fa))):=⟨T.cs_append S i l R U.p P j f n v⟩
theorem i4 :Q (PF X [] (tT X.K W0 aR)):=⟨Et A5 λM H Q h=>by
 obtain⟨d,O,Z,C,E,h⟩:=h;exact h H Z (Same.refl _) E λ_ z=>.inl z⟩
theorem i8(h:Q (PT X c (tT X.K W0 ga))):Q (PF X [c] (tT X.K W0 ga)):=⟨have h:=h.p;AZ h⟩
end
end TQ
namespace T
open PySem PySem.Spec L2
open PyProof.Rows hiding St
variable{X:Cx}{M:St}{Z:List (List Addr)}{C:Ev}{t:List JS}{o:Option (Option PV)}{t':Nat}{a:List Addr}
def Fj:FS:=λ_=>.no
def zU:JS->String
 |.none => "NoneType"
 |.bool _ => "bool"
 |.int _ => "int"
 |.str _ => "str"
 |.list _ => "list"
 |.tuple _ => "tuple"
 |.dict _ => "dict"
def uJ(t c:String):Bool:=t==c||(t == "bool"&&c == "int")
def kinds:List String:=["bool","int","str","list","tuple"]
theorem xD{K:Fg}{c:String}(f:c∈kinds):∀t∈["NoneType","bool","int","str","list","tuple"],PySem.W.kitOne K (.type t) (.type c)=some (uJ t c):=by
 intro t u;unfold kinds at f;simp only[mem_cons,not_mem_nil,or_false]at f u
 rcases f with rfl|rfl|rfl|rfl|rfl<;>rcases u with rfl|rfl|rfl|rfl|rfl|rfl<;>kernel_rfl
section
variable{X:Cx}{pins:List (Addr×Obj)}{σ:St}{H:Hp}{s:Shared}{A:Around}{E:Value->Shared->Prop}{Q:Value->Shared->Prop}{c:Value}{b:Bool}
theorem oe{x:V}{u:Value}{d:JS}(I:Inv X pins σ H s)(w:RelV x u)(r:Rep X.K H x d)(e:PySem.W.kitOne X.K (.type (zU d)) c=some b)(h:∀C,Q (.bool b) {s with toks:=C}):wpAny (model X.prog X.w) A (call (.builtin "isinstance") [u,c]) Q E s:=by
 cases r with
 |non=>exact zI I w .non e h
 |bl y=>exact zI I w (.bl y) e h
 |int i=>exact zI I w (.int i) e h
 |str y=>exact zI I w (.str y) e h
 |@lst p vs ds hs hl q=>
  rcases hs with(z|⟨o,z⟩)|⟨o,its,n,hk,hc,hd,hz,_⟩
  .exact zI I w (.lst z) e h
  .exact zI I w (.frz z) e h
  .cases(show u=Value.ref p from w)
   exact PySem.W.kia_one PySem.W.kitx_list I.kIn ⟨o,I.kIn _ o hk,hc⟩ e nofun h
 |@tup p vs ds hs hl q=>
  rcases hs with(z|⟨o,z⟩)|⟨o,its,n,hk,hc,hd,hz,_⟩
  .exact zI I w (.tup z) e h
  .cases(show u=Value.ref p from w)
   obtain⟨_,_,_,n,P,J,S,_⟩:=(show ObjOk X.prog X.w H s.heap p (.frz o (.tup vs))from I.hok p _ z);exact PySem.W.kia_one PySem.W.kitx_tuple I.kIn ⟨P,J,S⟩ e nofun h
  .cases(show u=Value.ref p from w)
   exact PySem.W.kia_one PySem.W.kitx_tuple I.kIn ⟨o,I.kIn _ o hk,hc⟩ e nofun h
end
def AM(K:Fg)(c:String):List V->Hp->VK->Prop:=λY H Q=>∃x d,Y=[x,.ty c]/\Rep K H x d/\Q (.bl (uJ (zU d) c)) H
theorem vi{c:String}(f:c∈kinds):CallR X (.builtin "isinstance") (AM X.K c):=by
 intro G s M H Y S Q I b h;obtain⟨x,d,rfl,r,q⟩:=h;match S,b with
 |[u,t],.cons r1 (.cons r2 .nil)=>
  cases(show t=Value.type c from r2)
  have a:zU d∈["NoneType","bool","int","str","list","tuple"]:=by cases r<;>simp[zU]
  exact oe I r1 r (xD f _ a) λC=>⟨.bl _,H,I.tok C,rfl,q⟩
def ot(c:String)(M:F1):F1:=aW M λp C=>.ok ⟨.leaf,.bool (uJ (zU p.d) c)⟩ C
theorem Aw{K:Fg}{W:XW}{H:Hp}{Q:VK}{b:F1}{c:String}(h:tE K W (ot c b) M H Q):CJ (AM K c) (cV (tE K W b) (cV (tC (.ty c)) ja)) M H Q:=by
 show tE K W b M H λx n=>AM K c [x,.ty c] n Q
 refine vO h λd O Z I p v n G N X A w=>?_
 exact⟨v,p.d,rfl,A.own.rep,Wants.scal w (.bl _) A.same A.env.dropL (λa U=>U) X λa U=>A.new a (JF _ U)⟩
def sG(c:FB)(g:FS):Nat->Ev->OutS
 |0,_=>.no
 |n+1,Γ=>match c Γ with
  |.ok true I=>(match g I with
   |.nx o=>sG c g n o
   |.ct o=>sG c g n o
   |.bk o=>.nx o
   |.rt p=>.rt p
   |.er e o=>.er e o
   |.no=>.no)
  |.ok false I=>.nx I
  |.er e I=>.er e I
  |.no=>.no
def zC(n:Nat)(c:FB)(g:FS):FS:=sG c g n
section
variable{K:Fg}{W:XW}{σ:St}{H:Hp}{Q:VK}{D:cP}{fa fb:F1}{fl:FL}
theorem tH{n:Nat}{c:FB}{g:FS}(h:tS K W (zC n c g) D σ H):tq (tT K W c) (tS K W g) D σ H:=by
 obtain⟨M,O,Z,C,E,h⟩:=h;refine⟨λm j Y=>∃f z,EnvOk K M O z Y j f/\fU K W M O D (sG c g m f),⟨n,C,Z,E,h⟩,?_⟩
 rintro m j Y ⟨f,z,Ek,w⟩
 cases m with
 |zero=>exact w.elim
 |succ m=>
  refine⟨M,O,z,f,Ek,?_⟩
  rw[sG]at w
  cases e:c f with
  |er x I=>rw[e]at w;exact λA v s S=>w j A v S
  |no=>rw[e]at w;exact w
  |ok b I=>
   rw[e]at w;intro A v N S k
   cases b with
   |false=>rw[if_neg Bool.false_ne_true];exact w j A v S
   |true=>
    rw[if_pos rfl];refine⟨λl t=>∃y i,EnvOk K M O i t l y/\fU K W M O D (sG c g m y),λl t q=>⟨m,Nat.lt_succ_self _,q⟩,M,O,v,I,S,?_⟩
    have w:fU K W M O D (match g I with|.nx o=>sG c g m o|.ct o=>sG c g m o|.bk o=>.nx o|.rt p=>.rt p|.er e o=>.er e o|.no=>.no):=w
    cases a:g I with
    |nx X=>rw[a]at w;exact λP A d S=>⟨X,d,S,w⟩
    |ct X=>rw[a]at w;exact λP A d S=>⟨X,d,S,w⟩
    |bk X=>rw[a]at w;exact λP A d S=>w P A d S
    |rt p=>rw[a]at w;exact λu A G r=>w u A G r
    |er x X=>rw[a]at w;exact λP A d S=>w P A d S
    |no=>rw[a]at w;exact w
theorem EnvOk.chgF{M:Hp}{O:List Addr}{i:Nat}(E:EnvOk K M O Z H σ C)(h:C[i]?=some (some ⟨.lst .leaf,.list t⟩)):∃l L,σ[i]?=some (some (.ref l))/\H l=some (.lst L)/\L.length=t.length/\(∀(j:Nat) u d,L[j]?=some u->t[j]?=some d->Rep K (bV H (O++Z.flatten)) u d) /\
   ∀(r:List V)(f:List JS),r.length=f.length->(∀(j:Nat) u d,r[j]?=some u->f[j]?=some d->Rep K (bV H (O++Z.flatten)) u d)->EnvOk K M O Z (bF H l (.lst r)) σ (C.set i (some ⟨.lst .leaf,.list f⟩)):=by
 obtain⟨R,v,F,J,x,e,n⟩:=E.move h;have hi:i<C.length:=(JN h).1
 obtain⟨_,v0,F0,s,S,X⟩:=E.slot i _ h;obtain⟨l,L,rfl,rfl,y,N,m⟩:=e.leaves;obtain⟨l',r,Y,g,I,A,hr'⟩:=X.leaves;rw[J]at s
 cases s
 cases Y;rw[y]at I
 cases I
 refine⟨l,L,J,y,N,hr',λc f w q=>?_⟩
 have G:l∈Z.flatten:=n l (JG _ (List.mem_singleton.mpr rfl))
 have k:M l=none:=E.fresh l G
 have E4:=x.mutO (o:=.lst c) (JG _ (List.mem_singleton.mpr rfl)) y k
 have ownL:Own K ([l]++O++(Z.set i []).flatten) (bF H l (.lst c)) (.lst .leaf) [l] (.ref l) (.list f):=by
  refine Own.mkLeaves fT w λj u d P b=>?_
  rw[EH (JG _ (JG _ (List.mem_singleton.mpr rfl)))];refine(q j u d P b).mono (p9 (Same.refl _) λa U=>.inl ?_)
  rcases JH U with z|z
  .rcases JH z with z|z
   .rw[List.mem_singleton.mp z];exact JF _ G
   .exact JG _ z
  .exact JF _ (n a (JF _ z))
 have fin:=EnvOk.put (i:=i) (p:=⟨.lst .leaf,.list f⟩) (v:=.ref l) E4 ownL rfl (λa U=>by rw[List.mem_singleton.mp U];exact k) (by rw[length_set];exact hi)
 rw[set_set,set_set,sI J]at fin;rw[g]at S;rw[sI S]at fin;exact fin
def IE(j i:Nat):FS:=λC=>match C[i]? with
 |some (some ⟨.lst .leaf,.list ds⟩)=>(match ds.getLast? with
  |some d=>if j<C.length/\j≠i then .nx ((C.set i (some ⟨.lst .leaf,.list ds.dropLast⟩)).set j (JT d))else .no
  |none=>.no)
 |_=>.no
def yO:Option (Option PV)->Bool
 |some (some ⟨.lst (.lst .leaf),.list _⟩)=>true
 |_=>false
theorem iJ(h:yO o=true):∃t,o=some (some ⟨.lst (.lst .leaf),.list t⟩):=by
 unfold yO at h;split at h
 .exact⟨_,rfl⟩
 .cases h
theorem EnvOk.chg2{M:Hp}{O:List Addr}{i j:Nat}{es:List JS}(E:EnvOk K M O Z H σ C)(h:C[i]?=some (some ⟨.lst (.lst .leaf),.list t⟩))(A:t[j]?=some (.list es)):∃l L m ws,σ[i]?=some (some (.ref l))/\H l=some (.lst L)/\L.length=t.length/\L[j]?=some (.ref m)/\H m=some (.lst ws)/\ws.length=es.length/\(∀(k:Nat) u d,ws[k]?=some u->es[k]?=some d->Rep K (bV H (O++Z.flatten)) u d) /\
   ∀(ws':List V)(f:List JS),ws'.length=f.length->(∀(k:Nat) u d,ws'[k]?=some u->f[k]?=some d->Rep K (bV H (O++Z.flatten)) u d)->EnvOk K M O Z (bF H m (.lst ws')) σ (C.set i (some ⟨.lst (.lst .leaf),.list (t.set j (.list f))⟩)):=by
 obtain⟨hv,v,F,J,x,e,sub⟩:=E.move h;have hi:i<C.length:=(JN h).1
 obtain⟨_,v0,I,h10,h20,o0⟩:=E.slot i _ h;have eF:I=F:=by
  have q:=E.move h
  cases o0 with
  |@lst _ l0 vs0 _ Fs0 P b a3 a4 a5 a6=>
   cases e with
   |@lst _ l1 vs1 _ Fs1 b1 b2 b3 b4 b5 b6=>
    rw[J]at h10
    cases h10;rw[b]at b2
    cases b2;have:Fs0=Fs1:=by
     apply ext_getElem?
     intro k;by_cases hk:k<t.length
     .have c0:=a6 k (vs0[k]'(by omega)) (t[k]'hk) (Fs0[k]'(by omega)) (JJ _) (JJ _) (JJ _)
      have X:=b6 k (vs0[k]'(by omega)) (t[k]'hk) (Fs1[k]'(by omega)) (JJ _) (JJ _) (JJ _)
      rw[JJ (by omega),JJ (by omega)]
      generalize Fs0[k]'(by omega)=A0 at c0
      generalize Fs1[k]'(by omega)=A1 at X
      generalize vs0[k]'(by omega)=u at c0 X
      generalize t[k]'hk=d at c0 X
      cases c0 with
      |lst x1 x2 x3 Y x5 x6=>
       rename_i s vs2 S r;obtain⟨l2,_,R,w,_⟩:=(Own.lst x1 x2 x3 Y x5 x6).leaves;obtain⟨l3,_,e4,e5,_⟩:=X.leaves
       cases R
       cases e4;rw[w,e5]
     .rw[getElem?_eq_none (by omega),getElem?_eq_none (by omega)]
    rw[this]
 subst eF;clear o0
 cases e with
 |@lst _ l L _ Fs0 hsv hp hl hf nd q=>
  have hjl:j<t.length:=(JN A).1
  have vj:L[j]?=some (L[j]'(by omega)):=JJ _
  have fj:Fs0[j]?=some (Fs0[j]'(by omega)):=JJ _
  obtain⟨m,ws,em,eG,hm,N,hwr⟩:=(q j _ _ _ vj A fj).leaves;rw[em]at vj;rw[eG]at fj;have hmF:m∈Fs0.flatten:=gh fj (List.mem_singleton.mpr rfl)
  have lnm:l≠m:=λz=>(List.nodup_cons.mp nd).1 (z▸hmF)
  have c:((l::Fs0.flatten)++(Z.set i []).flatten).Perm Z.flatten:=by simpa using ll (G:=[]) h20
  have subA:∀a∈O++Z.flatten,a∈(l::Fs0.flatten)++O++(Z.set i []).flatten:=λa U=>by
   rcases JH U with z|z
   .exact JG _ (JF _ z)
   .rcases JH (c.mem_iff.mpr z)with y|y
    .exact JG _ (JG _ y)
    .exact JF _ y
  have subB:∀a∈(l::Fs0.flatten)++O++(Z.set i []).flatten,a∈O++Z.flatten:=λa U=>by
   rcases JH U with z|z
   .rcases JH z with z|z
    .exact JF _ (c.mem_iff.mp (JG _ z))
    .exact JG _ z
   .exact JF _ (c.mem_iff.mp (JF _ z))
  refine⟨l,L,m,ws,J,hp,hl,vj,hm,N,λk u d P b=>(hwr k u d P b).mono (p9 (Same.refl _) λa U=>.inl (subA a U)),λws' f hw q'=>?_⟩
  have hmO:m∈(l::Fs0.flatten)++O:=JG _ (JL _ hmF)
  have hfr:∀a∈l::Fs0.flatten,M a=none:=λa U=>E.fresh a (sub a (JG _ U))
  have E4:=x.mutO (o:=.lst ws') hmO hm (hfr m (JL _ hmF))
  have ownL:Own K ((l::Fs0.flatten)++O++(Z.set i []).flatten) (bF H m (.lst ws')) (.lst (.lst .leaf)) (l::Fs0.flatten) (.ref l) (.list (t.set j (.list f))):=by
   refine .lst rfl (by rw[eA lnm];exact hp) (by rw[length_set];exact hl) (by rw[length_set];exact hf) nd λk v d F g R w=>?_
   by_cases hk:k=j
   .subst hk
    rw[getElem?_set_self hjl]at R
    cases R;rw[vj]at g
    cases g;rw[fj]at w
    cases w;refine Own.mkLeaves fT hw λn u d P b=>?_
    rw[EH (JG _ hmO)];exact(q' n u d P b).mono (p9 (Same.refl _) λa U=>.inl (subB a U))
   .rw[getElem?_set_ne (Ne.symm hk)]at R
    exact(q k v d F g R w).mut rfl (JG _ hmO) (λz=>GU (List.nodup_cons.mp nd).2 w fj hk m z (List.mem_singleton.mpr rfl)) hm
  have fin:=EnvOk.put (i:=i) (p:=⟨.lst (.lst .leaf),.list (t.set j (.list f))⟩) (v:=.ref l) E4 ownL rfl hfr (by rw[length_set];exact hi)
  rw[set_set,set_set,sI J,sI h20]at fin;exact fin
def FQ(i:Nat)(q p:PV)(C:Ev):OutS:=match C[i]? with
 |some (some ⟨.lst (.lst .leaf),.list ds⟩)=>(match q.d with
  |.int k=>(match dg ds.length k with
   |some j=>(match ds[j]? with
    |some (.list es)=>if T.coer .leaf p&&decide (es.length<sizeLine)then .nx (C.set i (some ⟨.lst (.lst .leaf),.list (ds.set j (.list (es++[p.d])))⟩))else .no
    |_=>.no)
   |none=>.no)
  |_=>.no)
 |_=>.no
def jk(i:Nat)(q:PV)(C:Ev):Bool:=match C[i]? with
 |some (some ⟨.lst (.lst .leaf),.list ds⟩)=>(match q.d with
  |.int k=>(match dg ds.length k with
   |some j=>(match ds[j]? with
    |some (.list _)=>true
    |_=>false)
   |none=>false)
  |_=>false)
 |_=>false
theorem pD{i:Nat}{q:PV}(h:jk i q C=true):∃t k j U,C[i]?=some (some ⟨.lst (.lst .leaf),.list t⟩)/\q.d=.int k/\dg t.length k=some j/\t[j]?=some (.list U):=by
 unfold jk at h;split at h
 .rename_i t e
  split at h
  .rename_i k v
   split at h
   .rename_i j Z
    split at h
    .rename_i U a
     exact⟨t,k,j,U,e,v,Z,a⟩
    .cases h
   .cases h
  .cases h
 .cases h
def yJ(i:Nat)(a M:F1):FS:=λC=>if yO C[i]? then eX a (λq I=>if jk i q I then eX M (FQ i q) I else .no) C else .no
theorem t6{i:Nat}(h:tS K W (yJ i fa fb) D σ H):dq (oS K "list" Gf (qx (AL K) (cm i) (tE K W fa)) (tA K W (ae fb ah))) D σ H:=by
 obtain⟨M,O,Z,C,E,h⟩:=h;unfold yJ at h
 cases J:yO C[i]? with
 |false=>rw[J]at h;exact h.elim
 |true=>
  rw[J]at h;obtain⟨ds0,e0⟩:=iJ J;obtain⟨_,v0,F0,s0,_,o0⟩:=E.slot i _ e0;refine⟨v0,s0,dO (D:=D) ⟨M,O,Z,C,E,h⟩ λM O Z I q u H1 G1 N _ X A1 w=>?_⟩
  cases hk:jk i q I with
  |false=>rw[hk]at w;exact w.elim
  |true=>
   rw[hk]at w;obtain⟨t,k,j,es,g,ek,ej,ee⟩:=pD hk;obtain⟨l,L,m,ws,q1,q2,e,q4,q5,q6,q7,q8⟩:=A1.env.dropL.chg2 g ee;rw[s0]at q1
   cases q1;have hu:=A1.own.rep
   rw[ek]at hu
   cases hu;have hat:dU L k=some (.ref m):=by unfold dU;rw[e,ej];exact q4
   refine .inl ⟨l,L,k,.ref m,rfl,rfl,.of q2,hat,.inl ⟨rfl,ws,.of q5⟩,EE (dO (D:=D) ⟨M,O,N,I,A1.env.dropL,w⟩ λM O Z o p v A G r _ fr2 A2 w2=>?_)⟩
   unfold FQ at w2;split at w2
   .rename_i S R
    rw[ek]at w2;dsimp only at w2;split at w2
    .rename_i j2 ej2
     split at w2
     .rename_i es2 ee2
      cases f:(T.coer .leaf p&&decide (es2.length<sizeLine))with
      |false=>rw[f]at w2;exact w2.elim
      |true=>
       rw[f]at w2;simp only[Bool.and_eq_true,decide_eq_true_eq]at f
       obtain⟨l2,y,m2,ws2,r1,r2,r3,r4,r5,r6,r7,r8⟩:=A2.env.dropL.chg2 R ee2;rw[s0]at r1
       cases r1;have x2:A l=some (.lst L):=A2.same _ _ q2
       rw[x2]at r2
       cases r2;have y2:dU L k=some (.ref m2):=by unfold dU;rw[r3,ej2];exact r4
       rw[hat]at y2
       cases y2;have ov:Own K (O++r.flatten) A .leaf [] v p.d:=A2.own.coer (s:=.leaf) f.1 gO λa U z=>absurd z (A2.disj a U)
       cases ov with
       |leaf c=>
        have E4:=r8 (ws2++[v]) (es2++[p.d]) (by simp[r6]) λn x d P b=>by
         by_cases Y:n<ws2.length
         .rw[getElem?_append_left Y]at P
          rw[getElem?_append_left (by omega)]at b
          exact r7 n x d P b
         .have hn':n=ws2.length:=by
           have:=(JN P).1
           rw[length_append,length_singleton]at this;omega
          subst hn'
          rw[getElem?_append_right (JR _),Nat.sub_self]at P;rw[getElem?_append_right (by omega),show ws2.length-es2.length=0 by omega]at b
          cases P
          cases b;exact c
        exact⟨m,ws2,v,rfl,rfl,r5,by rw[r6];exact f.2,w2 σ _ _ E4⟩
     .exact w2.elim
    .exact w2.elim
   .exact w2.elim
end
def t9(K:Fg):List V->Hp->VK->Prop:=λY H Q=>∃(p:Addr)(ns:List Int),Y=[.ref p]/\SqL K H p (ns.map V.int)/\ns.length<64/\∀l,H l=none->Q (.ref l) (bF H l (.lst ((PySem.W.sortI ns).map V.int)))
theorem EI:∀{y:List Int}{us:List Value},Vals (y.map V.int) us->IntsAre us y
 |[],_,.nil=>.nil
 |n::y,_,.cons r t=>by
  obtain⟨C,rfl⟩:=(show ∃t,_=Value.int n t from r)
  exact .cons _ _ (EI t)
theorem Gn:∀{y:List Int}{us:List Value},IntsAre us y->Vals (y.map V.int) us
 |_,_,.nil=>.nil
 |_,_,.cons _ _ t=>.cons ⟨_,rfl⟩ (Gn t)
theorem oC:CallR X (.builtin "sorted") (t9 X.K):=by
 intro G s M H Y S Q I c h;obtain⟨p,y,rfl,R,i,q⟩:=h;obtain⟨u,rfl,E⟩:=c.one
 cases E;obtain⟨g,r,d,P⟩:=I.list R;have O:=EI r
 have N:g.length=y.length:=by rw[<-r.length,length_map]
 refine sorted_ints d.isList O (by omega) λa f k j L=>?_
 have e:=PySem.W.eq_sortI j L
 subst e;obtain⟨n,J⟩:=sortedAll_at s.heap g a;have C:(PySem.W.sortI y).length=y.length:=(PySem.W.sortI_perm y).length_eq
 have Z:=jN (n:=y.length) (by omega)
 refine⟨.ref (s.heap.objs.size+1),bF H (s.heap.objs.size+1) (.lst ((PySem.W.sortI y).map V.int)),I.laid (t':=s.toks) (λb o e=>sortedAll_old e) (Nat.le_succ _) ⟨by rw[length_map,C];omega,a.toList,n,Gn k,by simpa[seqObj]using J⟩,rfl,q _ (I.hok.fresh (Nat.le_succ _))⟩
section
variable{K:Fg}{W:XW}{σ:St}{H:Hp}{Q:VK}{fa:F1}{fl:FL}
theorem AftL.newSc{M:Hp}{O:List Addr}{q b:List (List Addr)}{I:Ev}{G:List PV}{S:List V}{n:Hp}{l:Addr}{L:List V}(A:AftL K M O Z H σ I G S n q b)(X:O.Nodup)(N:n l=none)(c:L.length=t.length)(P:∀(i:Nat) v d,L[i]?=some v->t[i]?=some d->Sc v d):Aft K M O Z H σ I ⟨.lst .leaf,.list t⟩ (.ref l) (bF n l (.lst L)) [l] b:=by
 refine⟨A.same.trans (i3 N),A.env.dropL.hide (i3 N) (by simp) (by simpa using N) (λa U=>by rw[List.mem_singleton.mp U,fT];exact Option.some_ne_none _),λa U=>?_,?_⟩
 .rcases JH U with z|z
  .rw[List.mem_singleton.mp z];exact .inr (A.same.free N)
  .exact A.new a (JF _ z)
 .exact Own.mkLeaves fT c λj u d g R=>(P j u d g R).rep
def intsOf:List JS->Option (List Int)
 |[]=>some []
 |.int i::r=>(intsOf r).map (i :: ·)
 |_=>none
theorem Hf:∀{t:List JS}{ns:List Int},intsOf t=some ns->t=ns.map .int
 |[],ns,h=>by cases h;rfl
 |.int i::r,ns,h=>by
  unfold intsOf at h
  cases e:intsOf r with
  |none=>rw[e]at h;cases h
  |some y=>rw[e]at h;cases h;rw[Hf e];rfl
 |.none::_,_,h=>by cases h
 |.bool _::_,_,h=>by cases h
 |.str _::_,_,h=>by cases h
 |.list _::_,_,h=>by cases h
 |.tuple _::_,_,h=>by cases h
 |.dict _::_,_,h=>by cases h
def sortArg:List JS->Option (List Int)
 |[.list ds]=>intsOf ds
 |_=>none
theorem ir{y:List Int}(h:sortArg t=some y):t=[.list (y.map .int)]:=by
 unfold sortArg at h;split at h
 .rw[Hf h]
 .cases h
def yC(b:FL):F1:=λC=>(b C).bind λG X=>match sortArg (G.map (·.d))with
 |some y=>if y.length<64 then .ok ⟨.lst .leaf,.list ((PySem.W.sortI y).map .int)⟩ X else .no
 |none=>.no
theorem tL(h:tE K W (yC fl) σ H Q):CJ (t9 K) (tA K W fl) σ H Q:=by
 obtain⟨M,O,Z,C,E,h⟩:=h;refine⟨M,O,Z,C,E,?_⟩
 unfold yC at h
 cases e:fl C with
 |er c X=>rw[e]at h;exact h
 |no=>rw[e]at h;exact h
 |ok G I=>
  rw[e]at h;intro L n j f A;have r:=A.reps
  have h:Wants K W M O Z H σ Q (match sortArg (G.map (·.d))with|some y=>if y.length<64 then .ok ⟨.lst .leaf,.list ((PySem.W.sortI y).map .int)⟩ I else .no|none=>.no):=h
  cases R:sortArg (G.map (·.d))with
   |none=>rw[R]at h;exact h.elim
   |some y=>
    rw[R]at h;rw[ir R]at r;have h:Wants K W M O Z H σ Q (if y.length<64 then .ok ⟨.lst .leaf,.list ((PySem.W.sortI y).map .int)⟩ I else .no):=h
    by_cases Y:y.length<64
    .rw[if_pos Y]at h
     have N:=r.1
     match L,N with
     |[v],_=>
      have q:=r.2 0 v (.list (y.map .int)) rfl rfl
      cases q with
      |@lst p ws _ hq hwl hw=>
       have U:ws=y.map V.int:=by
        apply ext_getElem?
        intro i;by_cases a:i<ws.length
        .have g:i<y.length:=by rw[length_map]at hwl;omega
         have q:=hw i (ws[i]'a) (.int (y[i]'g)) (JJ _) (by rw[getElem?_map,JJ g];rfl)
         rw[JJ a,getElem?_map,JJ g];generalize ws[i]'a=u at q
         cases q;rfl
        .rw[getElem?_eq_none (by omega),getElem?_eq_none (by rw[length_map]at hwl ⊢;omega)]
       rw[U]at hq;refine⟨p,y,rfl,hq,Y,λl N=>h _ _ _ _ (A.newSc E.ndO N (by simp) λi v d P b=>?_)⟩
       rw[getElem?_map]at P b
       cases w:(PySem.W.sortI y)[i]? with
       |none=>rw[w]at P;cases P
       |some z=>
        rw[w]at P b
        cases P
        cases b;exact .int z
    .rw[if_neg Y]at h;exact h.elim
end
section
variable{X:Cx}{N gl:List Str}{vs cs ls lo gs:List Nat}{W:XW}{a b c e:Expr}{es:List Expr}{pos p:Pos}{fa fb fc:F1}{fl:FL}{g:FS}{ga:FB}
theorem cs_appAt(S:Cp X N gl vs cs ls lo gs)(i:Nat){x:Str}{r d h:Pos}(l:N[i]?=some x)(R:vs.contains i=true)(O:PE X b (tE X.K W fb))(U:PE X a (tE X.K W fa))(A:sD b)(P:starEach [a] X.env=[(false,eval a X.env)])(j:attributeBase (.Subscript (.Name x p) b r) "append" X.env (eval (.Subscript (.Name x p) b r) X.env)=eval (.Subscript (.Name x p) b r) X.env)(f:(d.endLine==h.line)=true)(n:((backTo h (starEach [a] X.env)).all (λx=>!x.1)&&(backToKw h (keywordEach [] X.env)).all (λx=>x.1.isSome)
   && decide ([a].length+([]:List Keyword).length+(if([]:List Keyword).isEmpty then 0 else 1)<30))=true)(v:swapsWith (.Call (.Attribute (.Subscript (.Name x p) b r) "append" d) [a] [] h) none pos.line X.env=pure false):PS X (.Expr (.Call (.Attribute (.Subscript (.Name x p) b r) "append" d) [a] [] h) pos) (tS X.K W (yJ i fb fa)):=by
 have m:=S.nm x (mem_of_getElem? l)
 exact bB (vB (eN PySem.F.plainAttrs_list PySem.F.slot_list_append PySem.F.type_list_append Hj (jV Cv (lz (by rw[S.hN];exact l) (S.vis i x l R) m.1 m.2) O A) (da_cons U da_nil P) j n f P rfl) v) λ_ _ _=>t6
end
theorem Inv.turnedL{G:List (Addr×Obj)}{H:Hp}{s:Shared}{j:Heap}(I:L2.Inv X G M H s)(k:∀b o,b∉a->s.heap.get? b=some o->j.get? b=some o)(L:∀b∈a,jB X G H b):L2.Inv X G M H {s with heap:=j,toks:=t'}:=by
 have d:∀b u,H b=some u->b∉a:=λb u e z=>by have:=(L b z).1;rw[e]at this;cases this
 have P:X.env.locals∉a:=λz=>(L _ z).2.1 rfl
 refine I.step (g':=s.gens) (d':=s.drawn) (ch:=a) (λb Z=>?_) (λb o _ _ f e _=>k b o f e) (λb o _ _ f e _=>⟨o.slots,k b o f e⟩) (λ_ _ _ _ n=>n)
  (λb o f e=>⟨o,k b o f e⟩) (λ_ _ e=>e) (λ_ _ _ e=>e) (λb i e=>⟨#[],by rw[e];simp⟩) (λm C=>?_) (λb u e=>?_) I.bare
 .obtain⟨g,S,p,t,h,O⟩:=L b Z
  exact⟨t,S,h,O⟩
 .obtain⟨o,U,N,J,r⟩:=C
  exact⟨o,U,N,k _ o P J,r⟩
 .refine(I.hok b u e).stay (λc v f q=>k c v ?_ q) (λ_ q=>q) λ_ _ q=>q
  rcases f with z|z
  .rw[z];exact d b u e
  .exact d c _ z
theorem Inv.turnedT{G:List (Addr×Obj)}{H:Hp}{s:Shared}{j:Heap}{T:Addr}{Y:List V}(I:L2.Inv X G M H s)(k:∀b o,b∉a->s.heap.get? b=some o->j.get? b=some o)(L:∀b∈a,jB X G H b)(w:s.heap.objs.size<=T)(l:ObjOk X.prog X.w (bF H T (.tup Y)) j T (.tup Y)):L2.Inv X G M (bF H T (.tup Y)) {s with heap:=j,toks:=t'}:=by
 have h:H T=none:=I.hok.fresh w
 have d:∀b u,H b=some u->b∉a:=λb u e z=>by have:=(L b z).1;rw[e]at this;cases this
 have i:∀b u,H b=some u->bF H T (.tup Y) b=some u:=λb u e=>by rw[eA (vE e h)];exact e
 have P:X.env.locals∉a:=λz=>(L _ z).2.1 rfl
 refine I.step (g':=s.gens) (d':=s.drawn) (ch:=a) (λb Z=>?_) (λb o _ _ f e _=>k b o f e) (λb o _ _ f e _=>⟨o.slots,k b o f e⟩) (λb o _ e n=>by rw[eA (Nat.ne_of_lt (Nat.lt_of_lt_of_le (Heap.lt_size e) w))];exact n)
  (λb o f e=>⟨o,k b o f e⟩) (λb _ e=>i b _ e) (λb _ _ e=>i b _ e) (λb y e=>⟨#[],by rw[i b _ e];simp⟩) (λm C=>?_) (λb u e=>?_) I.bare
 .obtain⟨g,S,p,t,x,O⟩:=L b Z
  exact⟨t,S,x,O⟩
 .obtain⟨o,U,N,J,r⟩:=C
  exact⟨o,U,N,k _ o P J,r⟩
 .by_cases Z:b=T
  .subst Z
   rw[fT]at e
   cases e;exact l
  .rw[eA Z]at e
   refine(I.hok b u e).stay (λc v f q=>k c v ?_ q) (λc q=>i c _ q) λc _ q=>i c _ q
   rcases f with z|z
   .rw[z];exact d b u e
   .exact d c _ z
def yN:Option (Option PV)->Bool
 |some none=>true
 |_=>false
theorem iK(h:yN o=true):o=some none:=by
 unfold yN at h;split at h
 .rfl
 .cases h
section
variable{K:Fg}{He H H1 H2:Hp}{O G:List Addr}{Fs Fs1 Fs2:List (List Addr)}{σ:St}{Γ Γ1 Γ2:Ev}
theorem tB{i j m:Nat}{p:PV}(h:((C.set i none).set j none)[m]?=some (some p)):m≠i/\m≠j/\C[m]?=some (some p):=by
 obtain⟨J,S⟩:=EZ h;obtain⟨I,x⟩:=EZ S;exact⟨I,J,x⟩
theorem EnvOk.forget2{i j:Nat}{x y:Option V}(E:EnvOk K He O Fs H (((bu [i,j] σ).set i x).set j y) Γ):EnvOk K He O Fs H (bu [i,j] σ) ((Γ.set i none).set j none):=by
 refine⟨by have:=E.len1;simpa using this,by have:=E.len2;simpa using this,E.same,E.nd,E.inH,E.fresh,λm q k=>?_⟩
 obtain⟨J,S,I⟩:=tB k;obtain⟨L,C,f,g,R,w⟩:=E.slot m q I;rw[getElem?_set_ne (Ne.symm S),getElem?_set_ne (Ne.symm J)]at g;exact⟨L,C,f,g,R,w⟩
theorem EnvOk.blank2{i j:Nat}(E:EnvOk K He O Fs H σ Γ)(l:Γ[i]?=some none)(A:Γ[j]?=some none):EnvOk K He O Fs H (bu [i,j] σ) Γ:=by
 refine⟨by rw[yQ];exact E.len1,E.len2,E.same,E.nd,E.inH,E.fresh,λm q k=>?_⟩
 obtain⟨L,C,f,g,R,w⟩:=E.slot m q k;refine⟨L,C,f,?_,R,w⟩
 rw[GW (λz=>?_)]
 .exact g
 .simp only[mem_cons,not_mem_nil,or_false]at z
  rcases z with z|z
  .rw[z,l]at k;cases k
  .rw[z,A]at k;cases k
theorem EnvOk.unblank2{i j:Nat}(E:EnvOk K He O Fs H (bu [i,j] σ) Γ):EnvOk K He O Fs H σ Γ:=by
 refine⟨by have:=E.len1;rw[yQ]at this;exact this,E.len2,E.same,E.nd,E.inH,E.fresh,λm q k=>?_⟩
 obtain⟨L,C,f,g,R,w⟩:=E.slot m q k;exact⟨L,C,f,(EU g).2,R,w⟩
theorem mI{i:Nat}{a:Addr}(l:i<Fs.length)(h:a∈(Fs.set i []).flatten):a∈Fs.flatten:=by
 have b:Fs[i]?=some (Fs[i]'l):=JJ _
 have:=(ll (G:=[]) b).mem_iff.mp (JF _ h)
 simpa using this
structure Ew(K:Fg)(He:Hp)(O:List Addr)(Fs1:List (List Addr))(H1:Hp)(σ:St)(i j:Nat)(s:Sh)(A0:Addr)(n:Nat)(ys:List V)(H:Hp)(Γk:Ev)(Fk Gs:List (List Addr))(acc:List JS):Prop where
 env:EnvOk K He (A0::Gs.flatten++O) Fk H (bu [i,j] σ) Γk
 same:Same H1 H
 at_:H A0=some (.lst ys)
 new:∀a∈Gs.flatten++Fk.flatten,a∈Fs1.flatten\/H1 a=none
 l1:ys.length=acc.length
 l2:Gs.length=acc.length
 own:∀(m:Nat) v d G,ys[m]?=some v->acc[m]?=some d->Gs[m]?=some G->Own K (A0::Gs.flatten++O++Fk.flatten) H s G v d
 len:Γk.length=n
end
def Ey(N:List Str)(c:List Nat)(o:List Nat)(sc:Scope):Bool:=
 decide (sc.kind=.function)&&(sc.names.all λp=>!decide (p.2=.free)||o.any λj=>decide (N[j]?=some p.1)) &&
 ((List.range N.length).all λj=>c.contains j||(sc.names.all λp=>!decide (some p.1=N[j]?)||(!decide (p.2=.local)&&!decide (p.2=.cell)))) &&
 (sc.names.all λp=>!decide (p.2=.local)||decide (sc.names.lookup p.1=some .local)) &&
 (sc.names.all λp=>!decide (p.2=.free)||sc.names.all λq=>!decide (q.1=p.1)||!decide (q.2=.cell))
theorem rR{N t:List Str}{L o m O u c:List Nat}{d:Scope}(S:Cp X N t L o m O u)(h:Ey N c o d=true):de X.N c X.env.scope d:=by
 unfold Ey at h;simp only[Bool.and_eq_true,decide_eq_true_eq,all_eq_true,Bool.or_eq_true,Bool.not_eq_true',decide_eq_false_iff_not,any_eq_true,mem_range]at h
 obtain⟨⟨⟨⟨a,J⟩,i⟩,I⟩,g⟩:=h;refine⟨a,λn Y=>?_,λj x e b=>?_,λx A e=>?_,λn Y f=>?_⟩
 .rcases J _ Y with z|⟨j,b,e⟩
  .exact absurd rfl z
  .exact S.cel j n e (by simpa using b)
 .rw[S.hN]at e
  rcases i j (JN e).1 with z|z
  .simpa using z
  .exfalso
   rcases b with y|y
   .rcases z _ y with w|w
    .exact w e.symm
    .exact w.1 rfl
   .rcases z _ y with w|w
    .exact w e.symm
    .exact w.2 rfl
 .rcases I x A with z|z
  .exact absurd e z
  .exact z
 .rcases g _ Y with z|z
  .exact z rfl
  .rcases z _ f with w|w
   .exact w rfl
   .exact w rfl
end T
namespace TQ
open PySem PySem.Spec L2 T
open PyProof.Rows hiding St
variable{x:Str}
section
variable{X:Cx}{N gl:List Str}{vs cs ls lo gs:List Nat}{W:XW}{a b c e:Expr}{es:List Expr}{pos p:Pos}{fa fb fc:F1}{fl:FL}{ga gb:FB}{g1 g2 g:FS}
theorem Gp{d:Stmt}:Q (PS X d (tS X.K W Fj)):=⟨λG s M H D I h=>by
 obtain⟨f,O,Z,C,E,h⟩:=h;exact h.elim⟩
theorem ER(U:Q (PE X e (tE X.K W fa)))(P:swapsWith e none pos.line X.env=pure false):Q (PS X (.Expr e pos) (tS X.K W (dQ fa))):=⟨have U:=U.p;bB (vB U P) λ_ _ _=>xa⟩
theorem sZ{X:Cx}{N t:List Str}{L o m i u:List Nat}{W:XW}{a:Expr}{K p z:Pos}{M:F1}{c:String}(S:Cp X N t L o m i u)(j k:Nat)(A:t[j]?=some ("isinstance":Str))(l:u.contains j=true)(O:t[k]?=some x)(d:u.contains k=true)(f:kinds.contains c=true)(R:bootBuiltins x=some (.type c))(C:X.mg "isinstance"=none)(h:X.mg x=none)(U:Q (PE X a (tE X.K W M)))(P:starEach [a,.Name x z] X.env=(false,eval a X.env)::starEach [.Name x z] X.env)(w:starEach [.Name x z] X.env=(false,eval (.Name x z) X.env)::starEach [] X.env)(J:(backTo K (starEach [.Name x z] X.env)).any (·.1)=false):Q (PE X (.Call (.Name "isinstance" p) [a,.Name x z] [] K) (tE X.K W (ot c M))):=⟨have U:=U.p;aZ (EL (vi (by simpa using f)) (S.g A l).1 C la (sf U (sf (xq (v:=.ty c) (S.g O d).1 h R rfl (S.g O d).2.2 (S.g O d).2.1) yI w) P) (S.g A l).2.2 (S.g A l).2.1 P J) λ_ _ _=>Aw⟩
theorem gj(S:Cp X N gl vs cs ls lo gs)(j:Nat)(A:gl[j]?=some ("sorted":Str))(l:gs.contains j=true)(C:X.mg "sorted"=none)(U:Q (PA X (e::es) (tA X.K W fl)))(R:starEach (e::es) X.env=(false,eval e X.env)::starEach es X.env)(J:(backTo pos (starEach es X.env)).any (·.1)=false):Q (PE X (.Call (.Name "sorted" p) (e::es) [] pos) (tE X.K W (yC fl))):=⟨have U:=U.p;aZ (EL oC (S.g A l).1 C m7 U (S.g A l).2.2 (S.g A l).2.1 R J) λ_ _ _=>tL⟩
theorem ip(n:Nat){w:List Stmt}(y:PassesOwn (model X.prog X.w) X.A X.env X.xe)(f:Q (PT X c (tT X.K W ga)))(Z:Q (PSs X w (tS X.K W g))):Q (PS X (.While c w [] pos) (tS X.K W (zC n ga g))):=⟨have f:=f.p;have Z:=Z.p;bB (ug y f Z) λ_ _ _=>tH⟩
theorem nJ(S:Cp X N gl vs cs ls lo gs)(i:Nat){r d h:Pos}(l:N[i]?=some x)(R:vs.contains i=true)(O:Q (PE X b (tE X.K W fb)))(U:Q (PE X a (tE X.K W fa)))(A:sD b)(P:starEach [a] X.env=[(false,eval a X.env)])(j:attributeBase (.Subscript (.Name x p) b r) "append" X.env (eval (.Subscript (.Name x p) b r) X.env)=eval (.Subscript (.Name x p) b r) X.env)(f:(d.endLine==h.line)=true)(n:((backTo h (starEach [a] X.env)).all (λx=>!x.1)&&(backToKw h (keywordEach [] X.env)).all (λx=>x.1.isSome)
   && decide ([a].length+([]:List Keyword).length+(if([]:List Keyword).isEmpty then 0 else 1)<30))=true)(v:swapsWith (.Call (.Attribute (.Subscript (.Name x p) b r) "append" d) [a] [] h) none pos.line X.env=pure false):Q (PS X (.Expr (.Call (.Attribute (.Subscript (.Name x p) b r) "append" d) [a] [] h) pos) (tS X.K W (yJ i fb fa))):=⟨T.cs_appAt S i l R O.p U.p A P j f n v⟩
end
end TQ
namespace T
open PySem PySem.Spec L2
open PyProof.Rows hiding St
variable{X:Cx}{l b:Addr}{t:List JS}{U Y:Array Value}{F:List Addr}
def vC:JS->Bool
 |.none=>true
 |_=>false
def bq(f:Bool):JS->JS->Option JS
 |a,.none=>some (.bool (if f then !vC a else vC a))
 |_,_=>none
theorem CB{K:Fg}{H:Hp}{x:V}{a:JS}(r:Rep K H x a):decide (x=V.non)=vC a:=by
 cases r<;>simp[vC]
theorem xM{K:Fg}:GOp K (λx y H Q=>y=.non/\Q (.bl (decide (x=.non))) H) (bq false):=by
 intro x y H Q a b d l R e k
 cases R<;>simp only[bq]at e<;>try cases e
 exact⟨rfl,by rw[CB l];exact k _ (.bl _)⟩
theorem uR{K:Fg}:GOp K (λx y H Q=>y=.non/\Q (.bl (!decide (x=.non))) H) (bq true):=by
 intro x y H Q a b d l R e k
 cases R<;>simp only[bq]at e<;>try cases e
 exact⟨rfl,by rw[CB l];exact k _ (.bl _)⟩
theorem jj(R:Rm X):Ck X .Is (λx y H Q=>y=.non/\Q (.bl (decide (x=.non))) H) (bq false):=⟨Bi,xM⟩
theorem C2(R:Rm X):Ck X .IsNot (λx y H Q=>y=.non/\Q (.bl (!decide (x=.non))) H) (bq true):=⟨xr,uR⟩
def eJ(M e:F1):F1:=aW M λp=>aW e λq=>λC=>match p.d,q.d with
 |.list xs,.list ys=>if cS p xs&&cS q ys&&decide (xs.length+ys.length<=sizeLine)then .ok ⟨.lst .leaf,.list (xs++ys)⟩ C else .no
 |_,_=>.no
def uc(K:Fg):R2:=λx y H Q=>∃l b Y f,x=.ref l/\y=.ref b/\SqL K H l Y/\SqL K H b f/\Y.length+f.length<=sizeLine/\∀p,H p=none->Q (.ref p) (bF H p (.lst (Y++f)))
theorem yl{o:Program}{w:World}{A:Around}{E:Value->Shared->Prop}{s:Shared}{L c:List Value}{Q:Value->Shared->Prop}(N:s.heap.IsList l L.toArray)(Z:s.heap.IsList b c.toArray)(P:L.length+c.length<=sizeLine)(h:Q (.ref s.heap.objs.size) {s with heap:=s.heap.push {cls:=.type "list",data:=.seq (L++c).toArray} }):wpAny (model o w) A (binaryOp .Add (.ref l) (.ref b)) Q E s:=by
 obtain⟨⟨cls,u,data,M⟩,J,f,n,U⟩:=id N;obtain⟨⟨p,j,i,m⟩,g,d,k,a⟩:=id Z;simp only at f U d a
 subst f U d a;have e:L.toArray++c.toArray=(L++c).toArray:=by simp
 rw[<-e]at h;exact concat_meets ⟨_,J,rfl⟩ ⟨_,g,rfl⟩ noFill_list_add seq_list_add PySem.F.slot_list_add PySem.F.entry_list_add (PySem.F.args_list_add_2 _ _) (list_addW l b L.toArray c.toArray n k u j M m (by simpa using P)) ⟨J,g,h⟩
theorem xu:OpR X (binaryOp .Add) (uc X.K):=by
 intro G s M H x y v u Q I w o h;obtain⟨l,b,Y,f,rfl,rfl,a,j,P,q⟩:=h
 cases w
 cases o;obtain⟨g,r,d,z⟩:=I.list a;obtain⟨t,C,A,c⟩:=I.list j;refine yl d.isList A.isList (by rw[<-r.length,<-C.length];exact P) ?_
 exact⟨.ref _,_,I.lnew (t':=s.toks) (r.append C) (by rw[length_append];exact P),rfl,q _ I.fresh⟩
section
variable{K:Fg}{W:XW}{σ:St}{H:Hp}{Q:VK}{D:cP}{fa fb:F1}{fl:FL}
theorem Reps.app{L c:List V}{U:List JS}(h:Reps K H L t)(j:Reps K H c U):Reps K H (L++c) (t++U):=by
 refine⟨by rw[length_append,length_append,h.1,j.1],λi v d g R=>?_⟩
 by_cases l:i<L.length
 .rw[getElem?_append_left l]at g
  rw[getElem?_append_left (by rw[<-h.1];exact l)]at R
  exact h.2 i v d g R
 .rw[getElem?_append_right (by omega)]at g
  rw[getElem?_append_right (by rw[<-h.1];omega),<-h.1]at R
  exact j.2 _ v d g R
theorem Reps.drop{L:List V}(k:Nat)(h:Reps K H L t):Reps K H (L.drop k) (t.drop k):=by
 refine⟨by rw[length_drop,length_drop,h.1],λi v d g R=>?_⟩
 rw[List.getElem?_drop]at g R
 exact h.2 _ v d g R
theorem D9{L Y O:List Addr}(X:(L++(Y++O)++F).Nodup):(∀a∈Y,a∉O++F)/\(∀a∈L,a∉O++F):=by
 rw[append_assoc,append_assoc]at X;obtain⟨_,k,m⟩:=JM X;obtain⟨_,_,p⟩:=JM k;exact⟨λa U z=>p a U a z rfl,λa U z=>m a U a (JF _ z) rfl⟩
theorem Ab{L Y O:List Addr}:∀a∈O++F,a∈L++(Y++O)++F:=λa U=>by
 rcases JH U with z|z
 .exact JG _ (JF _ (JF _ z))
 .exact JF _ z
theorem xB{M b:Hp}{O:List Addr}{Z N:List (List Addr)}{I:Ev}{v:V}{d:JS}(E:EnvOk K M O N b σ I)(s:Same H b)(n:∀a∈N.flatten,a∈Z.flatten\/H a=none)(m:Rep K (bV b (O++N.flatten)) v d):Aft K M O Z H σ I ⟨.leaf,d⟩ v b [] N:=
 ⟨s,by rw[nil_append];exact E,by rw[nil_append];exact n,.leaf (by rw[nil_append];exact m)⟩
theorem AF(h:tE K W (eJ fa fb) σ H Q):qx (uc K) (tE K W fa) (tE K W fb) σ H Q:=by
 refine Cw (R:=λv u A=>uc K v u A Q) h λM O Z o p q v u n A G1 G2 r X y N E m e b w=>?_
 obtain⟨s,d⟩:=p;obtain⟨G,d'⟩:=q;dsimp only at w e b
 split at w
 .rename_i Y j
  cases f:(cS ⟨s,.list Y⟩ Y&&cS ⟨G,.list j⟩ j&&decide (Y.length+j.length<=sizeLine))with
  |false=>rw[f]at w;exact w.elim
  |true=>
   rw[f]at w;simp only[Bool.and_eq_true,decide_eq_true_eq]at f
   obtain⟨⟨J,S⟩,I⟩:=f;obtain⟨l,i⟩:=D9 E.nd;obtain⟨P,L,rfl,x,_,t⟩:=e.items (O':=O++r.flatten) J Ab l
   obtain⟨z,c,rfl,k,_,C⟩:=b.items (O':=O++r.flatten) S Ab i
   refine⟨P,z,L,c,rfl,rfl,x,k,by rw[t.1,C.1];exact I,λp' g=>w _ _ _ _ (Dd (E.drop (λa U=>JF _ (JF _ U)) X) (y.trans N) (λa U=>m a (JF _ (JF _ U))) (t.app C) g)⟩
 .exact w.elim
end
theorem qG{K:Fg}{H:Hp}{c:List V}{y:List Int}(h:Reps K H c (y.map .int)):c=y.map V.int:=by
 obtain⟨N,w⟩:=h;apply ext_getElem?
 intro i;by_cases l:i<c.length
 .have g:i<y.length:=by rw[length_map]at N;omega
  have q:=w i (c[i]'l) (.int (y[i]'g)) (JJ _) (by rw[getElem?_map,JJ g];rfl)
  rw[JJ l,getElem?_map,JJ g];generalize c[i]'l=u at q
  cases q;rfl
 .rw[getElem?_eq_none (by omega),getElem?_eq_none (by rw[length_map]at N ⊢;omega)]
def xJ(i:Nat)(q:PV)(C:Ev):Out PV:=match C[i]?,q.d with
 |some (some ⟨.lst .leaf,.list ds⟩),.int k=>(match dg ds.length k with
  |some j=>(match ds[j]? with
   |some d=>.ok ⟨.leaf,d⟩ C
   |none=>.no)
  |none=>.no)
 |_,_=>.no
def gH(i:Nat)(e:F1):F1:=λC=>if ik C[i]? then(e C).bind (xJ i)else .no
section
variable{K:Fg}{W:XW}{σ:St}{H:Hp}{Q:VK}{D:cP}{fa fb:F1}{fl:FL}
theorem wZ{i:Nat}(h:tE K W (gH i fb) σ H Q):qx (AL K) (cm i) (tE K W fb) σ H Q:=by
 obtain⟨M,O,Z,C,E,h⟩:=h;unfold gH at h
 cases p:ik C[i]? with
 |false=>rw[p]at h;exact h.elim
 |true=>
  rw[p]at h;obtain⟨t,Y⟩:=zL p;obtain⟨l,L,J,S,y,_,_⟩:=E.chgF Y;refine⟨.ref l,J,?_⟩
  refine vO (k:=xJ i) ⟨M,O,Z,C,E,h⟩ λM O Z I q u n G N X A w=>?_
  unfold xJ at w;split at w
  .rename_i f k g R
   obtain⟨x,a,o,v,e,c,_⟩:=A.go.chgF g;rw[J]at o
   cases o;have r:=A.own.rep
   rw[R]at r
   cases r
   cases m:dg f.length k with
   |none=>rw[m]at w;exact w.elim
   |some j=>
    rw[m]at w;have w:Wants K W M O Z H σ Q (match f[j]? with|some d=>.ok ⟨.leaf,d⟩ I|none=>.no):=w
    cases U:f[j]? with
    |none=>rw[U]at w;exact w.elim
    |some d=>
     rw[U]at w;have b:j<a.length:=by rw[e];exact(JN U).1
     have s:a[j]?=some (a[j]'b):=JJ _
     refine .inl ⟨l,a,k,a[j]'b,rfl,rfl,.of v,FR e m s,?_⟩
     exact w _ _ _ _ (xB A.go A.same A.newF (c j _ d s U))
  .exact w.elim
def om(p:PV):Bool:=match p with
 |⟨.lst .leaf,.list ds⟩=>ds.all aV
 |_=>false
def zu(n:Nat)(w:List JS->Res)(b:FL):F1:=λC=>(b C).bind λG X=>if G.length=n then(match w (G.map (·.d))with
 |.ok p=>if om p then .ok p X else .no
 |_=>.no)else .no
theorem t5{n:Nat}{w:List JS->Res}{E:XK}(h:tE K W (zu n w fl) σ H Q):jL (qy K n w) [] E (tA K W fl) σ H Q:=by
 obtain⟨M,O,Z,C,E0,h⟩:=h;refine⟨M,O,Z,C,E0,?_⟩
 unfold zu at h
 cases e:fl C with
 |er c X=>rw[e]at h;exact h
 |no=>rw[e]at h;exact h
 |ok k I=>
  rw[e]at h;intro L s q i A;have h:Wants K W M O Z H σ Q (if k.length=n then(match w (k.map (·.d))with|.ok p=>if om p then .ok p I else .no|_=>.no)else .no):=h
  by_cases Y:k.length=n
  case neg=>rw[if_neg Y]at h;exact h.elim
  rw[if_pos Y]at h;have N:(L++[]).length=n:=by rw[append_nil,A.len1];exact Y
  cases x:w (k.map (·.d))with
  |er c=>rw[x]at h;exact h.elim
  |no=>rw[x]at h;exact h.elim
  |ok p=>
   rw[x]at h;have h:Wants K W M O Z H σ Q (if om p then .ok p I else .no):=h
   have newF:∀a∈i.flatten,a∈Z.flatten\/H a=none:=λa U=>A.new a (JF _ U)
   cases f:om p with
   |false=>rw[f]at h;exact h.elim
   |true=>
    rw[f]at h;have h:Wants K W M O Z H σ Q (.ok p I):=h
    refine⟨N,[],k.map (·.d),nodup_nil,(λ_ z=>nomatch z),by rw[append_nil,Ga];exact A.reps,?_⟩
    rw[x];intro v o G r;unfold om at f;split at f
    .rename_i t
     obtain⟨l,S,rfl,rfl,y,b,m⟩:=r.own.leaves;refine h (.ref l) o [l] i ⟨A.same.trans r.same,A.env.dropL.hide r.same r.nd r.fresh r.inH,λa U=>?_,Own.mkLeaves y b λj u d g R=>((m j u d g R).sc (List.all_eq_true.mp f d (mem_of_getElem? R))).rep⟩
     rcases JH U with z|z
     .exact .inr (A.same.free (r.fresh a z))
     .exact newF a z
    .cases f
def vo(i:Nat)(a:Int)(p:PV)(C:Ev):OutS:=match p.d with
 |.int b=>if i<C.length then .nx (C.set i (JT (.int (a+b))))else .no
 |_=>.no
def jQ(i:Nat)(f:F1):FS:=λC=>match C[i]? with
 |some (some ⟨.leaf,.int a⟩)=>eX f (vo i a) C
 |_=>.no
theorem AH{i:Nat}(h:tS K W (jQ i fa) D σ H):DB i (tE K W fa) (Jd λi j=>i+j) D σ H:=by
 obtain⟨M,O,Z,C,E,h⟩:=h;unfold jQ at h;split at h
 .rename_i a Y
  obtain⟨_,v,F,J,S,c⟩:=E.slot i _ Y;have r:=c.rep
  cases r;refine⟨.int a,J,?_⟩
  refine dO (D:=D) (k:=vo i a) ⟨M,O,Z,C,E,h⟩ λM O Z I p u n G N _ X A w=>?_
  unfold vo at w;split at w
  .rename_i b d
   have r:=A.own.rep
   rw[d]at r
   cases r;by_cases l:i<I.length
   .rw[if_pos l]at w
    exact⟨a,b,rfl,rfl,w _ _ _ (EnvOk.put (G:=[]) (p:=⟨.leaf,.int (a+b)⟩) (v:=.int (a+b)) A.go (.leaf (.int _)) rfl (λa U=>by simp at U) l)⟩
   .rw[if_neg l]at w;exact w.elim
  .exact w.elim
 .exact h.elim
def BR(i:Nat)(p:PV)(C:Ev):OutS:=match C[i]?,p.d with
 |some (some ⟨.lst .leaf,.list ds⟩),.tuple es=>if cS p es&&decide (ds.length+es.length<=sizeLine)then .nx (C.set i (some ⟨.lst .leaf,.list (ds++es)⟩))else .no
 |some (some ⟨.lst .leaf,.list ds⟩),.list es=>if cS p es&&decide (ds.length+es.length<=sizeLine)then .nx (C.set i (some ⟨.lst .leaf,.list (ds++es)⟩))else .no
 |_,_=>.no
def lU(i:Nat)(f:F1):FS:=λC=>if ik C[i]? then eX f (BR i) C else .no
def AO(K:Fg):V->List V->Hp->VK->Prop:=λx L H Q=>∃l b Y f,x=.ref l/\L=[.ref b]/\H l=some (.lst Y)/\(SqL K H b f\/SqT K H b f)/\Y.length+f.length<=sizeLine/\Q .non (bF H l (.lst (Y++f)))
theorem AE{i:Nat}(h:tS K W (lU i fa) D σ H):dq (oS K "list" (AO K) (cm i) (tA K W (ae fa ah))) D σ H:=by
 obtain⟨M,O,Z,C,E,h⟩:=h;unfold lU at h
 cases j:ik C[i]? with
 |false=>rw[j]at h;exact h.elim
 |true=>
  rw[j]at h;obtain⟨t,Y⟩:=zL j;obtain⟨l,L,J,S,h3,_,_⟩:=E.chgF Y;refine⟨.ref l,J,.inl ⟨rfl,L,.of S⟩,EE (dO (D:=D) ⟨M,O,Z,C,E,h⟩ λM O Z I p v n G N _ X A w=>?_)⟩
  obtain⟨s,d⟩:=p;have fin:∀(r U:List JS)(b:Addr)(c:List V),I[i]?=some (some ⟨.lst .leaf,.list r⟩)->v=.ref b->(SqL K n b c\/SqT K n b c)->Reps K (bV n (O++N.flatten)) c U->r.length+U.length<=sizeLine ->
    fU K W M O D (.nx (I.set i (some ⟨.lst .leaf,.list (r++U)⟩)))->AO K (.ref l) [v] n (λ_ y=>D.nx σ y):=λr U b c g z k m P w=>by
   obtain⟨l1,a,o,u,e,x,q⟩:=A.go.chgF g;rw[J]at o
   cases o;subst z;refine⟨l,b,a,c,rfl,rfl,u,k,by rw[e,m.1];exact P,w σ _ _ (q (a++c) (r++U) (by rw[length_append,length_append,e,m.1]) ?_)⟩
   exact(Reps.app ⟨e,x⟩ m).2
  unfold BR at w;split at w
  .rename_i r U g R
   dsimp only at R;subst R
   cases f:(cS ⟨s,.tuple U⟩ U&&decide (r.length+U.length<=sizeLine))with
   |false=>rw[f]at w;exact w.elim
   |true=>
    rw[f]at w;simp only[Bool.and_eq_true,decide_eq_true_eq]at f
    obtain⟨b,c,rfl,k,_,m⟩:=A.own.itemsT (O':=O++N.flatten) f.1 gO A.disj
    exact fin r U b c g rfl (.inr k) m f.2 w
  .rename_i r U g R
   dsimp only at R;subst R
   cases f:(cS ⟨s,.list U⟩ U&&decide (r.length+U.length<=sizeLine))with
   |false=>rw[f]at w;exact w.elim
   |true=>
    rw[f]at w;simp only[Bool.and_eq_true,decide_eq_true_eq]at f
    obtain⟨b,c,rfl,k,_,m⟩:=A.own.items (O':=O++N.flatten) f.1 gO A.disj
    exact fin r U b c g rfl (.inl k) m f.2 w
  .exact w.elim
end
theorem Il{n m:Nat}{i:Option Addr}{c:Array (Option Value)}(a:¬(!Y.isEmpty&&Builtin.List.listTooLong (Y.size+U.size))=true)(J:Y.size<=sizeLine)(S:(Y++U).size<=sizeLine+1):Meets (Builtin.«list.extend» ⟨[.ref l,.ref b],[]⟩) (λ_ R s=>s.heap.get? l=some ⟨.type "list",none,.seq Y n,#[]⟩/\s.heap.get? b=some ⟨.type "tuple",i,.seq U m,c⟩ /\
   R (.ok (.ret Value.none)) {s with heap:=s.heap.update l (Obj.mapSeq λx=>x++U),toks:=s.toks}):=
 .of_wp λo w A R s h=>by
  obtain⟨y,g,d,C,G⟩:=s;obtain⟨N,Z,h⟩:=h;have e:=AutoSeq1.idx_int
  have p:=AutoSeq1.sub_tuple_tuple
  have t:=AutoSeq1.sub_list_list
  have q:=AutoSeq1.sub_tuple_list
  have O:=AutoSeq1.sub_list_tuple
  wp_walk using(wpAny_updateSeq N rfl (hz:=J) (_hz':=S)),AutoSeq1.wpAny_loadPart' N,AutoSeq1.wpAny_loadPart' Z
  exact⟨_,rfl,h⟩
theorem Im{n m:Nat}{i:Option Addr}{c:Array (Option Value)}(a:¬(!Y.isEmpty&&Builtin.List.listTooLong (Y.size+U.size))=true)(J:Y.size<=sizeLine)(S:(Y++U).size<=sizeLine+1):Meets (Builtin.«list.extend» ⟨[.ref l,.ref b],[]⟩) (λ_ R s=>s.heap.get? l=some ⟨.type "list",none,.seq Y n,#[]⟩/\s.heap.get? b=some ⟨.type "list",i,.seq U m,c⟩ /\
   R (.ok (.ret Value.none)) {s with heap:=s.heap.update l (Obj.mapSeq λx=>x++U),toks:=s.toks}):=
 .of_wp λo w A R s h=>by
  obtain⟨y,g,d,C,G⟩:=s;obtain⟨N,Z,h⟩:=h;have e:=AutoSeq1.idx_int
  have p:=AutoSeq1.sub_tuple_tuple
  have t:=AutoSeq1.sub_list_list
  have q:=AutoSeq1.sub_tuple_list
  have O:=AutoSeq1.sub_list_tuple
  wp_walk using(wpAny_updateSeq N rfl (hz:=J) (_hz':=S)),AutoSeq1.wpAny_loadPart' N,AutoSeq1.wpAny_loadPart' Z
  exact⟨_,rfl,h⟩
theorem Bp:Eu X "list.extend" (AO X.K):=by
 intro G s M H x L v S Q I w c h;obtain⟨l,b,Y,f,rfl,rfl,d,j,P,q⟩:=h
 cases w;obtain⟨u,rfl,E⟩:=c.one
 cases E;obtain⟨z,g,n,r,N,e⟩:=I.lstM d;have fin:∀t:List Value,Vals f t->g.toArray.size+t.toArray.size<=sizeLine/\(g.toArray++t.toArray).size<=sizeLine+1/\g.toArray.size<=sizeLine/\¬(!g.toArray.isEmpty&&Builtin.List.listTooLong (g.toArray.size+t.toArray.size))=true /\
   EP X G M Q Value.none {s with heap:=s.heap.update l (Obj.mapSeq λx=>x++t.toArray),toks:=s.toks}:=λt C=>by
  have J:g.toArray.size+t.toArray.size<=sizeLine:=by rw[size_toArray,size_toArray,<-r.length,<-C.length];exact P
  refine⟨J,by rw[Array.size_append];omega,by omega,?_,?_⟩
  .rw[mm J,Bool.and_false]
   exact Bool.false_ne_true
  .exact⟨.non,_,I.lset (its':=g++t) d e (by simp) (r.append C) (by rw[length_append];exact P),rfl,q⟩
 rcases j with j|j
 .obtain⟨t,C,⟨⟨Z,i,m,K⟩,k,R,a,ed,U⟩,_⟩:=I.list j
  simp only at a U
  subst a U;obtain⟨A,p,o,y,O⟩:=fin t C;exact call_meets F.slot_list_extend ⟨_,e,rfl⟩ F.entry_list_extend (F.args_list_extend_2 _ _) (Im y o p) ⟨e,R,O⟩
 .obtain⟨t,C,⟨⟨Z,i,m,K⟩,R,a,k,U⟩,_⟩:=I.tuple j
  simp only at a U
  subst a U;obtain⟨A,p,o,y,O⟩:=fin t C;exact call_meets F.slot_list_extend ⟨_,e,rfl⟩ F.entry_list_extend (F.args_list_extend_2 _ _) (Il y o p) ⟨e,R,O⟩
section
variable{X:Cx}{N gl:List Str}{vs cs ls lo gs:List Nat}{W:XW}{a b c e:Expr}{es:List Expr}{pos p:Pos}{fa fb fc:F1}{fl:FL}{g:FS}
theorem cs_extend(S:Cp X N gl vs cs ls lo gs)(i:Nat){x:Str}{d h:Pos}(l:N[i]?=some x)(R:vs.contains i=true)(U:PE X a (tE X.K W fa))(P:starEach [a] X.env=[(false,eval a X.env)])(j:attributeBase (.Name x p) "extend" X.env (eval (.Name x p) X.env)=eval (.Name x p) X.env)(f:(d.endLine==h.line)=true)(n:((backTo h (starEach [a] X.env)).all (λx=>!x.1)&&(backToKw h (keywordEach [] X.env)).all (λx=>x.1.isSome)
   && decide ([a].length+([]:List Keyword).length+(if([]:List Keyword).isEmpty then 0 else 1)<30))=true)(v:swapsWith (.Call (.Attribute (.Name x p) "extend" d) [a] [] h) none pos.line X.env=pure false):PS X (.Expr (.Call (.Attribute (.Name x p) "extend" d) [a] [] h) pos) (tS X.K W (lU i fa)):=by
 have m:=S.nm x (mem_of_getElem? l)
 exact bB (vB (eN PySem.F.plainAttrs_list PySem.F.slot_list_extend PySem.F.type_list_extend Bp (lz (by rw[S.hN];exact l) (S.vis i x l R) m.1 m.2) (da_cons U da_nil P) j n f P rfl) v) λ_ _ _=>AE
end
end T
namespace TQ
open PySem PySem.Spec L2 T
open PyProof.Rows hiding St
variable{x:Str}
section
variable{X:Cx}{N gl:List Str}{vs cs ls lo gs:List Nat}{W:XW}{a b c e:Expr}{es:List Expr}{pos p:Pos}{fa fb fc:F1}{fl:FL}{ga gb:FB}{g1 g2 g:FS}
theorem EM(U:Q (PE X a (tE X.K W fa)))(Z:Q (PE X b (tE X.K W fb))):Q (PE X (.BinOp a .Add b pos) (tE X.K W (eJ fa fb))):=⟨have U:=U.p;have Z:=Z.p;aZ (gC xu U Z) λ_ _ _=>AF⟩
theorem qt(S:Cp X N gl vs cs ls lo gs)(i:Nat)(l:N[i]?=some x)(R:vs.contains i=true)(Z:Q (PE X b (tE X.K W fb)))(P:sD b):Q (PE X (.Subscript (.Name x p) b pos) (tE X.K W (gH i fb))):=⟨by
 have Z:=Z.p
 have m:=S.nm x (mem_of_getElem? l)
 exact aZ (jV Cv (lz (by rw[S.hN];exact l) (S.vis i x l R) m.1 m.2) Z P) λ_ _ _=>wZ⟩
theorem zP{n:Nat}{w:List JS->Res}(S:Cp X N gl vs cs ls lo gs)(j:Nat)(A:gl[j]?=some x)(l:gs.contains j=true)(C:CN X x n w)(U:Q (PA X (e::es) (tA X.K W fl)))(R:starEach (e::es) X.env=(false,eval e X.env)::starEach es X.env)(J:(backTo pos (starEach es X.env)).any (·.1)=false):Q (PE X (.Call (.Name x p) (e::es) [] pos) (tE X.K W (zu n w fl))):=⟨by
 have U:=U.p
 obtain⟨k,f,r,G,F,m,d,O,Z⟩:=C;exact aZ (C6 F m (S.g A l).1 d O Z .nil ma U (S.g A l).2.1 R J) λ_ _ _=>t5⟩
theorem sX(S:Cp X N gl vs cs ls lo gs)(i:Nat){K:Pos}(l:N[i]?=some x)(d:ls.contains i=true)(U:Q (PE X a (tE X.K W fa))):Q (PS X (.AugAssign (.Name x K) .Add a pos) (tS X.K W (jQ i fa))):=⟨have U:=U.p;bB (AX (by rw[S.hN];exact S.nd) (by rw[S.hN];exact l) (S.loc i x l d).1 U BB (S.loc i x l d).2) λ_ _ _=>AH⟩
theorem lC(S:Cp X N gl vs cs ls lo gs)(i:Nat){d h:Pos}(l:N[i]?=some x)(R:vs.contains i=true)(U:Q (PE X a (tE X.K W fa)))(P:starEach [a] X.env=[(false,eval a X.env)])(j:attributeBase (.Name x p) "extend" X.env (eval (.Name x p) X.env)=eval (.Name x p) X.env)(f:(d.endLine==h.line)=true)(n:((backTo h (starEach [a] X.env)).all (λx=>!x.1)&&(backToKw h (keywordEach [] X.env)).all (λx=>x.1.isSome)
   && decide ([a].length+([]:List Keyword).length+(if([]:List Keyword).isEmpty then 0 else 1)<30))=true)(v:swapsWith (.Call (.Attribute (.Name x p) "extend" d) [a] [] h) none pos.line X.env=pure false):Q (PS X (.Expr (.Call (.Attribute (.Name x p) "extend" d) [a] [] h) pos) (tS X.K W (lU i fa))):=⟨T.cs_extend S i l R U.p P j f n v⟩
end
end TQ
namespace T
open PySem PySem.Spec L2
open PyProof.Rows hiding St
variable{X:Cx}{x:Str}{W:XW}{M:St}
def FK(x:Str):It where
 go:=λi _=>i<x.cps.size
 yld:=λi H v Y=>Y=H/\∃c,x.cps[i]?=some c/\v=.str ⟨#[c]⟩
 stop:=λi _=>x.cps.size<=i
theorem qv{P:Program}{w:World}{K:Fg}{m:Expr}(y:Addr)(x:Str)(t:Tok):vv P w K m (FK x) [y] y (λi h=>h.IsStrIter y "str_ascii_iterator" x t i) where
 mem:=by simp
 obj:=λi h d b Z=>by
  have e:b=y:=by simpa using Z
  subst e;obtain⟨o,J,f,U⟩:=d;exact⟨o,J,λv z=>by rw[U]at z;cases z⟩
 keep:=λi h j d k=>let⟨o,J,r⟩:=d;⟨o,k y (by simp) o J,r⟩
 item:=by
  intro X N hw Y f i G s M H E I L d l;subst N hw Y;obtain⟨g,S,p,f3,q,O⟩:=L y (by simp)
  have W:=Walks.strAscii (prog:=X.prog) (w:=X.w) (I.ok.hd f) y x t
  refine W.item i s _ _ l d λv j C R st' kk=>?_
  obtain⟨c,u,A,rfl⟩:=R;have I1:Inv X G M H {s with heap:=j,toks:=C}:=I.turned (λb o Z e=>kk b o (by simpa using Z) e) g S f3 q O
  obtain⟨o,J,oc,od⟩:=id st'
  exact⟨_,rfl,uT (s:={s with heap:=j,toks:=C}) (n := "str_ascii_iterator") J oc od (by decide) ⟨.str ⟨#[c]⟩,H,I1,⟨u,rfl⟩,⟨rfl,c,A,rfl⟩,st',λb Z=>(L b Z).1⟩⟩
 done:=by
  intro X N hw Y f i G s M H E I L d l;subst N hw Y;obtain⟨g,S,p,f3,q,O⟩:=L y (by simp)
  exact wpAny_pyNext_ascii_end (I.ok.hd f) d (by have:x.cps.size<=i:=l;simp;omega) λj a=>⟨rfl,I.turned (t':=s.toks) (λb o Z e=>a b o Z e) g S f3 q O⟩
 self:=λ_ _ _ _ _ d h=>wpAny_pyIter_striter_ascii d h
def uM(x:Str):TI:=λM H R=>R (FK x) H
theorem xm{m:Expr}{j:Nat}{K:Pos}(U:x.cps.all (·<128)=true):PI X m (.Constant (.str x) j K) (uM x):=by
 intro G s M H R I h;refine Calls.Constant_str ?_
 refine wpAny_pyIter_ascii U ?_
 have c:=I.tok (s.toks+1)
 refine⟨s.heap.objs.size,[s.heap.objs.size],_,_,H,rfl,c.kept (t':=s.toks+1) λb o e=>JQ _ e,qv _ x _,⟨_,Heap.get?_push_size _ rfl,rfl,rfl⟩,λb Z=>?_,h⟩
 have e:b=s.heap.objs.size:=by simpa using Z
 subst e;exact c.fpOk (JR _) (c.hok.fresh (JR _))
def zk(x:Str):List V:=x.cps.toList.map λc=>.str ⟨#[c]⟩
def Ef(x:Str):List JS:=x.cps.toList.map λc=>.str ⟨#[c]⟩
theorem xF:yw (FK x) (λ_=>True) (zk x):=by
 refine⟨λi H v _ R=>?_,λH _=>?_⟩
 .unfold zk at R
  rw[getElem?_map,Array.getElem?_toList]at R
  cases e:x.cps[i]? with
  |none=>rw[e]at R;cases R
  |some c=>
   rw[e]at R
   cases R;refine⟨(Array.getElem?_eq_some_iff.mp e).1,λy Y ⟨h1,c',h2,h3⟩=>⟨h1,?_⟩⟩
   rw[e]at h2
   cases h2;exact h3
 .show x.cps.size<=(zk x).length
  unfold zk;rw[length_map,Array.length_toList];exact JR _
theorem wJ{K:Fg}{H:Hp}:Reps K H (zk x) (Ef x):=by
 refine⟨by simp[zk,Ef],λi v d J S=>?_⟩
 unfold zk at J;unfold Ef at S;rw[getElem?_map]at J S
 cases e:x.cps.toList[i]? with
 |none=>rw[e]at J;cases J
 |some c=>
  rw[e]at J S
  cases J
  cases S;exact .str _
def fK(x:Str):FI:=λC=>.ok ⟨Ef x,true⟩ C
theorem tX{K:Fg}{H:Hp}{R:It->Hp->Prop}(h:tI K W (fK x) M H R):uM x M H R:=by
 obtain⟨b,O,Z,C,E,h⟩:=h;exact h (FK x) H Z (zk x) (λ_=>True) (Same.refl _) E (λa U=>.inl U) xF trivial (λ_ _=>trivial) (λ_ _ _=>trivial) wJ
def pb:V->List V->Hp->VK->Prop:=λx Y H Q=>∃(i j:Str)(k:Nat)(rest:List Nat),x=.str i/\Y=[.str j]/\Builtin.Str.occurrences i j 0 i.length 1=k::rest/\Q (.int k) H
theorem qY:Jk X "str.index" pb:=by
 intro G s M H x Y v S Q I w c h;obtain⟨i,j,k,U,rfl,rfl,J,q⟩:=h;obtain⟨t,rfl⟩:=w;obtain⟨u,rfl,E⟩:=c.one;obtain⟨O,rfl⟩:=E;exact SC.index J ⟨.int k,H,I.tok _,⟨_,rfl⟩,q⟩
def eh(x:Str):List JS->Option JS
 |[.str j]=>match Builtin.Str.occurrences x j 0 x.length 1 with
  |k::_=>some (.int k)
  |[]=>none
 |_=>none
theorem xP{K:Fg}:GCall K (λY H Q=>pb (.str x) Y H Q) (eh x):=by
 intro L H Q t d l e k;unfold eh at e;split at e
 .rename_i j
  obtain⟨v,rfl,r⟩:=l.one
  cases r;split at e
  .rename_i o U J
   cases e;exact⟨x,j,o,U,rfl,rfl,J,k _ (.int _)⟩
  .cases e
 .cases e
theorem wY{K:Fg}{H:Hp}{Q:VK}{b:FL}(h:tE K W (bc (eh x) b) M H Q):oS K "str" pb (tC (.str x)) (tA K W b) M H Q:=
 ⟨rfl,o7 xP h⟩
theorem ce_idxS{j:Nat}{p d h:Pos}{e:Expr}{G:F1}(U:PE X e (tE X.K W G))(P:starEach [e] X.env=[(false,eval e X.env)])(f:(d.endLine==h.line)=true):PE X (.Call (.Attribute (.Constant (.str x) j p) "index" d) [e] [] h) (tE X.K W (bc (eh x) (ae G ah))):=
 aZ (eN (T := "str") (r:=pb) F.plainAttrs_str F.slot_str_index F.type_str_index qY uk (da_cons U da_nil P) rfl (by rw[P];rfl) f P rfl) λ_ _ _=>wY
end T
namespace TQ
open PySem PySem.Spec L2 T
open PyProof.Rows hiding St
variable{X:Cx}{W:XW}{x:Str}
theorem jE{m:Expr}{j:Nat}{K:Pos}(U:x.cps.all (·<128)=true):Q (PI X m (.Constant (.str x) j K) (tI X.K W (fK x))):=⟨pX (xm U) λ_ _ _=>tX⟩
theorem jJ{j:Nat}{p d h:Pos}{e:Expr}{G:F1}(U:Q (PE X e (tE X.K W G)))(P:starEach [e] X.env=[(false,eval e X.env)])(f:(d.endLine==h.line)=true):Q (PE X (.Call (.Attribute (.Constant (.str x) j p) "index" d) [e] [] h) (tE X.K W (bc (eh x) (ae G ah)))):=⟨T.ce_idxS U.p P f⟩
end TQ
namespace T
open PySem PySem.Spec L2
open PyProof.Rows hiding St
def putN:List Nat->List PV->Ev->Option Ev
 |[],[],Γ=>some Γ
 |i::is,p::ps,Γ=>if decide (i<Γ.length)&&!p.s.isView then putN is ps (Γ.set i (some p))else none
 |_,_,_=>none
def wz:List Nat->List V->St->St
 |i::is,v::vs,σ=>wz is vs (σ.set i (some v))
 |_,_,σ=>σ
def xi:List Sh->List JS->List PV
 |s::ss,d::ds=>⟨s,d⟩::xi ss ds
 |_,_=>[]
def zR(p:PV):Option (List PV):=match p.s,p.d with
 |.tup ss,.tuple ds=>some (xi ss ds)
 |.leaf,.tuple ds=>some (ds.map λd=>⟨.leaf,d⟩)
 |_,_=>none
def cI(c:List Nat)(f:F1):FS:=eX f λp C=>match zR p with
 |some G=>if G.length=c.length then(match putN c G C with
  |some X=>.nx X
  |none=>.no)else .no
 |none=>.no
def EA:List Nat->zq
 |[]=>xT
 |i::is=>iN (gName i) (EA is)
theorem Hd{H:Hp}{Q:St->Hp->Prop}:∀{is:List Nat}{vs:List V}{σ:St},vs.length=is.length->Q (wz is vs σ) H->EA is vs σ H Q
 |[],[],_,_,q=>⟨rfl,q⟩
 |i::is,v::vs,σ,hl,q=>⟨v,vs,rfl,Hd (is:=is) (vs:=vs) (by simpa using hl) q⟩
 |[],_::_,_,hl,_=>by simp at hl
 |_::_,[],_,hl,_=>by simp at hl
section
variable{K:Fg}{W:XW}{σ:St}{H:Hp}{D:cP}{fa:F1}
theorem Gz{M:Hp}{O:List Addr}:∀{is:List Nat}{ps:List PV}{vs:List V}{Gs:List (List Addr)}{Fs:List (List Addr)}{σ:St}{Γ Γ':Ev},vs.length=ps.length->Gs.length=ps.length->EnvOk K M (Gs.flatten++O) Fs H σ Γ->(∀a∈Gs.flatten,M a=none) ->
  (∀(k:Nat) v p G,vs[k]?=some v->ps[k]?=some p->Gs[k]?=some G->Own K (Gs.flatten++O++Fs.flatten) H p.s G v p.d)->putN is ps Γ=some Γ'->∃u,EnvOk K M O u H (wz is vs σ) Γ'
 |[],[],[],[],Fs,σ,Γ,Γ',_,_,E,_,_,h=>by
  cases h;exact⟨Fs,by simpa[wz]using E⟩
 |i::is,p::ps,v::vs,G::Gs,Fs,σ,Γ,Γ',h1,h2,E,fr,o,h=>by
  unfold putN at h;split at h
  .rename_i f
   simp only[Bool.and_eq_true,decide_eq_true_eq,Bool.not_eq_true']at f
   obtain⟨l,t⟩:=f;have c:(G::Gs).flatten++O=G++(Gs.flatten++O):=by simp[append_assoc]
   rw[c]at E o
   have x:=EnvOk.put (i:=i) E (o 0 v p G rfl rfl rfl) t (λa U=>fr a (by simp[U])) l
   refine Gz (is:=is) (ps:=ps) (vs:=vs) (Gs:=Gs) (by simpa using h1) (by simpa using h2) x (λa U=>fr a (JF G U)) (λk C X e P b L=>?_) h
   refine(o (k+1) C X e (by simpa using P) (by simpa using b) (by simpa using L)).perm λa U=>?_
   rcases JH U with z|z
   .exact JG _ (JF _ z)
   .obtain⟨F,d⟩:=E.lt l
    rcases JH ((ll (G:=G) d).mem_iff.mp (JF _ z))with y|y
    .exact JG _ (JG _ y)
    .exact JF _ y
  .cases h
 |[],_::_,_,_,_,_,_,_,_,_,_,_,_,h=>by cases h
 |_::_,[],_,_,_,_,_,_,_,_,_,_,_,h=>by cases h
 |[],[],_::_,_,_,_,_,_,h,_,_,_,_,_=>by simp at h
 |[],[],[],_::_,_,_,_,_,_,h,_,_,_,_=>by simp at h
 |_::_,_::_,[],_,_,_,_,_,h,_,_,_,_,_=>by simp at h
 |_::_,_::_,_::_,[],_,_,_,_,_,h,_,_,_,_=>by simp at h
theorem pf:∀{ss:List Sh}{ds:List JS},ss.length=ds.length->(xi ss ds).length=ds.length
 |[],[],_=>rfl
 |_::ss,_::ds,h=>by simp only[xi,length_cons];rw[pf (ss:=ss) (ds:=ds) (by simpa using h)]
 |[],_::_,h=>by simp at h
 |_::_,[],h=>by simp at h
theorem ud:∀{o:List Sh}{ds:List JS}{k:Nat}{p:PV},(xi o ds)[k]?=some p->o[k]?=some p.s/\ds[k]?=some p.d
 |[],_,k,p,h=>by simp[xi]at h
 |_::_,[],k,p,h=>by simp[xi]at h
 |s::o,d::ds,0,p,h=>by
  simp only[xi,List.getElem?_cons_zero,Option.some.injEq]at h
  subst h;exact⟨rfl,rfl⟩
 |s::o,d::ds,k+1,p,h=>by
  simp only[xi,getElem?_cons_succ]at h ⊢
  exact ud h
theorem Gh{n:Nat}:(List.replicate n ([]:List Addr)).flatten=[]:=by
 induction n with
 |zero=>rfl
 |succ n E=>rw[replicate_succ,flatten_cons,E];rfl
theorem Gg{is:List Nat}(h:tS K W (cI is fa) D σ H):gN (tE K W fa) (uX K is.length (EA is)) D σ H:=by
 refine dO h λM O Fs I p v n G g _ J A w=>?_
 obtain⟨s,d⟩:=p;have o:=A.own
 have E:=A.env
 dsimp only at w o
 cases m:zR ⟨s,d⟩with
 |none=>rw[m]at w;exact w.elim
 |some z=>
  rw[m]at w;dsimp only at w;by_cases N:z.length=is.length
  .rw[if_pos N]at w
   cases y:putN is z I with
   |none=>rw[y]at w;exact w.elim
   |some X=>
    rw[y]at w
    cases o with
    |view r=>cases m
    |lst=>cases m
    |leaf r=>
     cases d with
     |tuple t=>
      cases m
      cases r with
      |@tup a vs _ hq hlen hr=>
       obtain⟨u,R⟩:=Gz (is:=is) (vs:=vs) (Gs:=List.replicate t.length []) (Fs:=g) (by rw[hlen,length_map]) (by rw[List.length_replicate,length_map]) (by rw[Gh];exact E) (by rw[Gh];intro a U;simp at U) (λk C j f P b L=>by
        rw[Gh];rw[getElem?_map]at b
        cases x:t[k]? with
        |none=>rw[x]at b;cases b
        |some Y=>
         rw[x]at b
         cases b;have:f=[]:=List.eq_of_mem_replicate (mem_of_getElem? L)
         subst this;exact .leaf (hr k C Y P x)) y
       exact⟨a,vs,rfl,pW hid_le hq,by rw[hlen];simpa using N,Hd (by rw[hlen];simpa using N) (w _ _ _ R)⟩
     |_=>cases m
    |@tup ss a vs t Fs0 hv hpa hn hlen hf hs nd q=>
     cases m;have l:=pf hs
     obtain⟨u,R⟩:=Gz (is:=is) (vs:=vs) (Gs:=Fs0) (Fs:=g) (by rw[hlen,l]) (by rw[hf,l]) E J (λk C j f P b L=>by
      obtain⟨e,c⟩:=ud b;exact q k C j.d f j.s P c L e) y
     have i:vs.length=is.length:=by rw[hlen,<-l];exact N
     exact⟨a,vs,rfl,.of hpa,i,Hd i (w _ _ _ R)⟩
  .rw[if_neg N]at w
   exact w.elim
end
section
variable{X:Cx}{N gl:List Str}{vs cs ls lo gs:List Nat}{W:XW}{a:Expr}{pos:Pos}{fa:F1}
theorem cs_unp2(S:Cp X N gl vs cs ls lo gs)(i j:Nat){x y:Str}{o I pt:Pos}{r:Nat}(l:N[i]?=some x)(A:N[j]?=some y)(d:ls.contains i=true)(f:ls.contains j=true)(U:PE X a (tE X.K W fa))(P:swapsWithSole [.Tuple [.Name x o,.Name y I] r pt] a pos.line X.env=pure false)(w:swappedStores [.Tuple [.Name x o,.Name y I] r pt] a X.env=pure none):PS X (.Assign [.Tuple [.Name x o,.Name y I] r pt] a pos) (tS X.K W (cI [i,j] fa)):=by
 have J:X.N.Nodup:=by rw[S.hN];exact S.nd
 exact bB (zB U (CV S.calm (sg (nq J (by rw[S.hN];exact l) (S.loc i x l d).1 (S.loc i x l d).2) (sg (nq J (by rw[S.hN];exact A) (S.loc j y A f).1 (S.loc j y A f).2) C7))) P w) λ_ _ _=>Gg (is:=[i,j])
end
end T
namespace TQ
open PySem PySem.Spec L2 T
open PyProof.Rows hiding St
variable{X:Cx}{N gl:List Str}{vs cs ls lo gs:List Nat}{W:XW}{a:Expr}{pos:Pos}{fa:F1}
theorem ql(S:Cp X N gl vs cs ls lo gs)(i j:Nat){x y:Str}{o I pt:Pos}{r:Nat}(l:N[i]?=some x)(A:N[j]?=some y)(d:ls.contains i=true)(f:ls.contains j=true)(U:Q (PE X a (tE X.K W fa)))(P:swapsWithSole [.Tuple [.Name x o,.Name y I] r pt] a pos.line X.env=pure false)(w:swappedStores [.Tuple [.Name x o,.Name y I] r pt] a X.env=pure none):Q (PS X (.Assign [.Tuple [.Name x o,.Name y I] r pt] a pos) (tS X.K W (cI [i,j] fa))):=⟨T.cs_unp2 S i j l A d f U.p P w⟩
end TQ
namespace T
open PySem PySem.Spec L2
open PyProof.Rows hiding St
variable{t:List JS}
def cutD(Y:List JS)(O l:Option Int):List JS:=(Y.drop (HT.sIx Y.length 0 O)).take (HT.sIx Y.length Y.length l-HT.sIx Y.length 0 O)
theorem Reps.take{K:Fg}{H:Hp}{L:List V}(k:Nat)(h:Reps K H L t):Reps K H (L.take k) (t.take k):=by
 refine⟨by rw[length_take,length_take,h.1],λi v d g R=>?_⟩
 by_cases l:i<k
 .rw[getElem?_take,if_pos l]at g R
  exact h.2 _ v d g R
 .rw[getElem?_take,if_neg l]at g
  cases g
theorem Reps.cut{K:Fg}{H:Hp}{L:List V}(O l:Option Int)(h:Reps K H L t):Reps K H (rQ L O l) (cutD t O l):=by
 unfold rQ cutD;rw[h.1];exact(h.drop _).take _
def u9(g:Int->Option Int×Option Int)(M e:F1):F1:=aW M λp=>aW e λq=>λC=>match p.d,q.d with
 |.list xs,.int k=>if cS p xs then .ok ⟨.lst .leaf,.list (cutD xs (g k).1 (g k).2)⟩ C else .no
 |_,_=>.no
section
variable{K:Fg}{W:XW}{σ:St}{H:Hp}{Q:VK}{fa fb:F1}
theorem Ap{g:Int->Option Int×Option Int}(h:tE K W (u9 g fa fb) σ H Q):tE K W fa σ H λv n=>tE K W fb σ n λu A=>∃k,u=.int k/\AJ K v (g k).1 (g k).2 A Q:=by
 refine Cw (R:=λv u A=>∃k,u=.int k/\AJ K v (g k).1 (g k).2 A Q) h λM O Z o p q v u n A z G r X y N E m e b w=>?_
 obtain⟨s,d⟩:=p;obtain⟨x,C⟩:=q;dsimp only at w e b
 split at w
 .rename_i Y k
  cases f:cS ⟨s,.list Y⟩ Y with
  |false=>rw[f]at w;exact w.elim
  |true=>
   rw[f]at w;obtain⟨l,i⟩:=D9 E.nd;obtain⟨P,L,rfl,c,_,J⟩:=e.items (O':=O++r.flatten) f Ab l
   have j:=b.rep
   cases j;exact⟨k,rfl,P,L,rfl,c,λt I=>w _ _ _ _ (Dd (E.drop (λa U=>JF _ (JF _ U)) X) (y.trans N) (λa U=>m a (JF _ (JF _ U))) (J.cut _ _) I)⟩
 .exact w.elim
end
end T
namespace TQ
open PySem PySem.Spec L2 T
open PyProof.Rows hiding St
variable{X:Cx}{W:XW}{a b:Expr}{fa fb:F1}{p2 pos:Pos}
theorem qr(U:Q (PE X a (tE X.K W fa)))(Z:Q (PE X b (tE X.K W fb))):Q (PE X (.Subscript a (.Slice none (some b) none p2) pos) (tE X.K W (u9 (λk=>(none,some k)) fa fb))):=⟨have U:=U.p;have Z:=Z.p;aZ (um wu U xl (pk Z)) λ_ _ _=>Ap⟩
end TQ
namespace T
open PySem PySem.Spec L2
open PyProof.Rows hiding St
variable{k:Int}{t:List D}{C:Ev}{g:D->D->Option D}{a b:Bool}{o:OutS}
theorem C8:(1000:Nat)<=sizeLine:=by decide
theorem Hl{i:Nat}{n:FB}{G:F1}{s:Sh}{c:D->Bool}{f:D->PV}{C:Ev}(E:C.set i none=C):∀(r L:List D),(∀d∈r,n (C.set i (JT d))=.ok (c d) (C.set i (JT d))) ->
  (∀d∈r,c d=true->G (C.set i (JT d))=.ok (f d) (C.set i (JT d))/\coer s (f d)=true)->L.length+r.length<=sizeLine->pZ i n G s r C L=.ok (L++((r.filter c).map λd=>(f d).d)) C
 |[],L,_,_,_=>by simp[pZ]
 |d::r,L,hc,he,hl=>by
  have J:=hc d mem_cons_self
  have b:L.length<sizeLine:=by simp at hl;omega
  have a:(C.set i (JT d)).set i none=C:=by rw[set_set];exact E
  rw[pZ,J]
  cases O:c d with
  |false=>
   dsimp only;rw[if_pos b,a,Hl E r L (λd U=>hc d (JL _ U)) (λd U=>he d (JL _ U)) (by simp at hl;omega)]
   rw[List.filter_cons_of_neg (by rw[O];exact Bool.false_ne_true)]
  |true=>
   obtain⟨S,I⟩:=he d mem_cons_self O;dsimp only;rw[S];dsimp only;rw[I,decide_eq_true b,Bool.and_self,if_pos rfl,a,Hl E r (L++[(f d).d]) (λd U=>hc d (JL _ U)) (λd U=>he d (JL _ U)) (by simp at hl ⊢;omega)]
   rw[List.filter_cons_of_pos O,map_cons,append_assoc];rfl
theorem iQ{s:Sh}{i:Nat}{k:FI}{fc:FB}{G:F1}{c:D->Bool}{f:D->PV}{st:Bool}(l:k C=.ok ⟨t,st⟩ C)(N:i<C.length)(P:s.isView=false)(Y:t.length<=1000)(a:∀d∈t,fc (C.set i (JT d))=.ok (c d) (C.set i (JT d)))(R:∀d∈t,c d=true->G (C.set i (JT d))=.ok (f d) (C.set i (JT d))/\coer s (f d)=true):aw s i k fc G C=.ok ⟨.lst s,.list ((t.filter c).map λd=>(f d).d)⟩ C:=by
 have Z:=C8
 unfold aw;rw[l];unfold Out.bind;dsimp only;rw[Hl (c:=c) (f:=f) (by rw[set_set]) t [] (λd U=>by rw[set_set];exact a d U) (λd U=>by rw[set_set];exact R d U) (by simp;omega)]
 dsimp only;rw[P,decide_eq_true N];simp only[Bool.not_false,Bool.and_self,if_true,nil_append,set_set]
 have:C.set i (C.getD i none)=C:=by
  apply sI
  rw[JK,JJ N];rfl
 rw[this]
theorem CG{s:Sh}{i:Nat}{k:FI}{G:F1}{f:D->PV}{st:Bool}(l:k C=.ok ⟨t,st⟩ C)(N:i<C.length)(P:s.isView=false)(Y:t.length<=1000)(R:∀d∈t,G (C.set i (JT d))=.ok (f d) (C.set i (JT d))/\coer s (f d)=true):aw s i k aR G C=.ok ⟨.lst s,.list (t.map λd=>(f d).d)⟩ C:=by
 rw[iQ (fc:=aR) (c:=λ_=>true) (f:=f) l N P Y (λd U=>rfl) λd U _=>R d U,List.filter_eq_self.mpr λ_ _=>rfl]
theorem GY{P:Nat->Ev->Prop}{i:Nat}{body:FS}:∀(t:List D)(n:Nat)(C:Ev),P n C->(∀k d C,d∈t->n<=k->k<n+t.length->P k C->i<C.length/\∃X,body (C.set i (JT d))=.nx X/\P (k+1) X)->∃X,bf i body t C=.nx X/\P (n+t.length) X
 |[],n,C,h,_=>⟨C,rfl,h⟩
 |d::r,n,C,h,st=>by
  obtain⟨l,I,g,J⟩:=st n d C mem_cons_self (JR _) (by simp) h
  obtain⟨o,R,S⟩:=GY r (n+1) I J λk d C U a b c=>st k d C (JL _ U) (by omega) (by simp;omega) c
  refine⟨o,?_,?_⟩
  .rw[bf,if_pos l,g]
   exact R
  .rw[length_cons,show n+(r.length+1)=n+1+r.length by omega]
   exact S
theorem G5{any:Bool}{m:Type}{xs:List m}{f:m->Bool}:sE (xs.map λx=>.bool (f x))=some (xs.map f):=by
 induction xs with
 |nil=>rfl
 |cons x r E=>rw[map_cons,sE,E];rfl
theorem sF{m:Type}{Y:List m}{f:m->Bool}:cL false [.list (Y.map λx=>.bool (f x))]=some (.bool (Y.all f)):=by
 show Option.map _ (sE _)=_
 rw[G5 (any:=false)];simp[List.all_map]
section
variable{Γ Γ1 Γ2:Ev}{fa fb fc:F1}{fl:FL}{p q:PV}{ps:List PV}{d e:D}{s s' s2:Sh}{i j n:Nat}
theorem au(h:Γ[i]?=some (JT d)):aa i Γ=.ok ⟨.leaf,d⟩ Γ:=by unfold aa;rw[h]
theorem dm(h:Γ[i]?=some (some ⟨.lst s,d⟩)):aa i Γ=.ok ⟨.view,d⟩ Γ:=by unfold aa;rw[h]
theorem p8(h:Γ[i]?=some (some p)):bh i Γ=.ok p (Γ.set i none):=by unfold bh;rw[h]
theorem aS:eK d Γ=.ok ⟨.leaf,d⟩ Γ:=rfl
theorem aC(U:fa Γ=.ok p Γ1)(Z:fb Γ1=.ok q Γ2)(l:g p.d q.d=some d):az g fa fb Γ=.ok ⟨.leaf,d⟩ Γ2:=by
 unfold az aW;rw[U];simp only[Out.bind];rw[Z];simp only[l]
theorem Jo{g:D->Option D}(U:fa Γ=.ok p Γ1)(l:g p.d=some d):eU g fa Γ=.ok ⟨.leaf,d⟩ Γ1:=by
 unfold eU aW;rw[U];simp only[Out.bind,l]
theorem aA(U:fa Γ=.ok p Γ1)(N:fl Γ1=.ok ps Γ2):ae fa fl Γ=.ok (p::ps) Γ2:=by
 unfold ae;rw[U];simp only[Out.bind];rw[N]
theorem ao:ah Γ=.ok [] Γ:=rfl
theorem bt{g:List D->Option D}(N:fl Γ=.ok ps Γ1)(l:g (ps.map (·.d))=some d):bc g fl Γ=.ok ⟨.leaf,d⟩ Γ1:=by
 unfold bc;rw[N];simp only[Out.bind];rw[l]
theorem cH{den:List D->Res}(N:fl Γ=.ok ps Γ1)(U:den (ps.map (·.d))=.ok p)(Y:ps.length=n)(f:ps.all (coer .leaf)=true):ar n den fl Γ=.ok p Γ1:=by
 unfold ar;rw[N];simp only[Out.bind,Y,U,f,if_true]
theorem nC{ds:List D}(U:fa Γ=.ok ⟨s,.list ds⟩ Γ1)(Z:fb Γ1=.ok ⟨s',.int k⟩ Γ2)(l:dg ds.length k=some j)(a:ds[j]?=some d)(P:ni s j d=some s2):aq fa fb Γ=.ok ⟨s2,d⟩ Γ2:=by
 unfold aq aW;rw[U];simp only[Out.bind];rw[Z];simp only[l,a,P]
theorem jC{ds:List D}(U:fa Γ=.ok ⟨s,.tuple ds⟩ Γ1)(Z:fb Γ1=.ok ⟨s',.int k⟩ Γ2)(l:dg ds.length k=some j)(a:ds[j]?=some d)(P:ni s j d=some s2):aq fa fb Γ=.ok ⟨s2,d⟩ Γ2:=by
 unfold aq aW;rw[U];simp only[Out.bind];rw[Z];simp only[l,a,P]
theorem ie(N:fl Γ=.ok ps Γ1)(P:s.isView=false)(f:ps.all (coer s)=true)(Y:decide (ps.length<=1000)=true):aH s fl Γ=.ok ⟨.lst s,.list (ps.map (·.d))⟩ Γ1:=by
 have S:ps.length<=sizeLine:=Nat.le_trans (of_decide_eq_true Y) C8
 unfold aH;rw[N];simp only[Out.bind,P,f,decide_eq_true S,Bool.not_false,Bool.and_self,if_true]
theorem dX(N:fl Γ=.ok ps Γ1)(f:ps.all tok=true)(Y:decide (ps.length<=1000)=true):cG fl Γ=.ok ⟨.tup (ps.map wo),.tuple (ps.map (·.d))⟩ Γ1:=by
 have S:ps.length<=sizeLine:=Nat.le_trans (of_decide_eq_true Y) C8
 unfold cG;rw[N];simp only[Out.bind,f,decide_eq_true S,Bool.and_self,if_true]
theorem vQ{ds:List D}(U:fa Γ=.ok ⟨s,.list ds⟩ Γ1)(J:cS ⟨s,.list ds⟩ ds=true):lh fa Γ=.ok ⟨.lst .leaf,.list ds⟩ Γ1:=by
 unfold lh aW;rw[U];simp only[Out.bind,J,if_true]
theorem v_and(U:fa Γ=.ok ⟨s,.bool a⟩ Γ)(Z:fb Γ=.ok ⟨.leaf,.bool b⟩ Γ):ff fa fb Γ=.ok ⟨.leaf,.bool (a&&b)⟩ Γ:=by
 unfold ff aW;rw[U];simp only[Out.bind]
 cases a with
 |false=>rfl
 |true=>exact Z
theorem wj{S:D->D->Option D}{v:Bool}(U:fa Γ=.ok p Γ)(Z:fb Γ=.ok q Γ)(l:g p.d q.d=some (.bool b))(P:aV q.d=true){z:PV}(f:fc Γ=.ok z Γ)(k:S q.d z.d=some (.bool v)):zw g S fa fb fc Γ=.ok ⟨.leaf,.bool (b&&v)⟩ Γ:=by
 unfold zw aW;rw[U];simp only[Out.bind];rw[Z];simp only[l]
 cases b with
 |false=>rfl
 |true=>simp only[P,if_true,f,k,Bool.true_and]
theorem Dn{ds:List D}(U:fa Γ=.ok ⟨.lst .leaf,.list ds⟩ Γ1)(Z:fb Γ1=.ok ⟨s',.int k⟩ Γ2)(a:-1000<=k)(J:k<=1000)(Y:ds.length*k.toNat<=1000):fZ fa fb Γ=.ok ⟨.lst .leaf,.list (List.replicate k.toNat ds).flatten⟩ Γ2:=by
 have S:ds.length*k.toNat<=sizeLine:=Nat.le_trans Y C8
 have I:cJ k=true:=by unfold cJ;simp only[Bool.and_eq_true,decide_eq_true_eq];omega
 unfold fZ aW;rw[U];simp only[Out.bind];rw[Z];simp only[I,decide_eq_true S,Bool.and_self,if_true]
theorem bQ(U:fa Γ=.ok ⟨s,.bool b⟩ Γ1):aG aj fa Γ=.ok b Γ1:=by unfold aG;rw[U];rfl
theorem eT(U:fa Γ=.ok ⟨s,.bool b⟩ Γ1):aG bI fa Γ=.ok b Γ1:=by unfold aG;rw[U];rfl
theorem eV{c:FB}(h:c Γ=.ok b Γ1):cQ c Γ=.ok (!b) Γ1:=by unfold cQ;rw[h];rfl
theorem bZ{c f:FB}(U:c Γ=.ok a Γ)(Z:f Γ=.ok b Γ):bK c f Γ=.ok (a&&b) Γ:=by
 unfold bK;rw[U];simp only[Out.bind]
 cases a with
 |false=>rfl
 |true=>exact Z
theorem fh{c f:FB}(U:c Γ=.ok a Γ)(Z:f Γ=.ok b Γ):fm c f Γ=.ok (a||b) Γ:=by
 unfold fm;rw[U];simp only[Out.bind]
 cases a with
 |false=>exact Z
 |true=>rfl
theorem B8:aR Γ=.ok true Γ:=rfl
theorem bg{ds:List D}(U:fa Γ=.ok ⟨s,.list ds⟩ Γ1)(J:cS ⟨s,.list ds⟩ ds=true):aF fa Γ=.ok ⟨ds,!s.isView⟩ Γ1:=by
 unfold aF;rw[U];simp only[Out.bind,J,if_true]
theorem wb(N:fl Γ=.ok ps Γ1)(y:ps.map (·.d)=[.int k])(a:-1000<=k)(J:k<=100000):i5 fl Γ=.ok ⟨rngD 0 k.toNat,true⟩ Γ1:=by
 have I:cJ k=true:=by unfold cJ;simp only[Bool.and_eq_true,decide_eq_true_eq];omega
 unfold i5;rw[N];simp only[Out.bind,y,qF,I,if_true]
theorem Dh{m:Int}(N:fl Γ=.ok ps Γ1)(y:ps.map (·.d)=[.int k,.int m])(a:-1000<=k)(J:k<=100000)(S:-1000<=m)(x:m<=100000):vI fl Γ=.ok ⟨rngD k (m-k).toNat,true⟩ Γ1:=by
 have I:cJ k=true:=by unfold cJ;simp only[Bool.and_eq_true,decide_eq_true_eq];omega
 have E:cJ m=true:=by unfold cJ;simp only[Bool.and_eq_true,decide_eq_true_eq];omega
 unfold vI;rw[N];simp only[Out.bind,y,qE,I,E,Bool.and_self,if_true]
theorem af{K G:FS}(J:K Γ=.nx Γ1)(S:G Γ1=o):ax K G Γ=o:=by unfold ax;rw[J];exact S
theorem fR{K G:FS}(J:K Γ=.rt p):ax K G Γ=.rt p:=by unfold ax;rw[J]
theorem aP{c:FB}{a b:FS}{t:Bool}(f:c Γ=.ok t Γ1)(u:t=true->a Γ1=o)(L:t=false->b Γ1=o):bA c a b Γ=o:=by
 unfold bA;rw[f]
 cases t with
 |true=>exact u rfl
 |false=>exact L rfl
theorem aL(h:fa Γ=.ok p Γ1)(P:p.s.isView=false):aN fa Γ=.rt p:=by
 unfold aN eX;rw[h];simp only[P];rfl
theorem dh(h:fa Γ=.ok p Γ1)(f:coer .leaf p=true)(l:i<Γ1.length):aB false i fa Γ=.nx (Γ1.set i (JT p.d)):=by
 unfold aB eX;rw[h];simp only[l,if_true,f,Bool.false_and];rfl
theorem lA(h:fa Γ=.ok p Γ1)(P:p.s.isView=false)(l:i<Γ1.length):aB true i fa Γ=.nx (Γ1.set i (some p)):=by
 unfold aB eX;rw[h];simp only[l,if_true,P,Bool.true_and,Bool.not_false]
theorem CD{ds:List D}(J:Γ[i]?=some (some ⟨.lst s,.list ds⟩))(h:fa Γ=.ok p Γ)(f:coer s p=true)(Y:ds.length<=900):fS i fa Γ=.nx (Γ.set i (some ⟨.lst s,.list (ds++[p.d])⟩)):=by
 have S:ds.length<sizeLine:=Nat.lt_of_lt_of_le (by omega:ds.length<1000) C8
 unfold fS Cu;rw[J];simp only[if_true];unfold eX;rw[h];simp only;unfold yt;rw[J];simp only[f,decide_eq_true S,Bool.and_self,if_true]
theorem F8{ds:List D}(J:Γ[i]?=some (some ⟨.lst .leaf,.list ds⟩))(h:fa Γ=.ok p Γ)(O:fb Γ=.ok ⟨s,.int k⟩ Γ)(l:dg ds.length k=some j)(f:coer .leaf p=true):cg i fa fb Γ=.nx (Γ.set i (some ⟨.lst .leaf,.list (ds.set j p.d)⟩)):=by
 unfold cg ik;rw[J];simp only[if_true];unfold eX;rw[h];simp only;rw[O];simp only;unfold Af;rw[J];simp only[l,f,if_true]
theorem sN{g:FS}(h:Γ[i]?=some (some p))(l:g (Γ.set i (JT p.d))=o):iA i g Γ=o:=by unfold iA;rw[h];exact l
theorem bE{fi:FI}{w:FS}(h:fi Γ=.ok ⟨t,true⟩ Γ1)(l:bf i w t Γ1=o):cM i fi w Γ=o:=by unfold cM;rw[h];exact l
end
end T
namespace KC
open PySem PySem.Spec L2 T
open PyProof.Rows hiding St
variable{x:Str}{t y o Y:List D}{a b:Int}{k:Nat}{g:FS}{C I:Ev}{M:F1}{ts:List Int}
noncomputable def cw:JS:=.tuple [.str "a",.str "b",.str "c",.str "d",.str "e",.str "f"]
noncomputable def cv:JS:=.tuple [.int 0,.int 1]
noncomputable def dI:JS:=.int 24
noncomputable def mP:FS:=(aN (bc (cL false) (ae (aw .leaf 1 (vI (ae (eK (.int 1)) (ae (bc aI (ae (aa 0) ah)) ah))) aR (az gG (aq (aa 0) (az gSub (aa 1) (eK (.int 1)))) (aq (aa 0) (aa 1)))) ah)))
noncomputable def cA:List JS->Res:=aU 2 mP
noncomputable def mT:FS:=(aN (ff (bc (cL false) (ae (aw .leaf 1 (aF (aa 0)) aR (az (bw false) (aa 1) (eK cw))) ah)) (ar 1 cA (ae (aa 0) ah))))
noncomputable def br:List JS->Res:=aU 2 mT
noncomputable def mS:FS:=(aN (ff (bc (cL false) (ae (aw .leaf 2 (aF (aa 0)) aR (zw FD gG (eK (.int 0)) (aa 2) (aa 1))) ah)) (ar 1 cA (ae (aa 0) ah))))
noncomputable def cB:List JS->Res:=aU 3 mS
noncomputable def mR:FS:=(aN (ff (az dS (bc aI (ae (aa 0) ah)) (eK (.int 0))) (ar 2 cB (ae (aa 0) (ae (aa 1) ah)))))
noncomputable def cW:List JS->Res:=aU 2 mR
noncomputable def oB:FS:=(ax (aB false 3 (bc aI (ae (aa 0) ah)))
  (ax (bA (fm (aG aj (az gG (aa 3) (eK (.int 1)))) (fm (aG aj (az dS (aa 3) (eK dI))) (fm (aG aj (az cO (bc aI (ae (aa 1) ah)) (aa 3))) (aG aj (az cO (bc aI (ae (aa 2) ah)) (aa 3)))))) (aN (eK (.bool false))) aD)
  (ax (bA (cQ (aG bI (bc (cL false) (ae (aw .leaf 4 (aF (aa 0)) aR (az (bw false) (aa 4) (eK cv))) ah)))) (aN (eK (.bool false))) aD)
  (aN (ff (bc (cL false) (ae (aw .leaf 5 (aF (aa 1)) aR (ar 1 br (ae (aa 5) ah))) ah)) (bc (cL false) (ae (aw .leaf 5 (aF (aa 2)) aR (ar 2 cW (ae (aa 5) (ae (aa 3) ah)))) ah)))))))
noncomputable def dD:List JS->Res:=aU 6 oB
noncomputable def jx:FS:=(bA (cQ (aG bI (ar 3 dD (ae (aq (aa 0) (eK (.int 0))) (ae (aq (aa 0) (eK (.int 1))) (ae (aq (aa 0) (eK (.int 2))) ah)))))) Fj aD)
noncomputable def cx:List JS->Res:=aU 1 jx
noncomputable def mQ:FS:=(aN (vJ (aG bI (aa 0)) (bc (cL true) (ae (aa 1) ah)) (bc (cL false) (ae (aa 1) ah))))
noncomputable def dw:List JS->Res:=aU 2 mQ
noncomputable def eQ:FS:=(ax (aB true 4 (aH .leaf ah))
  (ax (cM 5 (aF (aa 2))
  (bA (bK (aG aj (az (bq false) (aq (aa 3) (aa 5)) (eK .none))) (aG bI (ar 2 dw (ae (aq (aa 1) (aa 5)) (ae (aw .leaf 6 (aF (aq (aq (aa 0) (eK (.int 2))) (aa 5))) aR (az (bq true) (aq (aa 3) (aa 6)) (eK .none))) ah))))) (fS 4 (aa 5)) aD))
  (aN (bh 4))))
noncomputable def bX:List JS->Res:=aU 7 eQ
noncomputable def iR:FS:=(ax (aB true 4 (aw .leaf 8 (aF (aq (aa 0) (eK (.int 0)))) aR (eK .none)))
  (ax (aB false 5 (eK (.int 0)))
  (ax (aB false 6 (aa 3))
  (ax (zC 1000 (aG bI (aa 6))
  (ax (cM 7 (aF (aa 6))
  (cg 4 (aa 5) (aa 7)))
  (ax (jQ 5 (eK (.int 1)))
  (aB false 6 (zu 4 bX (ae (aa 0) (ae (aa 1) (ae (aa 2) (ae (aa 4) ah)))))))))
  (aN (bh 4))))))
noncomputable def eZ:List JS->Res:=aU 9 iR
noncomputable def iT:FS:=(ax (bA (aG aj (az gG (aa 1) (bc aI (ae (aa 0) ah)))) (aN (aq (aa 0) (aa 1))) aD)
  (aN (eK (.int 0))))
noncomputable def aE:List JS->Res:=aU 2 iT
noncomputable def mV:FS:=(ax (bA (aG aj (az oj (aa 0) (az xS (eK (.int 10)) (eK (.int 18))))) (ax (aB false 4 (aa 0))
  (ax (cM 5 (i5 (ae (aa 1) ah))
  (aB false 4 (az u0 (aa 4) (aa 2))))
  (aN (az bN (aa 4) (aa 2))))) aD)
  (ax (aB false 3 (az bN (az mH (az ba (az ba (az bN (aa 0) (eK (.int 1000000007))) (az mH (eK (.int 1009)) (aa 1))) (eK (.int 17))) (eK (.int 69621))) (eK (.int 2147483647))))
  (ax (aB false 3 (az bN (az ba (az ba (az mH (aa 3) (aa 3)) (az mH (eK (.int 40503)) (aa 1))) (eK (.int 5))) (eK (.int 2147483629))))
  (aN (az bN (az u0 (az bN (az mH (aa 3) (eK (.int 48271))) (eK (.int 2147483647))) (eK (.int 32))) (aa 2))))))
noncomputable def ai:List JS->Res:=aU 6 mV
open PySem.SeqAt
noncomputable def FC(a b:D):Bool:=match gG a b with
 |some (.bool t)=>t
 |_=>false
noncomputable def ic(t:List D):Prop:=∀a∈t,∃n,a=.int n
noncomputable def iX(t:List D):Prop:=∀a∈t,∃x,a=.str x/\PyData.strOk x=true
noncomputable def Row(t:List D):Prop:=ic t\/iX t
theorem yL(i:Int):shaped (.int i)=true:=by simp[shaped,PyData.canLay0,PyData.depth]
theorem tx(h:PyData.strOk x=true):shaped (.str x)=true:=by simp[shaped,PyData.canLay0,PyData.depth,h]
theorem Row.lt{a b:D}(h:Row t)(U:a∈t)(Z:b∈t):gG a b=some (.bool (FC a b))/\oj a b=some (.bool (!FC a b)):=by
 rcases h with h|h
 .obtain⟨n,rfl⟩:=h a U
  obtain⟨m,rfl⟩:=h b Z;refine⟨rfl,?_⟩
  show some (PyData.bool (decide (m<=n)))=some (.bool (!decide (n<m)))
  congr 2
  by_cases q:n<m
  .simp[q,Int.not_le.mpr q]
  .simp[q,Int.not_lt.mp q]
 .obtain⟨n,rfl,_⟩:=h a U
  obtain⟨m,rfl,_⟩:=h b Z;exact⟨rfl,rfl⟩
noncomputable def xy(t:List D)(d:D):Bool:=match d with
 |.int j=>FC (t.getD (j-1).toNat .none) (t.getD j.toNat .none)
 |_=>false
noncomputable def dZ(t:List D):Bool:=(rngD 1 ((t.length:Int)-1).toNat).all (xy t)
theorem C5{n:Nat}{d:D}(h:d∈rngD a n):∃k:Nat,k<n/\d=.int (a+k):=by
 unfold rngD at h;simp only[mem_map,mem_range]at h
 obtain⟨k,O,e⟩:=h;exact⟨k,O,e.symm⟩
theorem EG{O:Int}{n:Nat}:(rngD O n).length=n:=by unfold rngD;simp
theorem nj{n:Nat}(h:k<n):dg n (k:Int)=some k:=by
 unfold dg;rw[if_pos (by omega),if_pos (by omega)]
 simp
theorem D4{n:Nat}{i:Int}(a:0<=i)(J:i<n):dg n i=some i.toNat:=by
 unfold dg;rw[if_pos a,if_pos J]
theorem EB(h:k<t.length):t[k]?=some (t.getD k .none):=by
 rw[JK,JJ h];rfl
theorem getD_mem(h:k<t.length):t.getD k .none∈t:=mem_of_getElem? (EB h)
theorem D3(h:Row t)(O:k<((t.length:Int)-1).toNat):dg t.length (1+(k:Int)-1)=some k/\dg t.length (1+(k:Int))=some (k+1)/\t[k]?=some (t.getD k .none)/\t[k+1]?=some (t.getD (k+1) .none) /\
  gG (t.getD k .none) (t.getD (k+1) .none)=some (.bool (xy t (.int (1+(k:Int)))))/\oj (t.getD k .none) (t.getD (k+1) .none)=some (.bool (!xy t (.int (1+(k:Int))))):=by
 have J:k<t.length:=by omega
 have S:k+1<t.length:=by omega
 have l:=h.lt (getD_mem J) (getD_mem S)
 have w:xy t (.int (1+(k:Int)))=FC (t.getD k .none) (t.getD (k+1) .none):=by
  unfold xy;dsimp only;rw[show(1+(k:Int)-1).toNat=k by omega,show(1+(k:Int)).toNat=k+1 by omega]
 rw[w];exact⟨by rw[show(1+(k:Int)-1)=k by omega];exact nj J,by rw[show(1+(k:Int))=((k+1:Nat):Int) by omega];exact nj S,EB J,EB S,l.1,l.2⟩
theorem aQ{n:Nat}{p:PV}(h:g (bp n t)=.rt p):aU n g t=.ok p:=by unfold aU;rw[h]
theorem eq_int:bP (.int a) (.int b)=some (.bool (a==b)):=by
 unfold bP;rw[yL,yL,Bool.and_self,if_pos rfl,PyData.eqv]
theorem Hu(h:Row t)(N:t.length<=100):cA [.list t]=.ok ⟨.leaf,.bool (dZ t)⟩:=by
 have a:aw .leaf 1 (vI (ae (eK (.int 1)) (ae (bc aI (ae (aa 0) ah)) ah))) aR (az gG (aq (aa 0) (az gSub (aa 1) (eK (.int 1)))) (aq (aa 0) (aa 1))) [JT (.list t),none] =
   .ok ⟨.lst .leaf,.list ((rngD 1 ((t.length:Int)-1).toNat).map λd=>.bool (xy t d))⟩ [JT (.list t),none]:=by
  refine CG (f:=λd=>⟨.leaf,.bool (xy t d)⟩) (st:=true) (Dh (k:=1) (m:=(t.length:Int)) (aA aS (aA (bt (aA (au rfl) ao) rfl) ao)) rfl (by omega) (by omega) (by omega) (by omega)) (by simp) rfl (by rw[EG];omega) λd U=>⟨?_,rfl⟩
  obtain⟨k,O,rfl⟩:=C5 U;obtain⟨g,R,w,j,b,e⟩:=D3 h O;exact aC (nC (au rfl) (aC (au rfl) aS rfl) g w rfl) (nC (au rfl) (au rfl) R j rfl) b
 exact aQ (aL (bt (aA a ao) sF) rfl)
noncomputable def inL(a:D):Bool:=[PyData.str "a",.str "b",.str "c",.str "d",.str "e",.str "f"].any λy=>PyData.eqv y a
noncomputable def D6(a:D):Bool:=[PyData.int 0,.int 1].any λy=>PyData.eqv y a
noncomputable def inR(n:Int)(a:D):Bool:=match a with
 |.int i=>decide (0<=i)&&decide (i<n)
 |_=>false
noncomputable def CK(d:D):Bool:=match d with
 |.list Y=>Y.all inL&&dZ Y
 |_=>false
noncomputable def Fi(n:Int)(d:D):Bool:=match d with
 |.list Y=>decide (0<Y.length)&&(Y.all (inR n)&&dZ Y)
 |_=>false
theorem Ae:shaped cw=true:=by decide +kernel
theorem DD:shaped cv=true:=by decide +kernel
theorem BC(A:PyData.strOk x=true):bw false (.str x) cw=some (.bool (inL (.str x))):=by
 unfold bw cw;have:=Ae
 unfold cw at this;simp only[tx A,this,Bool.and_self,if_true]
 rfl
theorem D5{i:Int}:bw false (.int i) cv=some (.bool (D6 (.int i))):=by
 unfold bw cv;have:=DD
 unfold cv at this;simp only[yL,this,Bool.and_self,if_true]
 rfl
theorem eP{ds:List D}(h:iX ds)(N:ds.length<=100):br [.list ds]=.ok ⟨.leaf,.bool (ds.all inL&&dZ ds)⟩:=by
 have a:aw .leaf 1 (aF (aa 0)) aR (az (bw false) (aa 1) (eK cw)) [JT (.list ds),none]=.ok ⟨.lst .leaf,.list (ds.map λd=>.bool (inL d))⟩ [JT (.list ds),none]:=by
  refine CG (f:=λd=>⟨.leaf,.bool (inL d)⟩) (bg (au rfl) rfl) (by simp) rfl (by omega) λd U=>⟨?_,rfl⟩
  obtain⟨x,rfl,A⟩:=h d U;exact aC (au rfl) aS (BC A)
 exact aQ (aL (v_and (bt (aA a ao) sF) (cH (aA (au rfl) ao) (Hu (.inr h) N) rfl rfl)) rfl)
theorem chain_ev{i n:Int}:FD (.int 0) (.int i)=some (.bool (decide (0<=i)))/\gG (.int i) (.int n)=some (.bool (decide (i<n))):=⟨rfl,rfl⟩
theorem eO{n:Int}(h:ic t)(N:t.length<=100):cB [.list t,.int n]=.ok ⟨.leaf,.bool (t.all (inR n)&&dZ t)⟩:=by
 have a:aw .leaf 2 (aF (aa 0)) aR (zw FD gG (eK (.int 0)) (aa 2) (aa 1)) [JT (.list t),JT (.int n),none]=.ok ⟨.lst .leaf,.list (t.map λd=>.bool (inR n d))⟩ [JT (.list t),JT (.int n),none]:=by
  refine CG (f:=λd=>⟨.leaf,.bool (inR n d)⟩) (bg (au rfl) rfl) (by simp) rfl (by omega) λd U=>⟨?_,rfl⟩
  obtain⟨i,rfl⟩:=h d U;exact wj aS (au rfl) (chain_ev (n:=n)).1 rfl (au rfl) chain_ev.2
 exact aQ (aL (v_and (bt (aA a ao) sF) (cH (aA (au rfl) ao) (Hu (.inl h) N) rfl rfl)) rfl)
theorem jv{n:Int}(h:ic t)(N:t.length<=100):cW [.list t,.int n]=.ok ⟨.leaf,.bool (decide (0<t.length)&&(t.all (inR n)&&dZ t))⟩:=by
 have e:dS (.int (t.length:Nat)) (.int 0)=some (.bool (decide (0<t.length))):=by
  show some (PyData.bool (decide ((0:Int)<(t.length:Int))))=_
  congr 2
  exact decide_eq_decide.mpr (by omega)
 exact aQ (aL (v_and (aC (bt (aA (au rfl) ao) rfl) aS e) (cH (aA (au rfl) (aA (au rfl) ao)) (eO h N) rfl rfl)) rfl)
structure Wk(b:Nat)(os ms ss:List D):Prop where
 o:ic os
 m:∀r∈ms,∃xs,r=.list xs/\iX xs/\xs.length<=30
 s:∀r∈ss,∃xs,r=.list xs/\ic xs/\xs.length<=30
 lo:os.length<=b
 lm:ms.length<=b
 ls:ss.length<=b
noncomputable def FE(G y o:List D):Bool:=decide ((G.length:Int)<1)||(decide ((24:Int)<G.length)||((!((y.length:Int)==(G.length:Int)))||(!((o.length:Int)==(G.length:Int)))))
noncomputable def isW(G y o:List D):Bool:=!FE G y o&&(G.all D6&&(y.all CK&&o.all (Fi G.length)))
theorem ne_int:cO (.int a) (.int b)=some (.bool (!(a==b))):=by
 unfold cO;rw[yL,yL,Bool.and_self,if_pos rfl,PyData.eqv]
theorem kP{b:Nat}{G:List D}(h:Wk b G y o)(Z:b<=100):dD [.list G,.list y,.list o]=.ok ⟨.leaf,.bool (isW G y o)⟩:=by
 have O:=h.lo
 have e:=h.lm
 have m:=h.ls
 refine aQ ?_
 refine af (dh (bt (aA (au rfl) ao) rfl) rfl (by simp[bp])) ?_
 have c:(fm (aG aj (az gG (aa 3) (eK (.int 1)))) (fm (aG aj (az dS (aa 3) (eK dI))) (fm (aG aj (az cO (bc aI (ae (aa 1) ah)) (aa 3))) (aG aj (az cO (bc aI (ae (aa 2) ah)) (aa 3)))))) [JT (.list G),JT (.list y),JT (.list o),JT (.int (G.length:Nat)),none,none]
   = .ok (FE G y o) [JT (.list G),JT (.list y),JT (.list o),JT (.int (G.length:Nat)),none,none]:=
  fh (bQ (aC (au rfl) aS rfl)) (fh (bQ (aC (au rfl) aS rfl)) (fh (bQ (aC (bt (aA (au rfl) ao) rfl) (au rfl) ne_int)) (bQ (aC (bt (aA (au rfl) ao) rfl) (au rfl) ne_int))))
 cases a:FE G y o with
 |true=>
  rw[a]at c;unfold isW;rw[a];exact fR (aP c (λ_=>aL aS rfl) nofun)
 |false=>
  rw[a]at c;refine af (aP c nofun (λ_=>rfl)) ?_
  have X:aw .leaf 4 (aF (aa 0)) aR (az (bw false) (aa 4) (eK cv)) [JT (.list G),JT (.list y),JT (.list o),JT (.int (G.length:Nat)),none,none]
    = .ok ⟨.lst .leaf,.list (G.map λd=>.bool (D6 d))⟩ [JT (.list G),JT (.list y),JT (.list o),JT (.int (G.length:Nat)),none,none]:=by
   refine CG (f:=λd=>⟨.leaf,.bool (D6 d)⟩) (bg (au rfl) rfl) (by simp) rfl (by omega) λd U=>⟨?_,rfl⟩
   obtain⟨i,rfl⟩:=h.o d U;exact aC (au rfl) aS D5
  have g:aw .leaf 5 (aF (aa 1)) aR (ar 1 br (ae (aa 5) ah)) [JT (.list G),JT (.list y),JT (.list o),JT (.int (G.length:Nat)),none,none]
    = .ok ⟨.lst .leaf,.list (y.map λd=>.bool (CK d))⟩ [JT (.list G),JT (.list y),JT (.list o),JT (.int (G.length:Nat)),none,none]:=by
   refine CG (f:=λd=>⟨.leaf,.bool (CK d)⟩) (bg (au rfl) rfl) (by simp) rfl (by omega) λd U=>⟨?_,rfl⟩
   obtain⟨Y,rfl,A,N⟩:=h.m d U;exact cH (aA (au rfl) ao) (eP A (by omega)) rfl rfl
  have q:aw .leaf 5 (aF (aa 2)) aR (ar 2 cW (ae (aa 5) (ae (aa 3) ah))) [JT (.list G),JT (.list y),JT (.list o),JT (.int (G.length:Nat)),none,none]
    = .ok ⟨.lst .leaf,.list (o.map λd=>.bool (Fi G.length d))⟩ [JT (.list G),JT (.list y),JT (.list o),JT (.int (G.length:Nat)),none,none]:=by
   refine CG (f:=λd=>⟨.leaf,.bool (Fi G.length d)⟩) (bg (au rfl) rfl) (by simp) rfl (by omega) λd U=>⟨?_,rfl⟩
   obtain⟨Y,rfl,A,N⟩:=h.s d U;exact cH (aA (au rfl) (aA (au rfl) ao)) (jv A (by omega)) rfl rfl
  have L:=eV (eT (bt (aA X ao) sF))
  cases J:G.all D6 with
  |false=>
   rw[J]at L;unfold isW;rw[J,Bool.false_and,Bool.and_false];exact fR (aP L (λ_=>aL aS rfl) nofun)
  |true=>
   rw[J]at L;refine af (aP L nofun (λ_=>rfl)) ?_
   unfold isW;rw[a,J,Bool.not_false,Bool.true_and,Bool.true_and];exact aL (v_and (bt (aA g ao) sF) (bt (aA q ao) sF)) rfl
theorem BU(h:shaped (.list Y)=true):bP (.list Y) (.list [])=some (.bool (decide (Y.length=0))):=by
 unfold bP;have S:shaped (.list [])=true:=by decide +kernel
 rw[h,S,Bool.and_self,if_pos rfl]
 cases Y with
 |nil=>rfl
 |cons a r=>rfl
theorem C4(h:ic Y):shaped (.list Y)=true:=by
 have c:PyData.canLayAll0 Y=true/\PyData.depthAll Y=0:=by
  induction Y with
  |nil=>exact⟨rfl,rfl⟩
  |cons a r E=>
   obtain⟨n,rfl⟩:=h a mem_cons_self;have q:=E λx A=>h x (JL _ A)
   simp[PyData.canLayAll0,PyData.canLay0,PyData.depthAll,PyData.depth,q.1,q.2]
 simp[shaped,PyData.canLay0,PyData.depth,c.1,c.2]
theorem wx(h:iX Y):shaped (.list Y)=true:=by
 have c:PyData.canLayAll0 Y=true/\PyData.depthAll Y=0:=by
  induction Y with
  |nil=>exact⟨rfl,rfl⟩
  |cons a r E=>
   obtain⟨n,rfl,b⟩:=h a mem_cons_self;have q:=E λx A=>h x (JL _ A)
   simp[PyData.canLayAll0,PyData.canLay0,PyData.depthAll,PyData.depth,q.1,q.2,b]
 simp[shaped,PyData.canLay0,PyData.depth,c.1,c.2]
theorem lt_int:gG (.int a) (.int b)=some (.bool (decide (a<b))):=rfl
theorem xO:oj (.int a) (.int b)=some (.bool (decide (b<=a))):=rfl
theorem sH:ba (.int a) (.int b)=some (.int (a+b)):=rfl
theorem d8(h:0<b):bN (.int a) (.int b)=some (.int (a % b)):=by
 show(if yn a b then _ else _)=_
 rw[if_pos (by unfold yn;simpa using h)]
theorem zj(h:0<b)(S:b<1073741824):u0 (.int a) (.int b)=some (.int (a / b)):=by
 show(if yo a b then _ else _)=_
 rw[if_pos (by unfold yo;simp[h,S])]
theorem zb(h:-1000000000000<b)(S:b<1000000000000):mH (.int a) (.int b)=some (.int (a*b)):=by
 show(if rZ a b then _ else _)=_
 rw[if_pos (by unfold rZ;simp only[Bool.or_eq_true,Bool.and_eq_true,decide_eq_true_eq];right;omega)]
theorem uC(h:-1000000000000<a)(S:a<1000000000000):mH (.int a) (.int b)=some (.int (a*b)):=by
 show(if rZ a b then _ else _)=_
 rw[if_pos (by unfold rZ;simp only[Bool.or_eq_true,Bool.and_eq_true,decide_eq_true_eq];left;omega)]
theorem DS(h:0<=b)(S:b<=100):xS (.int 10) (.int b)=some (.int (10 ^ b.toNat)):=by
 show(if ym 10 b then _ else _)=_
 rw[if_pos (by unfold ym;simp only[Bool.and_eq_true,decide_eq_true_eq];exact⟨⟨h,by omega⟩,by decide⟩)]
theorem Cz(h:ic Y){k:Int}(O:0<=k):∃c,aE [.list Y,.int k]=.ok ⟨.leaf,.int c⟩:=by
 have t:aG aj (az gG (aa 1) (bc aI (ae (aa 0) ah))) [JT (.list Y),JT (.int k)]=.ok (decide (k<(Y.length:Int))) [JT (.list Y),JT (.int k)]:=
  bQ (aC (au rfl) (bt (aA (au rfl) ao) rfl) lt_int)
 cases v:decide (k<(Y.length:Int))with
 |true=>
  rw[v]at t;have N:=of_decide_eq_true v
  have H:k.toNat<Y.length:=by omega
  obtain⟨c,f⟩:=h _ (getD_mem H);have g:=EB H
  rw[f]at g;exact⟨c,aQ (fR (aP t (λ_=>aL (nC (au rfl) (au rfl) (D4 O N) g rfl) rfl) nofun))⟩
 |false=>
  rw[v]at t;exact⟨0,aQ (af (aP t nofun (λ_=>rfl)) (aL aS rfl))⟩
theorem mO{c k:Int}(O:0<=k)(H:k<=1000)(Z:1<=b)(N:b<=1000):∃r,ai [.int c,.int k,.int b]=.ok ⟨.leaf,.int r⟩/\0<=r/\r<b:=by
 have t:aG aj (az oj (aa 0) (az xS (eK (.int 10)) (eK (.int 18)))) [JT (.int c),JT (.int k),JT (.int b),none,none,none]=.ok (decide (10 ^ (18:Int).toNat<=c)) [JT (.int c),JT (.int k),JT (.int b),none,none,none]:=
  bQ (aC (au rfl) (aC aS aS (DS (by omega) (by omega))) xO)
 cases a:decide (10 ^ (18:Int).toNat<=c)with
 |true=>
  rw[a]at t;obtain⟨X,e,l,x,E⟩:=GY (P:=λ_ C=>∃l x,C=[JT (.int c),JT (.int k),JT (.int b),none,JT (.int l),x]) (i:=5) (body:=aB false 4 (az u0 (aa 4) (aa 2))) (rngD 0 k.toNat) 0
   [JT (.int c),JT (.int k),JT (.int b),none,JT (.int c),none] ⟨c,none,rfl⟩ (λm d C U _ _ ⟨l,x,E⟩=>by
    subst E;refine⟨by simp,_,dh (aC (au rfl) (au rfl) (zj (by omega) (by omega))) rfl (by simp),_,_,rfl⟩)
  subst E;exact⟨_,aQ (fR (aP t (λ_=>af (dh (au rfl) rfl (by simp)) (af (bE (wb (k:=k) (aA (au rfl) ao) rfl (by omega) (by omega)) e) (aL (aC (au rfl) (au rfl) (d8 (by omega))) rfl))) nofun)),Int.emod_nonneg _ (by omega),Int.emod_lt_of_pos _ (by omega)⟩
 |false=>
  rw[a]at t;have f:∀x:Int,0<=x % 2147483647/\x % 2147483647<2147483647:=λx=>⟨Int.emod_nonneg _ (by omega),Int.emod_lt_of_pos _ (by omega)⟩
  refine⟨_,aQ (af (aP t nofun (λ_=>rfl)) (af (dh (aC (aC (aC (aC (aC (au rfl) aS (d8 (by omega))) (aC aS (au rfl) (uC (by omega) (by omega))) sH) aS sH) aS (zb (by omega) (by omega))) aS (d8 (by omega))) rfl (by simp[bp]))
   (af (dh (aC (aC (aC (aC (au rfl) (au rfl) (uC ?_ ?_)) (aC aS (au rfl) (uC (by omega) (by omega))) sH) aS sH) aS (d8 (by omega))) rfl (by simp[bp]))
   (aL (aC (aC (aC (aC (au rfl) aS (zb (by omega) (by omega))) aS (d8 (by omega))) aS (zj (by omega) (by omega))) (au rfl) (d8 (by omega))) rfl)))),Int.emod_nonneg _ (by omega),Int.emod_lt_of_pos _ (by omega)⟩
  .exact Int.lt_of_lt_of_le (by omega) (f _).1
  .exact Int.lt_trans (f _).2 (by omega)
noncomputable def aX(c k b:Int):Int:=match ai [.int c,.int k,.int b]with
 |.ok ⟨_,.int r⟩=>r
 |_=>0
theorem qe{c k:Int}(O:0<=k)(H:k<=1000)(Z:1<=b)(N:b<=1000):ai [.int c,.int k,.int b]=.ok ⟨.leaf,.int (aX c k b)⟩:=by
 obtain⟨r,e,_⟩:=mO (c:=c) O H Z N
 unfold aX;rw[e]
theorem yA{c k:Int}(O:0<=k)(H:k<=1000)(Z:1<=b)(N:b<=1000):0<=aX c k b/\aX c k b<b:=by
 obtain⟨r,e,h⟩:=mO (c:=c) O H Z N
 unfold aX;rw[e];exact h
theorem me{c:Nat}(h:c<1000):PyData.strOk ⟨#[c]⟩=true:=by
 unfold PyData.strOk;simp
 omega
theorem GD{p:List Int}(h:p.Pairwise (· < ·)):dZ (p.map .int)=true:=by
 unfold dZ;rw[all_eq_true];intro d U;obtain⟨k,O,rfl⟩:=C5 U;rw[length_map]at O;have J:k<p.length:=by omega
 have S:k+1<p.length:=by omega
 unfold xy;dsimp only;rw[show(1+(k:Int)-1).toNat=k by omega,show(1+(k:Int)).toNat=k+1 by omega]
 rw[JK,JK,getElem?_map,getElem?_map,JJ J,JJ S];have:=List.pairwise_iff_getElem.mp h k (k+1) J S (by omega)
 show decide (p[k]<p[k+1])=true
 exact decide_eq_true this
structure Gw(N:Int)(n:Nat)(os ms ss:List D):Prop where
 lo:os.length=n
 lm:ms.length=n
 ls:ss.length=n
 o:∀a∈os,a=.int 0\/a=.int 1
 m:∀r∈ms,∃xs,r=.list xs/\iX xs/\xs.length<=30/\CK r=true
 s:∀r∈ss,∃ts:List Int,r=.list (ts.map .int)/\ts.length<=30/\ts≠[]/\(∀t∈ts,0<=t/\t<N)/\ts.Pairwise (· < ·)
theorem rowI_map{p:List Int}:ic (p.map .int):=λa U=>by
 obtain⟨n,_,e⟩:=List.mem_map.mp U;exact⟨n,e.symm⟩
theorem Gw.wk{N:Int}{n b:Nat}{G:List D}(h:Gw N n G y o)(Z:n<=b):Wk b G y o:=
 ⟨λa U=>(h.o a U).elim (λe=>⟨0,e⟩) λe=>⟨1,e⟩,λr m=>let⟨Y,e,a,b,_⟩:=h.m r m;⟨Y,e,a,b⟩,λr m=>let⟨p,e,a,_⟩:=h.s r m;⟨_,e,rowI_map,by rw[length_map];exact a⟩,by rw[h.lo];exact Z,by rw[h.lm];exact Z,by rw[h.ls];exact Z⟩
theorem Gw.isW{n:Nat}{G y o:List D}(h:Gw (n:Int) n G y o)(J:1<=n)(b:n<=24):isW G y o=true:=by
 unfold KC.isW FE;rw[h.lo,h.lm,h.ls];have g:decide ((n:Int)<1)=false:=decide_eq_false (by omega)
 have R:decide ((24:Int)<n)=false:=decide_eq_false (by omega)
 rw[g,R];simp only[beq_self_eq_true,Bool.not_true,Bool.or_self,Bool.not_false,Bool.true_and,Bool.and_eq_true,all_eq_true]
 refine⟨λa U=>?_,λr m=>?_,λr m=>?_⟩
 .rcases h.o a U with rfl|rfl<;>rfl
 .obtain⟨Y,_,_,_,e⟩:=h.m r m
  exact e
 .obtain⟨p,rfl,S,I,x,E⟩:=h.s r m
  unfold Fi;simp only[Bool.and_eq_true,decide_eq_true_eq,length_map,all_eq_true]
  refine⟨by cases p with|nil=>exact absurd rfl I|cons a r=>simp,λa U=>?_,GD E⟩
  obtain⟨t,u,rfl⟩:=List.mem_map.mp U;have:=x t u
  unfold inR;simp only[Bool.and_eq_true,decide_eq_true_eq]
  exact this
theorem Ie(d X Z:Bool):CK (.list (((if d then[PyData.str ⟨#[97]⟩]else[])++((if X then[PyData.str ⟨#[98]⟩]else[])++(if Z then[PyData.str ⟨#[99]⟩]else[])))))=true:=by
 cases d<;>cases X<;>cases Z<;>decide +kernel
theorem Ah(n:Nat)(c:D->Bool):∃p:List Int,((rngD 0 n).filter c).map (λd=>d)=p.map .int/\(∀t∈p,0<=t/\t<(n:Int))/\p.Pairwise (· < ·)/\p.length<=n:=by
 refine⟨((List.range n).map λi=>(0:Int)+(i:Nat)).filter λi=>c (.int i),?_,λt u=>?_,?_,?_⟩
 .rw[List.map_id']
  unfold rngD;rw[show(λi:Nat=>PyData.int (0+(i:Int)))=(PyData.int∘λi:Nat=>(0:Int)+(i:Nat))from rfl,<-map_map,List.filter_map]
  rfl
 .obtain⟨J,_⟩:=List.mem_filter.mp u
  obtain⟨i,l,rfl⟩:=List.mem_map.mp J;rw[mem_range]at l;omega
 .refine List.Pairwise.filter _ ?_
  rw[pairwise_map];exact List.pairwise_lt_range.imp λh=>by omega
 .refine Nat.le_trans (length_filter_le _ _) ?_
  simp
noncomputable abbrev W3:Sh:=.tup [.lst .leaf,.lst .leaf,.lst .leaf]
noncomputable abbrev eD(G y o:List D):D:=.tuple [.list G,.list y,.list o]
theorem uv{n:Nat}{Γ:Ev}(h:g (bp n t)=.nx Γ):aU n g t=.ok ⟨.leaf,.none⟩:=by unfold aU;rw[h]
theorem Do{p:PV}{c:String}{b:Bool}(U:M C=.ok p I)(Z:uJ (zU p.d) c=b):ot c M C=.ok ⟨.leaf,.bool b⟩ I:=by
 unfold ot aW;rw[U];simp only[Out.bind,Z]
theorem v_not{s:Sh}{b:Bool}(U:M C=.ok ⟨s,.bool b⟩ I):va M C=.ok ⟨.leaf,.bool (!b)⟩ I:=by
 unfold va aW;rw[U];rfl
theorem oN{p:PV}(h:M C=.ok p I):dQ M C=.nx I:=by unfold dQ eX;rw[h]
theorem rJ{b:Nat}{G:List D}(h:Wk b G y o)(Z:b<=100)(w:isW G y o=true):cx [eD G y o]=.ok ⟨.leaf,.none⟩:=by
 have t:cQ (aG bI (ar 3 dD (ae (aq (aa 0) (eK (.int 0))) (ae (aq (aa 0) (eK (.int 1))) (ae (aq (aa 0) (eK (.int 2))) ah))))) [JT (eD G y o)]=.ok (!(isW G y o)) [JT (eD G y o)]:=
  eV (eT (cH (aA (jC (j:=0) (au rfl) aS rfl rfl rfl) (aA (jC (j:=1) (au rfl) aS rfl rfl rfl) (aA (jC (j:=2) (au rfl) aS rfl rfl rfl) ao))) (kP h Z) rfl rfl))
 rw[w]at t;exact uv (aP t nofun (λ_=>rfl))
theorem u7{d:D}(h:shaped d=true):bP d d=some (.bool true):=by
 unfold bP;rw[h,Bool.and_self,if_pos rfl,PySem.SeqAt.eqv_refl _ (canLay_of_shaped h)]
theorem uz{d:D}(h:shaped d=true):cO d d=some (.bool false):=by
 unfold cO;rw[h,Bool.and_self,if_pos rfl,PySem.SeqAt.eqv_refl _ (canLay_of_shaped h)];rfl
theorem EC{i:Int}:bw false (.int i) (.list (ts.map .int))=some (.bool (ts.contains i)):=by
 unfold bw;simp only[yL,C4 rowI_map,Bool.and_self,if_true]
 congr 2
 rw[Bool.eq_iff_iff];simp only[Bool.false_eq_true,if_false,any_eq_true,mem_map,contains_iff_mem]
 constructor
 .rintro⟨d,⟨t,u,rfl⟩,e⟩
  rw[PyData.eqv]at e;have:t=i:=by simpa using e
  rw[<-this];exact u
 .intro h
  exact⟨.int i,⟨i,h,rfl⟩,by rw[PyData.eqv];simp⟩
theorem B4{xs:List D}(h:ic xs):PyData.canLayAll0 xs=true/\PyData.depthAll xs=0:=by
 induction xs with
 |nil=>exact⟨rfl,rfl⟩
 |cons a r E=>
  obtain⟨n,rfl⟩:=h a mem_cons_self;have q:=E λx A=>h x (JL _ A)
  simp[PyData.canLayAll0,PyData.canLay0,PyData.depthAll,PyData.depth,q.1,q.2]
theorem Ee{xs:List D}(h:iX xs):PyData.canLayAll0 xs=true/\PyData.depthAll xs=0:=by
 induction xs with
 |nil=>exact⟨rfl,rfl⟩
 |cons a r E=>
  obtain⟨n,rfl,Y⟩:=h a mem_cons_self;have q:=E λx A=>h x (JL _ A)
  simp[PyData.canLayAll0,PyData.canLay0,PyData.depthAll,PyData.depth,q.1,q.2,Y]
theorem pS(h:∀r∈y,∃Y,r=.list Y/\PyData.canLayAll0 Y=true/\PyData.depthAll Y=0):PyData.canLayAll0 y=true/\PyData.depthAll y<=1:=by
 induction y with
 |nil=>exact⟨rfl,Nat.zero_le _⟩
 |cons a r E=>
  obtain⟨Y,rfl,J,S⟩:=h a mem_cons_self;have q:=E λx A=>h x (JL _ A)
  refine⟨by simp[PyData.canLayAll0,PyData.canLay0,q.1,J],?_⟩
  rw[PyData.depthAll,PyData.depth,S];exact Nat.max_le.mpr ⟨by omega,q.2⟩
noncomputable def has(x:Str)(d:D):Bool:=match d with
 |.list Y=>Y.any λy=>PyData.eqv y (.str x)
 |_=>false
theorem BE(A:PyData.strOk x=true)(h:iX Y):bw false (.str x) (.list Y)=some (.bool (has x (.list Y))):=by
 unfold bw;simp only[tx A,wx h,Bool.and_self,if_true]
 rfl
theorem De{i:Int}:bw true (.int i) (.list (ts.map .int))=some (.bool (!ts.contains i)):=by
 have h:=EC (ts:=ts) (i:=i)
 unfold bw at h ⊢
 simp only[yL,C4 rowI_map,Bool.and_self,if_true,Bool.false_eq_true,if_false]at h ⊢
 have h:=Option.some.inj h
 injection h with h
 rw[h]
end KC
namespace T
open PySem PySem.Spec L2
open PyProof.Rows hiding St
variable{b a:Int}{t:List D}
section
variable{Γ Γ1:Ev}{fa fb fc:F1}{fl:FL}{p:PV}{i n:Nat}{ga gb:FB}{g1 g2:FS}
@[simp] theorem HI:sizeLine=16777216:=rfl
@[simp] theorem CZ{m d:Type}{a:m}{e:Ev}{k:m->Ev->Out d}:(Out.ok a e).bind k=k a e:=rfl
@[simp] theorem r_k{d:D}:eK d Γ=.ok ⟨.leaf,d⟩ Γ:=rfl
@[simp] theorem IQ:ah Γ=.ok [] Γ:=rfl
@[simp] theorem HB:aR Γ=.ok true Γ:=rfl
@[simp] theorem HF:aD Γ=.nx Γ:=rfl
@[simp] theorem HW:ae fa fl Γ=(fa Γ).bind λp Γ1=>(fl Γ1).bind λG o=>.ok (p::G) o:=rfl
@[simp] theorem Js{g:D->D->Option D}:az g fa fb Γ=(fa Γ).bind λp Γ1=>(fb Γ1).bind λq o=>match g p.d q.d with|some d=>.ok ⟨.leaf,d⟩ o|none=>.no:=rfl
@[simp] theorem Ju{g:List D->Option D}:bc g fl Γ=(fl Γ).bind λG X=>match g (G.map (·.d))with|some d=>.ok ⟨.leaf,d⟩ X|none=>.no:=rfl
@[simp] theorem IY{g:D->Option Bool}:aG g fa Γ=(fa Γ).bind λp X=>match g p.d with|some b=>.ok b X|none=>.no:=rfl
@[simp] theorem HZ:cQ ga Γ=(ga Γ).bind λc X=>.ok (!c) X:=rfl
@[simp] theorem H0:bK ga gb Γ=(ga Γ).bind λc X=>if c then gb X else .ok false X:=rfl
@[simp] theorem IX:fm ga gb Γ=(ga Γ).bind λc X=>if c then .ok true X else gb X:=rfl
@[simp] theorem IW:vJ ga fa fb Γ=(ga Γ).bind λb X=>if b then fa X else fb X:=rfl
@[simp] theorem HU:ff fa fb Γ=(fa Γ).bind λp Γ=>match p.d with|.bool true=>fb Γ|.bool false=>.ok ⟨.leaf,.bool false⟩ Γ|_=>.no:=rfl
@[simp] theorem o8:ax g1 g2 Γ=match g1 Γ with|.nx X=>g2 X|.rt p=>.rt p|.bk X=>.bk X|.ct X=>.ct X|.er c X=>.er c X|.no=>.no:=by
 unfold ax
 cases g1 Γ<;>rfl
@[simp] theorem t7{k:PV->Ev->OutS}:eX fa k Γ=match fa Γ with|.ok p Γ1=>k p Γ1|.er c Γ1=>.er c Γ1|.no=>.no:=by
 unfold eX
 cases fa Γ<;>rfl
@[simp] theorem Jt:bA ga g1 g2 Γ=match ga Γ with|.ok b Γ1=>if b then g1 Γ1 else g2 Γ1|.er c Γ1=>.er c Γ1|.no=>.no:=by
 unfold bA
 cases ga Γ<;>rfl
@[simp] theorem Fn{b:Bool}:aj (.bool b)=some b:=rfl
@[simp] theorem HP{b:Bool}:bI (.bool b)=some b:=rfl
@[simp] theorem Fl{Y:List D}:bI (.list Y)=some (!Y.isEmpty):=rfl
noncomputable def Fw(p:PV):PV:=match p.s with
 |.leaf=>p
 |_=>⟨.view,p.d⟩
@[simp] theorem IK{d:D}:Fw ⟨.leaf,d⟩=⟨.leaf,d⟩:=rfl
@[simp] theorem IJ{s:Sh}{d:D}:Fw ⟨.lst s,d⟩=⟨.view,d⟩:=rfl
@[simp] theorem II{s:List Sh}{d:D}:Fw ⟨.tup s,d⟩=⟨.view,d⟩:=rfl
@[simp] theorem IF:aa i Γ=match Γ[i]? with|some (some p)=>.ok (Fw p) Γ|_=>.no:=by
 unfold aa
 cases h:Γ[i]? with
 |none=>rfl
 |some o=>
  cases o with
  |none=>rfl
  |some p=>
   obtain⟨s,d⟩:=p
   cases s<;>rfl
@[simp] theorem HG:bh i Γ=match Γ[i]? with|some (some p)=>.ok p (Γ.set i none)|_=>.no:=rfl
@[simp] theorem HX{d:D}:coer .leaf ⟨.leaf,d⟩=true:=rfl
@[simp] theorem Fq{s:Sh}{d:D}:coer .leaf ⟨.lst s,d⟩=true:=rfl
@[simp] theorem Fp{s:List Sh}{d:D}:coer .leaf ⟨.tup s,d⟩=true:=rfl
@[simp] theorem Fu{i:Int}{s:Sh}:coer .leaf ⟨s,.int i⟩=true:=by cases s<;>rfl
@[simp] theorem Fv{b:Bool}{s:Sh}:coer .leaf ⟨s,.bool b⟩=true:=by cases s<;>rfl
@[simp] theorem HM:Sh.isView .leaf=false:=rfl
@[simp] theorem HL{s:Sh}:Sh.isView (.lst s)=false:=rfl
@[simp] theorem HK{s:List Sh}:Sh.isView (.tup s)=false:=rfl
@[simp] theorem DI{own:Bool}:aB own i fa Γ=match fa Γ with|.ok p Γ1=>(if i<Γ1.length then(if own&&!p.s.isView then .nx (Γ1.set i (some p))else if T.coer .leaf p then .nx (Γ1.set i (some ⟨.leaf,p.d⟩))else .no)else .no)|.er c Γ1=>.er c Γ1|.no=>.no:=by
 unfold aB;rw[t7]
@[simp] theorem IH:aN fa Γ=match fa Γ with|.ok p Γ1=>(if p.s.isView then(if aV p.d then .rt ⟨.leaf,p.d⟩else .no)else .rt p)|.er c Γ1=>.er c Γ1|.no=>.no:=by
 unfold aN;rw[t7]
@[simp] theorem HV:dQ fa Γ=match fa Γ with|.ok p Γ1=>.nx Γ1|.er c Γ1=>.er c Γ1|.no=>.no:=by
 unfold dQ;rw[t7]
@[simp] theorem HY{w:List D->Res}:ar n w fl Γ=(fl Γ).bind λG X=>if G.length=n then(match w (G.map (·.d))with|.ok p=>if G.all (T.coer .leaf)then .ok p X else if aV p.d then .ok ⟨.leaf,p.d⟩ X else .ok ⟨.view,p.d⟩ X|_=>.no)else .no:=rfl
@[simp] theorem HS:ba (.int a) (.int b)=some (.int (a+b)):=rfl
@[simp] theorem HQ:gSub (.int a) (.int b)=some (.int (a-b)):=rfl
@[simp] theorem IU:gG (.int a) (.int b)=some (.bool (decide (a<b))):=rfl
@[simp] theorem IV:dS (.int a) (.int b)=some (.bool (decide (b<a))):=rfl
@[simp] theorem HR:aI [.list t]=some (.int t.length):=rfl
@[simp] theorem Fm:aI [.tuple t]=some (.int t.length):=rfl
noncomputable def mE(p q:PV):Ev->Out PV:=aq (λΓ=>.ok p Γ) (λΓ=>.ok q Γ)
@[simp] theorem lX:aq fa fb Γ=(fa Γ).bind λp Γ1=>(fb Γ1).bind λq o=>mE p q o:=by
 unfold mE aq aW
 cases fa Γ with
 |ok p Γ1=>simp only[CZ]
 |er c Γ1=>rfl
 |no=>rfl
@[simp] theorem t8{k:Int}{s:Sh}:mE ⟨.leaf,.tuple t⟩ ⟨s,.int k⟩ Γ=match dU t k with|some d=>.ok ⟨.leaf,d⟩ Γ|none=>.no:=by
 unfold mE aq aW dU;simp only[CZ]
 cases h:dg t.length k with
 |none=>rfl
 |some j=>
  simp only[Option.bind_some]
  cases S:t[j]? with
  |none=>rfl
  |some d=>rfl
@[simp] theorem yY{k:Int}{s:Sh}:mE ⟨.leaf,.list t⟩ ⟨s,.int k⟩ Γ=match dU t k with|some d=>.ok ⟨.leaf,d⟩ Γ|none=>.no:=by
 unfold mE aq aW dU;simp only[CZ]
 cases h:dg t.length k with
 |none=>rfl
 |some j=>
  simp only[Option.bind_some]
  cases S:t[j]? with
  |none=>rfl
  |some d=>rfl
@[simp] theorem IT{k:Int}{s:Sh}:mE ⟨.view,.list t⟩ ⟨s,.int k⟩ Γ=match dU t k with|some d=>.ok ⟨if aV d then .leaf else .view,d⟩ Γ|none=>.no:=by
 unfold mE aq aW dU;simp only[CZ]
 cases h:dg t.length k with
 |none=>rfl
 |some j=>
  simp only[Option.bind_some]
  cases S:t[j]? with
  |none=>rfl
  |some d=>rfl
@[simp] theorem DL{m:Type}{a:m}{r:List m}:dU (a::r) 0=some a:=by
 simp[dU,dg]
@[simp] theorem DK{m:Type}{a b:m}{r:List m}:dU (a::b::r) 1=some b:=by
 have:(1:Int)<(r.length:Int)+1+1:=by omega
 simp[dU,dg,this]
@[simp] theorem DJ{m:Type}{a b c:m}{r:List m}:dU (a::b::c::r) 2=some c:=by
 have:(2:Int)<(r.length:Int)+1+1+1:=by omega
 simp[dU,dg,this]
theorem CP{m:Type}{Y:List m}{k:Nat}{x:m}(h:Y[k]?=some x):dU Y (k:Int)=some x:=by
 have O:=(JN h).1
 have:(k:Int)<(Y.length:Int):=by omega
 simp[dU,dg,this,h]
end
section
variable{Γ:Ev}{fa fb:F1}{i:Nat}
@[simp] theorem IR{c:String}:ot c fa Γ=(fa Γ).bind λp Γ=>.ok ⟨.leaf,.bool (uJ (zU p.d) c)⟩ Γ:=rfl
@[simp] theorem HH{s:Sh}{b:FL}:aH s b Γ=(b Γ).bind λG X=>if !s.isView&&G.all (T.coer s)&&decide (G.length<=sizeLine)then .ok ⟨.lst s,.list (G.map (·.d))⟩ X else .no:=rfl
@[simp] theorem IG{b:FL}:cG b Γ=(b Γ).bind λG X=>if G.all tok&&decide (G.length<=sizeLine)then .ok ⟨.tup (G.map wo),.tuple (G.map (·.d))⟩ X else .no:=rfl
@[simp] theorem HE{d:D}:tok ⟨.leaf,d⟩=true:=rfl
@[simp] theorem HD{s:Sh}{d:D}:tok ⟨.lst s,d⟩=true:=rfl
@[simp] theorem HC{s:List Sh}{d:D}:tok ⟨.tup s,d⟩=true:=rfl
@[simp] theorem IS{a:D}:bq false a .none=some (.bool (vC a)):=rfl
@[simp] theorem HJ{a:D}:bq true a .none=some (.bool (!vC a)):=rfl
@[simp] theorem HN:aF fa Γ=(fa Γ).bind λp X=>match p.d with|.list t=>if cS p t then .ok ⟨t,!p.s.isView⟩ X else .no|_=>.no:=rfl
@[simp] theorem IP{d:D}:cS ⟨.leaf,d⟩ t=true:=rfl
@[simp] theorem IM{s:Sh}{d:D}:cS ⟨.lst s,d⟩ t=true:=rfl
@[simp] theorem IL{s:List Sh}{d:D}:cS ⟨.tup s,d⟩ t=true:=rfl
@[simp] theorem IZ{f:F1}:jQ i f Γ=match Γ[i]? with|some (some ⟨.leaf,.int a⟩)=>eX f (vo i a) Γ|_=>.no:=rfl
@[simp] theorem Ia{s:Sh}:vo i a ⟨s,.int b⟩ Γ=if i<Γ.length then .nx (Γ.set i (JT (.int (a+b))))else .no:=rfl
theorem G9{d:Type}{c:FB}{g:FS}{G:d->Ev}{test:d->Bool}{Inv:d->Prop}{meas:d->Nat}(f:∀b,Inv b->c (G b)=.ok (test b) (G b))(l:∀b,Inv b->test b=true->∃v,g (G b)=.nx (G v)/\Inv v/\meas v<meas b):∀(N:Nat)(b:d),Inv b->meas b<N->∃v,sG c g N (G b)=.nx (G v)/\Inv v/\test v=false
 |0,b,_,h=>by omega
 |N+1,b,hi,hm=>by
  rw[sG,f b hi]
  cases u:test b with
  |false=>exact⟨b,rfl,hi,u⟩
  |true=>
   obtain⟨a,J,S,I⟩:=l b hi u;obtain⟨v,e,q⟩:=G9 f l N a S (by omega)
   refine⟨v,?_,q⟩
   simp only[J]
   exact e
theorem Cb{M:F1}{p:PV}(J:Γ[i]?=some (some ⟨.lst .leaf,.list t⟩))(h:M Γ=.ok p Γ)(f:coer .leaf p=true)(Y:t.length<=9000):fS i M Γ=.nx (Γ.set i (some ⟨.lst .leaf,.list (t++[p.d])⟩)):=by
 have Z:(10000:Nat)<=sizeLine:=by decide
 unfold fS Cu;rw[J];simp only[if_true,t7,h]
 unfold yt;rw[J];have:t.length<sizeLine:=by omega
 simp only[f,decide_eq_true this,Bool.and_self,if_true]
end
theorem GT{m:Type}{j:m->D}{i:Nat}{n:FB}{G:F1}{s:Sh}{c:m->Bool}{f:m->PV}{C:Ev}(E:C.set i none=C):∀(r:List m)(acc:List D),(∀x∈r,n (C.set i (JT (j x)))=.ok (c x) (C.set i (JT (j x)))) ->
  (∀x∈r,c x=true->G (C.set i (JT (j x)))=.ok (f x) (C.set i (JT (j x)))/\coer s (f x)=true)->acc.length+r.length<=sizeLine->pZ i n G s (r.map j) C acc=.ok (acc++((r.filter c).map λx=>(f x).d)) C
 |[],acc,_,_,_=>by simp[pZ]
 |x::r,acc,hc,he,hl=>by
  have J:=hc x mem_cons_self
  have b:acc.length<sizeLine:=by simp only[length_cons]at hl;omega
  have a:(C.set i (JT (j x))).set i none=C:=by rw[set_set];exact E
  rw[map_cons,pZ,J]
  cases O:c x with
  |false=>
   dsimp only;rw[if_pos b,a,GT E r acc (λd U=>hc d (JL _ U)) (λd U=>he d (JL _ U)) (by simp only[length_cons]at hl;omega)]
   rw[List.filter_cons_of_neg (by rw[O];exact Bool.false_ne_true)]
  |true=>
   obtain⟨S,I⟩:=he x mem_cons_self O;dsimp only;rw[S];dsimp only;rw[I,decide_eq_true b,Bool.and_self,if_pos rfl,a,GT E r (acc++[(f x).d]) (λd U=>hc d (JL _ U)) (λd U=>he d (JL _ U)) (by simp only[length_cons,length_append,length_nil]at hl ⊢;omega)]
   rw[List.filter_cons_of_pos O,map_cons,append_assoc];rfl
theorem i7{m:Type}(j:m->D)(Y:List m)(c:m->Bool)(f:m->PV){s:Sh}{i:Nat}{k:FI}{fc:FB}{G:F1}{st:Bool}{C:Ev}(l:k C=.ok ⟨Y.map j,st⟩ C)(N:i<C.length)(P:s.isView=false)(b:Y.length<=10000)(a:∀x∈Y,fc (C.set i (JT (j x)))=.ok (c x) (C.set i (JT (j x))))(R:∀x∈Y,c x=true->G (C.set i (JT (j x)))=.ok (f x) (C.set i (JT (j x)))/\coer s (f x)=true):aw s i k fc G C=.ok ⟨.lst s,.list ((Y.filter c).map λx=>(f x).d)⟩ C:=by
 have Z:(10000:Nat)<=sizeLine:=by decide
 unfold aw;rw[l];unfold Out.bind;dsimp only;rw[GT (c:=c) (f:=f) (by rw[set_set]) Y [] (λd U=>by rw[set_set];exact a d U) (λd U=>by rw[set_set];exact R d U) (by simp;omega)]
 dsimp only;rw[P,decide_eq_true N];simp only[Bool.not_false,Bool.and_self,if_true,nil_append,set_set]
 have:C.set i (C.getD i none)=C:=by
  apply sI
  rw[JK,JJ N];rfl
 rw[this]
theorem nr{m:Type}(j:m->D)(Y:List m)(f:m->PV){s:Sh}{i:Nat}{fi:FI}{fe:F1}{st:Bool}{Γ:Ev}(l:fi Γ=.ok ⟨Y.map j,st⟩ Γ)(N:i<Γ.length)(P:s.isView=false)(a:Y.length<=10000)(R:∀x∈Y,fe (Γ.set i (JT (j x)))=.ok (f x) (Γ.set i (JT (j x)))/\coer s (f x)=true):aw s i fi aR fe Γ=.ok ⟨.lst s,.list (Y.map λx=>(f x).d)⟩ Γ:=by
 rw[i7 (fc:=aR) j Y (λ_=>true) f l N P a (λ_ _=>rfl) λx A _=>R x A,List.filter_eq_self.mpr λ_ _=>rfl]
theorem G4{m d:Type}(j:m->D)(step:d->m->d){Inv:d->List m->Prop}{i:Nat}{body:FS}{G:d->Option PV->Ev}(l:∀b x,i<(G b x).length)(c:∀b x y,(G b x).set i y=G b y)(Z:∀b a r,Inv b (a::r)->body (G b (JT (j a)))=.nx (G (step b a) (JT (j a)))/\Inv (step b a) r):∀(Y:List m)(b:d)(x:Option PV),Inv b Y->∃y,bf i body (Y.map j) (G b x)=.nx (G (Y.foldl step b) y)/\Inv (Y.foldl step b) []
 |[],b,x,h=>⟨x,rfl,h⟩
 |a::r,b,x,h=>by
  obtain⟨J,S⟩:=Z b a r h;obtain⟨y,e,I⟩:=G4 j step l c Z r (step b a) (JT (j a)) S
  refine⟨y,?_,I⟩
  rw[map_cons,bf,if_pos (l b x),c,J];exact e
end T
namespace KC
open PySem PySem.Spec L2 T PySem.SeqAt
open PyProof.Rows hiding St
variable{t:Nat}
noncomputable abbrev rm(t:Nat):D:=.int (t:Int)
noncomputable abbrev ay(r:List Nat):D:=.list (r.map rm)
theorem wB{n:Nat}:rngD 0 n=(List.range n).map rm:=by
 unfold rngD;simp
theorem yD{r:List Nat}:bw false (rm t) (ay r)=some (.bool (r.contains t)):=by
 have h:=EC (ts:=r.map λt:Nat=>(t:Int)) (i:=t)
 rw[map_map]at h;refine h.trans ?_
 congr 2
 rw[Bool.eq_iff_iff,contains_iff_mem,contains_iff_mem,mem_map];exact⟨λ⟨a,J,S⟩=>by rw[<-Int.ofNat_inj.mp S];exact J,λh=>⟨t,h,rfl⟩⟩
theorem Hk{r:List Nat}:bw true (rm t) (ay r)=some (.bool (!r.contains t)):=by
 have h:=De (ts:=r.map λt:Nat=>(t:Int)) (i:=t)
 rw[map_map]at h;refine h.trans ?_
 congr 3
 rw[Bool.eq_iff_iff,contains_iff_mem,contains_iff_mem,mem_map];exact⟨λ⟨a,J,S⟩=>by rw[<-Int.ofNat_inj.mp S];exact J,λh=>⟨t,h,rfl⟩⟩
structure Wd where
 n:Nat
 os:List D
 m:List (List Str)
 s:List (List Nat)
noncomputable def bx(r:List Str):D:=.list (r.map .str)
noncomputable def Wd.enc(w:Wd):D:=eD w.os (w.m.map bx) (w.s.map ay)
structure Wd.Ok(w:Wd):Prop where
 g:Gw (w.n:Int) w.n w.os (w.m.map bx) (w.s.map ay)
 h1:1<=w.n
 h24:w.n<=24
 lm:w.m.length=w.n
 ls:w.s.length=w.n
 st:∀r∈w.s,r≠[]/\r.length<=30/\∀t∈r,t<w.n
 mc:∀r∈w.m,∀c∈r,PyData.strOk c=true
noncomputable def Wd.stp(w:Wd)(r:Nat):List Nat:=w.s.getD r []
noncomputable def Wd.mks(w:Wd)(r:Nat):List Str:=w.m.getD r []
theorem Wd.Ok.at2{w:Wd}(h:w.Ok){r:Nat}(m:r<w.n):dU (w.s.map ay) (r:Int)=some (ay (w.stp r)):=by
 refine CP ?_
 unfold Wd.stp;rw[getElem?_map,JK,JJ (by rw[h.ls];exact m)]
 rfl
theorem Wd.Ok.at1{w:Wd}(h:w.Ok){r:Nat}(m:r<w.n):dU (w.m.map bx) (r:Int)=some (bx (w.mks r)):=by
 refine CP ?_
 unfold Wd.mks;rw[getElem?_map,JK,JJ (by rw[h.lm];exact m)]
 rfl
theorem Wd.Ok.stp_lt{w:Wd}(h:w.Ok){r:Nat}(u:t∈w.stp r):t<w.n:=by
 unfold Wd.stp at u;rw[JK]at u
 cases e:w.s[r]? with
 |none=>rw[e]at u;simp at u
 |some x=>rw[e]at u;exact(h.st x (mem_of_getElem? e)).2.2 t u
theorem Wd.Ok.stp_ne{w:Wd}(h:w.Ok){r:Nat}(m:r<w.n):w.stp r≠[]:=by
 unfold Wd.stp;rw[JK,JJ (by rw[h.ls];exact m)]
 exact(h.st _ (getElem_mem _)).1
noncomputable def bb:List Str:=["a","b","c","d","e","f"]
theorem vL{c:Str}(h:c∈bb):PyData.strOk c=true/\inL (.str c)=true:=by
 unfold bb at h;simp only[mem_cons,not_mem_nil,or_false]at h
 rcases h with rfl|rfl|rfl|rfl|rfl|rfl<;>decide +kernel
end KC
namespace KC
variable{l thr g:List Nat}{rk:List (Option Nat)}{t a k:Nat}{bs cl:List Bool}
noncomputable def bo(E:List (Option Nat))(t:Nat):Option Nat:=E.getD t none
noncomputable def led(any:Bool)(l:List Nat)(P:Nat->Prop):Prop:=if any then ∃t∈l,P t else ∀t∈l,P t
theorem led_t{P:Nat->Prop}:led true l P↔∃t∈l,P t:=by unfold led;simp
theorem led_f{P:Nat->Prop}:led false l P↔∀t∈l,P t:=by unfold led;simp
theorem yP{any:Bool}{P Q:Nat->Prop}(h:led any l P)(i:∀t∈l,P t->Q t):led any l Q:=by
 cases any with
 |true=>obtain⟨t,u,y⟩:=led_t.mp h;exact led_t.mpr ⟨t,u,i t u y⟩
 |false=>exact led_f.mpr λt u=>i t u (led_f.mp h t u)
structure RightG(n:Nat)(st:Nat->List Nat)(ch:Nat->Bool)(thr goal:List Nat)(rk:List (Option Nat)):Prop where
 len:rk.length=n
 g:∀r,r<n->r∈goal->bo rk r=some 0
 p:∀r k,r<n->r∉goal->bo rk r=some k->0<k/\r∈thr/\led (ch r) (st r) λt=>∃j,bo rk t=some j/\j<k
 z:∀r,r<n->bo rk r=none->r∉goal/\(r∉thr\/¬led (ch r) (st r) λt=>bo rk t≠none)
section
variable{n:Nat}{st:Nat->List Nat}{ch own:Nat->Bool}{thr goal:List Nat}{rk:List (Option Nat)}
theorem RightG.min(h:RightG n st ch thr goal rk){S:Nat->Prop}(U:∀r t,t∈st r->t<n)(l:∀r,r<n->r∈goal->S r)(P:∀r,r<n->r∈thr->led (ch r) (st r) S->S r){r:Nat}(m:r<n)(O:bo rk r≠none):S r:=by
 have H:∀k r,r<n->bo rk r=some k->S r:=by
  intro k;induction k using Nat.strongRecOn with
  |ind k E=>
   intro r m O;by_cases a:r∈goal
   .exact l r m a
   .obtain⟨_,b,I⟩:=h.p r k m a O
    exact P r m b (yP I λt u ⟨j,hj,hlt⟩=>E j hlt t (U r t u) hj)
 obtain⟨k,O⟩:=Option.ne_none_iff_exists'.mp O
 exact H k r m O
theorem RightG.goal_ok(h:RightG n st ch thr goal rk){r:Nat}(m:r<n)(l:r∈goal):bo rk r≠none:=by rw[h.g r m l];simp
theorem RightG.step_ok(h:RightG n st ch thr goal rk){r:Nat}(m:r<n)(u:r∈thr)(N:led (ch r) (st r) λt=>bo rk t≠none):bo rk r≠none:=λz=>by
 rcases(h.z r m z).2 with q|q
 .exact q u
 .exact q N
end
structure Fr{α:Type}(n:Nat)(st:Nat->List Nat)(R:Nat->Prop)(M:List α)(mk:α->Nat->Prop)(X:Nat->Prop):Prop where
 lt:∀r,X r->r<n
 sub:∀r,X r->R r
 c:∀r,X r->∃t∈st r,X t
 a:∀m∈M,∀S:Nat->Prop,(∀r,X r->mk m r->S r)->(∀r,X r->(∃t∈st r,X t/\S t)->S r)->∀r,X r->S r
noncomputable def Std(n:Nat)(L:List Nat):Prop:=∃q:Nat->Bool,L=(List.range n).filter q
theorem Std.lt{n:Nat}{L:List Nat}(h:Std n L):∀r∈L,r<n:=by
 obtain⟨q,rfl⟩:=h;intro r m;exact List.mem_range.mp (List.mem_filter.mp m).1
theorem Std.len{n:Nat}{L:List Nat}(h:Std n L):L.length<=n:=by
 obtain⟨q,rfl⟩:=h;exact Nat.le_trans (length_filter_le _ _) (by simp)
theorem Std.filter{n:Nat}{L:List Nat}(h:Std n L)(p:Nat->Bool):Std n (L.filter p):=by
 obtain⟨q,rfl⟩:=h;exact⟨λt=>p t&&q t,List.filter_filter ..⟩
theorem Std.of{n:Nat}(q:Nat->Bool):Std n ((List.range n).filter q):=⟨q,rfl⟩
open PySem PySem.Spec L2 T PySem.SeqAt
open PyProof.Rows hiding St
noncomputable def oD:Option Nat->D
 |none=>.none
 |some k=>.int (k:Int)
@[simp] theorem FA(o:Option Nat):vC (oD o)=o.isNone:=by cases o<;>rfl
@[simp] theorem Fz(o:Option Nat):aV (oD o)=true:=by cases o<;>rfl
noncomputable abbrev eY(E:List (Option Nat)):D:=.list (E.map oD)
theorem vp(h:t<rk.length):dU (rk.map oD) (t:Int)=some (oD (bo rk t)):=by
 refine CP ?_
 unfold bo;rw[getElem?_map,JK,JJ h];rfl
noncomputable def kI(any:Bool)(bs:List Bool):Bool:=if any then bs.any id else bs.all id
theorem Gy:cL true [.list (bs.map .bool)]=some (.bool (bs.any id)):=by
 have h:=G5 (any:=true) (xs:=bs) (f:=id)
 show Option.map _ (sE _)=_
 rw[show(bs.map PyData.bool)=bs.map λx=>PyData.bool (id x)from rfl,h]
 simp
theorem u3:cL false [.list (bs.map .bool)]=some (.bool (bs.all id)):=by
 have h:=G5 (any:=true) (xs:=bs) (f:=id)
 show Option.map _ (sE _)=_
 rw[show(bs.map PyData.bool)=bs.map λx=>PyData.bool (id x)from rfl,h]
 simp
theorem yc{c:Bool}:dw [.bool c,.list (bs.map .bool)]=.ok ⟨.leaf,.bool (kI c bs)⟩:=by
 unfold kI
 cases c<;>simp[dw,aU,mQ,bp,Gy,u3]
structure Wd.Ok0(w:Wd):Prop where
 lo:w.os.length=w.n
 h24:w.n<=24
 ls:w.s.length=w.n
 st:∀r∈w.s,r.length<=30/\∀t∈r,t<w.n
theorem Wd.Ok.z{w:Wd}(h:w.Ok):w.Ok0:=⟨h.g.lo,h.h24,h.ls,λr m=>(h.st r m).2⟩
theorem Wd.Ok0.at2{w:Wd}(h:w.Ok0){r:Nat}(m:r<w.n):dU (w.s.map ay) (r:Int)=some (ay (w.stp r)):=by
 refine CP ?_
 unfold Wd.stp;rw[getElem?_map,JK,JJ (by rw[h.ls];exact m)]
 rfl
theorem Wd.Ok0.stp_lt{w:Wd}(h:w.Ok0){r:Nat}(u:t∈w.stp r):t<w.n:=by
 unfold Wd.stp at u;rw[JK]at u
 cases e:w.s[r]? with
 |none=>rw[e]at u;simp at u
 |some x=>rw[e]at u;exact(h.st x (mem_of_getElem? e)).2 t u
theorem Wd.Ok0.len{w:Wd}(h:w.Ok0){r:Nat}:(w.stp r).length<=10000:=by
 unfold Wd.stp;rw[JK]
 cases e:w.s[r]? with
 |none=>simp
 |some x=>
  have:=(h.st x (mem_of_getElem? e)).1
  simp only[Option.getD_some]
  omega
noncomputable abbrev nA(U:List Bool):D:=.list (U.map .bool)
noncomputable def ig(U:List Bool)(r:Nat):Bool:=U.getD r false
theorem En(h:t<cl.length):dU (cl.map PyData.bool) (t:Int)=some (.bool (ig cl t)):=by
 refine CP ?_
 unfold ig;rw[getElem?_map,JK,JJ h];rfl
noncomputable def uu(w:Wd)(a:Nat->Bool)(g:List Nat)(E:List (Option Nat)):List Nat:=g.filter λr=>(bo E r).isNone&&kI (a r) ((w.stp r).map λt=>(bo E t).isSome)
theorem vc{w:Wd}(h:w.Ok0)(j:cl.length=w.n)(u:∀r∈thr,r<w.n)(N:rk.length=w.n)(Y:thr.length<=1000):bX [w.enc,nA cl,ay thr,eY rk]=.ok ⟨.lst .leaf,ay (uu w (ig cl) thr rk)⟩:=by
 obtain⟨y,e,_⟩:=G4 rm (λ(b:List Nat) r=>if(bo rk r).isNone&&kI (ig cl r) ((w.stp r).map λt=>(bo rk t).isSome)then b++[r]else b) (Inv:=λb r=>b.length+r.length<=1000/\∀t∈r,t<w.n) (i:=5)
  (body:=(bA (bK (aG aj (az (bq false) (aq (aa 3) (aa 5)) (eK .none))) (aG bI (ar 2 dw (ae (aq (aa 1) (aa 5)) (ae (aw .leaf 6 (aF (aq (aq (aa 0) (eK (.int 2))) (aa 5))) aR (az (bq true) (aq (aa 3) (aa 6)) (eK .none))) ah))))) (fS 4 (aa 5)) aD))
  (G:=λb x=>[JT w.enc,JT (nA cl),JT (ay thr),JT (eY rk),some ⟨.lst .leaf,ay b⟩,x,none])
  (λ_ _=>by simp) (λ_ _ _=>by simp) (λb r U O=>by
   obtain⟨J,S⟩:=O;have m:r<w.n:=S r mem_cons_self
   have P:=vp (rk:=rk) (t:=r) (by omega)
   have n:=h.at2 m
   have a:=En (cl:=cl) (t:=r) (by omega)
   simp only[length_cons]at J
   have X:aw .leaf 6 (aF (aq (aq (aa 0) (eK (.int 2))) (aa 5))) aR (az (bq true) (aq (aa 3) (aa 6)) (eK .none)) [JT w.enc,JT (nA cl),JT (ay thr),JT (eY rk),some ⟨.lst .leaf,ay b⟩,JT (rm r),none]
     = .ok ⟨.lst .leaf,.list ((w.stp r).map λt=>.bool (bo rk t).isSome)⟩ [JT w.enc,JT (nA cl),JT (ay thr),JT (eY rk),some ⟨.lst .leaf,ay b⟩,JT (rm r),none]:=by
    refine nr rm (w.stp r) (λt=>⟨.leaf,.bool (bo rk t).isSome⟩) (st:=true) (by simp[Wd.enc,n]) (by simp) rfl h.len λt u=>?_
    have L:=vp (rk:=rk) (t:=t) (by rw[N];exact h.stp_lt u)
    simp[L]
   have f:=yc (c:=ig cl r) (bs:=(w.stp r).map λt=>(bo rk t).isSome)
   rw[map_map]at f;have f:dw [.bool (ig cl r),.list ((w.stp r).map λt=>.bool (bo rk t).isSome)]=.ok ⟨.leaf,.bool (kI (ig cl r) ((w.stp r).map λt=>(bo rk t).isSome))⟩:=f
   have d:fS 4 (aa 5) [JT w.enc,JT (nA cl),JT (ay thr),JT (eY rk),some ⟨.lst .leaf,ay b⟩,JT (rm r),none]=.nx [JT w.enc,JT (nA cl),JT (ay thr),JT (eY rk),some ⟨.lst .leaf,.list (b.map rm++[rm r])⟩,JT (rm r),none]:=
    Cb rfl (au rfl) rfl (by simp;omega)
   refine⟨?_,?_⟩
   .cases o:(bo rk r).isNone with
    |false=>simp[P,o]
    |true=>
     cases k:kI (ig cl r) ((w.stp r).map λt=>(bo rk t).isSome)with
     |false=>simp[P,a,o,X,f,k]
     |true=>simp[P,a,o,X,f,k,d]
   .refine⟨?_,λt u=>S t (JL _ u)⟩
    split
    .rw[length_append,length_singleton];omega
    .omega) thr [] none (by simp;exact⟨Y,u⟩)
 have s:∀(l b:List Nat),l.foldl (λ(b:List Nat) r=>if(bo rk r).isNone&&kI (ig cl r) ((w.stp r).map λt=>(bo rk t).isSome)then b++[r]else b) b=b++uu w (ig cl) l rk:=by
  intro l;induction l with
  |nil=>intro b;simp[uu]
  |cons r t E=>
   intro b;rw[List.foldl_cons,E];unfold uu;rw[filter_cons];split<;>simp
 rw[s,nil_append]at e;refine aQ ?_
 have R:=bE (fi:=aF (aa 2)) (Γ:=[JT w.enc,JT (nA cl),JT (ay thr),JT (eY rk),some ⟨.lst .leaf,ay []⟩,none,none]) (bg (ds:=thr.map rm) (au rfl) rfl) e
 have g:aB true 4 (aH .leaf ah) (bp 7 [w.enc,nA cl,ay thr,eY rk])=.nx [JT w.enc,JT (nA cl),JT (ay thr),JT (eY rk),some ⟨.lst .leaf,ay []⟩,none,none]:=by simp[bp]
 unfold eQ;rw[o8,g];simp only
 rw[o8,R];simp
theorem led_iff{any:Bool}{b:Nat->Bool}:kI any (l.map b)=true↔led any l λt=>b t=true:=by
 unfold kI led
 cases any<;>simp
noncomputable def cp(E:List (Option Nat))(k:Nat)(X:List Nat):List (Option Nat):=X.foldl (λl r=>l.set r (some k)) E
theorem GB{k:Nat}:∀(X:List Nat)(rk:List (Option Nat)),(cp rk k X).length=rk.length
 |[],_=>rfl
 |a::r,rk=>by
  show(cp (rk.set a (some k)) k r).length=_
  rw[GB,length_set]
theorem wI{E:List (Option Nat)}{o:Option Nat}(h:a<E.length):bo (E.set a o) t=if t=a then o else bo E t:=by
 unfold bo;rw[JK,JK];split
 .rename_i e;subst e;rw[getElem?_set_self h];rfl
 .rename_i e;rw[getElem?_set_ne (λz=>e z.symm)]
theorem oY{k t:Nat}:∀(X:List Nat)(rk:List (Option Nat)),(∀a∈X,a<rk.length)->bo (cp rk k X) t=if t∈X then some k else bo rk t
 |[],rk,_=>by simp[cp]
 |a::r,rk,h=>by
  show bo (cp (rk.set a (some k)) k r) t=_
  rw[oY r _ (λb Z=>by rw[length_set];exact h b (JL _ Z)),wI (h a mem_cons_self)]
  by_cases g:t∈r
  .simp[g]
  .by_cases R:t=a
   .simp[R]
   .simp[g,R]
noncomputable def bU(E:List (Option Nat)):Nat:=(E.filter Option.isNone).length
theorem qV{E:List (Option Nat)}(h:E[a]?=some none):bU (E.set a (some k))+1=bU E:=by
 induction E generalizing a with
 |nil=>simp at h
 |cons x r b=>
  cases a with
  |zero=>
   simp at h
   subst h;simp[bU]
  |succ a=>
   have:=b (a:=a) (by simpa using h)
   simp only[bU,List.set_cons_succ,filter_cons]at this ⊢
   cases x with
   |none=>simp only[Option.isNone_none,if_true,length_cons];omega
   |some v=>simpa using this
theorem ux{E:List (Option Nat)}:bU (E.set a (some k))<=bU E:=by
 induction E generalizing a with
 |nil=>simp[bU]
 |cons x r b=>
  cases a with
  |zero=>cases x<;>simp[bU]
  |succ a=>
   have:=b (a:=a)
   simp only[bU,List.set_cons_succ,filter_cons]at this ⊢
   cases x with
   |none=>simp only[Option.isNone_none,if_true,length_cons];omega
   |some v=>simpa using this
theorem fH{k:Nat}:∀(X:List Nat)(rk:List (Option Nat)),bU (cp rk k X)<=bU rk
 |[],_=>JR _
 |a::r,rk=>Nat.le_trans (fH r (rk.set a (some k))) ux
theorem qW{X:List Nat}{E:List (Option Nat)}(K:X≠[])(h:∀a∈X,E[a]?=some none):bU (cp E k X)<bU E:=by
 cases X with
 |nil=>exact absurd rfl K
 |cons a r=>
  have J:=qV (k:=k) (h a mem_cons_self)
  have S:=fH (k:=k) r (E.set a (some k))
  show bU (cp (E.set a (some k)) k r)<_
  omega
structure RS where
 rk:List (Option Nat)
 k:Nat
 fr:List Nat
 x8:Option PV
structure RI(w:Wd)(ch:Nat->Bool)(thr goal:List Nat)(b:RS):Prop where
 len:b.rk.length=w.n
 frn:∀r∈b.fr,r<w.n/\bo b.rk r=none
 frl:b.fr.length<=1000
 lt:∀r j,bo b.rk r=some j->j<b.k
 zero:b.k=0->b.fr=goal
 g:0<b.k->∀r,r∈goal->bo b.rk r=some 0
 p:∀r j,r<w.n->r∉goal->bo b.rk r=some j->0<j/\r∈thr/\led (ch r) (w.stp r) λt=>∃i,bo b.rk t=some i/\i<j
 nx:0<b.k->b.fr=uu w ch thr b.rk
 m1:∀r,r∈thr->bo b.rk r=none->¬led (ch r) (w.stp r) λt=>∃i,bo b.rk t=some i/\i+1<b.k
 m2:∀r j,r∉goal->bo b.rk r=some j->¬led (ch r) (w.stp r) λt=>∃i,bo b.rk t=some i/\i+1<j
noncomputable def FN(d:Nat->List Nat)(a:Nat->Bool)(c:List Nat)(E:List (Option Nat)):Prop:=∀r j,r∉c->bo E r=some j->¬led (a r) (d r) λt=>∃i,bo E t=some i/\i+1<j
theorem RI.right{w:Wd}{a:Nat->Bool}{c:List Nat}{b:RS}(K:∀r∈g,w.stp r≠[])(I:RI w a g c b)(R:b.fr=[]):RightG w.n w.stp a g c b.rk:=by
 refine⟨I.len,λr m l=>?_,I.p,λr m P=>?_⟩
 .rcases Nat.eq_zero_or_pos b.k with h|h
  .rw[<-I.zero h,R]at l;simp at l
  .exact I.g h r l
 .rcases Nat.eq_zero_or_pos b.k with h|h
  .have l:c=[]:=by rw[<-I.zero h];exact R
   refine⟨by rw[l];simp,?_⟩
   by_cases u:r∈g
   case neg=>exact .inl u
   refine .inr λN=>?_
   have no:∀t,bo b.rk t=none:=λt=>by
    cases e:bo b.rk t with
    |none=>rfl
    |some j=>have:=I.lt t j e;omega
   cases f:a r with
   |true=>
    rw[f]at N;obtain⟨t,_,z⟩:=led_t.mp N;exact z (no t)
   |false=>
    rw[f]at N;obtain⟨t,k⟩:=exists_mem_of_ne_nil _ (K r u);exact led_f.mp N t k (no t)
  .refine⟨λl=>(by rw[I.g h r l]at P;cases P),?_⟩
   by_cases u:r∈g
   .refine .inr λN=>?_
    have A:=I.nx h
    rw[R]at A;have:r∈uu w a g b.rk:=by
     unfold uu;refine List.mem_filter.mpr ⟨u,?_⟩
     rw[P];simp only[Option.isNone_none,Bool.true_and]
     exact led_iff.mpr (yP N λt _ z=>by cases e:bo b.rk t with|none=>exact absurd e z|some j=>rfl)
    rw[<-A]at this;simp at this
   .exact .inl u
theorem RI.step{w:Wd}{ch:Nat->Bool}{c:List Nat}(n:∀r∈g,w.stp r≠[]){b:RS}{y:Option PV}(o:∀r∈g,r<w.n)(N:g.length<=1000)(I:RI w ch g c b)(K:b.fr≠[]):RI w ch g c ⟨cp b.rk b.k b.fr,b.k+1,uu w ch g (cp b.rk b.k b.fr),y⟩/\bU (cp b.rk b.k b.fr)<bU b.rk:=by
 have p:∀a∈b.fr,a<b.rk.length:=λa U=>by rw[I.len];exact(I.frn a U).1
 have pt:∀t,bo (cp b.rk b.k b.fr) t=if t∈b.fr then some b.k else bo b.rk t:=λt=>oY _ _ p
 refine⟨⟨by rw[GB];exact I.len,λr m=>?_,?_,λr j e=>?_,λz=>absurd z (Nat.succ_ne_zero _),λ_ r l=>?_,λr j m l e=>?_,λ_=>rfl,λr u P N=>?_,λr j l e N=>?_⟩,qW K λa U=>?_⟩
 .obtain⟨J,S⟩:=List.mem_filter.mp m
  simp only[Bool.and_eq_true,Option.isNone_iff_eq_none]at S
  exact⟨o r J,S.1⟩
 .exact Nat.le_trans (length_filter_le _ _) N
 .rw[pt]at e
  show j<b.k+1
  split at e
  .cases e;omega
  .have:=I.lt r j e;omega
 .show bo (cp b.rk b.k b.fr) r=some 0
  rw[pt];rcases Nat.eq_zero_or_pos b.k with h|h
  .rw[I.zero h,if_pos l,h]
  .have:=I.g h r l
   split
   .rename_i z;rw[(I.frn r z).2]at this;cases this
   .exact this
 .have e:bo (cp b.rk b.k b.fr) r=some j:=e
  rw[pt]at e;split at e
  .rename_i C
   cases e;have O:0<b.k:=by
    rcases Nat.eq_zero_or_pos b.k with h|h
    .rw[I.zero h]at C;exact absurd C l
    .exact h
   have A:=I.nx O
   rw[A]at C;obtain⟨J,S⟩:=List.mem_filter.mp C;simp only[Bool.and_eq_true]at S
   refine⟨O,J,yP (led_iff.mp S.2) λt _ z=>?_⟩
   cases e:bo b.rk t with
   |none=>rw[e]at z;cases z
   |some i=>
    refine⟨i,?_,I.lt t i e⟩
    show bo (cp b.rk b.k b.fr) t=_
    rw[pt,if_neg (λq=>by rw[(I.frn t q).2]at e;cases e),e]
  .obtain⟨J,S,s⟩:=I.p r j m l e
   refine⟨J,S,yP s λt _ ⟨i,hi,hlt⟩=>⟨i,?_,hlt⟩⟩
   show bo (cp b.rk b.k b.fr) t=_
   rw[pt,if_neg (λq=>by rw[(I.frn t q).2]at hi;cases hi),hi]
 .have P:bo (cp b.rk b.k b.fr) r=none:=P
  rw[pt]at P;split at P
  .cases P
  rename_i L;have N:led (ch r) (w.stp r) λt=>∃i,bo (cp b.rk b.k b.fr) t=some i/\i+1<b.k+1:=N
  have N:led (ch r) (w.stp r) λt=>∃i,bo b.rk t=some i/\i<b.k:=yP N λt _ ⟨i,hi,hlt⟩=>by
   rw[pt]at hi;split at hi
   .cases hi;omega
   .exact⟨i,hi,by omega⟩
  rcases Nat.eq_zero_or_pos b.k with h|h
  .cases f:ch r with
   |true=>
    rw[f]at N;obtain⟨t,_,i,_,z⟩:=led_t.mp N;omega
   |false=>
    rw[f]at N;obtain⟨t,k⟩:=exists_mem_of_ne_nil _ (n r u);obtain⟨i,_,z⟩:=led_f.mp N t k
    omega
  .refine L ?_
   rw[I.nx h];refine List.mem_filter.mpr ⟨u,?_⟩
   rw[P];simp only[Option.isNone_none,Bool.true_and]
   exact led_iff.mpr (yP N λt _ ⟨i,hi,_⟩=>by rw[hi];rfl)
 .have e:bo (cp b.rk b.k b.fr) r=some j:=e
  have N:led (ch r) (w.stp r) λt=>∃i,bo (cp b.rk b.k b.fr) t=some i/\i+1<j:=N
  have v:j<=b.k:=by
   rw[pt]at e;split at e
   .cases e;omega
   .have:=I.lt r j e;omega
  have N:led (ch r) (w.stp r) λt=>∃i,bo b.rk t=some i/\i+1<j:=yP N λt _ ⟨i,hi,hlt⟩=>by
   rw[pt]at hi;split at hi
   .cases hi;omega
   .exact⟨i,hi,hlt⟩
  rw[pt]at e;split at e
  .rename_i C
   cases e;have O:0<b.k:=by
    rcases Nat.eq_zero_or_pos b.k with h|h
    .rw[I.zero h]at C;exact absurd C l
    .exact h
   have d:=C
   rw[I.nx O]at d;exact I.m1 r (List.mem_filter.mp d).1 (I.frn r C).2 N
  .exact I.m2 r j l e N
 .obtain⟨J,S⟩:=I.frn a U
  unfold bo at S;rw[JK,JJ (by rw[I.len];exact J)]at S
  rw[JJ (by rw[I.len];exact J)]
  simpa using S
noncomputable abbrev GR(w:Wd)(U:List Bool)(g c:List Nat)(b:RS):Ev:=[JT w.enc,JT (nA U),JT (ay g),JT (ay c),some ⟨.lst .leaf,eY b.rk⟩,JT (.int (b.k:Int)),JT (ay b.fr),b.x8,none]
noncomputable abbrev kB:FS:=(ax (cM 7 (aF (aa 6))
  (cg 4 (aa 5) (aa 7)))
  (ax (jQ 5 (eK (.int 1)))
  (aB false 6 (zu 4 bX (ae (aa 0) (ae (aa 1) (ae (aa 2) (ae (aa 4) ah))))))))
theorem wG{w:Wd}(ok:w.Ok0){c:List Nat}{b:RS}(g:cl.length=w.n)(n:∀r∈thr,w.stp r≠[])(o:∀r∈thr,r<w.n)(N:thr.length<=1000)(I:RI w (ig cl) thr c b)(K:b.fr≠[]):∃v,kB (GR w cl thr c b)=.nx (GR w cl thr c v)/\RI w (ig cl) thr c v/\bU v.rk<bU b.rk:=by
 obtain⟨y,e,_⟩:=G4 rm (λ(l:List (Option Nat)) r=>l.set r (some b.k)) (Inv:=λl r=>l.length=w.n/\∀t∈r,t<w.n) (i:=7) (body:=cg 4 (aa 5) (aa 7))
  (G:=λl x=>[JT w.enc,JT (nA cl),JT (ay thr),JT (ay c),some ⟨.lst .leaf,eY l⟩,JT (.int (b.k:Int)),JT (ay b.fr),x,none])
  (λ_ _=>by simp) (λ_ _ _=>by simp) (λl r U ⟨h1,h2⟩=>by
   have m:=h2 r mem_cons_self
   refine⟨?_,by rw[length_set];exact h1,λt u=>h2 t (JL _ u)⟩
   rw[F8 (ds:=l.map oD) (j:=r) (k:=(r:Int)) rfl (au rfl) (au rfl) (nj (by rw[length_map,h1];exact m)) rfl]
   simp[map_set,oD]) b.fr b.rk b.x8 ⟨I.len,λt u=>(I.frn t u).1⟩
 obtain⟨d,C⟩:=RI.step (y:=y) n o N I K
 refine⟨⟨cp b.rk b.k b.fr,b.k+1,uu w (ig cl) thr (cp b.rk b.k b.fr),y⟩,?_,d,C⟩
 have R:=bE (fi:=aF (aa 6)) (Γ:=GR w cl thr c b) (bg (ds:=b.fr.map rm) (au rfl) rfl) e
 have f:=vc ok (cl:=cl) (thr:=thr) (rk:=cp b.rk b.k b.fr) g o (by rw[GB];exact I.len) N
 unfold kB;rw[o8,R];have X:om ⟨.lst .leaf,ay (uu w (ig cl) thr (cp b.rk b.k b.fr))⟩=true:=by
  unfold om;simp[aV]
 have a:∀Γ:Ev,Γ=[JT w.enc,JT (nA cl),JT (ay thr),JT (ay c),some ⟨.lst .leaf,eY (cp b.rk b.k b.fr)⟩,JT (.int ((b.k:Int)+1)),JT (ay b.fr),y,none] ->
   zu 4 bX (ae (aa 0) (ae (aa 1) (ae (aa 2) (ae (aa 4) ah)))) Γ=.ok ⟨.lst .leaf,ay (uu w (ig cl) thr (cp b.rk b.k b.fr))⟩ Γ:=λΓ E=>by
  subst E;unfold zu;simp[f,X]
 have p:b.fr.foldl (λl r=>l.set r (some b.k)) b.rk=cp b.rk b.k b.fr:=rfl
 rw[p];simp[a _ rfl]
theorem fM{w:Wd}(ok:w.Ok0){goal:List Nat}(y:cl.length=w.n)(n:∀r∈thr,w.stp r≠[])(o:∀r∈thr,r<w.n)(N:thr.length<=1000)(a:∀r∈goal,r<w.n)(p:goal.length<=1000):∃E,eZ [w.enc,nA cl,ay thr,ay goal]=.ok ⟨.lst .leaf,eY E⟩/\RightG w.n w.stp (ig cl) thr goal E/\FN w.stp (ig cl) goal E:=by
 have O:=ok.lo
 have C:=ok.h24
 have l:RI w (ig cl) thr goal ⟨w.os.map λ_=>none,0,goal,none⟩:=by
  have z:∀r,bo (w.os.map λ_=>none) r=none:=λr=>by
   unfold bo;rw[JK,getElem?_map]
   cases w.os[r]?<;>rfl
  refine⟨by simp[O],λr m=>⟨a r m,z r⟩,p,λr j e=>(by rw[z]at e;cases e),λ_=>rfl,λh=>absurd h (by simp),λr j _ _ e=>(by rw[z]at e;cases e),λh=>absurd h (by simp),λr u _ N=>?_,λr j _ e=>(by rw[z]at e;cases e)⟩
  have N:led (ig cl r) (w.stp r) λt=>∃i,bo (w.os.map λ_=>none) t=some i/\i+1<0:=N
  cases f:ig cl r with
  |true=>
   rw[f]at N;obtain⟨t,_,i,_,z⟩:=led_t.mp N;omega
  |false=>
   rw[f]at N;obtain⟨t,k⟩:=exists_mem_of_ne_nil _ (n r u);obtain⟨i,_,z⟩:=led_f.mp N t k
   omega
 obtain⟨v,e,I,L⟩:=G9 (c:=aG bI (aa 6)) (g:=kB) (G:=GR w cl thr goal) (test:=λb=>!b.fr.isEmpty) (Inv:=RI w (ig cl) thr goal) (meas:=λb=>bU b.rk) (λb I=>by simp) (λb I Z=>wG ok y n o N I (by intro z;rw[z]at Z;simp at Z)) 1000 _ l (by
  have:bU (w.os.map λ_=>none)<=w.os.length:=by unfold bU;exact Nat.le_trans (length_filter_le _ _) (by simp)
  show bU (w.os.map λ_=>none)<1000
  omega)
 refine⟨v.rk,?_,I.right n (by simpa using L),I.m2⟩
 refine aQ ?_
 have co:∀Γ:Ev,Γ.length=9->Γ[0]?=some (JT w.enc)->aw .leaf 8 (aF (aq (aa 0) (eK (.int 0)))) aR (eK .none) Γ=.ok ⟨.lst .leaf,.list (w.os.map λ_=>.none)⟩ Γ:=λΓ J S=>by
  have:=nr (λd:D=>d) w.os (λ_=>⟨.leaf,.none⟩) (s:=.leaf) (i:=8) (fi:=aF (aq (aa 0) (eK (.int 0)))) (fe:=eK .none) (st:=true) (Γ:=Γ) (by simp[S,Wd.enc]) (by omega) rfl (by omega) (λx A=>by simp)
  simpa using this
 have e:sG (aG bI (aa 6)) kB 1000 [JT w.enc,JT (nA cl),JT (ay thr),JT (ay goal),some ⟨.lst .leaf,.list (w.os.map λ_=>.none)⟩,JT (.int 0),JT (ay goal),none,none]=.nx (GR w cl thr goal v):=by
  have q:eY (w.os.map λ_=>none)=.list (w.os.map λ_=>.none):=by
   unfold eY;rw[map_map];rfl
  rw[<-q];exact e
 unfold iR;rw[o8,DI,co _ rfl rfl];simp[bp]
 unfold zC;rw[e];simp
theorem Ct{c:Str}{r:List Str}(f:PyData.strOk c=true)(h:∀x∈r,PyData.strOk x=true):bw false (.str c) (bx r)=some (.bool (r.contains c)):=by
 have P:iX (r.map PyData.str):=λa U=>by
  obtain⟨x,A,rfl⟩:=List.mem_map.mp U;exact⟨x,rfl,h x A⟩
 rw[bx,BE f P];congr 2
 unfold has;simp only[List.any_map]
 rw[Bool.eq_iff_iff,any_eq_true,contains_iff_mem];constructor
 .rintro⟨x,A,e⟩
  have:PyData.eqv (.str x) (.str c)=true:=e
  have:x=c:=by simpa[PyData.eqv]using this
  rw[<-this];exact A
 .intro A
  exact⟨c,A,by show PyData.eqv (.str c) (.str c)=true;simp[PyData.eqv]⟩
theorem Wd.Ok.check{w:Wd}(ok:w.Ok):cx [w.enc]=.ok ⟨.leaf,.none⟩:=rJ (ok.g.wk (b:=24) ok.h24) (by omega) (ok.g.isW ok.h1 ok.h24)
end KC
namespace T
open PySem PySem.Spec L2
open PyProof.Rows hiding St
theorem EW{m:Type}(j:m->D){i:Nat}{body:FS}{Inv:List m->Ev->Prop}(Z:∀a r C,Inv (a::r) C->i<C.length/\∃X,body (C.set i (JT (j a)))=.nx X/\Inv r X):∀(Y:List m)(C:Ev),Inv Y C->∃X,bf i body (Y.map j) C=.nx X/\Inv [] X
 |[],C,h=>⟨C,rfl,h⟩
 |a::r,C,h=>by
  obtain⟨l,I,J,S⟩:=Z a r C h;obtain⟨o,e,b⟩:=EW j Z r I S;refine⟨o,?_,b⟩
  rw[map_cons,bf,if_pos l,J];exact e
theorem zQ{C:Ev}{i j:Nat}{e:F1}{s:Sh}{k:Int}{ds:List D}{d:D}(J:C[i]?=some (some ⟨.lst .leaf,.list ds⟩))(Z:e C=.ok ⟨s,.int k⟩ C)(l:dg ds.length k=some j)(U:ds[j]?=some d):gH i e C=.ok ⟨.leaf,d⟩ C:=by
 unfold gH ik;rw[J];simp only[if_true,Z,CZ]
 unfold xJ;rw[J];simp only[l,U]
end T
namespace KC
open PySem PySem.Spec L2 T PySem.SeqAt
open PyProof.Rows hiding St
theorem Dt{n:Nat}{G y o:List D}(g:Gw (n:Int) n G y o)(J:1<=n)(I:n<=24):∃w:Wd,w.Ok/\w.enc=eD G y o/\w.n=n:=by
 have C:∀l:List D,(∀r∈l,∃Y,r=.list Y/\iX Y)->∃M:List (List Str),l=M.map bx/\∀r∈M,∀c∈r,PyData.strOk c=true:=by
  have one:∀Y:List D,iX Y->∃r:List Str,Y=r.map .str/\∀c∈r,PyData.strOk c=true:=by
   intro Y;induction Y with
   |nil=>intro _;exact⟨[],rfl,by simp⟩
   |cons a r E=>
    intro h;obtain⟨x,rfl,A⟩:=h a mem_cons_self;obtain⟨t,rfl,u⟩:=E λb Z=>h b (JL _ Z)
    exact⟨x::t,rfl,λc f=>(JI f).elim (λe=>by rw[e];exact A) (u c)⟩
  intro l;induction l with
  |nil=>intro _;exact⟨[],rfl,by simp⟩
  |cons a r E=>
   intro h;obtain⟨Y,rfl,A⟩:=h a mem_cons_self;obtain⟨x,rfl,d⟩:=one Y A;obtain⟨M,rfl,H⟩:=E λb Z=>h b (JL _ Z)
   exact⟨x::M,rfl,λc f=>(JI f).elim (λe=>by rw[e];exact d) (H c)⟩
 have P:∀l:List D,(∀r∈l,∃p:List Int,r=.list (p.map .int)/\p.length<=30/\p≠[]/\(∀t∈p,0<=t/\t<(n:Int))/\p.Pairwise (· < ·))->∃S:List (List Nat),l=S.map ay/\∀r∈S,r≠[]/\r.length<=30/\∀t∈r,t<n:=by
  have one:∀p:List Int,(∀t∈p,0<=t/\t<(n:Int))->∃r:List Nat,p.map PyData.int=r.map rm/\r.length=p.length/\∀t∈r,t<n:=by
   intro p;induction p with
   |nil=>intro _;exact⟨[],rfl,rfl,by simp⟩
   |cons a r E=>
    intro h;have U:=h a mem_cons_self
    obtain⟨t,e,i,u⟩:=E λb Z=>h b (JL _ Z)
    refine⟨a.toNat::t,?_,by simp[i],λc f=>(JI f).elim (λe=>by omega) (u c)⟩
    rw[map_cons,map_cons,e];congr 2
    omega
  intro l;induction l with
  |nil=>intro _;exact⟨[],rfl,by simp⟩
  |cons a r E=>
   intro h;obtain⟨p,rfl,L,v,j,_⟩:=h a mem_cons_self;obtain⟨x,e,i,A⟩:=one p j;obtain⟨S,rfl,R⟩:=E λb Z=>h b (JL _ Z)
   refine⟨x::S,by rw[map_cons,e],λc f=>(JI f).elim (λe=>by
    subst e;exact⟨λz=>v (List.length_eq_zero_iff.mp (by rw[<-i,z];rfl)),by omega,A⟩) (R c)⟩
 obtain⟨M,k,H⟩:=C y λr m=>let⟨Y,a,b,_⟩:=g.m r m;⟨Y,a,b⟩
 obtain⟨S,q,R⟩:=P o g.s;subst k q;refine⟨⟨n,G,M,S⟩,⟨g,J,I,?_,?_,R,H⟩,rfl,rfl⟩
 .have:=g.lm;simpa using this
 .have:=g.ls;simpa using this
theorem Ho(l:List Int):intsOf (l.map .int)=some l:=by
 induction l with
 |nil=>rfl
 |cons a r E=>rw[map_cons,intsOf,E];rfl
end KC
namespace KQ
open PySem PySem.Spec L2 T PySem.SeqAt KC
open PyProof.Rows hiding St
variable{k:Nat}{Y:List D}{at' lim:Int}
noncomputable def kT:FS:=(ax (aB false 3 (az ba (eK (.int 1)) (az bN (ar 2 aE (ae (aa 0) (ae (aa 1) ah))) (aa 2))))
  (ax (aB true 4 (aH .leaf ah))
  (ax (aB true 5 (aH .leaf ah))
  (ax (aB true 6 (aH .leaf ah))
  (ax (cM 7 (i5 (ae (aa 3) ah))
  (ax (aB false 8 (ar 2 aE (ae (aa 0) (ae (az ba (az ba (aa 1) (eK (.int 1))) (aa 7)) ah))))
  (ax (fS 4 (ar 3 ai (ae (aa 8) (ae (eK (.int 0)) (ae (eK (.int 2)) ah)))))
  (ax (fS 5 (aw .leaf 11 (fK "abc") (aG aj (az bP (ar 3 ai (ae (aa 8) (ae (az ba (eK (.int 1)) (bc (eh "abc") (ae (aa 11) ah))) (ae (eK (.int 2)) ah)))) (eK (.int 1)))) (aa 11)))
  (ax (aB false 9 (aw .leaf 10 (i5 (ae (aa 3) ah)) (aG aj (az bP (ar 3 ai (ae (aa 8) (ae (az ba (eK (.int 4)) (aa 10)) (ae (az ba (eK (.int 2)) (bc uZ (ae (az dS (aa 3) (eK (.int 3))) ah))) ah)))) (eK (.int 1)))) (aa 10)))
  (ax (bA (aG aj (az bP (aa 9) (aH .leaf ah))) (aB false 9 (aH .leaf (ae (ar 3 ai (ae (aa 8) (ae (az ba (eK (.int 4)) (aa 3)) (ae (aa 3) ah)))) ah))) aD)
  (fS 6 (aa 9))))))))
  (aN (cG (ae (bh 4) (ae (bh 5) (ae (bh 6) ah))))))))))
noncomputable def dF:List JS->Res:=aU 12 kT
noncomputable abbrev eW:FS:=(ax (aB false 8 (ar 2 aE (ae (aa 0) (ae (az ba (az ba (aa 1) (eK (.int 1))) (aa 7)) ah))))
  (ax (fS 4 (ar 3 ai (ae (aa 8) (ae (eK (.int 0)) (ae (eK (.int 2)) ah)))))
  (ax (fS 5 (aw .leaf 11 (fK "abc") (aG aj (az bP (ar 3 ai (ae (aa 8) (ae (az ba (eK (.int 1)) (bc (eh "abc") (ae (aa 11) ah))) (ae (eK (.int 2)) ah)))) (eK (.int 1)))) (aa 11)))
  (ax (aB false 9 (aw .leaf 10 (i5 (ae (aa 3) ah)) (aG aj (az bP (ar 3 ai (ae (aa 8) (ae (az ba (eK (.int 4)) (aa 10)) (ae (az ba (eK (.int 2)) (bc uZ (ae (az dS (aa 3) (eK (.int 3))) ah))) ah)))) (eK (.int 1)))) (aa 10)))
  (ax (bA (aG aj (az bP (aa 9) (aH .leaf ah))) (aB false 9 (aH .leaf (ae (ar 3 ai (ae (aa 8) (ae (az ba (eK (.int 4)) (aa 3)) (ae (aa 3) ah)))) ah))) aD)
  (fS 6 (aa 9)))))))
noncomputable def pH(k:Nat):D:=.str ⟨#[97+k]⟩
theorem nh{C:Ev}:fK "abc" C=.ok ⟨[0,1,2].map pH,true⟩ C:=by
 have:Ef "abc"=[0,1,2].map pH:=by kernel_rfl
 unfold fK;rw[this]
theorem FV(h:k∈[0,1,2]):k<3:=by
 simp at h
 omega
theorem uG(h:k∈[0,1,2]):eh "abc" [pH k]=some (.int (k:Int)):=by
 simp at h
 rcases h with rfl|rfl|rfl<;>kernel_rfl
theorem oG{G y o:List D}{many:Int}{n:Nat}{x8 x9:Option PV}(A:ic Y)(U:0<=at')(C:1<=many)(x:many<=24)(h:Gw many n G y o)(hn:n<=30){r:Nat} :
  ∃l v Z x8' X,eW [JT (.list Y),JT (.int at'),JT (.int lim),JT (.int many),some ⟨.lst .leaf,.list G⟩,some ⟨.lst .leaf,.list y⟩,some ⟨.lst .leaf,.list o⟩,JT (.int (r:Nat)),x8,x9,none,none]
   = .nx [JT (.list Y),JT (.int at'),JT (.int lim),JT (.int many),some ⟨.lst .leaf,.list l⟩,some ⟨.lst .leaf,.list v⟩,some ⟨.lst .leaf,.list Z⟩,JT (.int (r:Nat)),x8',X,none,none]/\Gw many (n+1) l v Z:=by
 obtain⟨c,hc⟩:=Cz A (k:=at'+1+(r:Int)) (by omega)
 have lo:=h.lo
 have lm:=h.lm
 have m:=h.ls
 have c5:∀(Γ:Ev),Γ.length=12->Γ[8]?=some (JT (.int c))->(aw .leaf 11 (fK "abc") (aG aj (az bP (ar 3 ai (ae (aa 8) (ae (az ba (eK (.int 1)) (bc (eh "abc") (ae (aa 11) ah))) (ae (eK (.int 2)) ah)))) (eK (.int 1)))) (aa 11)) Γ
   = .ok ⟨.lst .leaf,.list (([0,1,2].filter λk:Nat=>aX c (1+(k:Int)) 2==1).map pH)⟩ Γ:=λΓ N h8=>by
  refine i7 pH [0,1,2] (λk:Nat=>aX c (1+(k:Int)) 2==1) (λk=>⟨.leaf,pH k⟩) (st:=true) nh (by omega) rfl (by simp) (λk O=>?_) λk O _=>?_
  .have g11:(Γ.set 11 (JT (pH k)))[11]?=some (JT (pH k)):=by rw[getElem?_set_self (by omega)]
   have g8:(Γ.set 11 (JT (pH k)))[8]?=some (JT (.int c)):=by rw[getElem?_set_ne (by omega)];exact h8
   exact bQ (aC (cH (aA (au g8) (aA (aC aS (bt (aA (au g11) ao) (uG O)) sH) (aA aS ao))) (qe (by omega) (by have:=FV O;omega) (by omega) (by omega)) rfl rfl) aS eq_int)
  .exact⟨au (by rw[getElem?_set_self (by omega)]),rfl⟩
 generalize H:(([0,1,2].filter λk:Nat=>aX c (1+(k:Int)) 2==1).map pH)=M at c5
 have rM:iX M/\M.length<=30/\CK (.list M)=true:=by
  refine⟨?_,?_,?_⟩
  .rw[<-H]
   intro a U;obtain⟨k,O,rfl⟩:=List.mem_map.mp U;have:=FV (List.mem_filter.mp O).1
   exact⟨_,rfl,me (by omega)⟩
  .rw[<-H,length_map]
   exact Nat.le_trans (length_filter_le _ _) (by simp)
  .rw[<-H]
   simp only[filter_cons,List.filter_nil]
   have:=Ie (aX c (1+((0:Nat):Int)) 2==1) (aX c (1+((1:Nat):Int)) 2==1) (aX c (1+((2:Nat):Int)) 2==1)
   revert this
   cases(aX c (1+((0:Nat):Int)) 2==1)<;>cases(aX c (1+((1:Nat):Int)) 2==1)<;>cases(aX c (1+((2:Nat):Int)) 2==1)<;>exact λh=>h
 have J:∀(Γ:Ev),Γ.length=12->Γ[8]?=some (JT (.int c))->Γ[3]?=some (JT (.int many))->aw .leaf 10 (i5 (ae (aa 3) ah)) (aG aj (az bP (ar 3 ai (ae (aa 8) (ae (az ba (eK (.int 4)) (aa 10)) (ae (az ba (eK (.int 2)) (bc uZ (ae (az dS (aa 3) (eK (.int 3))) ah))) ah)))) (eK (.int 1)))) (aa 10) Γ
   = .ok ⟨.lst .leaf,.list (((rngD 0 many.toNat).filter λd=>match d with|.int k=>aX c (4+k) (2+(if decide (3<many)then 1 else 0))==1|_=>false).map λd=>d)⟩ Γ:=λΓ N h8 I=>by
  refine iQ (c:=λd=>match d with|.int k=>aX c (4+k) (2+(if decide (3<many)then 1 else 0))==1|_=>false) (f:=λd=>⟨.leaf,d⟩) (st:=true) (wb (k:=many) (aA (au I) ao) rfl (by omega) (by omega)) (by omega) rfl (by rw[EG];omega) (λd hd=>?_) λd hd _=>?_
  .obtain⟨k,O,rfl⟩:=C5 hd
   have g10:(Γ.set 10 (JT (.int (0+(k:Int)))))[10]?=some (JT (.int (0+(k:Int)))):=by rw[getElem?_set_self (by omega)]
   have g8:(Γ.set 10 (JT (.int (0+(k:Int)))))[8]?=some (JT (.int c)):=by rw[getElem?_set_ne (by omega)];exact h8
   have g3:(Γ.set 10 (JT (.int (0+(k:Int)))))[3]?=some (JT (.int many)):=by rw[getElem?_set_ne (by omega)];exact I
   have b1:(1:Int)<=2+(if decide (3<many)then 1 else 0)/\(2:Int)+(if decide (3<many)then 1 else 0)<=1000:=by split<;>omega
   exact bQ (aC (cH (aA (au g8) (aA (aC aS (au g10) sH) (aA (aC aS (bt (aA (aC (au g3) aS rfl) ao) rfl) sH) ao))) (qe (by omega) (by omega) b1.1 b1.2) rfl rfl) aS eq_int)
  .obtain⟨k,O,rfl⟩:=C5 hd
   exact⟨au (by rw[getElem?_set_self (by omega)]),rfl⟩
 obtain⟨p,hT,hts1,hts2,hts3⟩:=Ah many.toNat (λd=>match d with|.int k=>aX c (4+k) (2+(if decide (3<many)then 1 else 0))==1|_=>false)
 rw[hT]at J;have fin:∀(Γ:Ev)(T:List Int),(T.length<=30/\T≠[]/\(∀t∈T,0<=t/\t<many)/\T.Pairwise (· < ·))->Γ=[JT (.list Y),JT (.int at'),JT (.int lim),JT (.int many),some ⟨.lst .leaf,.list (G++[.int (aX c 0 2)])⟩,some ⟨.lst .leaf,.list (y++[.list M])⟩,some ⟨.lst .leaf,.list o⟩,JT (.int (r:Nat)),JT (.int c),JT (.list (T.map .int)),none,none] ->
   ∃l v Z x8' X,fS 6 (aa 9) Γ=.nx [JT (.list Y),JT (.int at'),JT (.int lim),JT (.int many),some ⟨.lst .leaf,.list l⟩,some ⟨.lst .leaf,.list v⟩,some ⟨.lst .leaf,.list Z⟩,JT (.int (r:Nat)),x8',X,none,none]/\Gw many (n+1) l v Z:=λΓ T hT2 E=>by
  subst E;refine⟨G++[.int (aX c 0 2)],y++[.list M],o++[.list (T.map .int)],_,_,CD rfl (au rfl) rfl (by omega),by simp;omega,by simp;omega,by simp;omega,λa U=>?_,λa U=>?_,λa U=>?_⟩
  .rcases JH U with z|z
   .exact h.o a z
   .have:=yA (c:=c) (k:=0) (b:=2) (by omega) (by omega) (by omega) (by omega)
    rw[List.mem_singleton.mp z];rcases(by omega:aX c 0 2=0\/aX c 0 2=1)with e|e
    .exact .inl (by rw[e])
    .exact .inr (by rw[e])
  .rcases JH U with z|z
   .exact h.m a z
   .exact⟨M,List.mem_singleton.mp z,rM.1,rM.2.1,by rw[List.mem_singleton.mp z];exact rM.2.2⟩
  .rcases JH U with z|z
   .exact h.s a z
   .exact⟨T,List.mem_singleton.mp z,hT2⟩
 have g:=dh (i:=8) (cH (fl:=ae (aa 0) (ae (az ba (az ba (aa 1) (eK (.int 1))) (aa 7)) ah)) (Γ:=[JT (.list Y),JT (.int at'),JT (.int lim),JT (.int many),some ⟨.lst .leaf,.list G⟩,some ⟨.lst .leaf,.list y⟩,some ⟨.lst .leaf,.list o⟩,JT (.int (r:Nat)),x8,x9,none,none]) (aA (au rfl) (aA (aC (aC (au rfl) aS sH) (au rfl) sH) ao)) hc rfl rfl) rfl (by simp)
 have R:fS 4 (ar 3 ai (ae (aa 8) (ae (eK (.int 0)) (ae (eK (.int 2)) ah)))) [JT (.list Y),JT (.int at'),JT (.int lim),JT (.int many),some ⟨.lst .leaf,.list G⟩,some ⟨.lst .leaf,.list y⟩,some ⟨.lst .leaf,.list o⟩,JT (.int (r:Nat)),JT (.int c),x9,none,none]=_:=
  CD rfl (cH (aA (au rfl) (aA aS (aA aS ao))) (qe (by omega) (by omega) (by omega) (by omega)) rfl rfl) rfl (by omega)
 have w:=CD (i:=5) (Γ:=[JT (.list Y),JT (.int at'),JT (.int lim),JT (.int many),some ⟨.lst .leaf,.list (G++[.int (aX c 0 2)])⟩,some ⟨.lst .leaf,.list y⟩,some ⟨.lst .leaf,.list o⟩,JT (.int (r:Nat)),JT (.int c),x9,none,none]) rfl (c5 _ rfl rfl) rfl (by omega)
 have j:=dh (i:=9) (Γ:=[JT (.list Y),JT (.int at'),JT (.int lim),JT (.int many),some ⟨.lst .leaf,.list (G++[.int (aX c 0 2)])⟩,some ⟨.lst .leaf,.list (y++[.list M])⟩,some ⟨.lst .leaf,.list o⟩,JT (.int (r:Nat)),JT (.int c),x9,none,none]) (J _ rfl rfl rfl) rfl (by simp)
 have t:aG aj (az bP (aa 9) (aH .leaf ah)) [JT (.list Y),JT (.int at'),JT (.int lim),JT (.int many),some ⟨.lst .leaf,.list (G++[.int (aX c 0 2)])⟩,some ⟨.lst .leaf,.list (y++[.list M])⟩,some ⟨.lst .leaf,.list o⟩,JT (.int (r:Nat)),JT (.int c),JT (.list (p.map .int)),none,none]
   = .ok (decide ((p.map PyData.int).length=0)) _:=bQ (aC (au rfl) (ie (s:=.leaf) ao rfl rfl rfl) (BU (C4 rowI_map)))
 cases P:decide ((p.map PyData.int).length=0)with
 |true=>
  rw[P]at t;obtain⟨L,q,K,y8,y9,S,f2⟩:=fin _ [aX c (4+many) many] ⟨by simp,by simp,λt u=>by rw[List.mem_singleton.mp u];exact yA (by omega) (by omega) (by omega) (by omega),List.pairwise_singleton _ _⟩ rfl
  exact⟨L,q,K,y8,y9,af g (af R (af w (af j (af (aP t (λ_=>dh (ie (s:=.leaf) (aA (cH (aA (au rfl) (aA (aC aS (au rfl) sH) (aA (au rfl) ao))) (qe (by omega) (by omega) (by omega) (by omega)) rfl rfl) ao) rfl rfl rfl) rfl (by simp)) nofun) S)))),f2⟩
 |false=>
  rw[P]at t;obtain⟨L,q,K,y8,y9,S,f2⟩:=fin _ p ⟨by omega,(λz=>by rw[z]at P;cases P),(λt u=>by have:=hts1 t u;omega),hts2⟩ rfl
  exact⟨L,q,K,y8,y9,af g (af R (af w (af j (af (aP t nofun (λ_=>rfl)) S)))),f2⟩
theorem rB(A:ic Y)(U:0<=at')(N:1<=lim)(b:lim<=24):∃(n:Nat)(G y o:List D),dF [.list Y,.int at',.int lim]=.ok ⟨W3,eD G y o⟩/\Gw (n:Int) n G y o/\1<=n/\(n:Int)<=lim:=by
 obtain⟨c,f⟩:=Cz A (k:=at') U
 have u:0<=c % lim:=Int.emod_nonneg _ (by omega)
 have g:c % lim<lim:=Int.emod_lt_of_pos _ (by omega)
 generalize t:1+c % lim=many at *
 have K:aB false 3 (az ba (eK (.int 1)) (az bN (ar 2 aE (ae (aa 0) (ae (aa 1) ah))) (aa 2))) [JT (.list Y),JT (.int at'),JT (.int lim),none,none,none,none,none,none,none,none,none]
   = .nx [JT (.list Y),JT (.int at'),JT (.int lim),JT (.int many),none,none,none,none,none,none,none,none]:=by
  rw[<-t];exact dh (aC aS (aC (cH (aA (au rfl) (aA (au rfl) ao)) f rfl rfl) (au rfl) (d8 (by omega))) sH) rfl (by simp)
 obtain⟨X,e,G,y,o,x,x8,x9,E,w⟩:=GY (P:=λn C=>∃G y o x x8 x9,C=[JT (.list Y),JT (.int at'),JT (.int lim),JT (.int many),some ⟨.lst .leaf,.list G⟩,some ⟨.lst .leaf,.list y⟩,some ⟨.lst .leaf,.list o⟩,x,x8,x9,none,none]/\Gw many n G y o) (i:=7) (body:=eW) (rngD 0 many.toNat) 0
  [JT (.list Y),JT (.int at'),JT (.int lim),JT (.int many),some ⟨.lst .leaf,.list []⟩,some ⟨.lst .leaf,.list []⟩,some ⟨.lst .leaf,.list []⟩,none,none,none,none,none] ⟨[],[],[],none,none,none,rfl,rfl,rfl,rfl,λa U=>(nomatch U),λa U=>(nomatch U),λa U=>(nomatch U)⟩ (λm d C I J S ⟨G,y,o,x,x8,x9,E,w⟩=>by
   subst E;obtain⟨k,O,rfl⟩:=C5 I;rw[EG]at S;rw[Int.zero_add];obtain⟨l,v,Z,h,q,H,z⟩:=oG (at':=at') (lim:=lim) (many:=many) (x8:=x8) (x9:=x9) A U (by omega) (by omega) w (by omega) (r:=k)
   exact⟨by simp,_,H,l,v,Z,_,h,q,rfl,z⟩)
 subst E;rw[EG,Nat.zero_add]at w;have j:((many.toNat:Nat):Int)=many:=by omega
 refine⟨many.toNat,G,y,o,aQ (af K (af (lA (ie (s:=.leaf) ao rfl rfl rfl) rfl (by simp)) (af (lA (ie (s:=.leaf) ao rfl rfl rfl) rfl (by simp)) (af (lA (ie (s:=.leaf) ao rfl rfl rfl) rfl (by simp)) (af (bE (wb (k:=many) (aA (au rfl) ao) rfl (by omega) (by omega)) e) (aL (dX (aA (p8 (p:=⟨.lst .leaf,.list G⟩) rfl) (aA (p8 (p:=⟨.lst .leaf,.list y⟩) rfl) (aA (p8 (p:=⟨.lst .leaf,.list o⟩) rfl) ao))) rfl rfl) rfl)))))),by rw[j];exact w,by omega,by omega⟩
end KQ
namespace KC
open PySem PySem.Spec L2 T
open PyProof.Rows hiding St
variable{R:List Nat}
noncomputable def dJ:FS:=(aN (ff (az (bq true) (aa 0) (eK .none)) (ff (az (bq true) (aa 1) (eK .none)) (az gG (aa 0) (aa 1)))))
noncomputable def e7:List JS->Res:=aU 2 dJ
noncomputable def jw:FS:=(aN (aw .leaf 3 (aF (aq (aq (aa 0) (eK (.int 2))) (aa 2))) (aG bI (ar 2 e7 (ae (aq (aa 1) (aa 3)) (ae (aq (aa 1) (aa 2)) ah)))) (aa 3)))
noncomputable def cY:List JS->Res:=aU 4 jw
noncomputable def oA:FS:=(aN (ar 4 eZ (ae (aa 0) (ae (aw .leaf 3 (aF (aq (aa 0) (eK (.int 0)))) aR (eK (.bool true))) (ae (aa 1) (ae (aa 2) ah))))))
noncomputable def dC:List JS->Res:=aU 4 oA
noncomputable def eR:FS:=(bA (cQ (aG bI (ar 2 cB (ae (aa 1) (ae (bc aI (ae (aq (aa 0) (eK (.int 0))) ah)) ah))))) Fj aD)
noncomputable def cZ:List JS->Res:=aU 2 eR
noncomputable def fN:FS:=(ax (dQ (ar 1 cx (ae (aa 0) ah)))
  (ax (bA (cQ (aG bI (ar 1 br (ae (aa 2) ah)))) Fj aD)
  (dQ (ar 2 cZ (ae (aa 0) (ae (aa 1) ah))))))
noncomputable def bS:List JS->Res:=aU 3 fN
noncomputable def g9:FS:=(aN (ar 3 dC (ae (aa 0) (ae (aa 1) (ae (aw .leaf 3 (aF (aa 1)) (aG aj (az (bw false) (aa 2) (aq (aq (aa 0) (eK (.int 1))) (aa 3)))) (aa 3)) ah)))))
noncomputable def aY:List JS->Res:=aU 4 g9
open PySem.SeqAt
theorem kh{n:Nat}{b:FL}{C:Ev}{s:Sh}(Y:n<=1000)(h:b C=.ok [⟨s,.int (n:Int)⟩] C):i5 b C=.ok ⟨(List.range n).map rm,true⟩ C:=by
 rw[wb (k:=(n:Int)) h rfl (by omega) (by omega),Int.toNat_natCast,wB]
theorem rms_int{r:List Nat}:r.map rm=(r.map λt:Nat=>(t:Int)).map PyData.int:=by rw[map_map];rfl
theorem Std.sorted{n:Nat}{L:List Nat}(h:Std n L):L.Pairwise (· < ·):=by
 obtain⟨q,rfl⟩:=h;exact List.Pairwise.filter _ List.pairwise_lt_range
theorem kO{n:Nat}(I:n<=24)(h:Std n R):cB [ay R,.int (n:Int)]=.ok ⟨.leaf,.bool true⟩:=by
 have N:=h.len
 rw[ay,rms_int,eO rowI_map (by simp;omega)]
 have J:((R.map λt:Nat=>(t:Int)).map PyData.int).all (inR (n:Int))=true:=by
  rw[all_eq_true];intro d U;obtain⟨i,l,rfl⟩:=List.mem_map.mp U;obtain⟨t,u,rfl⟩:=List.mem_map.mp l;have:=h.lt t u
  simp[inR]
  omega
 have S:dZ ((R.map λt:Nat=>(t:Int)).map PyData.int)=true:=GD (by
  rw[pairwise_map];exact h.sorted.imp λh=>by omega)
 rw[J,S];rfl
theorem g7{w:Wd}(ok:w.Ok)(h:Std w.n R):cZ [w.enc,ay R]=.ok ⟨.leaf,.none⟩:=by
 have O:=ok.g.lo
 have:=kO ok.h24 h
 refine uv (Γ:=bp 2 [w.enc,ay R]) ?_
 simp[eR,bp,Wd.enc,eD,O,this]
theorem zE{w:Wd}(ok:w.Ok)(r:Nat):∀x∈w.mks r,PyData.strOk x=true:=λx A=>by
 unfold Wd.mks at A;rw[JK]at A
 cases e:w.m[r]? with
 |none=>rw[e]at A;simp at A
 |some l=>rw[e]at A;exact ok.mc _ (mem_of_getElem? e) x A
theorem RightG.congr{n:Nat}{d:Nat->List Nat}{a ch':Nat->Bool}{g c:List Nat}{E:List (Option Nat)}(h:RightG n d a g c E)(e:∀r,r<n->a r=ch' r):RightG n d ch' g c E:=
 ⟨h.len,h.g,λr k m l O=>by rw[<-e r m];exact h.p r k m l O,λr m P=>by rw[<-e r m];exact h.z r m P⟩
end KC
namespace T
open PySem PySem.Spec L2
open PyProof.Rows hiding St
variable{X:Cx}
section
variable{K:Fg}{W:XW}{σ:St}{H:Hp}{Q:VK}{D:cP}{fa fb:F1}{fl:FL}
def C3:V->List V->Hp->VK->Prop:=λx L H Q=>∃l Y,∃k:Nat,∃y,x=.ref l/\L=[.int (k:Int),y]/\H l=some (.lst Y)/\k<=Y.length/\Y.length<10000/\Q .non (bF H l (.lst (Y.take k++y::Y.drop k)))
theorem jY:Eu X "list.insert" C3:=by
 intro G s σ H x L v S Q I w c h;obtain⟨l,Y,k,y,rfl,rfl,d,O,P,q⟩:=h
 cases w;obtain⟨b,u,rfl,J,E⟩:∃b a,S=[b,a]/\RelV (.int (k:Int)) b/\RelV y a:=by
  cases c with
  |cons p q=>
   cases q with
   |cons A i=>
    cases i
    exact⟨_,_,rfl,p,A⟩
 obtain⟨t,rfl⟩:=J;obtain⟨z,g,n,r,N,e⟩:=I.lstM d;have Z:(10000:Nat)<=sizeLine:=by decide
 have j:Builtin.List.listFitsIndex (k:Int)=true:=fitsIndex_both (by omega) (by omega)
 have m:g.toArray.size<=sizeLine:=by rw[size_toArray];omega
 generalize f:(k:Int)=kk at j
 refine call_meets F.slot_list_insert ⟨_,e,rfl⟩ F.entry_list_insert (F.args_list_insert_3 _ _ _) (AutoSeq1.list_insert_list_int_val_1 l g.toArray n kk t u (by simp[j]) m) ⟨e,?_⟩
 subst f;refine⟨.non,_,I.lset (its':=g.take k++u::g.drop k) d e ?_ ((r.take k).append (.cons E (r.drop k))) ?_,rfl,q⟩
 .have C:min (k:Int).toNat g.toArray.size=k:=by
   rw[Int.toNat_natCast,size_toArray];omega
  show(have o:=if(k:Int)<0 then((k:Int)+((g.toArray.size:Nat):Int)).toNat else min (k:Int).toNat g.toArray.size;(g.toArray.extract 0 o).push u++g.toArray.extract o)=_
  simp only[if_neg (show ¬(k:Int)<0 by omega),C]
  apply Array.ext'
  simp[List.extract_eq_take_drop,take_of_length_le]
 .simp only[length_append,length_cons,length_take,length_drop]
  omega
def xI(i:Nat)(q p:PV)(C:Ev):OutS:=match C[i]? with
 |some (some ⟨.lst .leaf,.list ds⟩)=>(match q.d with
  |.int k=>if decide (0<=k)&&decide (k<=ds.length)&&decide (ds.length<10000)&&T.coer .leaf p then .nx (C.set i (some ⟨.lst .leaf,.list (ds.take k.toNat++p.d::ds.drop k.toNat)⟩))else .no
  |_=>.no)
 |_=>.no
def nR(i:Nat)(b:FL):FS:=λC=>if ik C[i]? then(match b C with
 |.ok [q,p] I=>xI i q p I
 |.ok _ _=>.no
 |.er c I=>.er c I
 |.no=>.no)else .no
theorem Ax{i:Nat}(h:tS K W (nR i fl) D σ H):dq (oS K "list" C3 (cm i) (tA K W fl)) D σ H:=by
 obtain⟨M,O,Z,C,E,h⟩:=h;unfold nR at h
 cases ho:ik C[i]? with
 |false=>rw[ho]at h;exact h.elim
 |true=>
  rw[ho]at h;obtain⟨t,e0⟩:=zL ho;obtain⟨l,L,J,S,h3,_,_⟩:=E.chgF e0;refine⟨.ref l,J,.inl ⟨rfl,L,.of S⟩,M,O,Z,C,E,?_⟩
  cases e:fl C with
  |er c I=>rw[e]at h;exact λY u s R=>h σ Y u R
  |no=>rw[e]at h;exact h
  |ok G I=>
   rw[e]at h;intro us H1 Gs N A;match G,h,A with
   |[q,p],h,A=>
    match us,A.len1,Gs,A.len2,A with
    |[v1,v2],_,[G1,G2],_,A=>
     have h:fU K W M O D (xI i q p I):=h
     unfold xI at h;split at h
     .rename_i r g
      split at h
      .rename_i k v
       cases f:(decide (0<=k)&&decide (k<=r.length)&&decide (r.length<10000)&&T.coer .leaf p)with
       |false=>rw[f]at h;exact h.elim
       |true=>
        rw[f]at h;simp only[Bool.and_eq_true,decide_eq_true_eq]at f
        obtain⟨⟨⟨k0,k1⟩,kz⟩,hcp⟩:=f;obtain⟨l1,vs1,o,q2,q3,q4,q5⟩:=A.env.dropL.chgF g;rw[J]at o
        cases o;have m:=(A.own 0 v1 q G1 rfl rfl rfl).rep
        rw[v]at m
        cases m;have X:=A.env.nd
        have w:Own K (O++N.flatten) H1 .leaf [] v2 p.d:=by
         refine(A.own 1 v2 p G2 rfl rfl rfl).coer (s:=.leaf) hcp (λa U=>?_) λa U z=>?_
         .rcases JH U with z|z
          .exact JG _ (JF _ z)
          .exact JF _ z
         .exfalso
          have hg:a∈[G1,G2].flatten:=by simp[U]
          obtain⟨n1,n2,n3⟩:=JM X;rcases JH z with y|y
          .exact(JM n1).2.2 a hg a y rfl
          .exact n3 a (JG _ hg) a y rfl
        cases w with
        |leaf rv=>
         obtain⟨kn,rfl⟩:∃kn:Nat,k=(kn:Int):=⟨k.toNat,by omega⟩
         rw[Int.toNat_natCast]at h;have hkn:kn<=vs1.length:=by omega
         have E4:=q5 (vs1.take kn++v2::vs1.drop kn) (r.take kn++p.d::r.drop kn) (by simp;omega) λn x d P b=>by
          by_cases hn:n<kn
          .rw[getElem?_append_left (by simp;omega),getElem?_take,if_pos hn]at P
           rw[getElem?_append_left (by simp;omega),getElem?_take,if_pos hn]at b
           exact q4 n x d P b
          .rw[getElem?_append_right (by simp;omega),length_take,Nat.min_eq_left hkn]at P
           rw[getElem?_append_right (by simp;omega),length_take,Nat.min_eq_left (by omega)]at b
           cases hm:n-kn with
           |zero=>
            rw[hm]at P b
            cases P
            cases b;exact rv
           |succ j=>
            rw[hm,getElem?_cons_succ,List.getElem?_drop]at P b
            exact q4 _ x d P b
         exact⟨l,vs1,kn,v2,rfl,rfl,q2,hkn,by omega,h σ _ _ E4⟩
      .exact h.elim
     .exact h.elim
   |[],h,A=>exact h.elim
   |[_],h,A=>exact h.elim
   |_::_::_::_,h,A=>exact h.elim
end
def Ir(K:Fg)(a b:Addr):It:=
 ⟨λi H=>∃Y U x y,SqL K H a Y/\SqL K H b U/\Y[i]?=some x/\U[i]?=some y,λi H x c=>∃T v w,x=.ref T/\H T=none/\c=bF H T (.tup [v,w])/\∀Y U,SqL K H a Y->SqL K H b U->Y[i]?=some v/\U[i]?=some w,λi H=>∃Y U,SqL K H a Y/\SqL K H b U/\i=min Y.length U.length⟩
theorem tm{P:Program}{w:World}{K:Fg}{elts:List Expr}{k:Nat}{pos:Pos}(a b z TI TO i1 i2:Addr)(D:ZipApart z TI TO i1 i2 a b):vv P w K (.Tuple elts k pos) (Ir K a b) [z,TI,TO,i1,i2] z (λi h=>IsZip h z TI TO .none/\IsPair h TI (.ref i1) (.ref i2)/\(∃a b,IsPair h TO a b)/\h.IsListIter i1 a i/\h.IsListIter i2 b i) where
 mem:=by simp
 obj:=λi h d c f=>by
  obtain⟨hz,hTI,⟨u,v,hTO⟩,⟨e,e1,c1,d1⟩,⟨o2,R,c2,d2⟩⟩:=d;simp only[mem_cons,not_mem_nil,or_false]at f
  rcases f with rfl|rfl|rfl|rfl|rfl
  .exact⟨_,hz,λv z=>by
    have z':Data.fields _=Data.cell v:=z
    cases z'⟩
  .exact⟨_,hTI,λv z=>by
    have z':Data.seq _ _=Data.cell v:=z
    cases z'⟩
  .exact⟨_,hTO,λv z=>by
    have z':Data.seq _ _=Data.cell v:=z
    cases z'⟩
  .exact⟨e,e1,λv z=>by rw[d1]at z;cases z⟩
  .exact⟨o2,R,λv z=>by rw[d2]at z;cases z⟩
 keep:=λi h j d kk=>by
  obtain⟨hz,hTI,⟨u,v,hTO⟩,J,S⟩:=d;exact⟨kk z (by simp) _ hz,kk TI (by simp) _ hTI,⟨u,v,kk TO (by simp) _ hTO⟩,J.at λo q=>kk i1 (by simp) o q,S.at λo q=>kk i2 (by simp) o q⟩
 item:=by
  intro X N hw hK f i G s M H E I L d hg;subst N hw hK;obtain⟨Y,U,x,y,hq,hq2,hx,hy⟩:=hg;obtain⟨g,rv,p,hz⟩:=I.list hq;obtain⟨t,rv2,p2,hz2⟩:=I.list hq2;obtain⟨u,m,ru⟩:=rv.get hx;obtain⟨u2,hu2,ru2⟩:=rv2.get hy;have W:=WalksT.zip2 (prog:=X.prog) (w:=X.w) (A:=X.A) (I.ok.hd f) z TI TO i1 i2 a b D g.toArray t.toArray
  have hil:i<min g.toArray.size t.toArray.size:=by
   have J:=(JN m).1
   have S:=(JN hu2).1
   rw[size_toArray,size_toArray];omega
  refine W.item i s _ _ hil ⟨d.1,d.2.1,d.2.2.1,d.2.2.2.1,d.2.2.2.2,p.isList,p2.isList⟩ λT vals j C hv hT hTT hMid kk=>?_
  obtain⟨y1,y2,e1,R,rfl⟩:=hv;have ey:y1=u:=by
   rw[getElem?_toArray,m]at e1;exact(Option.some.inj e1).symm
  have ey2:y2=u2:=by
   rw[getElem?_toArray,hu2]at R;exact(Option.some.inj R).symm
  subst ey ey2;refine⟨.ref T,rfl,W.go elts k pos i T _ _ _ hMid λS r kk2=>?_⟩
  have hTn:H T=none:=I.hok.fresh hT
  have hTw:T∉[z,TO,i1,i2]:=W.apart i T _ hMid
  have n:∀c∈[z,TO,i1,i2],c∈[z,TI,TO,i1,i2]:=λc f=>by
   simp only[mem_cons,not_mem_nil,or_false]at f ⊢
   rcases f with h|h|h|h<;>simp[h]
  have kAll:∀c o,c∉[z,TI,TO,i1,i2]->s.heap.get? c=some o->S.get? c=some o:=λc o Z q=>kk2 c o (λq=>Z (n c q)) (kk c o (λq=>Z (n c q)) q)
  have I1:L2.Inv X G M H {s with heap:=S,toks:=C}:=Inv.turnedL I kAll L
  have tT:S.IsTuple T #[y1,y2]:=by
   obtain⟨o,q1,q2⟩:=hTT;exact⟨o,kk2 T o hTw q1,q2⟩
  have hvs:Vals [x,y] [y1,y2]:=.cons ru (.cons ru2 .nil)
  have I3:L2.Inv X G M (bF H T (.tup [x,y])) {s with heap:=S,toks:=C}:=Inv.turnedT (t':=C) I kAll L hT ⟨by show 2<=sizeLine;decide,[y1,y2],hvs,(show IsTup S T _ from tT)⟩
  have hTI:T≠TI:=λq=>by
   have:=Heap.lt_size d.2.1
   rw[<-q]at this;exact absurd (Nat.lt_of_lt_of_le this hT) (Nat.lt_irrefl _)
  refine⟨.ref T,bF H T (.tup [x,y]),I3,rfl,⟨T,x,y,rfl,hTn,rfl,λxs' ys' J S=>by rw[I.list_inj J hq,I.list_inj S hq2];exact⟨hx,hy⟩⟩,⟨r.1,r.2.1,r.2.2.1,r.2.2.2.1,r.2.2.2.2.1⟩,λc Z=>?_⟩
  have hbT:c≠T:=λq=>by
   subst q;simp only[mem_cons,not_mem_nil,or_false]at Z hTw
   rcases Z with h|h|h|h|h
   .exact hTw (.inl h)
   .exact hTI h
   .exact hTw (.inr (.inl h))
   .exact hTw (.inr (.inr (.inl h)))
   .exact hTw (.inr (.inr (.inr h)))
  rw[eA hbT];exact(L c Z).1
 done:=by
  intro X N hw hK f i G s M H E I L d hg;subst N hw hK;obtain⟨Y,U,hq,hq2,hx⟩:=hg;obtain⟨g,rv,p,hz⟩:=I.list hq;obtain⟨t,rv2,p2,hz2⟩:=I.list hq2;have W:=WalksT.zip2 (prog:=X.prog) (w:=X.w) (A:=X.A) (I.ok.hd f) z TI TO i1 i2 a b D g.toArray t.toArray
  have l:i=min g.toArray.size t.toArray.size:=by
   rw[size_toArray,size_toArray,<-rv.length,<-rv2.length];exact hx
  subst l;refine W.done s _ _ ⟨d.1,d.2.1,d.2.2.1,d.2.2.2.1,d.2.2.2.2,p.isList,p2.isList⟩ λj C O=>⟨rfl,Inv.turnedL (t':=C) I (λc o Z q=>O c o (λy=>Z ?_) q) L⟩
  simp only[mem_cons,not_mem_nil,or_false]at y ⊢
  rcases y with h|h|h|h<;>simp[h]
 self:=λ_ _ _ _ _ d h=>wpAny_pyIter_zip d.1 h
def D7(K:Fg)(f:TA):TI:=λM H R=>f M H λL n=>∃a b,L=[.ref a,.ref b]/\(∃Y,SqL K n a Y)/\(∃U,SqL K n b U)/\R (Ir K a b) n
theorem boot_zip:bootBuiltins "zip"=some (.type "zip"):=by decide +kernel
theorem AY{v:List Expr}{r:Nat}{ptg:Pos}{l m:Expr}{f:TA}{p K:Pos}(hg:Gl X "zip")(C:X.mg "zip"=none)(U:PA X [l,m] f)(P:starEach [l,m] X.env=(false,eval l X.env)::starEach [m] X.env)(J:(backTo K (starEach [m] X.env)).any (·.1)=false):PI X (.Tuple v r ptg) (.Call (.Name "zip" p) [l,m] [] K) (D7 X.K f):=by
 intro G s M H R I h;refine Call_ (yG I hg C boot_zip (PyProof.Rows.callWith_type1 (bM (U K G s M H _ I h) λS y ⟨vs,H1,I1,r1,q1⟩=>?_) P J))
 obtain⟨a,b,e,⟨Y,k⟩,⟨ys,n⟩,q⟩:=q1;subst e;obtain⟨u1,u2,rfl,E,ru2⟩:∃u1 u2,S=[u1,u2]/\RelV (.ref a) u1/\RelV (.ref b) u2:=by
  cases r1 with
  |cons p q=>
   cases q with
   |cons p' i=>
    cases i
    exact⟨_,_,rfl,p,p'⟩
 cases E
 cases ru2;obtain⟨g,rv,d,hz⟩:=I1.list k;obtain⟨t,rv2,A,hz2⟩:=I1.list n;refine call_zip_2 d.isList A.isList λj x u w hi1 hi2 hsz O=>?_
 have ha1:a<y.heap.objs.size:=by
  obtain⟨o,q1,_⟩:=d.isList;exact Heap.lt_size q1
 have L:b<y.heap.objs.size:=by
  obtain⟨o,q1,_⟩:=A.isList;exact Heap.lt_size q1
 refine wpAny_pyIter_zip (s:={y with heap:=j}) x ?_
 have I2:L2.Inv X G M H1 {y with heap:=j}:=I1.kept (t':=y.toks) O
 have D:ZipApart (y.heap.objs.size+4) (y.heap.objs.size+2) (y.heap.objs.size+3) y.heap.objs.size (y.heap.objs.size+1) a b:=by
  constructor<;>first|exact Nat.ne_of_lt (by omega)|exact Nat.ne_of_gt (by omega)|exact Nat.ne_of_lt (Nat.lt_of_lt_of_le ha1 (by omega))|exact Nat.ne_of_lt (Nat.lt_of_lt_of_le L (by omega))
 refine⟨y.heap.objs.size+4,[y.heap.objs.size+4,y.heap.objs.size+2,y.heap.objs.size+3,y.heap.objs.size,y.heap.objs.size+1],_,Ir X.K a b,H1,rfl,I2,tm a b _ _ _ _ _ D,⟨x,u,⟨_,_,w⟩,hi1,hi2⟩,λc Z=>?_,q⟩
 simp only[mem_cons,not_mem_nil,or_false]at Z
 have N:y.heap.objs.size<=c:=by
  rcases Z with z|z|z|z|z<;>rw[z]<;>first|exact Nat.le_add_right _ _|exact JR _
 exact I1.fpOk N (I1.hok.fresh N)
def yM(i j:Nat)(n:FB)(G:F1)(s:Sh):List (JS×JS)->Ev->List JS->Out (List JS)
 |[],Γ,acc=>.ok acc Γ
 |(d,d2)::r,Γ,acc=>match n ((Γ.set i (JT d)).set j (JT d2))with
  |.ok true I=>(match G I with
   |.ok p o=>if T.coer s p&&decide (acc.length<sizeLine)then yM i j n G s r ((o.set i none).set j none) (acc++[p.d])else .no
   |_=>.no)
  |.ok false I=>if acc.length<sizeLine then yM i j n G s r ((I.set i none).set j none) acc else .no
  |_=>.no
def sC(s:Sh)(i j:Nat)(n:FB)(a:F1)(G:List PV)(I:Ev):Out PV:=match G with
 |[⟨s1,.list t⟩,⟨s2,.list ds2⟩]=>if cS ⟨s1,.list t⟩ t&&cS ⟨s2,.list ds2⟩ ds2&&decide (t.length=ds2.length)&&yN I[i]?&&yN I[j]?&&!s.isView then(match yM i j n a s (t.zip ds2) I []with
  |.ok t o=>.ok ⟨.lst s,.list t⟩ o
  |_=>.no)else .no
 |_=>.no
def zx(s:Sh)(i j:Nat)(b:FL)(n:FB)(G:F1):F1:=λC=>(b C).bind (sC s i j n G)
section
variable{K:Fg}{W:XW}{σ:St}{H:Hp}{Q:VK}{fl:FL}{fe:F1}{fc:FB}{s:Sh}{i j:Nat}
theorem tY(hij:i≠j)(h:tE K W (zx s i j fl fc fe) σ H Q):lH [i,j] (D7 K (tA K W fl)) (uX K 2 (iN (gName i) (iN (gName j) xT))) (tT K W0 fc) (tE K W0 fe) σ H Q:=by
 obtain⟨M,O,Fs,C,E,h⟩:=h;refine⟨M,O,Fs,C,E,?_⟩
 unfold zx at h
 cases e:fl C with
 |er c I=>rw[e]at h;exact h
 |no=>rw[e]at h;exact h
 |ok ps I=>
  rw[e]at h;intro us n Gs0 N A;have P:Wants K W M O Fs H σ Q (sC s i j fc fe ps I):=h
  clear h;unfold sC at P;split at P
  case h_2=>exact P.elim
  rename_i s1 t s2 ds2;have h:=P
  clear P;by_cases hn:(cS ⟨s1,.list t⟩ t&&cS ⟨s2,.list ds2⟩ ds2&&decide (t.length=ds2.length)&&yN I[i]?&&yN I[j]?&&!s.isView)=true
  case neg=>rw[if_neg hn]at h;exact h.elim
  rw[if_pos hn]at h;simp only[Bool.and_eq_true,Bool.not_eq_true',decide_eq_true_eq]at hn
  obtain⟨⟨⟨⟨⟨hc1,hc2⟩,hdl⟩,hni⟩,hnj⟩,hsv⟩:=hn;have hni:=iK hni
  have hnj:=iK hnj
  match us,A.len1,Gs0,A.len2,A with
  |[v1,v2],_,[G1,G2],_,A=>
    cases eg:yM i j fc fe s (t.zip ds2) I []with
    |er c X=>rw[eg]at h;exact h.elim
    |no=>rw[eg]at h;exact h.elim
    |ok ds' Γ2=>
     rw[eg]at h;have h:Wants K W M O Fs H σ Q (.ok ⟨.lst s,.list ds'⟩ Γ2):=h
     have nd0:=A.env.nd
     have dis:∀a∈[G1,G2].flatten,a∉O++N.flatten:=λa U z=>by
      obtain⟨n1,n2,n3⟩:=JM nd0;rcases JH z with y|y
      .exact(JM n1).2.2 a U a y rfl
      .exact n3 a (JG _ U) a y rfl
     have sub:∀a∈O++N.flatten,a∈[G1,G2].flatten++O++N.flatten:=λa U=>by
      rcases JH U with z|z
      .exact JG _ (JF _ z)
      .exact JF _ z
     obtain⟨p,L,rfl,hq,hst,hr⟩:=(A.own 0 v1 _ G1 rfl rfl rfl).items (O':=O++N.flatten) hc1 sub (λa U=>dis a (by simp[U]))
     obtain⟨p2,vs2,rfl,hq2,hst2,hr2⟩:=(A.own 1 v2 _ G2 rfl rfl rfl).items (O':=O++N.flatten) hc2 sub (λa U=>dis a (by simp[U]))
     have E1:EnvOk K M O N n σ I:=A.env.dropL
     have hlen:L.length=t.length:=hr.1
     have hlen2:vs2.length=ds2.length:=hr2.1
     have l:i<I.length:=(JN hni).1
     have hj:j<I.length:=(JN hnj).1
     refine⟨p,p2,rfl,⟨L,hq⟩,⟨vs2,hq2⟩,λr hD=>?_⟩
     have hHeD:M r=none:=E1.same.free hD
     have E0':EnvOk K M (r::([]:List (List Addr)).flatten++O) N (bF n r (.lst [])) (bu [i,j] σ) I:=
      (E1.blank2 hni hnj).hide (G:=[r]) (i3 hD) (by simp) (λa U=>by simp at U;rw[U];exact hD) (λa U=>by simp at U;rw[U,fT];exact Option.some_ne_none _)
     refine⟨λk m ys Y=>m=L.length-k/\k<=L.length/\∃f Fk q acc,Ew K M O N n σ i j s r I.length ys Y f Fk q acc/\yM i j fc fe s ((t.zip ds2).drop k) f acc=.ok ds' Γ2,⟨L.length,by simp,Nat.zero_le _,I,N,[],[],⟨E0',i3 hD,fT,λa U=>.inl (by simpa using U),rfl,rfl,λm v d G J=>by simp at J,rfl⟩,by simpa using eg⟩,?_⟩
     rintro k m ys Y ⟨rfl,hk,f,Fk,q,acc,g,eg'⟩
     refine⟨g.at_,?_⟩
     have hPk:SqL K Y p L:=g.same.seq hq
     have hPk2:SqL K Y p2 vs2:=g.same.seq hq2
     by_cases hlt:k<L.length
     case neg=>
      left
      have:(t.zip ds2).drop k=[]:=List.drop_eq_nil_of_le (by rw[List.length_zip];omega)
      rw[this]at eg';have eg'':(Out.ok acc f:Out (List JS))=.ok ds' Γ2:=eg'
      injection eg'' with e1 e2
      subst e1;subst e2;refine⟨⟨L,vs2,hPk,hPk2,by omega⟩,?_⟩
      obtain⟨n1',_,n3'⟩:=JM g.env.ndO;refine h (.ref r) Y (r::q.flatten) Fk ⟨A.same.trans g.same,g.env.unblank2,λa U=>?_,?_⟩
      .have up:a∈N.flatten\/n a=none->a∈Fs.flatten\/H a=none:=λz=>z.elim (λy=>A.new a (JF _ y)) λy=>.inr (A.same.free y)
       rcases JH U with z|z
       .rcases JI z with z|z
        .exact up (.inr (by rw[z];exact hD))
        .exact up (g.new a (JG _ z))
       .exact up (g.new a (JF _ z))
      .exact .lst hsv g.at_ g.l1 g.l2 n1' λm v d G J S h3=>g.own m v d G J S h3
     case pos=>
      right
      have R:L[k]?=some L[k]:=JJ hlt
      have hkd:k<t.length:=by omega
      have hd:t[k]?=some t[k]:=JJ hkd
      have hv2:vs2[k]?=some (vs2[k]'(by omega)):=JJ _
      have hd2:ds2[k]?=some (ds2[k]'(by omega)):=JJ _
      have hdr:(t.zip ds2).drop k=(t[k],ds2[k]'(by omega))::(t.zip ds2).drop (k+1):=by
       rw[List.drop_eq_getElem_cons (by rw[List.length_zip];omega),List.getElem_zip]
      rw[hdr]at eg';generalize hdk:t[k]=d at hd eg'
      generalize hvk:L[k]=v at R
      generalize hdk2:ds2[k]'(by omega)=d2 at hd2 eg'
      generalize hvk2:vs2[k]'(by omega)=w2 at hv2
      simp only[yM]at eg'
      have hik:i<f.length:=by rw[g.len];exact l
      have hjk:j<f.length:=by rw[g.len];exact hj
      have hsl:ys.length<sizeLine:=by
       rw[g.l1]
       cases ec:fc ((f.set i (JT d)).set j (JT d2))with
       |no=>rw[ec]at eg';cases eg'
       |er c X=>rw[ec]at eg';cases eg'
       |ok b Γa=>
        rw[ec]at eg'
        cases b with
        |false=>
         dsimp only at eg'
         split at eg'
         .assumption
         .cases eg'
        |true=>
         dsimp only at eg'
         split at eg'
         .split at eg'
          .rename_i z
           simp only[Bool.and_eq_true,decide_eq_true_eq]at z
           exact z.2
          .cases eg'
         .cases eg'
      refine⟨⟨L,vs2,v,w2,hPk,hPk2,R,hv2⟩,hsl,?_⟩
      rintro x Hx ⟨T,v',u',rfl,hTn,rfl,hv'⟩
      have ev:v'=v:=Option.some.inj ((hv' L vs2 hPk hPk2).1.symm.trans R)
      subst ev;have eu:u'=w2:=Option.some.inj ((hv' L vs2 hPk hPk2).2.symm.trans hv2)
      subst eu;refine⟨T,[v',u'],rfl,.of fT,rfl,v',[u'],rfl,u',[],rfl,rfl,?_⟩
      have sT:Same Y (bF Y T (.tup [v',u'])):=i3 hTn
      have Eg:=g.env.grow sT
      have reps:∀(x:V)(e:JS),Rep K (bV n (O++N.flatten)) x e->Rep K (bV (bF Y T (.tup [v',u'])) (r::q.flatten++O++Fk.flatten)) x e:=λx e hxe=>hxe.mono (p9 (g.same.trans sT) λa U=>by
       rcases JH U with z|z
       .rcases JH z with z|z
        .rcases JI z with z|z
         .rw[z];exact .inr hD
         .exact(g.new a (JG _ z)).elim (λy=>.inl (JF _ y)) .inr
        .exact .inl (JG _ z)
       .exact(g.new a (JF _ z)).elim (λy=>.inl (JF _ y)) .inr)
      have rep:=reps _ _ (hr.2 k v' d R hd)
      have rep2:=reps _ _ (hr2.2 k u' d2 hv2 hd2)
      have lF:Fk.length=f.length:=g.env.len2
      have Ep:=EnvOk.put (G:=[]) (i:=i) (p:=⟨.leaf,d⟩) (v:=v') Eg (.leaf rep) rfl (λa U=>by simp at U) hik
      have fk:∀a∈(Fk.set i []).flatten,a∈Fk.flatten:=λa U=>mI (by omega) U
      have Eq:=EnvOk.put (G:=[]) (i:=j) (p:=⟨.leaf,d2⟩) (v:=u') Ep (.leaf (rep2.mono (p9 (Same.refl _) λa U=>.inl (by
       rcases JH U with z|z
       .exact JG _ z
       .exact JF _ (fk a z))))) rfl (λa U=>by simp at U) (by rw[length_set];exact hjk)
      have fkk:∀a∈((Fk.set i []).set j []).flatten,a∈Fk.flatten:=λa U=>fk a (mI (by rw[length_set];omega) U)
      refine⟨⟨by rw[length_set,length_set],λm u hm=>?_⟩,?_⟩
      .have:=(EU hm).1
       simp only[mem_cons,not_mem_nil,or_false,not_or]at this
       rw[getElem?_set_ne (Ne.symm this.2),getElem?_set_ne (Ne.symm this.1)];exact hm
      refine⟨M,_,_,_,Eq,?_⟩
      cases ec:fc ((f.set i (JT d)).set j (JT d2))with
      |no=>rw[ec]at eg';cases eg'
      |er c X=>rw[ec]at eg';cases eg'
      |ok b Γa=>
       rw[ec]at eg';intro H3 Fs3 s3' E3 n3
       have s3:Same Y H3:=sT.trans s3'
       have lena:Γa.length=I.length:=by
        have:=E3.len1
        rw[length_set,length_set,yQ,E1.len1]at this;exact this.symm
       have n3':∀a∈Fs3.flatten,a∈N.flatten\/n a=none:=λa U=>(n3 a U).elim (λz=>g.new a (JF _ (fkk a z))) λz=>.inr (g.same.free (sT.free z))
       have n3k:∀a∈Fs3.flatten,a∈Fk.flatten\/Y a=none:=λa U=>(n3 a U).elim (λz=>.inl (fkk a z)) λz=>.inr (sT.free z)
       cases b with
       |false=>
        dsimp only at eg'
        split at eg'
        case isFalse=>cases eg'
        refine kK ⟨L.length-(k+1),by omega,rfl,hlt,(Γa.set i none).set j none,Fs3,q,acc,⟨E3.forget2,g.same.trans s3,s3 _ _ g.at_,λa U=>?_,g.l1,g.l2,λm v d G J S h3=>(g.own m v d G J S h3).mono s3 λa U=>?_,by rw[length_set,length_set];exact lena⟩,eg'⟩
        .rcases JH U with z|z
         .exact g.new a (JG _ z)
         .exact n3' a z
        .rcases JH U with z|z
         .exact .inl (JG _ z)
         .exact(n3k a z).elim (λy=>.inl (JF _ y)) .inr
       |true=>
        refine kJ ⟨M,_,_,_,E3,?_⟩
        dsimp only at eg'
        cases ee:fe Γa with
        |no=>rw[ee]at eg';cases eg'
        |er c X=>rw[ee]at eg';cases eg'
        |ok p Γb=>
         rw[ee]at eg';dsimp only at eg'
         split at eg'
         case isFalse=>cases eg'
         rename_i hco;simp only[Bool.and_eq_true,decide_eq_true_eq]at hco
         obtain⟨hco,_⟩:=hco;intro u H4 G Fs4 A4;have lenb:Γb.length=I.length:=by
          have:=A4.env.len1
          rw[length_set,length_set,yQ,E1.len1]at this;exact this.symm
         have at4:H4 r=some (.lst ys):=A4.same _ _ (s3 _ _ g.at_)
         have s14:Same n H4:=(g.same.trans s3).trans A4.same
         have new4:∀a∈G++Fs4.flatten,a∈N.flatten\/n a=none:=λa U=>(A4.new a U).elim (n3' a) λz=>.inr ((g.same.trans s3).free z)
         have hG':∀a∈aT s G,a∈G:=λa U=>EX U
         obtain⟨k1,k2,k3⟩:=JM A4.env.ndO;have ndk:(aT s G).Nodup:=by
          cases s<;>first|exact nodup_nil|exact k1
         have pmO:(r::(q++[aT s G]).flatten++O).Perm (aT s G++(r::q.flatten++O)):=by
          rw[vW];show(r::((q.flatten++aT s G)++O)).Perm _
          refine List.Perm.trans ?_ List.perm_middle.symm
          refine List.Perm.cons _ ?_
          rw[append_assoc];exact jU _ _ _
         have E5:EnvOk K M (aT s G++(r::q.flatten++O)) Fs4 H4 (((bu [i,j] σ).set i (some v')).set j (some u')) Γb:=A4.env.drop (λa U=>by
          rcases JH U with z|z
          .exact JG _ (hG' a z)
          .exact JF _ z) (List.nodup_append.mpr ⟨ndk,k2,λa U b Z=>k3 a (hG' a U) b Z⟩)
         have E6:=(E5.perm pmO).forget2
         have hDin:r∈r::(q++[aT s G]).flatten++O:=mem_cons_self
         have E7:=E6.mutO (o:=.lst (ys++[u])) hDin at4 hHeD
         have subH:∀a∈r::(q++[aT s G]).flatten++O++Fs4.flatten,a∈G++(r::q.flatten++O)++Fs4.flatten:=λa U=>by
          rcases JH U with z|z
          .rcases JH (pmO.mem_iff.mp z)with y|y
           .exact JG _ (JG _ (hG' a y))
           .exact JG _ (JF _ y)
          .exact JF _ z
         have Dnot:∀{m:Nat}{Gj:List Addr},q[m]?=some Gj->r∉Gj:=λ{m Gj} hj z=>by
          have nd:=g.env.ndO
          exact(List.nodup_cons.mp nd).1 (JG _ (gh hj z))
         refine⟨at4,L.length-(k+1),by omega,rfl,hlt,(Γb.set i none).set j none,Fs4,q++[aT s G],acc++[p.d],⟨E7,λb o Z=>?_,fT,λa U=>?_,by simp[g.l1],by simp[g.l2],λm w d' G' J S h3=>?_,by rw[length_set,length_set];exact lenb⟩,eg'⟩
         .rw[eA (vE Z hD)]
          exact s14 b o Z
         .rcases JH U with z|z
          .rw[vW]at z
           rcases JH z with z|z
           .exact g.new a (JG _ z)
           .exact new4 a (JG _ (hG' a z))
          .exact new4 a (JF _ z)
         .by_cases hm:m<ys.length
          .rw[getElem?_append_left hm]at J
           rw[getElem?_append_left (by rw[<-g.l1];exact hm)]at S
           rw[getElem?_append_left (by rw[g.l2,<-g.l1];exact hm)]at h3
           have o1:=g.own m w d' G' J S h3
           have o2:=o1.mono (O':=r::(q++[aT s G]).flatten++O++Fs4.flatten) (s3.trans A4.same) λa U=>by
            have up:a∈G++Fs4.flatten->a∈r::q.flatten++O++Fk.flatten\/Y a=none:=λz=>(A4.new a z).elim (λy=>(n3k a y).elim (λy=>.inl (JF _ y)) .inr) λy=>.inr (s3.free y)
            rcases JH (subH a U)with z|z
            .rcases JH z with z|z
             .exact up (JG _ z)
             .exact .inl (JG _ z)
            .exact up (JF _ z)
           exact o2.mut hsv (JG _ hDin) (Dnot h3) at4
          .have hm':m=ys.length:=by
            have:=(JN J).1
            rw[length_append,length_singleton]at this;omega
           subst hm'
           rw[getElem?_append_right (JR _),Nat.sub_self]at J;rw[getElem?_append_right (by rw[g.l1];exact JR _),show ys.length-acc.length=0 by rw[g.l1];exact Nat.sub_self _]at S
           rw[getElem?_append_right (by rw[g.l2,g.l1];exact JR _),show ys.length-q.length=0 by rw[g.l2,g.l1];exact Nat.sub_self _]at h3
           cases J
           cases S
           cases h3;have o3:=A4.own.coer (s:=s) (O':=r::(q++[aT s G]).flatten++O++Fs4.flatten) hco subH λa U hO=>by
            cases s with
            |leaf=>
             exfalso
             have hO':a∈(r::q.flatten++O)++Fs4.flatten:=by
              rw[vW]at hO;simpa[aT]using hO
             rcases JH hO' with z|z
             .exact k3 a U a z rfl
             .have nd:=A4.env.nd
              exact(JM nd).2.2 a (JG _ U) a z rfl
            |view=>cases hsv
            |lst s=>exact U
            |tup ss=>exact U
           refine o3.mut hsv (JG _ hDin) (λz=>?_) at4
           exact k3 r (hG' r z) r mem_cons_self rfl
end
section
variable{X:Cx}{N gl:List Str}{vs cs ls lo gs:List Nat}{W:XW}{a b:Expr}{pos p:Pos}{fl:FL}
theorem coZ{d:Scope}{x y:Str}{o I pt h:Pos}{kt:Nat}{q:Expr}{m:List Expr}{G:F1}{n:FB}{r v g H:List Nat}(S:Cp X N gl vs cs ls lo gs)(s:Sh)(i j k:Nat)(c:(i != j)=true)(A:N[i]?=some x)(Z:N[j]?=some y)(O:gl[k]?=some ("zip":Str))(l:gs.contains k=true)(hm:X.mg "zip"=none)(J:Ey N [i,j] cs d=true)(h2:sx N gl r v [i,j] g H d=true)(U:PA X [a,b] (tA X.K W fl))(K:starEach [a,b] X.env=(false,eval a X.env)::starEach [b] X.env)(z:(backTo h (starEach [b] X.env)).any (·.1)=false)(f:sA X N gl r v [i,j] g H λY=>PF Y m (tT Y.K W0 n))(R:sA X N gl r v [i,j] g H λY=>PE Y q (tE Y.K W0 G))(P:∀x,foldedSetIterable (.Call (.Name "zip" p) [a,b] [] h) X.env x=pure x):PE X (.ListComp q [⟨.Tuple [.Name x o,.Name y I] kt pt,.Call (.Name "zip" p) [a,b] [] h,m,0⟩] d pos) (tE X.K W (zx s i j fl n G)):=by
 have B:=λt C E w u=>S.blk h2 t C E w u
 have L:=λt C E w u=>(B t C E w u).loc i x A (by simp)
 have e:=λt C E w u=>(B t C E w u).loc j y Z (by simp)
 have M:X.N.Nodup:=by rw[S.hN];exact S.nd
 exact aZ (pA (rR S J) S.calm (AY (S.g O l).1 hm U K z)
  (λt C E w u=>CV (X:=blk X d t C E w u) S.calm (sg (nq (X:=blk X d t C E w u) (i:=i) M (by show X.N[i]?=_;rw[S.hN];exact A) (L t C E w u).1 (L t C E w u).2) (sg (nq (X:=blk X d t C E w u) (i:=j) M (by show X.N[j]?=_;rw[S.hN];exact Z) (e t C E w u).1 (e t C E w u).2) C7)))
  (λt C E w u=>f _ (B t C E w u) ⟨rfl,rfl,rfl,rfl,rfl,rfl⟩) (λt C E w u=>R _ (B t C E w u) ⟨rfl,rfl,rfl,rfl,rfl,rfl⟩) P) λ_ _ _=>tY (by simpa using c)
end
end T
namespace TQ
open PySem PySem.Spec L2 T
open PyProof.Rows hiding St
variable{X:Cx}{N gl:List Str}{vs cs ls lo gs:List Nat}{W:XW}{a b:Expr}{pos p:Pos}{fl:FL}
theorem Di{d:Scope}{x y:Str}{o I pt h:Pos}{r:Nat}{q:Expr}{m:List Expr}{G:F1}{n:FB}{vs' cs' lo' gs':List Nat}(S:Cp X N gl vs cs ls lo gs)(s:Sh)(i j k:Nat)(c:(i != j)=true)(A:N[i]?=some x)(Z:N[j]?=some y)(O:gl[k]?=some ("zip":Str))(l:gs.contains k=true)(C:X.mg "zip"=none)(J:Ey N [i,j] cs d=true)(t:sx N gl vs' cs' [i,j] lo' gs' d=true)(U:Q (PA X [a,b] (tA X.K W fl)))(E:starEach [a,b] X.env=(false,eval a X.env)::starEach [b] X.env)(e:(backTo h (starEach [b] X.env)).any (·.1)=false)(f:sA X N gl vs' cs' [i,j] lo' gs' λY=>Q (PF Y m (tT Y.K W0 n)))(R:sA X N gl vs' cs' [i,j] lo' gs' λY=>Q (PE Y q (tE Y.K W0 G)))(P:∀x,foldedSetIterable (.Call (.Name "zip" p) [a,b] [] h) X.env x=pure x):Q (PE X (.ListComp q [⟨.Tuple [.Name x o,.Name y I] r pt,.Call (.Name "zip" p) [a,b] [] h,m,0⟩] d pos) (tE X.K W (zx s i j fl n G))):=⟨T.coZ S s i j k c A Z O l C J t U.p E e (λY g F=>(f Y g F).p) (λY g F=>(R Y g F).p) P⟩
end TQ
namespace T
open PySem PySem.Spec L2
open PyProof.Rows hiding St
def j8(s:Sh)(d:D):Bool:=match s,d with
 |.leaf,d=>aV d
 |.lst .leaf,.list ds=>ds.all aV
 |_,_=>false
def fL(p:PV):Bool:=match p with
 |⟨.tup ss,.tuple ds⟩=>(ss.zip ds).all λx=>j8 x.1 x.2
 |⟨s,d⟩=>j8 s d
def m8(q:PV):Bool:=T.coer .leaf q||(match q with
 |⟨.view,.list ds⟩=>ds.all aV
 |_=>false)
def yB(n:Nat)(w:List JS->Res)(b:FL):F1:=λC=>(b C).bind λG X=>if G.length=n then(match w (G.map (·.d))with
 |.ok p=>if G.all m8&&fL p then .ok p X else .no
 |_=>.no)else .no
theorem j7{K:Fg}{O c:List Addr}{H:Hp}{s:Sh}{G:List Addr}{v:V}{d:D}(h:Own K O H s G v d)(f:j8 s d=true):Own K c H s G v d:=by
 unfold j8 at f;split at f
 .cases h with
  |leaf r=>exact .leaf (r.sc f).rep
 .obtain⟨l,S,rfl,rfl,y,b,m⟩:=h.leaves
  exact Own.mkLeaves y b λj u d g R=>((m j u d g R).sc (List.all_eq_true.mp f d (mem_of_getElem? R))).rep
 .cases f
theorem rj{K:Fg}{O c:List Addr}{H:Hp}{p:PV}{G:List Addr}{v:V}(h:Own K O H p.s G v p.d)(f:fL p=true)(u:∀t S,H t=some (.tup S)->t∉O->t∉c):Own K c H p.s G v p.d:=by
 unfold fL at f;split at f
 .rename_i o a
  have h:Own K O H (.tup o) G v (.tuple a):=h
  cases h with
  |@tup _ t S _ Fs2 hv hp hn hl hf2 hs nd q=>
   refine .tup hv hp (u t S hp hn) hl hf2 hs nd λi v d F s g R w j=>j7 (q i v d F s g R w j) ?_
   have P:(o.zip a)[i]?=some (s,d):=by rw[List.getElem?_zip_eq_some];exact⟨j,R⟩
   exact List.all_eq_true.mp f _ (mem_of_getElem? P)
 .exact j7 h f
section
variable{K:Fg}{W:XW}{σ:St}{H:Hp}{Q:VK}{D:cP}{fa fb:F1}{fl:FL}
open Classical in
theorem t4{n:Nat}{w:List JS->Res}{E:XK}(h:tE K W (yB n w fl) σ H Q):jL (qy K n w) [] E (tA K W fl) σ H Q:=by
 obtain⟨M,O,Z,C,E0,h⟩:=h;refine⟨M,O,Z,C,E0,?_⟩
 unfold yB at h
 cases e:fl C with
 |er c X=>rw[e]at h;exact h
 |no=>rw[e]at h;exact h
 |ok ps I=>
  rw[e]at h;intro L H1 Gs Fs1 A;have h:Wants K W M O Z H σ Q (if ps.length=n then(match w (ps.map (·.d))with|.ok p=>if ps.all m8&&fL p then .ok p I else .no|_=>.no)else .no):=h
  by_cases Y:ps.length=n
  case neg=>rw[if_neg Y]at h;exact h.elim
  rw[if_pos Y]at h;have N:(L++[]).length=n:=by rw[append_nil,A.len1];exact Y
  cases x:w (ps.map (·.d))with
  |er c=>rw[x]at h;exact h.elim
  |no=>rw[x]at h;exact h.elim
  |ok p=>
   rw[x]at h;have h:Wants K W M O Z H σ Q (if ps.all m8&&fL p then .ok p I else .no):=h
   have newF:∀a∈Fs1.flatten,a∈Z.flatten\/H a=none:=λa U=>A.new a (JF _ U)
   obtain⟨n1,n2,n3⟩:=JM A.env.nd;obtain⟨m1,m2,m3⟩:=JM n1
   cases f:ps.all m8&&fL p with
   |false=>rw[f]at h;exact h.elim
   |true=>
    rw[f]at h;have h:Wants K W M O Z H σ Q (.ok p I):=h
    simp only[Bool.and_eq_true]at f
    obtain⟨hv,hf⟩:=f;let O':=(O++Fs1.flatten).filter λa=>decide (¬∃us,Rd H1 a (.lst us))
    have subO:∀a∈O',a∈O++Fs1.flatten:=λa U=>(List.mem_filter.mp U).1
    have notO:∀a us,Rd H1 a (.lst us)->a∉O':=λa us m U=>by
     have:=(List.mem_filter.mp U).2
     simp only[decide_eq_true_eq]at this
     exact this ⟨us,m⟩
    refine⟨N,O',ps.map (·.d),List.Nodup.sublist List.filter_sublist A.env.dropL.nd,λa U=>A.env.dropL.inH a (subO a U),?_,?_⟩
    .rw[append_nil]
     refine⟨A.reps.1,λi v d J S=>?_⟩
     rw[getElem?_map]at S
     cases R:ps[i]? with
     |none=>rw[R]at S;cases S
     |some q=>
      rw[R]at S
      cases S;have l:=(JN R).1
      have e3:Gs[i]?=some (Gs[i]'(by rw[A.len2];exact l)):=JJ _
      have o:=A.own i v q _ J R e3
      have k:=List.all_eq_true.mp hv q (mem_of_getElem? R)
      unfold m8 at k
      cases g:T.coer .leaf q with
      |true=>
       have b:=o.coer (s:=.leaf) (O':=O++Fs1.flatten) g gO λa U z=>by
        exfalso
        have hG:=gh e3 U
        rcases JH z with y|y
        .exact m3 a hG a y rfl
        .exact n3 a (JG _ hG) a y rfl
       have o3:Own K (O++Fs1.flatten) H1 .leaf [] v q.d:=b
       cases o3 with
       |leaf r=>exact r.mono (p9 (Same.refl _) λa U=>.inl (subO a U))
      |false=>
       rw[g,Bool.false_or]at k;split at k
       .rename_i ds
        have r:=o.rep
        cases r with
        |@lst a us _ hs hul m=>
         refine .lst ?_ hul λj u d q1 q2=>((m j u d q1 q2).sc (List.all_eq_true.mp k d (mem_of_getElem? q2))).rep
         rcases hs with hs|hs
         .have Y:=notO a us hs
          refine .inl ?_
          rcases hs with hs|⟨ob,hs⟩
          .exact .inl (se hs Y)
          .exact .inr ⟨ob,se hs Y⟩
         .exact .inr hs
       .cases k
    .rw[x]
     intro v H2 G r;have own':Own K (G++O++Fs1.flatten) H2 p.s G v p.d:=rj r.own hf λt us hp Y z=>by
      rw[append_assoc]at z;rcases JH z with z|z
      .exact Y (JG _ z)
      .have J:=A.env.dropL.inH t z
       obtain⟨ob,hob⟩:=Option.ne_none_iff_exists'.mp J
       have S:=r.same t ob hob
       rw[hp]at S
       cases S;refine Y (JF _ (List.mem_filter.mpr ⟨z,?_⟩))
       simp only[decide_eq_true_eq]
       rintro⟨us',P|⟨_,P⟩⟩
       .rw[hob]at P;cases P
       .rw[hob]at P;cases P
     refine h v H2 G Fs1 ⟨A.same.trans r.same,A.env.dropL.hide r.same r.nd r.fresh r.inH,λa U=>?_,own'⟩
     rcases JH U with z|z
     .exact .inr (A.same.free (r.fresh a z))
     .exact newF a z
end
end T
namespace TQ
open PySem PySem.Spec L2 T
open PyProof.Rows hiding St
section
variable{X:Cx}{N gl:List Str}{vs cs ls lo gs:List Nat}{W:XW}{a b c e:Expr}{es:List Expr}{pos p:Pos}{fa fb fc:F1}{fl:FL}{g:FS}
theorem td{x:Str}{n:Nat}{w:List JS->Res}(S:Cp X N gl vs cs ls lo gs)(j:Nat)(A:gl[j]?=some x)(l:gs.contains j=true)(C:CN X x n w)(U:Q (PA X (e::es) (tA X.K W fl)))(R:starEach (e::es) X.env=(false,eval e X.env)::starEach es X.env)(J:(backTo pos (starEach es X.env)).any (·.1)=false):Q (PE X (.Call (.Name x p) (e::es) [] pos) (tE X.K W (yB n w fl))):=⟨by
 have U:=U.p
 obtain⟨k,f,r,G,F,m,d,O,Z⟩:=C;exact aZ (C6 F m (S.g A l).1 d O Z .nil ma U (S.g A l).2.1 R J) λ_ _ _=>t4⟩
end
end TQ
namespace KC
open PySem PySem.Spec L2 T PySem.SeqAt
open PyProof.Rows hiding St
variable{C:Ev}
theorem v_or{M e:F1}{s:Sh}{a b:Bool}(U:M C=.ok ⟨s,.bool a⟩ C)(Z:e C=.ok ⟨.leaf,.bool b⟩ C):CL M e C=.ok ⟨.leaf,.bool (a||b)⟩ C:=by
 unfold CL aW;rw[U]
 cases a with
 |true=>cases s<;>rfl
 |false=>exact Z
noncomputable abbrev Br(w:Wd)(c:Str)(r:Nat):Prop:=c∈w.mks r
noncomputable abbrev gm(w:Wd)(c:Str)(L:List Nat):List Nat:=L.filter λr=>(w.mks r).contains c
theorem mN{w:Wd}(ok:w.Ok){c:Str}(g:c∈bb){L:List Nat}(P:Std w.n L):∃E,aY [w.enc,ay L,.str c]=.ok ⟨.lst .leaf,eY E⟩/\RightG w.n w.stp (λ_=>true) L (gm w c L) E:=by
 have O:=ok.g.lo
 have I:=ok.h24
 have N:=P.len
 have p:(gm w c L).length<=1000:=Nat.le_trans (length_filter_le _ _) (by omega)
 obtain⟨E,e,b,_⟩:=fM ok.z (cl:=w.os.map λ_=>true) (thr:=L) (goal:=gm w c L) (by rw[length_map];exact O) (λr m=>ok.stp_ne (P.lt r m)) P.lt (by omega) (λr m=>P.lt r (List.mem_filter.mp m).1) p
 have b:=b.congr (ch':=λ_=>true) λr m=>by
  unfold ig;rw[JK,getElem?_map,JJ (by omega)]
  rfl
 refine⟨E,?_,b⟩
 have X:aw .leaf 3 (aF (aq (aa 0) (eK (.int 0)))) aR (eK (.bool true)) (bp 4 [w.enc,ay L,ay (gm w c L)])=.ok ⟨.lst .leaf,nA (w.os.map λ_=>true)⟩ (bp 4 [w.enc,ay L,ay (gm w c L)]):=by
  have:=nr (λd:D=>d) w.os (λd=>⟨.leaf,.bool true⟩) (s:=.leaf) (i:=3) (fi:=aF (aq (aa 0) (eK (.int 0)))) (fe:=eK (.bool true)) (st:=true) (Γ:=bp 4 [w.enc,ay L,ay (gm w c L)]) (by simp[bp,Wd.enc,eD]) (by simp[bp]) rfl (by omega) (λd U=>by simp)
  rw[this];simp
 have st:dC [w.enc,ay L,ay (gm w c L)]=.ok ⟨.lst .leaf,eY E⟩:=aQ (aL (cH (aA (au rfl) (aA X (aA (au rfl) (aA (au rfl) ao)))) e rfl rfl) rfl)
 have Z:aw .leaf 3 (aF (aa 1)) (aG aj (az (bw false) (aa 2) (aq (aq (aa 0) (eK (.int 1))) (aa 3)))) (aa 3) (bp 4 [w.enc,ay L,.str c])=.ok ⟨.lst .leaf,.list ((gm w c L).map λt=>rm t)⟩ (bp 4 [w.enc,ay L,.str c]):=by
  refine i7 rm L (λr=>(w.mks r).contains c) (λt=>⟨.leaf,rm t⟩) (st:=true) (by simp[bp]) (by simp[bp]) rfl (by omega) (λt u=>?_) (λt u _=>?_)
  .have a:=ok.at1 (P.lt t u)
   simp[bp,Wd.enc,eD,a,Ct (vL g).1 (zE ok t)]
  .simp[bp]
 exact aQ (aL (cH (aA (au rfl) (aA (au rfl) (aA Z ao))) st rfl rfl) rfl)
structure vz(w:Wd)(M:List Str)(L off:List Nat):Prop where
 ne:off≠[]
 sub:∀r∈off,r∈L
 no:∀(R:Nat->Prop) X,Fr w.n w.stp R M (Br w) X->(∀r,X r->r∈L)->∀r∈off,¬X r
structure iY(w:Wd)(M:List Str)(L:List Nat):Prop where
 c:∀r∈L,∃t∈w.stp r,t∈L
 a:∀m∈M,∀S:Nat->Prop,(∀r,r∈L->Br w m r->S r)->(∀r,r∈L->(∃t∈w.stp r,t∈L/\S t)->S r)->∀r,r∈L->S r
theorem Cc{l L:List Nat}:cL true [.list (l.map λt=>PyData.bool (L.contains t))]=some (.bool (l.any λt=>L.contains t)):=by
 have:=Gy (bs:=l.map λt=>L.contains t)
 rw[map_map]at this;refine this.trans ?_
 rw[List.any_map];rfl
theorem F9{c:List Nat}{f:F1}{I X:Ev}{p:PV}{G:List PV}(h:f C=.ok p I)(m:zR p=some G)(N:G.length=c.length)(y:putN c G I=some X):cI c f C=.nx X:=by
 unfold cI eX;rw[h];simp only[m,N,if_true,y]
theorem Gk{r:List Nat}:shaped (ay r)=true:=C4 λa U=>by
 obtain⟨t,_,e⟩:=List.mem_map.mp U;exact⟨(t:Int),e.symm⟩
theorem BS{a b:List Nat}(h:a=b):bP (ay a) (ay b)=some (.bool true):=by rw[h];exact u7 Gk
theorem CT:∀{n:Nat}{p:List Nat},p.Nodup->(∀x∈p,x<n)->p.length<=n
 |0,[],_,_=>JR _
 |0,a::p,_,h=>absurd (h a (by simp)) (Nat.not_lt_zero _)
 |n+1,p,nd,h=>by
  by_cases Y:n∈p
  .have:=CT (n:=n) (nd.erase n) λx A=>by
    obtain⟨J,S⟩:=nd.mem_erase_iff.mp A;have:=h x S
    omega
   rw[List.length_erase_of_mem Y]at this;omega
  .have:=CT (n:=n) nd λx A=>by
    have J:=h x A
    have:x≠n:=λe=>Y (e▸A)
    omega
   omega
end KC
namespace KQ
open PySem PySem.Spec L2 T
open PyProof.Rows hiding St
open KC
noncomputable def kU:FS:=(aN (aw .leaf 2 (i5 (ae (aa 1) ah)) (aG aj (az dS (ar 3 ai (ae (aa 0) (ae (aa 2) (ae (eK (.int 3)) ah)))) (eK (.int 0)))) (aa 2)))
noncomputable def dG:List JS->Res:=aU 3 kU
end KQ
namespace KC
open PySem PySem.Spec L2 T PySem.SeqAt
open PyProof.Rows hiding St
variable{C:Ev}{e:F1}
theorem Dl{I o:Ev}{g:Int->Option Int×Option Int}{M:F1}{s K:Sh}{xs:List D}{k:Int}(U:M C=.ok ⟨s,.list xs⟩ I)(Z:e I=.ok ⟨K,.int k⟩ o)(J:cS ⟨s,.list xs⟩ xs=true):u9 g M e C=.ok ⟨.lst .leaf,.list (T.cutD xs (g k).1 (g k).2)⟩ o:=by
 unfold u9 aW;rw[U];simp only[Out.bind]
 rw[Z];simp only[J,if_true]
theorem Bm{s:Sh}{l:List Nat}:cS ⟨s,ay l⟩ (l.map rm)=true:=by
 unfold cS;simp[aV]
theorem CC{w:Wd}(ok:w.Ok){i:Nat}{s:Sh}{r:Nat}(a:C[i]?=some (JT w.enc))(Z:e C=.ok ⟨s,rm r⟩ C)(m:r<w.n):aq (aq (aa i) (eK (.int 2))) e C=.ok ⟨.leaf,ay (w.stp r)⟩ C:=by
 rw[lX,lX,au a];simp only[Out.bind,aS,Wd.enc,eD,t8,DJ]
 rw[Z];simp only[yY]
 rw[ok.at2 m]
theorem oW{w:Wd}(ok:w.Ok){i:Nat}(a:C[i]?=some (JT w.enc)):bc aI (ae (aq (aa i) (eK (.int 0))) ah) C=.ok ⟨.leaf,.int (w.n:Int)⟩ C:=by
 have e:aq (aa i) (eK (.int 0)) C=.ok ⟨.leaf,.list w.os⟩ C:=by
  rw[lX,au a];simp only[Out.bind,aS,Wd.enc,eD,t8,DL]
 refine bt (aA e ao) ?_
 simp[ok.g.lo]
end KC
namespace KQ
open PySem PySem.Spec L2 T
open PyProof.Rows hiding St
open KC
variable{C I:Ev}{b:FL}
noncomputable def rO:FS:=(ax (aB true 3 (aw .leaf 7 (aF (aa 1)) (cQ (aG bI (bc (cL true) (ae (aw .leaf 8 (aF (aq (aq (aa 0) (eK (.int 2))) (aa 7))) aR (az (bw false) (aa 8) (aa 1))) ah)))) (aa 7)))
  (ax (bA (aG bI (aa 3)) (aN (cG (ae (bh 3) (ae (eK .none) ah)))) aD)
  (ax (cM 4 (aF (aa 2))
  (ax (aB false 5 (ar 3 aY (ae (aa 0) (ae (aa 1) (ae (aa 4) ah)))))
  (ax (aB true 6 (aw .leaf 7 (aF (aa 1)) (aG aj (az (bq false) (aq (aa 5) (aa 7)) (eK .none))) (aa 7)))
  (bA (aG bI (aa 6)) (aN (cG (ae (bh 6) (ae (aa 4) ah)))) aD))))
  (aN (eK .none)))))
noncomputable def cu:List JS->Res:=aU 9 rO
noncomputable def mU:FS:=(aN (cG (ae (lh (aq (aa 0) (eK (.int 0)))) (ae (aw .leaf 1 (aF (aq (aa 0) (eK (.int 1)))) aR (lh (aa 1))) (ae (aw .leaf 1 (aF (aq (aa 0) (eK (.int 2)))) aR (lh (aa 1))) ah)))))
noncomputable def d9:List JS->Res:=aU 2 mU
noncomputable def kW:FS:=(aN (aw .leaf 1 (fK "abc") (aG aj (az bP (ar 3 ai (ae (aa 0) (ae (bc (eh "abc") (ae (aa 1) ah)) (ae (eK (.int 3)) ah)))) (eK (.int 1)))) (aa 1)))
noncomputable def dH:List JS->Res:=aU 2 kW
open PySem.SeqAt
theorem sc_rms{l:List Nat}:(l.map rm).all aV=true:=List.all_eq_true.mpr λd U=>by
 obtain⟨t,_,rfl⟩:=List.mem_map.mp U;rfl
theorem v_callG{G:List PV}{n:Nat}{p:PV}{w:List D->Res}(N:b C=.ok G I)(U:w (G.map (·.d))=.ok p)(Y:G.length=n)(R:G.all m8=true)(L:fL p=true):yB n w b C=.ok p I:=by
 unfold yB;rw[N];simp only[Out.bind,Y,U,R,L,if_true,Bool.and_self]
theorem av(a b:D)(l:List Nat):[PV.mk .leaf a,⟨.view,ay l⟩,⟨.leaf,b⟩].all m8=true:=by
 have:m8 ⟨.view,ay l⟩=true:=by
  show(coer .leaf ⟨.view,ay l⟩||(l.map rm).all aV)=true
  rw[sc_rms,Bool.or_true]
 rw[all_cons,all_cons,this];rfl
noncomputable abbrev GRo(w:Wd)(M:List Str)(L:List Nat)(Y l H:Option PV):Ev:=[JT w.enc,JT (ay L),JT (bx M),some ⟨.lst .leaf,ay []⟩,Y,l,H,none,none]
noncomputable abbrev dY:FS:=(ax (aB false 5 (ar 3 aY (ae (aa 0) (ae (aa 1) (ae (aa 4) ah)))))
  (ax (aB true 6 (aw .leaf 7 (aF (aa 1)) (aG aj (az (bq false) (aq (aa 5) (aa 7)) (eK .none))) (aa 7)))
  (bA (aG bI (aa 6)) (aN (cG (ae (bh 6) (ae (aa 4) ah)))) aD)))
theorem wA{w:Wd}(ok:w.Ok){M:List Str}{L:List Nat}(P:Std w.n L){c:Str}(g:c∈bb)(l H:Option PV):∃rk,RightG w.n w.stp (λ_=>true) L (gm w c L) rk /\
  ((L.filter (λr=>(bo rk r).isNone)=[]/\∃X C,dY (GRo w M L (JT (.str c)) l H)=.nx (GRo w M L (JT (.str c)) X C)) \/
   (L.filter (λr=>(bo rk r).isNone)≠[]/\dY (GRo w M L (JT (.str c)) l H)=.rt ⟨.tup [.lst .leaf,.leaf],.tuple [ay (L.filter λr=>(bo rk r).isNone),.str c]⟩)):=by
 have I:=ok.h24
 have N:=P.len
 obtain⟨rk,e,R⟩:=mN ok g P;refine⟨rk,R,?_⟩
 have d:aw .leaf 7 (aF (aa 1)) (aG aj (az (bq false) (aq (aa 5) (aa 7)) (eK .none))) (aa 7) (GRo w M L (JT (.str c)) (JT (eY rk)) H)=.ok ⟨.lst .leaf,.list ((L.filter λr=>(bo rk r).isNone).map λt=>rm t)⟩ (GRo w M L (JT (.str c)) (JT (eY rk)) H):=by
  refine i7 rm L (λr=>(bo rk r).isNone) (λt=>⟨.leaf,rm t⟩) (st:=true) (by simp) (by simp) rfl (by omega) (λt u=>?_) (λt u _=>?_)
  .have f:=vp (rk:=rk) (t:=t) (by rw[R.len];exact P.lt t u)
   simp[f]
  .simp
 have y:aB false 5 (ar 3 aY (ae (aa 0) (ae (aa 1) (ae (aa 4) ah)))) (GRo w M L (JT (.str c)) l H)=.nx (GRo w M L (JT (.str c)) (JT (eY rk)) H):=dh (cH (aA (au rfl) (aA (au rfl) (aA (au rfl) ao))) e rfl rfl) rfl (by simp)
 have b:aB true 6 (aw .leaf 7 (aF (aa 1)) (aG aj (az (bq false) (aq (aa 5) (aa 7)) (eK .none))) (aa 7)) (GRo w M L (JT (.str c)) (JT (eY rk)) H)=.nx (GRo w M L (JT (.str c)) (JT (eY rk)) (some ⟨.lst .leaf,ay (L.filter λr=>(bo rk r).isNone)⟩)):=lA d rfl (by simp)
 by_cases q:L.filter (λr=>(bo rk r).isNone)=[]
 .refine .inl ⟨q,JT (eY rk),some ⟨.lst .leaf,ay (L.filter λr=>(bo rk r).isNone)⟩,af y (af b ?_)⟩
  rw[q];simp
 .refine .inr ⟨q,af y (af b ?_)⟩
  generalize L.filter (λr=>(bo rk r).isNone)=F at q
  cases F with
  |nil=>exact absurd rfl q
  |cons a r=>simp[wo]
theorem ro_for{w:Wd}(ok:w.Ok){M0:List Str}{L:List Nat}(P:Std w.n L):∀(M:List Str),(∀c∈M,c∈bb)->∀(Y l H:Option PV),
  ((∃k X C,bf 4 dY (M.map .str) (GRo w M0 L Y l H)=.nx (GRo w M0 L k X C))/\∀c∈M,∃E,RightG w.n w.stp (λ_=>true) L (gm w c L) E/\∀r∈L,bo E r≠none) \/
  (∃c∈M,∃E,RightG w.n w.stp (λ_=>true) L (gm w c L) E/\L.filter (λr=>(bo E r).isNone)≠[]/\bf 4 dY (M.map .str) (GRo w M0 L Y l H)=.rt ⟨.tup [.lst .leaf,.leaf],.tuple [ay (L.filter λr=>(bo E r).isNone),.str c]⟩)
 |[],_,Y,l,H=>.inl ⟨⟨Y,l,H,rfl⟩,by simp⟩
 |c::M,h,Y,l,H=>by
  obtain⟨E,R,q⟩:=wA ok (M:=M0) P (h c mem_cons_self) l H
  have g:∀o,dY (GRo w M0 L (some ⟨.leaf,.str c⟩) l H)=o->bf 4 dY ((c::M).map .str) (GRo w M0 L Y l H)=(match o with|.nx I=>bf 4 dY (M.map .str) I|.ct I=>bf 4 dY (M.map .str) I|.bk I=>.nx I|.rt p=>.rt p|.er a b=>.er a b|.no=>.no):=λo J=>by
   rw[map_cons,bf,if_pos (by simp)]
   have:(GRo w M0 L Y l H).set 4 (JT (.str c))=GRo w M0 L (JT (.str c)) l H:=rfl
   rw[this,J];all_goals (cases o<;>rfl)
  rcases q with⟨q,X,C,e⟩|⟨q,e⟩
  .have j:∀r∈L,bo E r≠none:=λr m n=>by
    have:r∈L.filter (λr=>(bo E r).isNone):=List.mem_filter.mpr ⟨m,by simp[n]⟩
    rw[q]at this;simp at this
   rcases ro_for ok (M0:=M0) P M (λd U=>h d (JL _ U)) (JT (.str c)) X C with⟨⟨i,v,x,f⟩,S⟩|⟨d,U,rk',R',q',f⟩
   .refine .inl ⟨⟨i,v,x,?_⟩,λd U=>?_⟩
    .rw[g _ e];exact f
    .rcases JI U with rfl|U
     .exact⟨E,R,j⟩
     .exact S d U
   .refine .inr ⟨d,JL _ U,rk',R',q',?_⟩
    rw[g _ e];exact f
  .refine .inr ⟨c,mem_cons_self,E,R,q,?_⟩
   rw[g _ e]
theorem zN{i:Nat}{f:F1}{s:Sh}{ds es:List D}(h:C[i]?=some (some ⟨.lst .leaf,.list ds⟩))(L:f C=.ok ⟨s,.list es⟩ C)(J:s.isView=false)(Y:ds.length+es.length<=10000):lU i f C=.nx (C.set i (some ⟨.lst .leaf,.list (ds++es)⟩)):=by
 have Z:(10000:Nat)<=sizeLine:=by decide
 unfold lU ik;rw[h];simp only[if_true,t7,L]
 unfold BR cS;rw[h];have:ds.length+es.length<=sizeLine:=by omega
 simp only[J,Bool.not_false,Bool.true_or,decide_eq_true this,Bool.and_self,if_true]
theorem den_rooms{c:Int}{n:Nat}(Y:n<=24):∃R,dG [.int c,.int (n:Int)]=.ok ⟨.lst .leaf,ay R⟩/\Std n R:=by
 refine⟨(List.range n).filter λr:Nat=>decide (0<aX c (r:Int) 3),?_,Std.of _⟩
 have e:aw .leaf 2 (i5 (ae (aa 1) ah)) (aG aj (az dS (ar 3 ai (ae (aa 0) (ae (aa 2) (ae (eK (.int 3)) ah)))) (eK (.int 0)))) (aa 2) (bp 3 [.int c,.int (n:Int)])=.ok ⟨.lst .leaf,.list (((List.range n).filter λr:Nat=>decide (0<aX c (r:Int) 3)).map λr=>rm r)⟩ (bp 3 [.int c,.int (n:Int)]):=by
  refine i7 rm (List.range n) (λr:Nat=>decide (0<aX c (r:Int) 3)) (λr=>⟨.leaf,rm r⟩) (st:=true) ?_ (by simp[bp]) rfl (by simp;omega) (λr m=>?_) (λr m _=>?_)
  .exact kh (s:=.leaf) (n:=n) (by omega) (by simp[bp])
  .have:=List.mem_range.mp m
   have d:=qe (c:=c) (k:=(r:Int)) (b:=3) (by omega) (by omega) (by omega) (by omega)
   simp[bp,d]
  .simp[bp]
 exact aQ (aL e rfl)
theorem den_twinQ{w:Wd}(ok:w.Ok):d9 [w.enc]=.ok ⟨W3,w.enc⟩:=by
 have l:aq (aa 0) (eK (.int 0)) [JT w.enc,none]=.ok ⟨.leaf,.list w.os⟩ [JT w.enc,none]:=jC (j:=0) (au rfl) aS rfl rfl rfl
 have k:aq (aa 0) (eK (.int 1)) [JT w.enc,none]=.ok ⟨.leaf,.list (w.m.map bx)⟩ [JT w.enc,none]:=jC (j:=1) (au rfl) aS rfl rfl rfl
 have n:aq (aa 0) (eK (.int 2)) [JT w.enc,none]=.ok ⟨.leaf,.list (w.s.map ay)⟩ [JT w.enc,none]:=jC (j:=2) (au rfl) aS rfl rfl rfl
 have I:=ok.h24
 have X:aw .leaf 1 (aF (aq (aa 0) (eK (.int 1)))) aR (lh (aa 1)) [JT w.enc,none]=.ok ⟨.lst .leaf,.list (w.m.map bx)⟩ [JT w.enc,none]:=
  nr bx w.m (λx=>⟨.lst .leaf,bx x⟩) (st:=true) (bg (s:=.leaf) k rfl) (by simp) rfl (by rw[ok.lm];omega) λx A=>⟨vQ (au rfl) rfl,rfl⟩
 have Z:aw .leaf 1 (aF (aq (aa 0) (eK (.int 2)))) aR (lh (aa 1)) [JT w.enc,none]=.ok ⟨.lst .leaf,.list (w.s.map ay)⟩ [JT w.enc,none]:=
  nr ay w.s (λx=>⟨.lst .leaf,ay x⟩) (st:=true) (bg (s:=.leaf) n rfl) (by simp) rfl (by rw[ok.ls];omega) λx A=>⟨vQ (au rfl) rfl,rfl⟩
 exact aQ (aL (dX (aA (vQ l rfl) (aA X (aA Z ao))) rfl rfl) rfl)
theorem v_callS{G:List PV}{n:Nat}{d:D}{w:List D->Res}(N:b C=.ok G I)(U:w (G.map (·.d))=.ok ⟨.leaf,d⟩)(Y:G.length=n)(P:aV d=true):ar n w b C=.ok ⟨.leaf,d⟩ I:=by
 unfold ar;rw[N];simp only[Out.bind,Y,U,P,if_true]
 split<;>rfl
theorem den_lmarks{c:Int}:∃M,dH [.int c]=.ok ⟨.lst .leaf,bx M⟩/\(∀c∈M,c∈bb)/\br [bx M]=.ok ⟨.leaf,.bool true⟩/\M.length<=3:=by
 have e:aw .leaf 1 (fK "abc") (aG aj (az bP (ar 3 ai (ae (aa 0) (ae (bc (eh "abc") (ae (aa 1) ah)) (ae (eK (.int 3)) ah)))) (eK (.int 1)))) (aa 1) (bp 2 [.int c])=.ok ⟨.lst .leaf,.list (([0,1,2].filter λk:Nat=>aX c (k:Int) 3==1).map pH)⟩ (bp 2 [.int c]):=by
  refine i7 pH [0,1,2] (λk:Nat=>aX c (k:Int) 3==1) (λk=>⟨.leaf,pH k⟩) (st:=true) nh (by simp[bp]) rfl (by simp) (λk O=>?_) λk O _=>⟨au rfl,rfl⟩
  exact bQ (aC (cH (aA (au rfl) (aA (bt (aA (au rfl) ao) (uG O)) (aA aS ao))) (qe (by omega) (by have:=FV O;omega) (by omega) (by omega)) rfl rfl) aS KC.eq_int)
 let l:Nat->Str:=λk=>⟨#[97+k]⟩
 have i:∀L:List Nat,.list (L.map pH)=bx (L.map l):=λL=>by
  show PyData.list _=PyData.list _
  rw[map_map];rfl
 refine⟨([0,1,2].filter λk:Nat=>aX c (k:Int) 3==1).map l,?_,?_,?_,?_⟩
 .rw[<-i]
  exact aQ (aL e rfl)
 .intro x A
  obtain⟨k,O,rfl⟩:=List.mem_map.mp A;have:=(List.mem_filter.mp O).1
  simp at this
  rcases this with rfl|rfl|rfl<;>decide
 .have H:∀a b d:Bool,br [bx (((if a then[0]else[])++(if b then[1]else[])++(if d then[2]else[])).map l)]=.ok ⟨.leaf,.bool true⟩:=λa b d=>by
   have:=eP (ds:=(((if a then[0]else[])++(if b then[1]else[])++(if d then[2]else[])).map l).map PyData.str) (λx A=>by
    obtain⟨y,Z,rfl⟩:=List.mem_map.mp A;obtain⟨k,O,rfl⟩:=List.mem_map.mp Z;refine⟨_,rfl,me ?_⟩
    cases a<;>cases b<;>cases d<;>simp at O<;>omega) (by cases a<;>cases b<;>cases d<;>simp)
   refine this.trans ?_
   cases a<;>cases b<;>cases d<;>kernel_rfl
  have w:([0,1,2].filter λk:Nat=>aX c (k:Int) 3==1)=(if aX c ((0:Nat):Int) 3==1 then[0]else[])++(if aX c ((1:Nat):Int) 3==1 then[1]else[])++(if aX c ((2:Nat):Int) 3==1 then[2]else[]):=by
   simp only[filter_cons,List.filter_nil]
   cases aX c ((0:Nat):Int) 3==1<;>cases aX c ((1:Nat):Int) 3==1<;>cases aX c ((2:Nat):Int) 3==1<;>rfl
  rw[w];exact H _ _ _
 .rw[length_map]
  exact Nat.le_trans (length_filter_le _ _) (by simp)
theorem C9{w:Wd}(ok:w.Ok){i:Nat}{e:F1}{s:Sh}{r:Nat}(a:C[i]?=some (JT w.enc))(Z:e C=.ok ⟨s,rm r⟩ C)(m:r<w.n):aq (aq (aa i) (eK (.int 1))) e C=.ok ⟨.leaf,bx (w.mks r)⟩ C:=by
 rw[lX,lX,au a];simp only[Out.bind,aS,Wd.enc,eD,t8,DK]
 rw[Z];simp only[yY]
 rw[ok.at1 m]
theorem B3{w:Wd}(ok:w.Ok):PyData.canLay0 w.enc=true/\PyData.depth w.enc<=3:=by
 have h:=ok.g.wk (b:=24) ok.h24
 have o:=B4 h.o
 have m:=pS λr a=>let⟨Y,e,q,_⟩:=h.m r a;⟨Y,e,Ee q⟩
 have s:=pS λr a=>let⟨Y,e,q,_⟩:=h.s r a;⟨Y,e,B4 q⟩
 simp only[Wd.enc,eD,PyData.canLay0,PyData.canLayAll0,PyData.depth,PyData.depthAll,o.1,m.1,s.1,o.2,Bool.and_self,Bool.true_and,true_and]
 have:=m.2
 have:=s.2
 omega
end KQ
namespace KC
open PySem PySem.Spec L2 T PySem.SeqAt
open PyProof.Rows hiding St
section
variable{n:Nat}{st:Nat->List Nat}{ch:Nat->Bool}{goal thr:List Nat}{rk:List (Option Nat)}
theorem oo(R:RightG n st ch thr goal rk)(F:FN st ch goal rk)(U:∀r t,t∈st r->t<n){r j:Nat}(m:r<n)(e:bo rk r=some (j+1)):∃t,t<n/\bo rk t=some j:=by
 have l:r∉goal:=λz=>by have:=R.g r m z;rw[e]at this;cases this
 refine Classical.byContradiction λno=>F r (j+1) l e (yP (R.p r (j+1) m l e).2.2 λt u ⟨i,ei,hi⟩=>⟨i,ei,?_⟩)
 have:i≠j:=λz=>no ⟨t,U r t u,by rw[ei,z]⟩
 omega
theorem mL(R:RightG n st ch thr goal rk)(F:FN st ch goal rk)(U:∀r t,t∈st r->t<n):∀j r,r<n->bo rk r=some j->∀i,i<=j->∃t,t<n/\bo rk t=some i
 |0,r,hr,e,i,hi=>⟨r,hr,by rw[e,Nat.le_zero.mp hi]⟩
 |j+1,r,hr,e,i,hi=>by
  by_cases q:i=j+1
  .exact⟨r,hr,by rw[e,q]⟩
  .obtain⟨t,u,J⟩:=oo R F U hr e
   exact mL R F U j t u J i (by omega)
open Classical in
theorem xX(R:RightG n st ch thr goal rk)(F:FN st ch goal rk)(U:∀r t,t∈st r->t<n){j r:Nat}(m:r<n)(e:bo rk r=some j):j<n:=by
 have h:=mL R F U j r m e
 let f:Nat->Nat:=λi=>if q:i<=j then choose (h i q)else 0
 have L:∀i,i<=j->f i<n/\bo rk (f i)=some i:=λi q=>by
  have:=choose_spec (h i q)
  show(if q:i<=j then choose (h i q)else 0)<n/\_
  simp only[f,dif_pos q]
  exact this
 have:=CT (p:=(List.range (j+1)).map f) (n:=n) (by
  unfold List.Nodup;rw[pairwise_map];refine List.Pairwise.imp_of_mem (λ{a b} ha hb ne=>λz=>ne ?_) List.nodup_range
  have g:=(L a (by have:=List.mem_range.mp ha;omega)).2
  have c:=(L b (by have:=List.mem_range.mp hb;omega)).2
  rw[z,c]at g
  cases g;rfl) (λx A=>by
  obtain⟨i,l,rfl⟩:=List.mem_map.mp A;exact(L i (by have:=List.mem_range.mp l;omega)).1)
 simp at this
 omega
end
end KC
namespace T
open PySem PySem.Spec L2
open PyProof.Rows hiding St
def iC(i:Nat)(q:PV)(C:Ev):OutS:=match q.d,C[i]? with
 |.int k,some (some ⟨.lst .leaf,.list ds⟩)=>if decide (0<=k)&&decide (k<1000)&&decide (k.toNat<ds.length)then .nx (C.set i (some ⟨.lst .leaf,.list (ds.eraseIdx k.toNat)⟩))else .no
 |_,_=>.no
def dt(i:Nat)(e:F1):FS:=λC=>if ik C[i]? then(match e C with
 |.ok q o=>iC i q o
 |_=>.no)else .no
theorem ui{i:Nat}{q:PV}{Γ:Ev}:iC i q Γ=.no\/∃k t,q.d=.int k/\Γ[i]?=some (some ⟨.lst .leaf,.list t⟩)/\0<=k/\k<1000/\k.toNat<t.length/\iC i q Γ=.nx (Γ.set i (some ⟨.lst .leaf,.list (t.eraseIdx k.toNat)⟩)):=by
 unfold iC;split
 .rename_i k t Y g
  split
  .rename_i f
   rw[Bool.and_eq_true,Bool.and_eq_true,decide_eq_true_eq,decide_eq_true_eq,decide_eq_true_eq]at f;exact .inr ⟨k,t,Y,g,f.1.1,f.1.2,f.2,rfl⟩
  .exact .inl rfl
 .exact .inl rfl
section
variable{K:Fg}{W:XW}{σ:St}{H:Hp}{Q:VK}{D:cP}{fb:F1}
theorem o4{i:Nat}(h:tS K W (dt i fb) D σ H):dq (oS K "list" CY (cm i) (cV (tE K W fb) ja)) D σ H:=by
 obtain⟨M,O,Z,Γ,E,h⟩:=h;unfold dt at h
 cases f:ik Γ[i]? with
 |false=>rw[f]at h;exact h.elim
 |true=>
  rw[f]at h;obtain⟨ds0,R⟩:=zL f;obtain⟨l,L,J,S,_⟩:=E.chgF R;refine⟨.ref l,J,.inl ⟨rfl,L,.of S⟩,M,O,Z,Γ,E,?_⟩
  cases e:fb Γ with
  |er c X=>rw[e]at h;exact h.elim
  |no=>rw[e]at h;exact h.elim
  |ok q o=>
   rw[e]at h;intro y t G I A;have w:fU K W M O D (iC i q o):=h
   clear h;have N:=A.go
   have own:=A.own
   obtain⟨s,u⟩:=q;rcases ui (i:=i) (q:=⟨s,u⟩) (Γ:=o)with z|⟨k,ds,ek,e1,c1,c2,c3,z⟩
   .rw[z]at w;exact w.elim
   .rw[z]at w
    cases ek;have ey:Rep K t y (.int k):=own.rep
    cases ey;obtain⟨U,r,P,b,a3,a,a5⟩:=N.chgF e1;rw[J]at P
    cases P;have m:r[k.toNat]?=some (r[k.toNat]'(by omega)):=JJ _
    have p:=a5 (r.eraseIdx k.toNat) (ds.eraseIdx k.toNat) (by rw[length_eraseIdx,length_eraseIdx,a3]) λn x d g C=>by
     rw[List.getElem?_eraseIdx]at g C
     split at g
     .rename_i Y
      rw[if_pos Y]at C;exact a _ x d g C
     .rename_i Y
      rw[if_neg Y]at C;exact a _ x d g C
    have v:seqIndex? k r.length=some k.toNat:=by
     have j:¬k<0:=by omega
     have:(decide (0<=k)&&decide (k<(r.length:Int)))=true:=by rw[Bool.and_eq_true,decide_eq_true_eq,decide_eq_true_eq];omega
     simp only[seqIndex?,if_neg j,this,if_true]
    refine⟨l,r,k,k.toNat,_,rfl,rfl,b,?_,?_,v,m,w σ _ I p⟩
    .have:(0:Int)<=2 ^ 63:=by decide
     omega
    .have:(1000:Int)<=2 ^ 63:=by decide
     omega
end
section
variable{X:Cx}{N gl:List Str}{vs cs ls lo gs:List Nat}{W:XW}{a b c e:Expr}{es:List Expr}{pos p:Pos}{fa fb fc fk:F1}{fl:FL}{g:FS}
theorem cs_popD(S:Cp X N gl vs cs ls lo gs)(i:Nat){x:Str}{d h:Pos}(l:N[i]?=some x)(R:vs.contains i=true)(Z:PE X b (tE X.K W fb))(E:starEach [b] X.env=[(false,eval b X.env)])(j:attributeBase (.Name x p) "pop" X.env (eval (.Name x p) X.env)=eval (.Name x p) X.env)(f:(d.endLine==h.line)=true)(n:((backTo h (starEach [b] X.env)).all (λx=>!x.1)&&(backToKw h (keywordEach [] X.env)).all (λx=>x.1.isSome)
   && decide ([b].length+([]:List Keyword).length+(if([]:List Keyword).isEmpty then 0 else 1)<30))=true)(v:swapsWith (.Call (.Attribute (.Name x p) "pop" d) [b] [] h) none pos.line X.env=pure false):PS X (.Expr (.Call (.Attribute (.Name x p) "pop" d) [b] [] h) pos) (tS X.K W (dt i fb)):=by
 have m:=S.nm x (mem_of_getElem? l)
 exact bB (vB (eN PySem.F.plainAttrs_list PySem.F.slot_list_pop PySem.F.type_list_pop G6 (lz (by rw[S.hN];exact l) (S.vis i x l R) m.1 m.2) (sf Z yI E) j n f E rfl) v) λ_ _ _=>o4
end
end T
namespace TQ
open PySem PySem.Spec L2 T
open PyProof.Rows hiding St
section
variable{X:Cx}{N gl:List Str}{vs cs ls lo gs:List Nat}{W:XW}{a b c e:Expr}{es:List Expr}{pos p:Pos}{fa fb fc fk:F1}{fl:FL}{g:FS}
theorem qo(S:Cp X N gl vs cs ls lo gs)(i:Nat){x:Str}{d h:Pos}(Z:Q (PE X b (tE X.K W fb)))(l:N[i]?=some x:=by rfl)(R:vs.contains i=true:=by rfl)(E:starEach [b] X.env=[(false,eval b X.env)]:=by exact dk rfl)(j:attributeBase (.Name x p) "pop" X.env (eval (.Name x p) X.env)=eval (.Name x p) X.env:=by rfl)(f:(d.endLine==h.line)=true:=by rfl)(n:((backTo h (starEach [b] X.env)).all (λx=>!x.1)&&(backToKw h (keywordEach [] X.env)).all (λx=>x.1.isSome)
   && decide ([b].length+([]:List Keyword).length+(if([]:List Keyword).isEmpty then 0 else 1)<30))=true:=by rfl)(v:swapsWith (.Call (.Attribute (.Name x p) "pop" d) [b] [] h) none pos.line X.env=pure false:=by rfl):Q (PS X (.Expr (.Call (.Attribute (.Name x p) "pop" d) [b] [] h) pos) (tS X.K W (dt i fb))):=⟨T.cs_popD S i l R Z.p E j f n v⟩
end
end TQ
namespace T
open PySem
variable{Y:Array Nat}{k:Int}{b:Bool}{t:SetTable}{h:Heap}{a:Addr}{S:Int->Bool}{N:Nat}{M:Model}{z:Pos}
theorem Gq{Y:Array Nat}{j p:Nat}(y:∀k,k<Y.size->(Y.getD k j<j↔k<p)):∀(a O l:Nat),O<=p->p<=l->l<=Y.size->l-O<=a->SetTable.below.go Y j a O l=p
 |0,O,l,h1,h2,h3,h4=>by
  unfold SetTable.below.go;omega
 |n+1,O,l,h1,h2,h3,h4=>by
  unfold SetTable.below.go;by_cases c:O<l
  .rw[if_pos c]
   have C:=y ((O+l) / 2) (by omega)
   simp only
   by_cases d:Y.getD ((O+l) / 2) j<j
   .rw[if_pos d]
    have:=C.mp d
    exact Gq y n _ _ (by omega) h2 h3 (by omega)
   .rw[if_neg d]
    have:¬(O+l) / 2<p:=λz=>d (C.mpr z)
    exact Gq y n _ _ h1 (by omega) (by omega) (by omega)
  .rw[if_neg c]
   omega
theorem Gr{j p:Nat}(y:∀k,k<Y.size->(Y.getD k j<j↔k<p))(P:p<=Y.size):SetTable.below Y j=p:=Gq y Y.size 0 Y.size (Nat.zero_le _) P (JR _) (by omega)
def Rs(Y:Array Nat):Prop:=Y.toList.Pairwise (· < ·)
theorem Rs.lt(h:Rs Y){i k:Nat}(l:i<Y.size)(O:k<Y.size)(a:i<k):Y[i]<Y[k]:=by
 have:=(List.pairwise_iff_getElem.mp h) i k (by simpa using l) (by simpa using O) a
 simpa using this
theorem oH:SetTable.below Y 0=0:=Gr (λk _=>by simp) (Nat.zero_le _)
theorem zF{k j:Nat}(O:k<Y.size):Y.getD k j=Y[k]:=by
 unfold Array.getD;rw[dif_pos O];rfl
theorem oI(h:Rs Y){i:Nat}(l:i<Y.size):SetTable.below Y (Y[i]+1)=i+1:=by
 refine Gr (λk O=>?_) (by omega)
 rw[zF O];rcases Nat.lt_trichotomy k i with c|c|c
 .have:=h.lt O l c
  omega
 .subst c
  omega
 .have:=h.lt l O c
  omega
theorem iD(j:Nat):∀(l:List Nat),l.Pairwise (· < ·)->∀k,k<l.length->(l.getD k j<j↔k<l.countP (·<j))
 |[],_,k,hk=>by simp at hk
 |a::l,h,k,hk=>by
  obtain⟨J,S⟩:=List.pairwise_cons.mp h;rw[List.countP_cons];by_cases c:a<j
  .simp only[c,decide_true,if_true]
   cases k with
   |zero=>simpa using c
   |succ k=>
    have:=iD j l S k (by simpa using hk)
    simp only[List.getD_cons_succ]
    omega
  .have z:l.countP (·<j)=0:=List.countP_eq_zero.mpr λb Z=>by
    have:=J b Z
    simp
    omega
   simp only[c,decide_false,Bool.false_eq_true,if_false,z]
   cases k with
   |zero=>simp;omega
   |succ k=>
    have t:k<l.length:=by simpa using hk
    simp only[List.getD_cons_succ]
    rw[JK,JJ t];have:=J _ (getElem_mem t)
    simp only[Option.getD_some]
    omega
theorem Rs.point(h:Rs Y)(j:Nat):(∀k,k<Y.size->(Y.getD k j<j↔k<SetTable.below Y j))/\SetTable.below Y j<=Y.size:=by
 have y:∀k,k<Y.size->(Y.getD k j<j↔k<Y.toList.countP (·<j)):=λk O=>by
  have:=iD j Y.toList h k (by simpa using O)
  rw[JK,JJ (by simpa using O)]at this
  rw[zF O];simpa using this
 have f:Y.toList.countP (·<j)<=Y.size:=by
  have:=List.countP_le_length (p:=(·<j)) (l:=Y.toList)
  simpa using this
 rw[Gr y f];exact⟨y,f⟩
theorem Rs.insert(h:Rs Y){j:Nat}(A:Y[SetTable.below Y j]?≠some j):Rs (SetTable.insertAt Y (SetTable.below Y j) j):=by
 obtain⟨y,P⟩:=h.point j;generalize SetTable.below Y j=p at y P A
 unfold Rs SetTable.insertAt;have e:(((Y.extract 0 p).push j)++Y.extract p Y.size).toList=Y.toList.take p++[j]++Y.toList.drop p:=by
  simp[Array.toList_extract,List.extract]
  rw[take_of_length_le (by simp)]
 rw[e,append_assoc,List.pairwise_append];have f:∀a∈Y.toList.take p,a<j:=λa U=>by
  obtain⟨k,O,rfl⟩:=getElem_of_mem U;rw[length_take]at O;have t:k<Y.size:=by
   have:k<Y.toList.length:=by omega
   simpa using this
  have:=(y k t).mpr (by omega)
  rw[zF t]at this;simpa using this
 have i:∀a∈Y.toList.drop p,j<a:=λa U=>by
  obtain⟨k,O,rfl⟩:=getElem_of_mem U;rw[length_drop,Array.length_toList]at O;have t:p+k<Y.size:=by omega
  have q:¬Y.getD (p+k) j<j:=λz=>by have:=(y (p+k) t).mp z;omega
  rw[zF t]at q;have g:(Y.toList.drop p)[k]=Y[p+k]:=by simp
  rw[g];have K:Y[p+k]≠j:=λz=>by
   cases k with
   |zero=>
    simp only[Nat.add_zero]at z
    exact A (by rw[Array.getElem?_eq_getElem (by omega),z])
   |succ k=>
    have I:p<Y.size:=by omega
    have d:¬Y.getD p j<j:=λz=>by have:=(y p I).mp z;omega
    rw[zF I]at d;have:=h.lt I t (by omega)
    omega
  omega
 refine⟨h.sublist (List.take_sublist _ _),?_,λa U b Z=>?_⟩
 .rw[List.singleton_append,List.pairwise_cons]
  exact⟨i,h.sublist (List.drop_sublist _ _)⟩
 .have X:=f a U
  rw[List.singleton_append]at Z;rcases JI Z with rfl|Z
  .exact X
  .have:=i b Z
   omega
theorem tF{n:Nat}:Rs (Array.range n):=by
 unfold Rs;rw[Array.toList_range];exact List.pairwise_lt_range
structure Tb(b:Bool)(t:SetTable):Prop where
 led:b=false->t.led=true
 rs:Rs t.place
 nd:t.dummies=#[]
theorem Tb.fresh:Tb b (.fresh 0 0 (!b)):=⟨λe=>by rw[e];rfl,List.Pairwise.nil,rfl⟩
theorem Tb.standIn(h:Tb b t)(n:Nat):Tb b (t.standIn n):=⟨h.led,tF,rfl⟩
theorem Tb.orStandIn(h:Tb b t)(n:Nat):Tb b (t.orStandIn n):=by
 unfold SetTable.orStandIn;split
 .exact h
 .exact h.standIn n
theorem Tb.plain{b:Bool}{t:SetTable}(h:Tb b t)(p:Bool):Tb b {t with plain:=p}:=⟨h.led,h.rs,h.nd⟩
theorem mq{j:Nat}:SetTable.has #[] j=false:=by
 unfold SetTable.has;simp
theorem Tb.put(h:Tb b t){j:Nat}(A:t.place[SetTable.below t.place j]?≠some j):Tb b (t.put j).1:=by
 refine⟨h.led,h.rs.insert A,?_⟩
 show(if SetTable.has t.dummies j=true then _ else t.dummies)=#[]
 rw[h.nd,mq];rfl
theorem gA{b:Bool}{t:SetTable}(h:Tb b t){U:Nat->Int}{k:Int}:∀(a:Nat)(p:SetTable.Probe),p.dummy=none->∀j d,SetTable.probe.go t U k a p=some (.empty j d)->d=none/\t.place[SetTable.below t.place j]?≠some j
 |0,p,_,j,d,e=>by unfold SetTable.probe.go at e;cases e
 |n+1,p,hp,j,d,e=>by
  unfold SetTable.probe.go at e;have c:(t.advance p).dummy=none:=by
   unfold SetTable.advance;split
   .exact hp
   .exact hp
  cases q:t.slot p.j with
  |empty=>
   rw[q]at e;simp only[Option.some.injEq,SetTable.Met.empty.injEq]at e
   obtain⟨rfl,rfl⟩:=e;refine⟨hp,λz=>?_⟩
   unfold SetTable.slot at q;simp only[z,beq_self_eq_true,if_true]at q
   cases q
  |dummy=>
   unfold SetTable.slot at q;simp only[h.nd,mq]at q
   split at q<;>simp at q
  |live i=>
   rw[q]at e;simp only at e
   split at e
   .cases e
   .exact gA h n _ c j d e
theorem Tb.free(h:Tb b t){j:Nat}{d:Bool}(e:t.freeSlot k=some (j,d)):t.place[SetTable.below t.place j]?≠some j:=by
 unfold SetTable.freeSlot at e
 cases q:t.probe (λ_=>k+1) k (t.probeStart k)with
 |none=>rw[q]at e;cases e
 |some m=>
  rw[q]at e
  cases m with
  |candidate _ _ _=>cases e
  |empty i x=>
   obtain⟨rfl,l⟩:=gA h _ _ rfl i x q;simp only[Option.some.injEq,Prod.mk.injEq]at e
   obtain⟨rfl,_⟩:=e;exact l
theorem Tb.layNew(h:Tb b t)(U:Array (Int×Value))(k:Int)(x:Value):Tb b (PySem.layNew t U k x).2.1:=by
 unfold PySem.layNew
 cases e:t.freeSlot k with
 |none=>exact h.standIn _
 |some a=>
  obtain⟨j,d⟩:=a;exact(h.put (h.free e)).orStandIn _
theorem xC{led plain:Bool}{d g u:Nat}{P:Array Int}{o:Array Nat}(N:b=false->led=true)(e:SetTable.laid d g u led plain P=some (t,o)):Tb b t:=by
 unfold SetTable.laid at e
 cases q:SetTable.layClean d P with
 |none=>rw[q]at e;cases e
 |some I=>
  rw[q]at e;simp only[Option.bind_eq_bind,Option.bind_some,Option.pure_def,Option.some.injEq,Prod.mk.injEq]at e
  obtain⟨rfl,_⟩:=e;refine⟨N,?_,rfl⟩
  unfold Rs;simp only[List.toList_toArray]
  rw[pairwise_map];refine List.Pairwise.filterMap _ (R:=(· < ·)) (λa j h c f v G=>?_) List.pairwise_lt_range
  cases x:I.getD a none with
  |none=>rw[x]at f;cases f
  |some y=>
   cases C:I.getD j none with
   |none=>rw[C]at G;cases G
   |some i=>
    rw[x]at f;rw[C]at G
    cases f
    cases G
    exact h
theorem Tb.relay(h:Tb b t)(U:Array (Int×Value))(n:Nat):Tb b (relayAll t U n).2.1:=by
 unfold relayAll
 cases e:t.relaid (U.map (·.1)) n with
 |none=>exact h.standIn _
 |some c=>
  obtain⟨O,o⟩:=c;simp only
  split
  .unfold SetTable.relaid at e
   exact xC h.led e
  .exact h.standIn _
open PySem.Spec L2
open PyProof.Rows hiding St
abbrev da(w:World):Bool:=w.params.followText "set-order"
def SetT(P:Program)(w:World)(h:Heap)(a:Addr)(S:Int->Bool)(n:Nat):Prop:=
 ∃o U N t,h.get? a=some o/\o.ExactSet/\o.data=.set U N t/\ElemsOf (intKind P w) U.toList/\(∀k,S k=true↔∃e∈U.toList,(intKind P w).is k e.2=true)/\U.size<scanBound/\t.fits U.size=true/\U.size=n/\Tb (da w) t
section
variable{P:Program}{w:World}{A:Around}{E:Value->Shared->Prop}{s:Shared}
theorem SetT.at{j:Heap}{n:Nat}(x:SetT P w h a S n)(k:∀o,h.get? a=some o->j.get? a=some o):SetT P w j a S n:=by
 obtain⟨o,U,N,t,J,r⟩:=x;exact⟨o,U,N,t,k o J,r⟩
theorem SetT.congr{g:Int->Bool}{n i:Nat}(x:SetT P w h a S n)(e:∀k,S k=g k)(j:n=i):SetT P w h a g i:=by
 have:S=g:=funext e
 subst this j;exact x
theorem oV{o:Obj}{b f:Array (Int×Value)}{O:SetTable}(J:h.get? a=some o)(l:o.ExactSet)(U:o.data=.set b N t)(d:ElemsOf (intKind P w) f.toList)(C:∀k,S k=true↔∃e∈f.toList,(intKind P w).is k e.2=true)(Z:f.size<scanBound)(L:O.fits f.size=true)(G:Tb (da w) O):(h.update a (Obj.putSet f O)).get? a=some {o with data:=.set f (N+1) O}/\SetT P w (h.update a (Obj.putSet f O)) a S f.size:=by
 have q:=(SetOf_store (knd:=intKind P w) J l U d C Z L).1
 exact⟨q,_,f,N+1,O,q,l,rfl,d,C,Z,L,rfl,G⟩
theorem Er{n:Nat}{x:Value}{Q:Bool->Shared->Prop}(O:(intKind P w).is k x=true)(hx:x.scannable=true)(hS:SetT P w s.heap a S n)(m:n+1<scanBound)(h:∀h',Heap.SameBut a s.heap h'->SetT P w h' a (λi=>S i||decide (i=k)) (if S k then n else n+1)->∀b,Q b {s with heap:=h'}):wpAny (model P w) A (setAddHashed a x ((intKind P w).hash k)) Q E s:=by
 obtain⟨o,es,ep,t,J,l,U,d,C,Z,hf,Y,G⟩:=hS;unfold setAddHashed setAddHashedIn;refine wpAny_holding (JO (wpAny_setState_of J U hf ?_))
 dsimp only;rw[byScan_of hx Z d,if_pos rfl];unfold setAddByScan;refine JO (JO (wpAny_rule (JO (wpAny_setScan_of O J U hf d ?_))))
 cases q:List.findIdx? (λe=>(intKind P w).is k e.2) es.toList with
 |some j=>
  dsimp only;obtain⟨hj,hp,_⟩:=List.findIdx?_eq_some_iff_getElem.mp q
  have sk:S k=true:=(C k).mpr ⟨_,getElem_mem hj,hp⟩
  refine JP (JP ?_)
  have z:=h s.heap (Heap.SameBut.refl a s.heap) ⟨o,es,ep,t,J,l,U,d,λi=>?_,Z,hf,by rw[sk];exact Y,G⟩ false
  .have f:s={s with heap:=s.heap}:=by cases s;rfl
   rw[f];exact z
  .rw[Bool.or_eq_true,decide_eq_true_eq,<-C i]
   exact⟨λy=>y.elim id λe=>e▸sk,.inl⟩
 |none=>
  dsimp only;have sk:S k=false:=by
   cases e:S k with
   |false=>rfl
   |true=>
    obtain⟨y,hy,hp⟩:=(C k).mp e;have:=List.findIdx?_eq_none_iff.mp q y hy
    rw[hp]at this
    cases this
  have c:=layNew_perm t es ((intKind P w).hash k) x
  have ft:=layNew_fits t es ((intKind P w).hash k) x
  have u:=G.layNew es ((intKind P w).hash k) x
  generalize layNew t es ((intKind P w).hash k) x=L at c ft u ⊢
  obtain⟨g,t1,wd,gv⟩:=L;dsimp only at c ft u ⊢
  rw[Array.toList_push]at c;have el1:ElemsOf (intKind P w) g.toList:=(d.push O hx).perm c
  have m1:=λi=>mem_push_iff O C c i
  have sz:g.size=n+1:=by rw[<-Array.length_toList,c.length_eq,length_append,Array.length_toList,Y];rfl
  have b1:g.size<scanBound:=by rw[sz];exact m
  have gw:∀(b:Bool){s1:Shared}{R:Unit->Shared->Prop},R () s1->wpAny (model P w) A (match b with|true=>rule "set.scan.the-table-gave-way" |false=>pure ()) R E s1:=λb s1 R y=>by
   cases b
   .exact JP y
   .exact wpAny_rule y
  have fin:∀h',Heap.SameBut a s.heap h'->SetT P w h' a (λi=>S i||decide (i=k)) g.size->∀b,Q b {s with heap:=h'}:=λh' r y=>by
   have:=h h' r
   rw[sk]at this;rw[sz]at y;exact this y
  have H:∀v:SetTable,v.fits g.size=true->Tb (da w) v->∀{R:Option Bool->Shared->Prop},(∀h',(∀b,Q b {s with heap:=h'})->R (some true) {s with heap:=h'})->wpAny (model P w) A (do
    storeSet a g v
    if(!wd&&v.tooFull)=true then do
      (match(relayAll v g (SetTable.grown g.size)).2.2 with|true=>rule "set.scan.the-table-gave-way" |false=>pure ())
      storeSet a (relayAll v g (SetTable.grown g.size)).1 (relayAll v g (SetTable.grown g.size)).2.1
      pure (some true)
     else pure (some true)) R E s:=λv p tb2 R hR=>by
   refine JO (wpAny_storeSet_of J U ?_ (fits_of_scanBound b1))
   obtain⟨K,s1⟩:=oV J l U el1 m1 b1 p tb2;have sb1:=Heap.SameBut.update s.heap a (Obj.putSet g v)
   split
   .have I:=relayAll_perm v g (SetTable.grown g.size)
    have X:=relayAll_fits v g (SetTable.grown g.size)
    have M:=tb2.relay g (SetTable.grown g.size)
    generalize relayAll v g (SetTable.grown g.size)=Rl at I X M ⊢
    obtain⟨e2,t3,g2⟩:=Rl;dsimp only at I X M ⊢
    have sz2:e2.size=g.size:=by rw[<-Array.length_toList,I.length_eq,Array.length_toList]
    have b2:e2.size<scanBound:=by rw[sz2];exact b1
    refine JO (gw _ (JO (wpAny_storeSet_of K rfl ?_ (fits_of_scanBound b2))))
    obtain⟨_,N⟩:=oV (P:=P) (S:=λi=>S i||decide (i=k)) K l rfl (el1.perm I) (λi=>(m1 i).trans ⟨λ⟨e,he,y⟩=>⟨e,I.mem_iff.mpr he,y⟩,λ⟨e,he,y⟩=>⟨e,I.mem_iff.mp he,y⟩⟩) b2 X M
    rw[sz2]at N;exact JP (hR _ (fin _ (sb1.trans (Heap.SameBut.update _ a _)) N))
   .exact JP (hR _ (fin _ sb1 s1))
  refine JO (gw _ ?_)
  split
  .refine JO ?_
   rw[hashByValue_scannable 8 hx];refine JP ?_
   refine H _ ?_ ?_ λh' y=>?_
   .split
    .exact ft
    .exact SetTable.fits_plain_off ft
   .split
    .exact u
    .exact u.plain false
   .exact JP (y true)
  .refine JO (JP ?_)
   simp only[if_true]
   exact H _ ft u λh' y=>JP (y true)
end
section
variable{P:Program}{w:World}{A:Around}{R:Result->Shared->Prop}{I:Addr}{fp wr:List Addr}{G:Array GenState->Array GenState->Prop}{n:Nat}{Pr:Nat->Value->Prop}{Sn:Nat->Shared->Prop}
theorem Dq(W:WalksS P w A.in1 I fp wr G n Pr Sn)(S:Addr)(J:S∉fp)(g:Nat->Int)(U:∀i v,Pr i v->∃t,v=.int (g i) t)(Z:n+1<scanBound):∀(k i:Nat)(s:Shared),n-i=k->i<=n->Sn i s->SetT P w s.heap S (λz=>(firstMet g i).any (·==z)) (firstMet g i).length ->
   (∀K,Moved (S::wr) G s K->SetT P w K.heap S (λz=>(firstMet g n).any (·==z)) (firstMet g n).length->R (.ok (.ret .none)) K)->codeAny (model P w) A (.builtin "set.update.loop" ⟨[.ref S,.ref I],[]⟩) R s:=by
 have L:S∉wr:=λz=>J (W.sub _ z)
 have H:∀b∈wr,b∈S::wr:=λb z=>JL _ z
 intro k;induction k with
 |zero=>
  intro i s O l d x a;obtain rfl:i=n:=by omega
  refine codeAny_builtin F.entry_set_update_loop ?_
  rw[Around.under_plainId F.plain_set_update_loop _];refine JO (W.done s _ _ d λK u=>?_)
  exact JP (a K (u.mono H) (x.at λo e=>u.heap S o L e))
 |succ k E=>
  intro i s O l d x a;have lt:i<n:=by omega
  refine codeAny_builtin F.entry_set_update_loop ?_
  rw[Around.under_plainId F.plain_set_update_loop _];refine JO (W.item i s _ _ lt d λv K y r u=>?_)
  obtain⟨t,rfl⟩:=U i v y;have C:=x.at λo e=>u.heap S o L e
  refine JO (wpAny_holding ?_)
  unfold setAdd;refine wpAny_holding (JO ((intKind P w).pyHash (k:=g i) (intKind_is _ _ _ _) ?_))
  have h:(firstMet g i).length+1<scanBound:=by have:=firstMet_length_le g i;omega
  refine Er (s:={K with toks:=K.toks+1}) (intKind_is _ _ _ _) rfl C h λj M p b=>?_
  have m:SetT P w j S (λz=>(firstMet g (i+1)).any (·==z)) (firstMet g (i+1)).length:=p.congr (λz=>by rw[firstMet_succ,step_any]) (by rw[firstMet_succ,step_length])
  refine JP ⟨plainId_quiet F.plain_set_update_loop _,E (i+1) _ (by omega) lt (W.frame _ K _ _ r (Nat.le_succ _) λc f o e=>?_) m λN q Y=>?_⟩
  .rw[M.2 c λz=>J (by rw[<-z];exact f)]
   exact e
  .refine a N (Moved.trans W.gtrans ((u.mono H).then_heap (Nat.le_succ _) λc o f e=>?_) q) Y
   rw[M.2 c λz=>f (by rw[z];exact mem_cons_self)]
   exact e
end
section
variable{P:Program}{w:World}{A:Around}{E:Value->Shared->Prop}{s:Shared}
abbrev iG(w:World):Obj:={cls:=.type "set",dict:=none,data:=.set #[] 0 (.fresh 0 0 (!da w))}
theorem D2(a:Value){Q:Value->Shared->Prop}(h:Q (.ref s.heap.objs.size) {s with heap:=s.heap.push (iG w)}):codeAny (model P w) A (.call (.builtin "set.__new__") ⟨[.type "set",a],[]⟩) (wants Q E) s:=by
 refine codeAny_of_tree ?_
 refine JO (wpAny_of_eq (F.newCall_set_1 a) (JP ⟨plainId_quiet F.plain_set_new _,codeAny_builtin F.entry_set_new ?_⟩))
 rw[Around.under_plainId F.plain_set_new _];unfold Builtin.«set.__new__» Builtin.Frozenset.newClass
 have n:=sub_set_self
 obtain⟨y,g,d,C,G⟩:=s;dsimp only;wp_walk
 refine wpAny_askSetting (JP ?_)
 dsimp only;simp only[newObj]
 exact JO (wpAny_alloc (JP (JP h)))
theorem xU(e:h.get? a=some (iG w)):SetT P w h a (λ_=>false) 0:=
 ⟨_,#[],0,_,e,⟨rfl,rfl,rfl⟩,rfl,λe R=>by simp at R,λk=>by simp,by decide,rfl,rfl,Tb.fresh⟩
theorem oE{l:Addr}{g:Array Value}{ns:List Int}{Q:Value->Shared->Prop}(M:A.handled=none)(N:s.heap.IsList l g)(hi:IntsAre g.toList ns)(Z:g.size+1<scanBound)(h:∀(j:Heap)(C:Nat),SetT P w j s.heap.objs.size (λz=>(firstMet (λi=>ns.getD i 0) g.size).any (·==z)) (firstMet (λi=>ns.getD i 0) g.size).length->(∀b o,s.heap.get? b=some o->j.get? b=some o)->Q (.ref s.heap.objs.size) {s with heap:=j,toks:=C}):wpAny (model P w) A (call (.type "set") [.ref l]) Q E s:=by
 obtain⟨c,O,mro⟩:=F.called_set.mro;have made:=F.called_set.made
 have n:=F.called_set.sub
 refine wpAny_call (codeAny_of_tree ?_)
 show wpAny _ _ (callAny (.type "set") _) _ _ _
 refine JP ⟨Code.quiet_builtin _ (by decide +kernel),codeAny_builtin F.entry_type_call ?_⟩
 rw[Around.under_plain (weight_type_call_type "set" [.ref l] []) rfl]
 have J:=F.called_set.notType
 have S:=F.called_set.canCreate
 have ct:=F.typeCall_set_1 (.ref l)
 repeat (any_goals (first|assumption|wp_step))
 refine codeAny_mono (D2 (.ref l) (E:=E) (Q:=λob y=>ob=.ref s.heap.objs.size/\y={s with heap:=s.heap.push (iG w)}) ⟨rfl,rfl⟩) λr y m=>?_
 cases r with
 |error e=>exact m
 |ok fl=>
  cases fl with
  |ret ob=>
   obtain⟨rfl,rfl⟩:=m;have gS:(s.heap.push (iG w)).get? s.heap.objs.size=some (iG w):=Heap.get?_push_size _ rfl
   have ty:Shared.TypeIs {s with heap:=s.heap.push (iG w)} (.ref s.heap.objs.size) "set":=⟨_,gS,rfl⟩
   have d:=F.called_set.init.lookup
   have bi:=F.called_set.init.bind (.ref s.heap.objs.size)
   repeat (any_goals (first|assumption|wp_step))
   refine codeAny_mono (codeAny_call_builtin (R:=wants (λr s2=>r=.none/\∃j C,s2={s with heap:=j,toks:=C}/\SetT P w j s.heap.objs.size (λz=>(firstMet (λi=>ns.getD i 0) g.size).any (·==z)) (firstMet (λi=>ns.getD i 0) g.size).length/\(∀b o,s.heap.get? b=some o->j.get? b=some o)) E) F.called_set.init.plain F.entry_set_init (check_set_init_1 ty ?_)) λr2 s2 a=>?_
   .have hl':=N
    obtain⟨ol,t,U,q,f⟩:=N;obtain⟨oc,od,odt,G⟩:=ol;simp only at U f
    subst U f;have gl':(s.heap.push (iG w)).get? l=some {cls:=.type "list",dict:=od,data:=.seq g q,slots:=G}:=JQ _ t
    have y:=F.sub_list_set
    have s2:=F.sub_list_frozenset
    have ne:(Value.type "list"==Value.type "dict")=false:=by decide
    have X:(s.heap.push (iG w)).IsList l g:=⟨_,gl',rfl,q,rfl⟩
    unfold Builtin.«set.__init__» noKeywords Builtin.Frozenset.updateFrom
    generalize hPI:pyIter=PI
    wp_walk
    subst hPI;refine wpAny_pyIter_list X (JO (wpAny_runValue ?_))
    have H:l<s.heap.objs.size:=Heap.lt_size t
    have I:A.in1.in1.in1.handled=none:=by simp[M]
    have nI:l≠(s.heap.push (iG w)).objs.size:=by
     rw[Heap.size_push];exact Nat.ne_of_lt (Nat.lt_succ_of_lt H)
    have nf:s.heap.objs.size∉[(s.heap.push (iG w)).objs.size,l]:=by
     rw[Heap.size_push];simp only[mem_cons,not_mem_nil,or_false,not_or]
     exact⟨Nat.ne_of_lt (Nat.lt_succ_self _),Nat.ne_of_gt H⟩
    refine Dq ((Walks.list I _ l nI g).toS) s.heap.objs.size nf (λi=>ns.getD i 0) (λi v e=>IntsAre.int_at hi i v (by rw[Array.getElem?_toList];exact e)) Z (g.size-0) 0 _ (by omega) (Nat.zero_le _) ⟨⟨_,Heap.get?_push_size _ rfl,rfl,rfl⟩,X.push _⟩ ?_ λK u x=>?_
    .exact(xU (JQ _ gS)).congr (λ_=>rfl) rfl
    .obtain⟨j,g',Y,k,os'⟩:=K
     have e1:g'=s.gens:=u.gens
     have e2:Y=s.drawn:=u.drawn
     have e3:os'=s.os:=u.os
     subst e1 e2 e3;refine JP (JP ⟨rfl,j,k,rfl,x,λb o e=>?_⟩)
     have L:b≠s.heap.objs.size:=Nat.ne_of_lt (Heap.lt_size e)
     have hb2:b≠(s.heap.push (iG w)).objs.size:=by
      rw[Heap.size_push];exact Nat.ne_of_lt (Nat.lt_succ_of_lt (Heap.lt_size e))
     exact u.heap b o (by simp only[mem_cons,not_mem_nil,or_false,not_or];exact⟨L,hb2⟩) (JQ _ (JQ _ e))
   .cases r2 with
    |error e=>exact a
    |ok p=>
     cases p with
     |ret r=>
      obtain⟨rfl,j,C,rfl,x,kp⟩:=a;repeat (any_goals (first|assumption|wp_step))
      exact h _ _ x kp
     |_=>exact a.elim
  |_=>exact m.elim
end
theorem kM:entryFor table "set.__iter__"=some Builtin.«frozenset.__iter__»:=entryFor_alias (id' := "frozenset.__iter__") (by kernel_rfl) rfl (by decide +kernel) (by kernel_rfl)
theorem slot_si_next:Slot "set_iterator" "__next__" "set_iterator.__next__":=
 .of (owner := "set_iterator") (n := "__next__") (by rw[typeLookup_type,builtinLookup_eq_fast];kernel_rfl) (by decide +kernel) (by decide +kernel) (by decide +kernel) (by first|exact .inl (by decide +kernel)|exact .inr (by decide +kernel)) (by rw[isSubtype_type];kernel_rfl)
theorem Fd:entryFor table "set_iterator.__next__"=some Builtin.«set_iterator.__next__»:=entryFor_of_tree (by kernel_rfl)
theorem EY(a:Value):argsOk "set_iterator.__next__" ⟨[a],[]⟩:=by
 unfold argsOk;rw[signature?_of (id := "set_iterator.__next__") (n:=['_','_','t','x','e','n','_','_']) (o:=['r','o','t','a','r','e','t','i','_','t','e','s']) (by kernel_rfl) (show Manifest.owners.lookup (String.ofList ['r','o','t','a','r','e','t','i','_','t','e','s'].reverse)=some Manifest.sig_set_iterator by kernel_rfl)]
 kernel_rfl
theorem pq{m:Type}(b:Nat->Nat):∀(a k:Nat)(l:List m)(out:Array m),l.length=a->(pickOrder.go b a k l out).toList.Perm (out.toList++l)
 |0,k,l,out,h=>by
  unfold pickOrder.go;rw[List.length_eq_zero_iff.mp h,append_nil]
 |n+1,k,l,out,h=>by
  unfold pickOrder.go;have lt:b k % l.length<l.length:=Nat.mod_lt _ (by omega)
  generalize b k % l.length=j at lt
  rw[JJ lt];simp only
  have E:=pq b n (k+1) (l.eraseIdx j) (out.push l[j]) (by rw[List.length_eraseIdx_of_lt lt];omega)
  refine E.trans ?_
  rw[Array.toList_push,append_assoc];refine List.Perm.append_left _ ?_
  rw[List.singleton_append];rw[List.eraseIdx_eq_take_drop_succ];have e:l=l.take j++l[j]::l.drop (j+1):=by rw[List.getElem_cons_drop,List.take_append_drop]
  conv=>rhs;rw[e]
  exact List.perm_middle.symm
theorem G7{m:Type}(b:Nat->Nat)(Y:Array m):(pickOrder b Y).toList.Perm Y.toList:=by
 unfold pickOrder;have:=pq b Y.size 0 Y.toList #[] (by simp)
 simpa using this
section
variable{P:Program}{w:World}{A:Around}{E:Value->Shared->Prop}{s:Shared}{S it:Addr}{o:Obj}{es:Array (Int×Value)}{ep:Nat}{t:SetTable}
theorem pE(u:da w=true)(J:s.heap.get? S=some o)(U:o.data=.set es ep t)(L:t.fits es.size=true){M i:Nat}{Q:Option (Value×Nat)->Shared->Prop}(h:Q (((pickOrder (w.params.setOrder S ep) es)[i]?).map λe=>(e.2,M)) s):wpAny (model P w) A (setNext S M i ep) Q E s:=by
 unfold setNext;refine JO (wpAny_setState_of J U L ?_)
 dsimp only;refine JO ?_
 unfold setsByText;refine JO (wpAny_askSetting (JP ?_))
 show wpAny (model P w) A (if da w=true then _ else _) Q E s
 rw[if_pos u];simp only[bne_self_eq_false,Bool.false_eq_true,if_false]
 refine JO ?_
 unfold setWalk;refine JO (wpAny_setState_of J U L ?_)
 dsimp only;refine JO ?_
 unfold setsByText;refine JO (wpAny_askSetting (JP ?_))
 show wpAny (model P w) A (if da w=true then _ else _) _ E s
 rw[if_pos u];exact JO (wpAny_askSetting (JP (JP h)))
theorem j6(L:t.fits es.size=true):t.place.size=es.size:=by
 unfold SetTable.fits at L;rw[Bool.and_eq_true,beq_iff_eq]at L;exact L.1
theorem pF(u:da w=false)(G:Tb (da w) t)(y:(!t.plain&&decide (es.size>1))=false)(J:s.heap.get? S=some o)(U:o.data=.set es ep t)(L:t.fits es.size=true){M i:Nat}{Q:Option (Value×Nat)->Shared->Prop}(h:Q (match es[SetTable.below t.place M]?,t.place[SetTable.below t.place M]? with|some (_,x),some j=>some (x,j+1)|_,_=>none) s):wpAny (model P w) A (setNext S M i ep) Q E s:=by
 have led:=G.led u
 unfold setNext;refine JO (wpAny_setState_of J U L ?_)
 dsimp only;refine JO ?_
 unfold setsByText;refine JO (wpAny_askSetting (JP ?_))
 show wpAny (model P w) A (if da w=true then _ else _) Q E s
 rw[if_neg (by rw[u];exact Bool.false_ne_true)]
 show wpAny (model P w) A (if(!t.plain&&decide (es.size>1))=true then _ else _) Q E s
 rw[if_neg (by rw[y];exact Bool.false_ne_true)]
 show wpAny (model P w) A ((if(!t.led&&!es.isEmpty)=true then _ else _) >>= _) Q E s
 rw[if_neg (by rw[led];simp)]
 exact JO (JP (JP h))
end
def SetIt(h:Heap)(y S:Addr)(f:Value)(i n N:Nat):Prop:=∃o,h.get? y=some o/\o.cls=.type "set_iterator"/\o.data=.fields #[f,.int i 0,.ref S,.int n 0,.int N 0]
theorem SetIt.at{j:Heap}{y S:Addr}{f:Value}{i n:Nat}(x:SetIt h y S f i n N)(k:∀o,h.get? y=some o->j.get? y=some o):SetIt j y S f i n N:=let⟨o,a,b⟩:=x;⟨o,k o a,b⟩
section
variable{P:Program}{w:World}{A:Around}{E:Value->Shared->Prop}{s:Shared}{S it:Addr}{o:Obj}{es:Array (Int×Value)}{ep:Nat}{t:SetTable}{i n sl nx:Nat}{x:Value}{Q:Option Value->Shared->Prop}
theorem my(d:SetIt s.heap it S (.int sl 0) i n ep)(J:s.heap.get? S=some o)(U:o.data=.set es ep t)(L:t.fits es.size=true)(Y:es.size=n)(a:∀(A:Around)(E:Value->Shared->Prop)(R:Option (Value×Nat)->Shared->Prop),R (some (x,nx)) s->wpAny (model P w) A (setNext S sl i ep) R E s)(k:∀j,SetIt j it S (.int nx 0) (i+1) n ep->Heap.SameBut it s.heap j->Q (some x) {s with heap:=j}):wpAny (model P w) A (pyNext (.ref it)) Q E s:=by
 obtain⟨r,gi,q,f⟩:=d;have ty:s.TypeIs (.ref it) "set_iterator":=⟨r,gi,q⟩
 unfold pyNext;refine JO (wpAny_attempt (wpAny_callSpecial?_slot (name:=Str.ofString "__next__") ty slot_si_next (wpAny_call_entry slot_si_next ty Fd ?_ (EY _))))
 unfold Builtin.«set_iterator.__next__»
 refine JO (JP ?_)
 refine JO (wpAny_fieldsOf gi f ?_)
 dsimp only;refine JO (wpAny_setEntries_of J U L ?_)
 rw[if_neg (by rw[Y];simp)]
 simp only[Int.toNat_natCast]
 refine JO (a _ _ _ ?_)
 dsimp only;refine JO (wpAny_setField gi f (by simp) ?_)
 have K:=Heap.get?_update_self (Obj.mapFields (·.setIfInBounds 0 (rawInt nx))) gi (Obj.isFreed_of_fields (Obj.data_mapFields f _))
 have l:=Obj.data_mapFields f (·.setIfInBounds 0 (rawInt nx))
 refine JO (wpAny_setField K l (by simp) (JP ⟨x,rfl,JP (k _ ?_ ((Heap.SameBut.update ..).trans (Heap.SameBut.update ..)))⟩))
 refine⟨_,Heap.get?_update_self _ K (Obj.isFreed_of_fields (Obj.data_mapFields l _)),(Obj.cls_mapFields ..).trans ((Obj.cls_mapFields ..).trans q),?_⟩
 rw[Obj.data_mapFields l];simp[rawInt]
theorem pQ(M:A.handled=none)(d:SetIt s.heap it S (.int sl 0) i n ep)(J:s.heap.get? S=some o)(U:o.data=.set es ep t)(L:t.fits es.size=true)(Y:es.size=n)(c:∀(A:Around)(E:Value->Shared->Prop)(R:Option (Value×Nat)->Shared->Prop),R none s->wpAny (model P w) A (setNext S sl i ep) R E s)(k:∀j,Heap.ExtBut it s.heap j->Q none {s with heap:=j}):wpAny (model P w) A (pyNext (.ref it)) Q E s:=by
 obtain⟨r,gi,q,f⟩:=d;have ty:s.TypeIs (.ref it) "set_iterator":=⟨r,gi,q⟩
 unfold pyNext;refine JO (wpAny_attempt (wpAny_callSpecial?_slot (name:=Str.ofString "__next__") ty slot_si_next (wpAny_call_entry slot_si_next ty Fd ?_ (EY _))))
 unfold Builtin.«set_iterator.__next__»
 refine JO (JP ?_)
 refine JO (wpAny_fieldsOf gi f ?_)
 dsimp only;refine JO (wpAny_setEntries_of J U L ?_)
 rw[if_neg (by rw[Y];simp)]
 simp only[Int.toNat_natCast]
 refine JO (c _ _ _ ?_)
 dsimp only;refine JO (wpAny_setField gi f (by simp) ?_)
 refine JO ?_
 simp only[newExc,newTuple]
 refine JO (wpAny_newObj_type ?_ (by size_fits))
 refine JO (m:=firstArgMember _ _) (wpAny_of_eq (a:=Value.none) (by first|rfl|(simp only[firstArgMember];rfl)) ?_)
 refine wpAny_newObj_type ?_ (by size_fits)
 simp only[raiseNew]
 refine JO (wpAny_handled ?_)
 rw[show A.in1.handled=none from M];refine JO (JP (wpAny_throw ?_))
 refine JO (wpAny_isInstance (T := "StopIteration") (b:=true) ⟨_,Heap.get?_push_size _ rfl,rfl⟩ isSubtype_stop ?_)
 exact JP (k _ (((Heap.SameBut.update ..).extBut.push _).push _))
end
theorem fu:Slot "set_iterator" "__iter__" "set_iterator.__iter__":=
 .of (owner := "set_iterator") (n := "__iter__") (by rw[typeLookup_type,builtinLookup_eq_fast];kernel_rfl) (by decide +kernel) (by decide +kernel) (by decide +kernel) (by first|exact .inl (by decide +kernel)|exact .inr (by decide +kernel)) (by rw[isSubtype_type];kernel_rfl)
theorem ju:entryFor table "set_iterator.__iter__"=some Builtin.«dict_keyiterator.__iter__»:=entryFor_alias (id' := "dict_keyiterator.__iter__") (by kernel_rfl) (by first|rfl|decide +kernel) (by decide +kernel) (by kernel_rfl)
theorem lb(a:Value):argsOk "set_iterator.__iter__" ⟨[a],[]⟩:=by
 unfold argsOk;rw[signature?_of (id := "set_iterator.__iter__") (n:=['_','_','r','e','t','i','_','_']) (o:=['r','o','t','a','r','e','t','i','_','t','e','s']) (by kernel_rfl) (show Manifest.owners.lookup (String.ofList ['r','o','t','a','r','e','t','i','_','t','e','s'].reverse)=some Manifest.sig_set_iterator by kernel_rfl)]
 kernel_rfl
section
variable{P:Program}{w:World}{A:Around}{E:Value->Shared->Prop}{s:Shared}{S it:Addr}{o:Obj}{es:Array (Int×Value)}{ep:Nat}{t:SetTable}{i n:Nat}{f:Value}
theorem Gi{Q:Value->Shared->Prop}(d:SetIt s.heap it S f i n ep)(h:Q (.ref it) s):wpAny (model P w) A (pyIter (.ref it)) Q E s:=by
 obtain⟨r,gi,q,_⟩:=d;have ty:s.TypeIs (.ref it) "set_iterator":=⟨r,gi,q⟩
 refine wpAny_pyIter_slot ty fu (wpAny_call_entry fu ty ju ?_ (lb _))
 show wpAny _ _ (ret (.ref it)) _ _ s
 exact JP ⟨_,rfl,"set_iterator",_,ty,slot_si_next.lookup,h⟩
theorem v7(M:A.handled=none)(u:da w=true)(K:S≠it)(U:o.data=.set es ep t)(L:t.fits es.size=true)(Y:es.size=n):Walks P w A it [it,S] [it] n (λi v=>((pickOrder (w.params.setOrder S ep) es).toList.map (·.2))[i]?=some v) (λi h=>SetIt h it S (.int 0 0) i n ep/\h.get? S=some o) where
 sub:=λb Z=>by simp at Z;simp[Z]
 frame:=λ_ _ _ d O=>⟨d.1.at λo e=>O it (by simp) o e,O S (by simp) o d.2⟩
 item:=λi s Q E l d k=>by
  have N:(pickOrder (w.params.setOrder S ep) es).size=n:=by rw[<-Array.length_toList,(G7 _ es).length_eq,Array.length_toList,Y]
  have I:i<(pickOrder (w.params.setOrder S ep) es).size:=by rw[N];exact l
  refine my (x:=((pickOrder (w.params.setOrder S ep) es)[i]).2) (nx:=0) d.1 d.2 U L Y (λA E R h=>pE u d.2 U L (by rw[Array.getElem?_eq_getElem I];exact h)) λj m r=>?_
  exact k _ j s.toks (by rw[getElem?_map,Array.getElem?_toList,Array.getElem?_eq_getElem I];rfl) ⟨m,r.extBut S o K d.2⟩ λb o Z e=>r.extBut b o (λz=>Z (by simp[z])) e
 done:=λs Q E d k=>by
  have N:(pickOrder (w.params.setOrder S ep) es).size=n:=by rw[<-Array.length_toList,(G7 _ es).length_eq,Array.length_toList,Y]
  exact pQ M d.1 d.2 U L Y (λA E R h=>pE u d.2 U L (by rw[Array.getElem?_eq_none (by omega)];exact h)) λj a=>k j s.toks λb o Z e=>a b o (λz=>Z (by simp[z])) e
 self:=λ_ _ _ _ d k=>Gi d.1 k
abbrev qz(t:SetTable)(i:Nat):Nat:=if i=0 then 0 else t.place.getD (i-1) 0+1
theorem lK(G:Tb (da w) t)(L:t.fits es.size=true)(l:i<=es.size):SetTable.below t.place (qz t i)=i:=by
 have a:=j6 L
 unfold qz;by_cases c:i=0
 .rw[if_pos c,c]
  exact oH
 .rw[if_neg c,zF (by omega),oI G.rs (by omega)]
  omega
theorem v9(M:A.handled=none)(u:da w=false)(G:Tb (da w) t)(y:(!t.plain&&decide (es.size>1))=false)(K:S≠it)(U:o.data=.set es ep t)(L:t.fits es.size=true)(Y:es.size=n):Walks P w A it [it,S] [it] n (λi v=>(es.toList.map (·.2))[i]?=some v) (λi h=>SetIt h it S (.int (qz t i) 0) i n ep/\h.get? S=some o) where
 sub:=λb Z=>by simp at Z;simp[Z]
 frame:=λ_ _ _ d O=>⟨d.1.at λo e=>O it (by simp) o e,O S (by simp) o d.2⟩
 item:=λi s Q E l d k=>by
  have c:=j6 L
  have I:i<es.size:=by omega
  have g:i<t.place.size:=by omega
  refine my (x:=(es[i]).2) (nx:=qz t (i+1)) d.1 d.2 U L Y (λA E R h=>pF u G y d.2 U L ?_) λj m r=>?_
  .rw[lK G L (by omega),Array.getElem?_eq_getElem I,Array.getElem?_eq_getElem g]
   have e:qz t (i+1)=t.place[i]+1:=by
    unfold qz;rw[if_neg (by omega),Nat.add_sub_cancel,zF g]
   rw[e]at h;exact h
  .exact k _ j s.toks (by rw[getElem?_map,Array.getElem?_toList,Array.getElem?_eq_getElem I];rfl) ⟨m,r.extBut S o K d.2⟩ λb o Z e=>r.extBut b o (λz=>Z (by simp[z])) e
 done:=λs Q E d k=>by
  refine pQ M d.1 d.2 U L Y (λA E R h=>pF u G y d.2 U L ?_) λj a=>k j s.toks λb o Z e=>a b o (λz=>Z (by simp[z])) e
  rw[lK G L (by omega),Array.getElem?_eq_none (by omega)]
  exact h
 self:=λ_ _ _ _ d k=>Gi d.1 k
theorem oJ{a:Source}{n:Nat}{Q:Nat->Shared->Prop}(Y:n≠0)(h:Q (M.w.draws a (s.drawn.get a) % n) {s with drawn:=s.drawn.bump a}):wpAny M A (choose a n) Q E s:=λ_ _ _=>⟨Y,h⟩
theorem rA{m:Type}(n:Nat):∀(l:List m)(s:Shared){Q:List m->Shared->Prop},l.length=n->(∀U d,U.Perm l->Q U {s with drawn:=d})->wpAny M A (drawOrder n l) Q E s:=by
 induction n with
 |zero=>
  intro l s Q N h;rw[List.length_eq_zero_iff.mp N]at h ⊢;have:=h [] s.drawn (List.Perm.refl _)
  have e:s={s with drawn:=s.drawn}:=by cases s;rfl
  unfold drawOrder;rw[e];exact JP this
 |succ n b=>
  intro l s Q N h
  cases l with
  |nil=>cases N
  |cons a l=>
   unfold drawOrder;refine JO (oJ (by simp) ?_)
   have lt:M.w.draws Source.order (s.drawn.get Source.order) % (a::l).length<(a::l).length:=Nat.mod_lt _ (by simp)
   generalize M.w.draws Source.order (s.drawn.get Source.order) % (a::l).length=j at lt
   rw[JJ lt];dsimp only;refine JO (b _ _ (by rw[List.length_eraseIdx_of_lt lt];omega) λU d c=>JP (h _ d ?_))
   refine(List.Perm.cons _ c).trans ?_
   rw[List.eraseIdx_eq_take_drop_succ];have e:(a::l)=(a::l).take j++(a::l)[j]::(a::l).drop (j+1):=by rw[List.getElem_cons_drop,List.take_append_drop]
   conv=>rhs;rw[e]
   exact List.perm_middle.symm
end
section
variable{P:Program}{w:World}{A:Around}{E:Value->Shared->Prop}{s:Shared}{S it T:Addr}{o oT:Obj}{es:Array (Int×Value)}{ep c:Nat}{t:SetTable}{i n:Nat}{x:Value}{pl:List Nat}{Q:Option Value->Shared->Prop}
abbrev sq(d:List Nat):Array Value:=(d.map λ(i:Nat)=>rawInt i).toArray
theorem xE(d:SetIt s.heap it S (.ref T) i n ep)(J:s.heap.get? S=some o)(U:o.data=.set es ep t)(L:t.fits es.size=true)(Y:es.size=n)(C:s.heap.get? T=some oT)(dT:oT.data=.seq (sq pl) c){p:Nat}{e:Int×Value}(y:pl[i]?=some p)(R:es[p]?=some e)(k:∀j,SetIt j it S (.ref T) (i+1) n ep->Heap.SameBut it s.heap j->Q (some e.2) {s with heap:=j}):wpAny (model P w) A (pyNext (.ref it)) Q E s:=by
 obtain⟨r,gi,q,f⟩:=d;have ty:s.TypeIs (.ref it) "set_iterator":=⟨r,gi,q⟩
 unfold pyNext;refine JO (wpAny_attempt (wpAny_callSpecial?_slot (name:=Str.ofString "__next__") ty slot_si_next (wpAny_call_entry slot_si_next ty Fd ?_ (EY _))))
 unfold Builtin.«set_iterator.__next__»
 refine JO (JP ?_)
 refine JO (wpAny_fieldsOf gi f ?_)
 dsimp only;refine JO (wpAny_setEntries_of J U L ?_)
 rw[if_neg (by rw[Y];simp)]
 refine JO (wpAny_seqItems C dT ?_)
 have g:(sq pl)[Int.toNat (i:Int)]?=some (rawInt p):=by
  rw[Int.toNat_natCast,getElem?_toArray,getElem?_map,y];rfl
 dsimp only;rw[g];simp only[rawInt,Int.toNat_natCast]
 refine JO ?_
 unfold setNextDrawn;refine JO (wpAny_setState_of J U L ?_)
 dsimp only;simp only[bne_self_eq_false,Bool.false_eq_true,if_false]
 rw[R];refine JP ?_
 refine JO (wpAny_setField gi f (by simp) (JP ⟨e.2,rfl,JP (k _ ?_ (Heap.SameBut.update ..))⟩))
 refine⟨_,Heap.get?_update_self _ gi (Obj.isFreed_of_fields (Obj.data_mapFields f _)),(Obj.cls_mapFields ..).trans q,?_⟩
 rw[Obj.data_mapFields f];simp[rawInt]
theorem BV(M:A.handled=none)(d:SetIt s.heap it S (.ref T) i n ep)(J:s.heap.get? S=some o)(U:o.data=.set es ep t)(L:t.fits es.size=true)(Y:es.size=n)(C:s.heap.get? T=some oT)(dT:oT.data=.seq (sq pl) c)(y:pl[i]?=none)(k:∀j,Heap.ExtBut it s.heap j->Q none {s with heap:=j}):wpAny (model P w) A (pyNext (.ref it)) Q E s:=by
 obtain⟨r,gi,q,f⟩:=d;have ty:s.TypeIs (.ref it) "set_iterator":=⟨r,gi,q⟩
 unfold pyNext;refine JO (wpAny_attempt (wpAny_callSpecial?_slot (name:=Str.ofString "__next__") ty slot_si_next (wpAny_call_entry slot_si_next ty Fd ?_ (EY _))))
 unfold Builtin.«set_iterator.__next__»
 refine JO (JP ?_)
 refine JO (wpAny_fieldsOf gi f ?_)
 dsimp only;refine JO (wpAny_setEntries_of J U L ?_)
 rw[if_neg (by rw[Y];simp)]
 refine JO (wpAny_seqItems C dT ?_)
 have g:(sq pl)[Int.toNat (i:Int)]?=none:=by
  rw[Int.toNat_natCast,getElem?_toArray,getElem?_map,y];rfl
 dsimp only;rw[g];dsimp only;refine JO (wpAny_setField gi f (by simp) ?_)
 have K:=Heap.get?_update_self (Obj.mapFields (·.setIfInBounds 0 (rawInt 0))) gi (Obj.isFreed_of_fields (Obj.data_mapFields f _))
 have l:=Obj.data_mapFields f (·.setIfInBounds 0 (rawInt 0))
 refine JO (wpAny_setField K l (by simp) ?_)
 refine JO ?_
 simp only[newExc,newTuple]
 refine JO (wpAny_newObj_type ?_ (by size_fits))
 refine JO (m:=firstArgMember _ _) (wpAny_of_eq (a:=Value.none) (by first|rfl|(simp only[firstArgMember];rfl)) ?_)
 refine wpAny_newObj_type ?_ (by size_fits)
 simp only[raiseNew]
 refine JO (wpAny_handled ?_)
 rw[show A.in1.handled=none from M];refine JO (JP (wpAny_throw ?_))
 refine JO (wpAny_isInstance (T := "StopIteration") (b:=true) ⟨_,Heap.get?_push_size _ rfl,rfl⟩ isSubtype_stop ?_)
 exact JP (k _ ((((Heap.SameBut.update ..).trans (Heap.SameBut.update ..)).extBut.push _).push _))
theorem wa(M:A.handled=none)(K:S≠it)(f:T≠it)(U:o.data=.set es ep t)(L:t.fits es.size=true)(Y:es.size=n)(dT:oT.data=.seq (sq pl) c)(N:pl.length=n)(C:∀p∈pl,p<n):Walks P w A it [it,S,T] [it] n (λi v=>(pl.map λp=>(es.getD p (0,.none)).2)[i]?=some v) (λi h=>SetIt h it S (.ref T) i n ep/\h.get? S=some o/\h.get? T=some oT) where
 sub:=λb Z=>by simp at Z;simp[Z]
 frame:=λ_ _ _ d O=>⟨d.1.at λo e=>O it (by simp) o e,O S (by simp) o d.2.1,O T (by simp) oT d.2.2⟩
 item:=λi s Q E l d k=>by
  have I:i<pl.length:=by omega
  have y:pl[i]<es.size:=by
   rw[Y];exact C _ (getElem_mem I)
  refine xE d.1 d.2.1 U L Y d.2.2 dT (JJ I) (Array.getElem?_eq_getElem y) λj m r=>?_
  refine k _ j s.toks ?_ ⟨m,r.extBut S o K d.2.1,r.extBut T oT f d.2.2⟩ λb o Z e=>r.extBut b o (λz=>Z (by simp[z])) e
  rw[getElem?_map,JJ I];simp[Array.getD,y]
 done:=λs Q E d k=>BV M d.1 d.2.1 U L Y d.2.2 dT (getElem?_eq_none (by omega)) λj a=>k j s.toks λb o Z e=>a b o (λz=>Z (by simp[z])) e
 self:=λ_ _ _ _ d k=>Gi d.1 k
end
section
variable{P:Program}{w:World}{A:Around}{E:Value->Shared->Prop}{s:Shared}{S:Addr}{o:Obj}{es:Array (Int×Value)}{ep:Nat}{t:SetTable}{Q:Value->Shared->Prop}
theorem iH(U:Array (Int×Value)):(List.range U.size).map (λp=>(U.getD p (0,.none)).2)=U.toList.map (·.2):=by
 apply List.ext_getElem
 .simp
 .intro i J a
  have l:i<U.size:=by simpa using J
  simp[Array.getD,l]
theorem uH(M:A.handled=none)(I:s.heap.get? S=some o)(f:o.cls=.type "set")(U:o.data=.set es ep t)(L:t.fits es.size=true)(Z:es.size<scanBound)(G:Tb (da w) t)(h:∀(j:Heap)(dr:Drawn)(it:Addr)(fp:List Addr)(us:List Value)(St:Nat->Heap->Prop),(∀b o,s.heap.get? b=some o->j.get? b=some o)->us.Perm (es.toList.map (·.2))->s.heap.objs.size<=it->(∀b∈fp,b<j.objs.size/\(b=S\/s.heap.objs.size<=b)) ->
   Walks P w A it fp [it] es.size (λi v=>us[i]?=some v) St->St 0 j->Q (.ref it) {s with heap:=j,drawn:=dr}):wpAny (model P w) A (pyIter (.ref S)) Q E s:=by
 have ty:s.TypeIs (.ref S) "set":=⟨o,I,f⟩
 have H:S<s.heap.objs.size:=Heap.lt_size I
 refine wpAny_pyIter_slot ty F.slot_set_iter (wpAny_call_entry F.slot_set_iter ty kM ?_ (F.args_set_iter_1 _))
 unfold Builtin.«frozenset.__iter__»
 refine JO (JP ?_)
 refine JO ?_
 unfold Builtin.Frozenset.sizeOf;refine JO (wpAny_setEntries_of I U L (JP ?_))
 have m:es.size<=sizeLine:=Nat.le_of_lt (Nat.lt_of_lt_of_le Z (by decide))
 have fin:∀(d:Value)(K:Shared)(J:K.heap.get? S=some o),Q (.ref K.heap.objs.size) {K with heap:=K.heap.push {cls:=.type "set_iterator",data:=.fields #[d,.int 0 0,.ref S,.int es.size 0,.int ep 0]} } ->
   wpAny (model P w) A.in1 (do
    let e <-setEpoch S
    let r <-newFields "set_iterator" [d,rawInt 0,Value.ref S,rawInt ↑es.size,rawInt ↑e]
    ret r) (λfin K=>∃v,fin=Fin.done (Flow.ret v)/\∃z r,K.TypeIs v z/\typeLookup (Value.type z) (Str.ofString "__next__")=pure (some r)/\Q v K) E K:=by
  intro d K J q
  refine JO ?_
  unfold setEpoch;refine JO (wpAny_setState_of J U L (JP ?_))
  refine JO ?_
  unfold newFields;refine wpAny_newObj_type (JP ⟨_,rfl,"set_iterator",_,⟨_,Heap.get?_push_size _ rfl,rfl⟩,slot_si_next.lookup,?_⟩) (by size_fits)
  exact q
 refine JO ?_
 unfold setDrawn;refine JO (wpAny_setState_of I U L ?_)
 dsimp only;refine JO ?_
 unfold setsByText;refine JO (wpAny_askSetting (JP ?_))
 refine JP ?_
 show wpAny (model P w) A.in1 (if(!da w&&(!t.plain&&decide (es.size>1)))=true then _ else _) _ E s
 by_cases a:(!da w&&(!t.plain&&decide (es.size>1)))=true
 .rw[if_pos a]
  refine JO (rA es.size (List.range es.size) s (by simp) λpl dr O=>?_)
  have N:pl.length=es.size:=by rw[O.length_eq,List.length_range]
  refine JO (wpAny_newTuple ?_ (by rw[length_map,N];exact m))
  refine fin _ _ (JQ _ I) ?_
  have C:(s.heap.push {cls:=.type "tuple",data:=.seq (sq pl)}).get? s.heap.objs.size=some {cls:=.type "tuple",data:=.seq (sq pl)}:=Heap.get?_push_size _ rfl
  have l:(s.heap.push {cls:=.type "tuple",data:=.seq (sq pl)}).objs.size=s.heap.objs.size+1:=Heap.size_push ..
  have gI:=Heap.get?_push_size (o:={cls:=.type "set_iterator",data:=.fields #[.ref s.heap.objs.size,.int 0 0,.ref S,.int es.size 0,.int ep 0]}) (s.heap.push {cls:=.type "tuple",data:=.seq (sq pl)}) rfl
  have W:=wa (P:=P) (w:=w) (A:=A) (it:=(s.heap.push {cls:=.type "tuple",data:=.seq (sq pl)}).objs.size) (S:=S) (T:=s.heap.objs.size) (o:=o) (t:=t) (ep:=ep) (pl:=pl) (c:=0) M (by rw[l];exact Nat.ne_of_lt (Nat.lt_succ_of_lt H)) (by rw[l];exact Nat.ne_of_lt (Nat.lt_succ_self _)) U L rfl (oT:={cls:=.type "tuple",data:=.seq (sq pl)}) rfl N λp y=>by simpa using O.mem_iff.mp y
  refine h _ dr _ [(s.heap.push {cls:=.type "tuple",data:=.seq (sq pl)}).objs.size,S,s.heap.objs.size] (pl.map λp=>(es.getD p (0,.none)).2) _ (λb o e=>JQ _ (JQ _ e)) ?_ ?_ ?_ W ⟨⟨_,gI,rfl,rfl⟩,JQ _ (JQ _ I),JQ _ C⟩
  .rw[<-iH]
   exact O.map _
  .show s.heap.objs.size<=(s.heap.push _).objs.size
   rw[Heap.size_push];omega
  .intro b Z
   show b<((s.heap.push _).push _).objs.size/\_
   rw[Heap.size_push,Heap.size_push];simp only[mem_cons,not_mem_nil,or_false]at Z
   rcases Z with rfl|rfl|rfl
   .exact⟨by rw[l];exact Nat.lt_succ_self _,.inr (by rw[l];exact Nat.le_succ _)⟩
   .exact⟨Nat.lt_succ_of_lt (Nat.lt_succ_of_lt H),.inl rfl⟩
   .exact⟨Nat.lt_succ_of_lt (Nat.lt_succ_self _),.inr (JR _)⟩
 .rw[if_neg a]
  refine JO (JP ?_)
  refine fin _ _ I ?_
  have x:∀b o,s.heap.get? b=some o->(s.heap.push {cls:=.type "set_iterator",data:=.fields #[.int 0 0,.int 0 0,.ref S,.int es.size 0,.int ep 0]}).get? b=some o:=λb o e=>JQ _ e
  have g:∀b∈[s.heap.objs.size,S],b<(s.heap.push {cls:=.type "set_iterator",data:=.fields #[.int 0 0,.int 0 0,.ref S,.int es.size 0,.int ep 0]}).objs.size/\(b=S\/s.heap.objs.size<=b):=by
   intro b Z;rw[Heap.size_push];simp only[mem_cons,not_mem_nil,or_false]at Z
   rcases Z with rfl|rfl
   .exact⟨Nat.lt_succ_self _,.inr (JR _)⟩
   .exact⟨Nat.lt_succ_of_lt H,.inl rfl⟩
  have n:SetIt (s.heap.push {cls:=.type "set_iterator",data:=.fields #[.int 0 0,.int 0 0,.ref S,.int es.size 0,.int ep 0]}) s.heap.objs.size S (.int 0 0) 0 es.size ep:=⟨_,Heap.get?_push_size _ rfl,rfl,rfl⟩
  by_cases u:da w=true
  .exact h _ s.drawn _ [s.heap.objs.size,S] _ _ x ((G7 (w.params.setOrder S ep) es).map _) (JR _) g (v7 (o:=o) M u (Nat.ne_of_lt H) U L rfl) ⟨n,x S o I⟩
  .have k:da w=false:=by simpa using u
   rw[k]at a;have y:(!t.plain&&decide (es.size>1))=false:=by simpa using a
   exact h _ s.drawn _ [s.heap.objs.size,S] _ _ x (List.Perm.refl _) (JR _) g (v9 (o:=o) M k G y (Nat.ne_of_lt H) U L rfl) ⟨n,x S o I⟩
end
section
variable{P:Program}{w:World}{A:Around}{E:Value->Shared->Prop}{s:Shared}{r:Addr}
theorem uO{Q:Bool->Shared->Prop}(C:s.TypeIs (.ref r) "set")(h:Q false s):wpAny (model P w) A (Builtin.List.listLengthHint (.ref r)) Q E s:=by
 unfold Builtin.List.listLengthHint;refine JO (wpAny_specialOf C PySem.F.slot_set_len.lookup ?_)
 generalize bV:("set.__len__":String)=id0
 wp_delta
 rw[show splitId id0=some ("set","__len__")from by subst bV;decide +kernel]
 subst bV;refine JO (wpAny_isInstance (T := "set") (b:=true) C (by rw[isSubtype_type];kernel_rfl) ?_)
 refine wpAny_ite_split (λa=>absurd a (by decide)) (λ_=>?_)
 refine wpAny_ite_split (λ_=>?_) (λa=>absurd (by decide +kernel) a)
 refine JO (wpAny_typeOf C ?_)
 exact JP h
variable{o:Obj}{es:Array (Int×Value)}{ep:Nat}{t:SetTable}
theorem xZ{R:Result->Shared->Prop}(M:A.handled=none)(ho:s.heap.get? r=some o)(hc:o.cls=.type "set")(U:o.data=.set es ep t)(L:t.fits es.size=true)(Z:es.size<scanBound)(G:Tb (da w) t)(S:Addr)(hSr:S≠r)(N:Value)(hS:s.heap.get? S=some {cls:=.type "list",data:=.seq #[] 0})(hR:∀j tk dr g v,(∀b o,b≠S->s.heap.get? b=some o->j.get? b=some o)->j.get? S=some {cls:=.type "list",dict:=none,data:=.seq g v,slots:=#[]}->g.toList.Perm (es.toList.map (·.2))->R (.ok (.ret N)) {s with heap:=j,toks:=tk,drawn:=dr}):wpAny (model P w) A.in1 (Builtin.List.listExtendWith (.ref S) (.ref r) N)
   (λfin K=>match fin with|.done f=>R (.ok f) K|.again v=>v.quiet=true/\codeAny (model P w) A v R K) (λe K=>R (.error e) K) s:=by
 have lS:=Heap.lt_size hS
 have hsz:es.size<=sizeLine:=Nat.le_of_lt (Nat.lt_of_lt_of_le Z (by decide))
 unfold Builtin.List.listExtendWith;refine JO (wpAny_typeOf (T := "set") ⟨o,ho,hc⟩ ?_)
 have J:Builtin.List.listSameRef (.ref S) (.ref r)=false:=by simp[Builtin.List.listSameRef,hSr]
 have n1:(Value.type "set"==Value.type "list")=false:=by decide
 have k:(Value.type "set"==Value.type "tuple")=false:=by decide
 simp only[J,n1,k,Bool.or_false,Bool.false_eq_true,if_false]
 refine JO (uH M ho hc U L Z G λj dr y a us St x c lI hfp W d=>?_)
 have hSf:S∉a:=λC=>by
  rcases(hfp S C).2 with e|e
  .exact hSr e
  .exact absurd lS (Nat.not_lt_of_le e)
 have m:=x S _ hS
 have H:∀(h2:Heap)(z:Nat),St 0 h2->(∀b o,b≠S->s.heap.get? b=some o->h2.get? b=some o) ->
   h2.get? S=some {cls:=.type "list",data:=.seq #[] z}->codeAny (model P w) A (.builtin "list.extend.loop" ⟨[.ref S,.ref y,N],[]⟩) R {s with heap:=h2,drawn:=dr}:=by
  intro h2 z q O m;refine codeAny_extend_loopS W.toS hsz S hSf N es.size 0 _ #[] z rfl (Nat.zero_le _) q m (ItemsOf.nil _) λK g v C u n=>?_
  have e:g.toList=us:=by
   apply ext_getElem?
   intro i;have lu:us.length=es.size:=by rw[c.length_eq,length_map,Array.length_toList]
   by_cases l:i<g.size
   .have:=n.2 i g[i] (Array.getElem?_eq_getElem l)
    rw[Array.getElem?_toList,Array.getElem?_eq_getElem l,this]
   .rw[Array.getElem?_toList,Array.getElem?_eq_none (by omega),getElem?_eq_none (by have:=n.1;omega)]
  rw[Moved.eq_with C];refine hR K.heap K.toks dr g v (λb o Z e=>C.heap b o (λp=>?_) (O b o Z e)) u (by rw[e];exact c)
  rcases JI p with e'|p
  .exact Z e'
  .exact absurd (Heap.lt_size e) (by rw[List.mem_singleton.mp p];exact Nat.not_lt_of_le lI)
 refine JO (wpAny_holding (uO (r:=r) ⟨o,x r o ho,hc⟩ ?_))
 refine wpAny_ite_split (λ_=>?_) (λ_=>JP ⟨plainId_quiet PySem.F.plain_extend_loop _,H _ 0 d (λb o _ e=>x b o e) m⟩)
 refine JO (wpAny_rule ?_)
 refine JO ?_
 show wpAny _ _ (updateSeq S (·.push .none) >>= λ_=>updateSeq S (·.pop)) _ _ _
 refine JO (wpAny_updateSeq m rfl ?_)
 have I:=Heap.get?_update_self (Obj.mapSeq (·.push Value.none)) m rfl
 refine wpAny_updateSeq (hz:=by seq_fits) I rfl ?_
 have X:=Heap.get?_update_self (Obj.mapSeq (·.pop)) I rfl
 refine JP ⟨plainId_quiet PySem.F.plain_extend_loop _,H _ _ ?_ (λb o Z e=>?_) X⟩
 .refine W.frame 0 _ _ d λb Z o e=>?_
  have Y:b≠S:=λh=>hSf (h▸Z)
  exact(Heap.get?_update_other _ _ (Ne.symm Y)).trans ((Heap.get?_update_other _ _ (Ne.symm Y)).trans e)
 .exact(Heap.get?_update_other _ _ (Ne.symm Z)).trans ((Heap.get?_update_other _ _ (Ne.symm Z)).trans (x b o e))
theorem mZ{R:List Value->Shared->Prop}(M:A.handled=none)(J:s.heap.get? r=some o)(d:o.cls=.type "set")(U:o.data=.set es ep t)(L:t.fits es.size=true)(Z:es.size<scanBound)(G:Tb (da w) t)(h:∀(j:Heap)(C:Nat)(dr:Drawn)(us:List Value),(∀b o,s.heap.get? b=some o->j.get? b=some o)->us.Perm (es.toList.map (·.2))->R us {s with heap:=j,toks:=C,drawn:=dr}):wpAny (model P w) A (collect (.ref r)) R E s:=by
 have a:=Heap.lt_size J
 unfold collect;refine JO (wpAny_runValue (codeAny_builtin entry_proto_collect' ?_))
 rw[Around.under_plainId PySem.F.plain_proto_collect _];show wpAny _ A.in1 (newList [] >>= λl=>again (.builtin "list.__iadd__" ⟨[l,.ref r],[]⟩)) _ _ s
 refine JO (wpAny_newObj_type ?_)
 refine JP ⟨plainId_quiet PySem.F.plain_list_iadd _,codeAny_builtin entry_list_iadd' ?_⟩
 rw[Around.under_plainId PySem.F.plain_list_iadd _];have m:(s.heap.push {cls:=.type "list",data:=.seq ([]:List Value).toArray}).get? s.heap.objs.size=some {cls:=.type "list",data:=.seq #[]}:=Heap.get?_push_size _ rfl
 show wpAny _ A.in1 (Builtin.List.listExtendWith (.ref s.heap.objs.size) (.ref r) (.ref s.heap.objs.size)) _ _ _
 have H:=xZ (P:=P) (w:=w) (A:=A) (s:={s with heap:=s.heap.push {cls:=.type "list",data:=.seq ([]:List Value).toArray} })
  (R:=λ(q:Result)(K:Shared)=>∃(j:Heap)(C:Nat)(dr:Drawn)(g:Array Value)(v:Nat),q=.ok (.ret (.ref s.heap.objs.size))/\K={s with heap:=j,toks:=C,drawn:=dr} /\
   (∀b o,s.heap.get? b=some o->j.get? b=some o)/\j.get? s.heap.objs.size=some {cls:=.type "list",dict:=none,data:=.seq g v,slots:=#[]}/\g.toList.Perm (es.toList.map (·.2)))
  M (JQ _ J) d U L Z G s.heap.objs.size (Nat.ne_of_gt a) (.ref s.heap.objs.size) m
  (λj C dr g v O u n=>⟨j,C,dr,g,v,rfl,rfl,λb o e=>O b o (Nat.ne_of_lt (Heap.lt_size e)) (JQ _ e),u,n⟩)
 refine wpAny_mono H (λfin K x=>?_) λe K x=>?_
 .cases fin with
  |done f=>
   obtain⟨j,C,dr,g,v,e,rfl,O,u,n⟩:=x
   cases e;show wpAny _ A (load s.heap.objs.size >>= _) _ _ _
   refine JO (wpAny_load u ?_)
   exact JP (h j C dr g.toList O n)
  |again z=>
   refine⟨x.1,codeAny_mono x.2 λq p y=>?_⟩
   obtain⟨j,C,dr,g,v,rfl,rfl,O,u,n⟩:=y;show wpAny _ A (load s.heap.objs.size >>= _) _ _ _
   refine JO (wpAny_load u ?_)
   exact JP (h j C dr g.toList O n)
 .obtain⟨_,_,_,_,_,c,_⟩:=x
  cases c
end
def gc(y:List Int):List Int:=firstMet (λi=>y.getD i 0) y.length
theorem gB:∀(l m:List Int),l.Nodup->(∀x∈l,x∈m)->m.length=l.length->m.Perm l
 |[],m,_,_,h=>by rw[List.length_eq_zero_iff.mp h]
 |a::l,m,nd,hm,h=>by
  have U:a∈m:=hm a mem_cons_self
  obtain⟨b,q⟩:=List.nodup_cons.mp nd;have E:=gB l (m.erase a) q (λx A=>(List.mem_erase_of_ne (λe:x=a=>b (e▸A))).mpr (hm x (JL _ A))) (by rw[List.length_erase_of_mem U,h,length_cons];omega)
  exact(List.perm_cons_erase U).trans (E.cons a)
theorem Hi(g:Nat->Int):∀i,(firstMet g i).Nodup
 |0=>nodup_nil
 |i+1=>by
  rw[firstMet_succ];unfold step_dedup;split
  .exact Hi g i
  .rename_i h
   rw[List.nodup_append];refine⟨Hi g i,by simp,λa U b Z e=>h ?_⟩
   rw[List.mem_singleton]at Z;subst Z e;simpa using U
theorem EV(y:List Int):(gc y).Nodup:=Hi _ _
theorem ddp_mem{y:List Int}:k∈gc y↔k∈y:=by
 have:=firstMet_any (λi=>y.getD i 0) y.length k
 have e:(List.range y.length).map (λi=>y.getD i 0)=y:=by
  apply List.ext_getElem
  .simp
  .intro i J S
   simp[List.getD,S]
 rw[e]at this;unfold gc;rw[<-any_eq_true (p:=(·==k)) |>.trans ⟨λ⟨x,h,e⟩=>by rwa[<-eq_of_beq e],λh=>⟨k,h,by simp⟩⟩,this]
 exact List.any_eq_true.trans ⟨λ⟨x,h,e⟩=>by rwa[<-eq_of_beq e],λh=>⟨k,h,by simp⟩⟩
theorem j4{P:Program}{w:World}:∀(S:List Value),(∀u∈S,∃k,(intKind P w).is k u=true)->∃y,IntsAre S y
 |[],_=>⟨[],.nil⟩
 |u::S,h=>by
  obtain⟨k,e⟩:=h u mem_cons_self;obtain⟨t,rfl⟩:=Value.isInt_shape e;obtain⟨y,x⟩:=j4 S λv R=>h v (JL _ R)
  exact⟨_,.cons _ _ x⟩
theorem mB{P:Program}{w:World}{k:Int}:∀{S:List Value}{ns:List Int},IntsAre S ns->(∃u∈S,(intKind P w).is k u=true)->k∈ns
 |_,_,.nil,⟨u,hu,_⟩=>by cases hu
 |_,_,.cons i t x,⟨u,hu,e⟩=>by
  rcases JI hu with rfl|hu
  .obtain⟨O,f⟩:=Value.isInt_shape (show Value.isInt k (Value.int i t)=true from e)
   cases f
   exact mem_cons_self
  .exact JL _ (mB x ⟨u,hu,e⟩)
theorem mC:∀{S:List Value}{ns:List Int},IntsAre S ns->S.length=ns.length
 |_,_,.nil=>rfl
 |_,_,.cons _ _ x=>by rw[length_cons,length_cons,mC x]
theorem L2Inv.drawn{X:Cx}{G:List (Addr×Obj)}{M:List (Option V)}{H:Hp}{s:Shared}(I:L2.Inv X G M H s)(d:Drawn):L2.Inv X G M H {s with drawn:=d}:=
 ⟨I.ok,I.os,I.bare,I.base,I.loc,I.cell,I.free,I.freeC,I.pin,I.hok,I.len⟩
theorem Eh:bootBuiltins "set"=some (.type "set"):=by decide +kernel
def IA(K:Fg)(f:TA):TE:=λM H Q=>f M H λL n=>∃(p:Addr)(ns:List Int),L=[.ref p]/\SqL K n p (ns.map V.int)/\ns.length<4000/\(gc ns).length<64/\∀l,n l=none->Q (.ref l) (bF n l (.lst ((PySem.W.sortI (gc ns)).map V.int)))
theorem nU{X:Cx}{a:Expr}{ta:TA}{p K i:Pos}(l:Gl X "sorted")(C:X.mg "sorted"=none)(hg2:Gl X "set")(x:X.mg "set"=none)(f:X.calm=true)(U:PA X [a] ta)(hs:starEach [a] X.env=[(false,eval a X.env)])(E:starEach [.Call (.Name "set" z) [a] [] i] X.env=[(false,eval (.Call (.Name "set" z) [a] [] i) X.env)]):PE X (.Call (.Name "sorted" p) [.Call (.Name "set" z) [a] [] i] [] K) (IA X.K ta):=by
 intro G s M H Q I h;refine wpAny_Call_Name_kw (yG I l C m7 (PyProof.Rows.callWith_builtin1 ?_ E rfl))
 rw[E];show wpAny _ _ (spliced ((false,eval (.Call (.Name "set" z) [a] [] i) X.env)::[])) _ _ s
 refine Calls.spliced_cons (Call_ (yG I hg2 x Eh (PyProof.Rows.callWith_type1 (bM (U i G s M H _ I h) λS y ⟨vs,H1,I1,r1,q1⟩=>?_) hs rfl)))
 obtain⟨pa,ns,e,hS,q1,q2,q⟩:=q1;subst e;obtain⟨u,rfl,ru⟩:=r1.one
 cases ru;obtain⟨g,r,pl,hz⟩:=I1.list hS;have hI:=EI r
 have N:g.length=ns.length:=by rw[<-r.length,length_map]
 have hl':g.toArray.size=ns.length:=by rw[size_toArray,N]
 refine oE (ns:=ns) (I.ok.hd f) pl.isList (by simpa using hI) (by rw[hl'];have:scanBound=4096:=rfl;omega) λJ tk1 d kp1=>?_
 rw[hl']at d;refine Calls.spliced_nil ?_
 have I2:L2.Inv X G M H1 {y with heap:=J,toks:=tk1}:=I1.kept (t':=tk1) kp1
 obtain⟨o,es,ep,t,ho,hex,hd,hel,hmem,Z,L,Y,tb⟩:=d;refine Calls.call_function_entry kind_sorted plain_sorted entry_sorted (args_sorted1 _) ?_
 unfold Builtin.«sorted»
 refine JO (m:=checkCount "sorted" 1 1 _) (JP ?_)
 refine JO (mZ (I.ok.hd f) ho hex.1 hd L Z tb λj tk dr S O c=>?_)
 have hlu:S.length=(gc ns).length:=by
  rw[c.length_eq,length_map,Array.length_toList,Y];rfl
 obtain⟨zs,hZ⟩:=j4 (P:=X.prog) (w:=X.w) S λu hu=>by
  obtain⟨e,R,rfl⟩:=List.mem_map.mp (c.mem_iff.mp hu);obtain⟨k,O,_⟩:=(hel e R).1;exact⟨k,O⟩
 have hpz:zs.Perm (gc ns):=by
  refine gB (gc ns) zs (EV ns) (λk O=>?_) ?_
  .obtain⟨e,R,A⟩:=(hmem k).mp (List.any_eq_true.mpr ⟨k,O,by simp⟩)
   exact mB (P:=X.prog) (w:=X.w) hZ ⟨e.2,c.mem_iff.mpr (List.mem_map.mpr ⟨e,R,rfl⟩),A⟩
  .rw[<-hlu,mC hZ]
 have hb2:=jN (n:=(gc ns).length) (by omega)
 refine JO (wpAny_newList ?_ (by rw[hlu];omega))
 have hoL:(j.push {cls:=.type "list",data:=.seq S.toArray}).get? j.objs.size=some (seqObj "list" S.toArray 0):=Heap.get?_push_size _ rfl
 refine JO (wpAny_holding (wpAny_call_entry slot_list_sort ⟨_,hoL,rfl⟩ entry_list_sort (list_sort_tree hoL hZ (by rw[hlu];exact q2) λout ns' a1 a2 a3=>⟨_,rfl,?_⟩) (args_list_sort _)))
 have e:=PySem.W.eq_sortI (a2.trans hpz) a3
 subst e;have hlen:(PySem.W.sortI (gc ns)).length=(gc ns).length:=(PySem.W.sortI_perm _).length_eq
 obtain⟨n,ho'⟩:=sortedHeap_at (out:=out) hoL
 have I3:L2.Inv X G M H1 {y with heap:=j,toks:=tk,drawn:=dr}:=L2Inv.drawn (I2.kept (t':=tk) O) dr
 have kk:∀b o,j.get? b=some o->(sortedHeap (j.push {cls:=.type "list",data:=.seq S.toArray}) j.objs.size S out).get? b=some o:=λb o e=>by
  have v:=Heap.lt_size e
  rw[sortedHeap_old (Nat.ne_of_lt v) (by rw[Heap.size_push];exact Nat.lt_succ_of_lt v)]
  exact JQ _ e
 exact JP ⟨_,rfl,.ref j.objs.size,bF H1 j.objs.size (.lst ((PySem.W.sortI (gc ns)).map V.int)),I3.laid (t':=tk) kk (JR _) ⟨by rw[length_map,hlen];omega,out.toList,n,Gn a1,by simpa[seqObj]using ho'⟩,rfl,q _ (I3.hok.fresh (JR _))⟩
section
variable{K:Fg}{W:XW}{σ:St}{H:Hp}{Q:VK}{fa:F1}{fl:FL}
def zy(b:FL):F1:=λC=>(b C).bind λG X=>match sortArg (G.map (·.d))with
 |some y=>if y.length<4000/\(gc y).length<64 then .ok ⟨.lst .leaf,.list ((PySem.W.sortI (gc y)).map .int)⟩ X else .no
 |none=>.no
theorem tK(h:tE K W (zy fl) σ H Q):IA K (tA K W fl) σ H Q:=by
 obtain⟨M,O,Z,C,E,h⟩:=h;refine⟨M,O,Z,C,E,?_⟩
 unfold zy at h
 cases e:fl C with
 |er c X=>rw[e]at h;exact h
 |no=>rw[e]at h;exact h
 |ok G I=>
  rw[e]at h;intro L n j f A;have r:=A.reps
  have h:Wants K W M O Z H σ Q (match sortArg (G.map (·.d))with|some y=>if y.length<4000/\(gc y).length<64 then .ok ⟨.lst .leaf,.list ((PySem.W.sortI (gc y)).map .int)⟩ I else .no|none=>.no):=h
  cases R:sortArg (G.map (·.d))with
   |none=>rw[R]at h;exact h.elim
   |some y=>
    rw[R]at h;rw[ir R]at r;have h:Wants K W M O Z H σ Q (if y.length<4000/\(gc y).length<64 then .ok ⟨.lst .leaf,.list ((PySem.W.sortI (gc y)).map .int)⟩ I else .no):=h
    by_cases Y:y.length<4000/\(gc y).length<64
    .rw[if_pos Y]at h
     have N:=r.1
     match L,N with
     |[v],_=>
      have q:=r.2 0 v (.list (y.map .int)) rfl rfl
      cases q with
      |@lst p ws _ hq hwl hw=>
       have U:ws=y.map V.int:=by
        apply ext_getElem?
        intro i;by_cases a:i<ws.length
        .have g:i<y.length:=by rw[length_map]at hwl;omega
         have q:=hw i (ws[i]'a) (.int (y[i]'g)) (JJ _) (by rw[getElem?_map,JJ g];rfl)
         rw[JJ a,getElem?_map,JJ g];generalize ws[i]'a=u at q
         cases q;rfl
        .rw[getElem?_eq_none (by omega),getElem?_eq_none (by rw[length_map]at hwl ⊢;omega)]
       rw[U]at hq;refine⟨p,y,rfl,hq,Y.1,Y.2,λl N=>h _ _ _ _ (A.newSc E.ndO N (by simp) λi v d P b=>?_)⟩
       rw[getElem?_map]at P b
       cases w:(PySem.W.sortI (gc y))[i]? with
       |none=>rw[w]at P;cases P
       |some z=>
        rw[w]at P b
        cases P
        cases b;exact .int z
    .rw[if_neg Y]at h;exact h.elim
end
section
variable{X:Cx}{N gl:List Str}{vs cs ls lo gs:List Nat}{W:XW}{a:Expr}{p pos:Pos}{fl:FL}
theorem cb_sortSet{i:Pos}(S:Cp X N gl vs cs ls lo gs)(j k:Nat)(A:gl[j]?=some ("sorted":Str))(l:gs.contains j=true)(C:X.mg "sorted"=none)(O:gl[k]?=some ("set":Str))(d:gs.contains k=true)(x:X.mg "set"=none)(U:PA X [a] (tA X.K W fl))(P:starEach [a] X.env=[(false,eval a X.env)])(E:starEach [.Call (.Name "set" z) [a] [] i] X.env=[(false,eval (.Call (.Name "set" z) [a] [] i) X.env)]):PE X (.Call (.Name "sorted" p) [.Call (.Name "set" z) [a] [] i] [] pos) (tE X.K W (zy fl)):=
 aZ (nU (S.g A l).1 C (S.g O d).1 x S.calm U P E) λ_ _ _=>tK
end
end T
namespace TQ
open PySem PySem.Spec L2 T
open PyProof.Rows hiding St
section
variable{X:Cx}{N gl:List Str}{vs cs ls lo gs:List Nat}{W:XW}{a:Expr}{p pos:Pos}{fl:FL}
theorem km{z i:Pos}(S:Cp X N gl vs cs ls lo gs)(j k:Nat)(A:gl[j]?=some ("sorted":Str))(l:gs.contains j=true)(C:X.mg "sorted"=none)(O:gl[k]?=some ("set":Str))(d:gs.contains k=true)(x:X.mg "set"=none)(U:Q (PA X [a] (tA X.K W fl)))(P:starEach [a] X.env=[(false,eval a X.env)])(E:starEach [.Call (.Name "set" z) [a] [] i] X.env=[(false,eval (.Call (.Name "set" z) [a] [] i) X.env)]):Q (PE X (.Call (.Name "sorted" p) [.Call (.Name "set" z) [a] [] i] [] pos) (tE X.K W (zy fl))):=⟨T.cb_sortSet S j k A l C O d x U.p P E⟩
end
end TQ
namespace KC
open PySem PySem.Spec L2 T PySem.SeqAt
open PyProof.Rows hiding St
theorem pP{a:List Nat}:bP (ay a) (.list [])=some (.bool a.isEmpty):=by
 cases a with
 |nil=>exact BS (a:=[]) (b:=[]) rfl
 |cons x l=>
  show(if shaped (ay (x::l))&&shaped (ay [])then some (PyData.bool (PyData.eqv (.list ((x::l).map rm)) (.list [])))else none)=_
  rw[Gk,Gk,Bool.and_self,if_pos rfl];rfl
end KC
namespace T
open PySem PySem.Spec L2
open PyProof.Rows hiding St
def mz:Sh->Bool
 |.lst .leaf=>true
 |_=>false
theorem EJ{s:Sh}(h:mz s=true):s=.lst .leaf:=by
 unfold mz at h;split at h
 .rfl
 .cases h
mutual
def rz:JS->Nat
 |.none=>4
 |.bool _=>5
 |.int _=>1921
 |.str _=>20000000
 |.list Y=>2+rzL Y
 |.tuple Y=>3+rzL Y
 |.dict _=>20000000
def rzL:List JS->Nat
 |[]=>0
 |x::xs=>(rz x+2)+rzL xs
end
theorem Gm:∀(p:List Str)(k:Nat)(acc:Str),(textFrom k acc p).length<=acc.length+piled p
 |[],k,acc=>JR _
 |t::p,k,acc=>by
  have h:=Gm p (k+1) (acc++(if k>0 then ", " else "":String)++t)
  rw[Str.length_append,Str.length_append]at h;have S:(Str.ofString (if k>0 then ", " else "":String)).length<=2:=by
   split
   .rw[PySem.ofString_length];decide
   .rw[PySem.ofString_length];decide
  show(textFrom (k+1) (acc++(if k>0 then ", " else "":String)++t) p).length<=_
  rw[piled_cons];omega
mutual
theorem lL:∀(d:JS),d.showable=true->rz d<17000000->d.shown.length<=rz d
 |.none,_,_=>by
  show(Str.ofString "None").length<=4
  rw[PySem.ofString_length];decide
 |.bool b,_,_=>by
  cases b
  .show(Str.ofString (if false then "True" else "False")).length<=5
   rw[PySem.ofString_length];decide
  .show(Str.ofString (if true then "True" else "False")).length<=5
   rw[PySem.ofString_length];decide
 |.int i,h,_=>by
  have h:i.natAbs.log2<1920:=of_decide_eq_true (by simpa[PyData.showable]using h)
  show(Str.ofString (toString i)).length<=1921
  rw[PySem.ofString_length];exact int_text_length_le (by decide) h
 |.str x,_,h=>by
  have h:(20000000:Nat)<17000000:=h
  omega
 |.dict _,_,h=>by
  have h:(20000000:Nat)<17000000:=h
  omega
 |.list xs,h,P=>by
  have P:2+rzL xs<17000000:=P
  have p:=shownAll_le xs (by simpa[PyData.showable]using h) (by omega)
  show(listText (PyData.shownAll xs)).length<=2+rzL xs
  unfold listText;rw[Str.length_append];have t:=Gm (PyData.shownAll xs) 0 "["
  have g:(Str.ofString "[").length=1:=by rw[PySem.ofString_length];decide
  have R:(Str.ofString "]").length=1:=by rw[PySem.ofString_length];decide
  omega
 |.tuple xs,h,P=>by
  have P:3+rzL xs<17000000:=P
  have p:=shownAll_le xs (by simpa[PyData.showable]using h) (by omega)
  show(tupleText (PyData.shownAll xs)).length<=3+rzL xs
  unfold tupleText;rw[Str.length_append,Str.length_append];have g:(Str.ofString "(").length=1:=by rw[PySem.ofString_length];decide
  have R:(Str.ofString (if(PyData.shownAll xs).length==1 then ",)" else ")":String)).length<=2:=by
   split
   .rw[PySem.ofString_length];decide
   .rw[PySem.ofString_length];decide
  have w:(Str.join ", " (PyData.shownAll xs)).length<=piled (PyData.shownAll xs):=by
   by_cases Y:PyData.shownAll xs=[]
   .rw[Y];exact Nat.le_of_eq rfl
   .have:=join_length_add _ Y
    omega
  omega
theorem shownAll_le:∀(Y:List JS),PyData.showableAll Y=true->rzL Y<17000000->piled (PyData.shownAll Y)<=rzL Y
 |[],_,_=>JR _
 |x::Y,h,P=>by
  have h:x.showable=true/\PyData.showableAll Y=true:=by simpa[PyData.showableAll]using h
  have P:(rz x+2)+rzL Y<17000000:=P
  have a:=lL x h.1 (by omega)
  have b:=shownAll_le Y h.2 (by omega)
  show piled (x.shown::PyData.shownAll Y)<=(rz x+2)+rzL Y
  rw[piled_cons];omega
end
def BA:JS->Bool
 |.list _=>true
 |.tuple _=>true
 |_=>false
theorem boot_repr:bootBuiltins "repr"=some (.builtin "repr"):=by decide +kernel
theorem vM(s:String):PyData.strOk (Str.ofString s)=true:=by
 unfold PyData.strOk;rw[Array.all_eq_true'];intro c f;have:c∈(Str.ofString s).cps.toList:=by simpa using f
 obtain⟨d,U,rfl⟩:∃d:Char,d∈s.toList/\d.toNat=c:=by
  rw[Str.ofString_eq_toList]at this;simpa using this
 have:=d.valid
 simp only[decide_eq_true_eq]
 show d.val.toNat<0x110000
 rcases this with h|h
 .exact Nat.lt_trans h (by decide)
 .exact h.2
theorem zG{a b:Str}(U:PyData.strOk a=true)(Z:PyData.strOk b=true):PyData.strOk (a++b)=true:=by
 unfold PyData.strOk at *
 rw[Str.cps_append,Array.all_append,U,Z];rfl
theorem mf:∀(p:List Str)(k:Nat)(acc:Str),PyData.strOk acc=true->(∀t∈p,PyData.strOk t=true)->PyData.strOk (textFrom k acc p)=true
 |[],k,acc,h,_=>h
 |t::p,k,acc,h,ht=>mf p (k+1) _ (zG (zG h (vM _)) (ht t mem_cons_self)) λx A=>ht x (JL _ A)
theorem mh:∀(p:List Str),(∀t∈p,PyData.strOk t=true)->PyData.strOk (Str.join ", " p)=true
 |[],_=>by decide +kernel
 |[x],h=>h x mem_cons_self
 |x::y::r,h=>zG (zG (h x mem_cons_self) (vM _)) (mh (y::r) λt u=>h t (JL _ u))
def vP:List JS->Option JS
 |[d]=>if BA d&&d.canLay0&&d.showable&&decide (d.depth<=50)&&decide (d.shown.length<=sizeLine)then some (.str d.shown)else none
 |_=>none
def ua(K:Fg):List V->Hp->VK->Prop:=λY H Q=>∃(p:Addr)(d:JS),Y=[.ref p]/\Rep K H (.ref p) d/\d.canLay0=true/\d.showable=true/\d.depth<=50/\d.shown.length<=sizeLine/\Q (.str d.shown) H
theorem uV{K:Fg}:GCall K (ua K) vP:=by
 intro L H Q t d r e k;unfold vP at e;split at e
 case h_2=>cases e
 rename_i a
 cases f:(BA a&&a.canLay0&&a.showable&&decide (a.depth<=50)&&decide (a.shown.length<=sizeLine))with
 |false=>rw[f]at e;cases e
 |true=>
  rw[f]at e
  cases e;simp only[Bool.and_eq_true,decide_eq_true_eq]at f
  obtain⟨⟨⟨⟨X,Z⟩,q⟩,o⟩,n⟩:=f;obtain⟨v,rfl,c⟩:=r.one;obtain⟨p,rfl⟩:∃p,v=.ref p:=by
   cases c with
   |lst=>exact⟨_,rfl⟩
   |tup=>exact⟨_,rfl⟩
   |_=>cases X
  exact⟨p,a,rfl,c,Z,q,o,n,k _ (.str _)⟩
theorem oF{X:Cx}(m:Rm X)(l:X.A.guards=some []):CallR X (.builtin "repr") (ua X.K):=by
 intro G s M H Y S Q I c h;obtain⟨p,d,rfl,r,Z,a,o,n,q⟩:=h;obtain⟨u,rfl,E⟩:=vals1 c
 cases E;obtain⟨f,R⟩:=r.reads I (.ref p) rfl;have b:X.A.units+64<cLine:=m
 exact repr_of_reads' R a (PyData.noDict_hsm (PyData.hasDict_of_canLay d Z)) l (by omega) (λ_ _ e=>e) (λj u C O=>⟨.str d.shown,H,I.kept (t':=C) O,⟨u,rfl⟩,q⟩) n
section
variable{X:Cx}{N gl:List Str}{vs cs ls lo gs:List Nat}{W:XW}{a:Expr}{pos p:Pos}{fa:F1}
theorem cb_reprS(S:Cp X N gl vs cs ls lo gs)(m:Rm X)(u:X.A.guards=some [])(j:Nat)(A:gl[j]?=some ("repr":Str))(l:gs.contains j=true)(C:X.mg "repr"=none)(U:PE X a (tE X.K W fa))(P:starEach [a] X.env=[(false,eval a X.env)])(J:(backTo pos (starEach [] X.env)).any (·.1)=false):PE X (.Call (.Name "repr" p) [a] [] pos) (tE X.K W (bc vP (ae fa ah))):=
 aZ (EL (oF m u) (S.g A l).1 C boot_repr (da_cons U da_nil P) (S.g A l).2.2 (S.g A l).2.1 P J) λ_ _ _=>o7 uV
end
mutual
def vG:JS->Nat
 |.none=>4
 |.bool _=>5
 |.int _=>1921
 |.str x=>(PyData.str x).shown.length
 |.dict k=>(PyData.dict k).shown.length
 |.list Y=>2+rzSL Y
 |.tuple Y=>3+rzSL Y
def rzSL:List JS->Nat
 |[]=>0
 |x::xs=>(vG x+2)+rzSL xs
end
mutual
theorem jO:∀(d:JS),d.showable=true->d.shown.length<=vG d
 |.none,_=>by
  show(Str.ofString "None").length<=4
  rw[PySem.ofString_length];decide
 |.bool b,_=>by
  cases b
  .show(Str.ofString "False").length<=5
   rw[PySem.ofString_length];decide
  .show(Str.ofString "True").length<=5
   rw[PySem.ofString_length];decide
 |.int i,h=>lL (.int i) h (show(1921:Nat)<17000000 by decide)
 |.str x,_=>JR _
 |.dict k,_=>JR _
 |.list xs,h=>by
  have p:=shownAll_leS xs (by simpa[PyData.showable]using h)
  show(listText (PyData.shownAll xs)).length<=2+rzSL xs
  unfold listText;rw[Str.length_append];have t:=Gm (PyData.shownAll xs) 0 "["
  have g:(Str.ofString "[").length=1:=by rw[PySem.ofString_length];decide
  have R:(Str.ofString "]").length=1:=by rw[PySem.ofString_length];decide
  omega
 |.tuple xs,h=>by
  have p:=shownAll_leS xs (by simpa[PyData.showable]using h)
  show(tupleText (PyData.shownAll xs)).length<=3+rzSL xs
  unfold tupleText;rw[Str.length_append,Str.length_append];have g:(Str.ofString "(").length=1:=by rw[PySem.ofString_length];decide
  have R:(Str.ofString (if(PyData.shownAll xs).length==1 then ",)" else ")":String)).length<=2:=by
   split
   .rw[PySem.ofString_length];decide
   .rw[PySem.ofString_length];decide
  have w:(Str.join ", " (PyData.shownAll xs)).length<=piled (PyData.shownAll xs):=by
   by_cases Y:PyData.shownAll xs=[]
   .rw[Y];exact Nat.le_of_eq rfl
   .have:=join_length_add _ Y
    omega
  omega
theorem shownAll_leS:∀(Y:List JS),PyData.showableAll Y=true->piled (PyData.shownAll Y)<=rzSL Y
 |[],_=>JR _
 |x::Y,h=>by
  have h:x.showable=true/\PyData.showableAll Y=true:=by simpa[PyData.showableAll]using h
  have a:=jO x h.1
  have b:=shownAll_leS Y h.2
  show piled (x.shown::PyData.shownAll Y)<=(vG x+2)+rzSL Y
  rw[piled_cons];omega
end
mutual
def i9:JS->Bool
 |.none=>true
 |.bool _=>true
 |.int _=>true
 |.str x=>PyData.strOk (PyData.str x).shown
 |.dict _=>false
 |.list Y=>txOkL Y
 |.tuple Y=>txOkL Y
def txOkL:List JS->Bool
 |[]=>true
 |x::xs=>i9 x&&txOkL xs
end
mutual
theorem iE:∀(d:JS),i9 d=true->PyData.strOk d.shown=true
 |.none,_=>vM _
 |.bool b,_=>by cases b<;>exact vM _
 |.int i,_=>vM _
 |.str x,h=>h
 |.dict _,h=>nomatch h
 |.list xs,h=>zG (mf _ _ _ (vM _) (okS_allS xs h)) (vM _)
 |.tuple xs,h=>zG (zG (vM _) (mh _ (okS_allS xs h))) (vM _)
theorem okS_allS:∀(Y:List JS),txOkL Y=true->∀t∈PyData.shownAll Y,PyData.strOk t=true
 |[],_,t,u=>nomatch u
 |x::Y,h,t,u=>by
  have h:i9 x=true/\txOkL Y=true:=Bool.and_eq_true_iff.mp h
  have u:t∈x.shown::PyData.shownAll Y:=u
  rcases JI u with rfl|u
  .exact iE x h.1
  .exact okS_allS Y h.2 t u
end
end T
namespace TQ
open PySem PySem.Spec L2 T
open PyProof.Rows hiding St
section
variable{X:Cx}{N gl:List Str}{vs cs ls lo gs:List Nat}{W:XW}{a:Expr}{pos p:Pos}{fa:F1}
theorem iq(S:Cp X N gl vs cs ls lo gs)(m:Rm X)(u:X.A.guards=some [])(j:Nat)(A:gl[j]?=some ("repr":Str))(l:gs.contains j=true)(C:X.mg "repr"=none)(U:Q (PE X a (tE X.K W fa)))(P:starEach [a] X.env=[(false,eval a X.env)])(J:(backTo pos (starEach [] X.env)).any (·.1)=false):Q (PE X (.Call (.Name "repr" p) [a] [] pos) (tE X.K W (bc vP (ae fa ah)))):=⟨T.cb_reprS S m u j A l C U.p P J⟩
end
end TQ
namespace T
open PySem PySem.Spec L2
open PyProof.Rows hiding St
theorem kH{L:List (List Addr)}{i:Nat}{F:List Addr}{a:Addr}(h:a∈(L.set i F).flatten):a∈F\/a∈L.flatten:=by
 obtain⟨l,J,S⟩:=List.mem_flatten.mp h;rcases mem_or_eq_of_mem_set J with z|z
 .exact .inr (List.mem_flatten.mpr ⟨l,z,S⟩)
 .exact .inl (z▸S)
def Jv:List Int->Int
 |[]=>0
 |a::r=>r.foldl (λx y=>if y<x then y else x) a
def Ij:List JS->Option JS
 |[.list ds]=>match intsOf ds with
  |some (a::r)=>some (.int (Jv (a::r)))
  |_=>none
 |_=>none
def frzA(C:Ev):Ev:=C.map λo=>o.map λp=>⟨.leaf,p.d⟩
def fJ:Sh->JS->Bool
 |.leaf,d=>aV d
 |.lst .leaf,.list ds=>ds.all aV
 |.lst (.lst .leaf),.list ds=>ds.all λd=>match d with
  |.list U=>U.all aV
  |_=>false
 |_,_=>false
section
variable{K:Fg}{W:XW}{He H:Hp}{O O':List Addr}{Fs:List (List Addr)}{σ:St}{Γ:Ev}
theorem CA{m d:Type}:∀(l:List m),(l.map λ_=>([]:List d)).flatten=[]
 |[]=>rfl
 |_::l=>by rw[map_cons,flatten_cons,CA l];rfl
theorem EnvOk.frzA(E:EnvOk K He O Fs H σ Γ):EnvOk K He O (Γ.map λ_=>[]) H σ (frzA Γ):=by
 refine⟨by rw[T.frzA,length_map];exact E.len1,by rw[T.frzA,length_map,length_map],E.same,?_,λa U=>E.inH a ?_,λa U=>?_,λi p h=>?_⟩
 .rw[CA,append_nil];exact E.ndO
 .rw[CA,append_nil]at U;exact JG _ U
 .rw[CA]at U;cases U
 .rw[T.frzA,getElem?_map]at h
  cases e:Γ[i]? with
  |none=>rw[e]at h;cases h
  |some o=>
   rw[e]at h
   cases o with
   |none=>cases h
   |some q=>
    cases h;obtain⟨R,v,F,J,S,I⟩:=E.slot i q e;refine⟨rfl,v,[],J,by rw[getElem?_map,e];rfl,.leaf ?_⟩
    rw[CA,append_nil];exact I.freeze R (λa U=>JG _ U) λa U z=>(JM E.nd).2.2 a z a (gh S U) rfl
theorem Own.anyO1{G:List Addr}{v:V}{t:List JS}(h:Own K O H (.lst .leaf) G v (.list t))(n:t.all aV=true):Own K O' H (.lst .leaf) G v (.list t):=by
 cases h with
 |lst R y N L X q=>
  refine .lst R y N L X λi v d F J S I=>?_
  have o:=q i v d F J S I
  cases o with
  |leaf r=>exact .leaf (r.sc (List.all_eq_true.mp n d (mem_of_getElem? S))).rep
theorem Own.anyO{s:Sh}{G:List Addr}{v:V}{d:JS}(h:Own K O H s G v d)(n:fJ s d=true):Own K O' H s G v d:=by
 unfold fJ at n;split at n
 .cases h with
  |leaf r=>exact .leaf (r.sc n).rep
 .exact h.anyO1 n
 .rename_i t
  cases h with
  |lst R y N L X q=>
   refine .lst R y N L X λi v d F J S I=>?_
   have o:=q i v d F J S I
   have z:=List.all_eq_true.mp n d (mem_of_getElem? S)
   split at z
   .exact o.anyO1 z
   .cases z
 .cases n
theorem uK{s:Sh}{d:JS}(n:fJ s d=true):s.isView=false:=by
 unfold fJ at n;split at n
 .rfl
 .rfl
 .rfl
 .cases n
theorem Aft.newG{X:Ev}{p:PV}{v:V}{Y:Hp}{G:List Addr}{u:List (List Addr)}{b:Ev}(A:Aft K He O (b.map λ_=>[]) H σ X p v Y G u):(∀a∈G,H a=none)/\(∀a∈G,Y a≠none)/\G.Nodup:=by
 refine⟨λa U=>?_,λa U=>A.env.inH a (JG _ (JG _ U)),(JM A.env.ndO).1⟩
 rcases A.new a (JG _ U)with z|z
 .rw[CA]at z;cases z
 .exact z
def BW(i:Nat)(f:F1):F1:=λΓ=>match Γ[i]? with
 |some (some ⟨.tup [s0,s1],.tuple [d0,d1]⟩)=>(match f (T.frzA Γ)with
  |.ok p _=>if fJ p.s p.d then .ok ⟨.tup [s0,s1,p.s],.tuple [d0,d1,p.d]⟩ (Γ.set i none)else .no
  |_=>.no)
 |_=>.no
theorem DF{i:Nat}{f:F1}{Q:VK}(h:tE K W (BW i f) σ H Q):zW (cV (qx (AL K) (cm i) (tC (.int 0))) (cV (qx (AL K) (cm i) (tC (.int 1))) (cV (tE K W f) ja))) σ H Q:=by
 obtain⟨He,O,Fs,Γ,E,h⟩:=h;have h:Wants K W He O Fs H σ Q (BW i f Γ):=h
 unfold BW at h;split at h
 case h_2=>exact h.elim
 rename_i l s1 d0 d1 Y;obtain⟨hv,v,F,J,x,e,n⟩:=E.move Y;have frE:=E.fresh
 cases e with
 |@tup _ p vs _ Fs0 hsv hp hn hl hf hs nd q=>
  obtain⟨M,v1,rfl⟩:∃a b,vs=[a,b]:=by
   match vs,hl with
   |[a,b],_=>exact⟨a,b,rfl⟩
  obtain⟨I,F1,rfl⟩:∃a b,Fs0=[a,b]:=by
   match Fs0,hf with
   |[a,b],_=>exact⟨a,b,rfl⟩
  refine⟨.ref p,J,.inr (.inl ⟨p,[M,v1],0,M,rfl,rfl,.of hp,rfl,?_⟩)⟩
  refine⟨.ref p,J,.inr (.inl ⟨p,[M,v1],1,v1,rfl,rfl,.of hp,rfl,?_⟩)⟩
  refine⟨He,O,_,_,E.frzA,?_⟩
  cases ef:f (T.frzA Γ)with
  |no=>rw[ef]at h;exact h
  |er c X=>rw[ef]at h;exact h.elim
  |ok r X=>
   rw[ef]at h;have h:Wants K W He O Fs H σ Q (if fJ r.s r.d then .ok ⟨.tup [l,s1,r.s],.tuple [d0,d1,r.d]⟩ (Γ.set i none)else .no):=h
   cases L:fJ r.s r.d with
   |false=>rw[L]at h;exact h.elim
   |true=>
    rw[L]at h;intro u H2 G Fs2 A;obtain⟨g1,g2,g3⟩:=A.newG;refine⟨by show 3<=sizeLine;decide,λT C=>h _ _ ([I,F1,G].flatten) (Fs.set i []) ?_⟩
    have S:=x.hide A.same g3 g1 g2
    have fl2:[I,F1].flatten=I++F1:=by simp
    have fl3:[I,F1,G].flatten=I++(F1++G):=by simp
    have ndA:(G++((I++F1)++O)).Nodup:=by have:=S.ndO;rw[fl2]at this;exact this
    obtain⟨t,n2,m⟩:=JM ndA;obtain⟨n4,n5,n6⟩:=JM n2;have ndF:(I++(F1++G)).Nodup:=by
     rw[<-append_assoc];exact List.nodup_append.mpr ⟨n4,t,λa U b Z z=>m b Z a (JG _ U) z.symm⟩
    have mem:∀a,a∈I++(F1++G)->a∈I++F1\/a∈G:=λa U=>by
     rw[<-append_assoc]at U;exact JH U
    have N:EnvOk K He (I++(F1++G)++O) (Fs.set i []) H2 σ (Γ.set i none):=S.drop (λa U=>by
      rw[fl2];rcases JH U with z|z
      .rcases mem a z with z|z
       .exact JF _ (JG _ z)
       .exact JG _ z
      .exact JF _ (JF _ z)) (List.nodup_append.mpr ⟨ndF,n5,λa U b Z z=>by
      rcases mem a U with y|y
      .exact n6 a y b Z z
      .exact m a y b (JF _ Z) z⟩)
    have E4:=N.grow (i3 (o:=.tup [M,v1,u]) C)
    have hTn:T∉I++(F1++G)++O++(Fs.set i []).flatten:=λz=>N.inH T z C
    have sm:Same H (bF H2 T (.tup [M,v1,u])):=A.same.trans (i3 C)
    have old:∀a,a∈I++(F1++G)++O++(Fs.set i []).flatten->a∈[I,F1].flatten++O++(Fs.set i []).flatten\/H a=none:=λa U=>by
     rw[fl2];rcases JH U with z|z
     .rcases JH z with z|z
      .rcases mem a z with z|z
       .exact .inl (JG _ (JG _ z))
       .exact .inr (g1 a z)
      .exact .inl (JG _ (JF _ z))
     .exact .inl (JF _ z)
    have q0:=(q 0 M d0 I l rfl rfl rfl rfl).mono sm old
    have q1:=(q 1 v1 d1 F1 s1 rfl rfl rfl rfl).mono sm old
    have q2:Own K (I++(F1++G)++O++(Fs.set i []).flatten) (bF H2 T (.tup [M,v1,u])) r.s G u r.d:=(A.own.mono (i3 C) λa z=>.inl z).anyO L
    refine⟨sm,by rw[fl3];exact E4,λa U=>?_,?_⟩
    .rw[fl3]at U
     rcases JH U with z|z
     .rcases mem a z with z|z
      .exact .inl (n a (JG _ (by rw[fl2];exact z)))
      .exact .inr (g1 a z)
     .exact .inl (n a (JF _ z))
    .rw[fl3]
     have:=Own.tup (K:=K) (O:=I++(F1++G)++O++(Fs.set i []).flatten) (H:=bF H2 T (.tup [M,v1,u])) (ss:=[l,s1,r.s]) (p:=T) (vs:=[M,v1,u]) (ds:=[d0,d1,r.d]) (Fs:=[I,F1,G]) (λs P=>by
       rcases JI P with rfl|P
       .exact hsv _ (by simp)
       .rcases JI P with rfl|P
        .exact hsv _ (by simp)
        .rw[List.mem_singleton.mp P];exact uK L) fT hTn rfl rfl rfl (by rw[fl3];exact ndF) (λk v d F s g R w j=>by
       match k,g,R,w,j with
       |0,g,R,w,j=>cases g;cases R;cases w;cases j;exact q0
       |1,g,R,w,j=>cases g;cases R;cases w;cases j;exact q1
       |2,g,R,w,j=>cases g;cases R;cases w;cases j;exact q2
       |k+3,g,_,_,_=>simp at g)
     rw[fl3]at this;exact this
end
section
variable{X:Cx}{N gl:List Str}{vs cs ls lo gs:List Nat}{W:XW}{b:Expr}{f:F1}{g:FS}{pos:Pos}
theorem ce_t3(S:Cp X N gl vs cs ls lo gs)(i:Nat){x:Str}{s P d o l y:Pos}{j t k:Nat}(A:N[i]?=some x)(R:vs.contains i=true)(Z:PE X b (tE X.K W f))(a:sD (.Constant (.int 0) j d))(J:sD (.Constant (.int 1) t o))(c:starEach [.Subscript (.Name x s) (.Constant (.int 0) j d) l,.Subscript (.Name x P) (.Constant (.int 1) t o) y,b] X.env=(false,eval (.Subscript (.Name x s) (.Constant (.int 0) j d) l) X.env)::starEach [.Subscript (.Name x P) (.Constant (.int 1) t o) y,b] X.env)(L:starEach [.Subscript (.Name x P) (.Constant (.int 1) t o) y,b] X.env=(false,eval (.Subscript (.Name x P) (.Constant (.int 1) t o) y) X.env)::starEach [b] X.env)(v:starEach [b] X.env=(false,eval b X.env)::starEach [] X.env):PE X (.Tuple [.Subscript (.Name x s) (.Constant (.int 0) j d) l,.Subscript (.Name x P) (.Constant (.int 1) t o) y,b] k pos) (tE X.K W (BW i f)):=by
 have m:=S.nm x (mem_of_getElem? A)
 have e:∀{p:Pos},PE X (.Name x p) (cm i):=lz (by rw[S.hN];exact A) (S.vis i x A R) m.1 m.2
 exact aZ (uj (sf (jV Cv e CU a) (sf (jV Cv e CU J) (sf Z yI v) L) c)) λ_ _ _=>DF
end
end T
namespace TQ
open PySem PySem.Spec L2 T
open PyProof.Rows hiding St
section
variable{X:Cx}{N gl:List Str}{vs cs ls lo gs:List Nat}{W:XW}{b e:Expr}{es:List Expr}{pos p:Pos}{fl:FL}{f:F1}{g:FS}
theorem we(S:Cp X N gl vs cs ls lo gs)(i:Nat){x:Str}{s P d o l y:Pos}{j t k:Nat}(Z:Q (PE X b (tE X.K W f)))(A:N[i]?=some x:=by rfl)(R:vs.contains i=true:=by rfl)(a:sD (.Constant (.int 0) j d):=by exact λ_ _=>rfl)(J:sD (.Constant (.int 1) t o):=by exact λ_ _=>rfl)(c:starEach [.Subscript (.Name x s) (.Constant (.int 0) j d) l,.Subscript (.Name x P) (.Constant (.int 1) t o) y,b] X.env=(false,eval (.Subscript (.Name x s) (.Constant (.int 0) j d) l) X.env)::starEach [.Subscript (.Name x P) (.Constant (.int 1) t o) y,b] X.env:=by exact dB rfl)(L:starEach [.Subscript (.Name x P) (.Constant (.int 1) t o) y,b] X.env=(false,eval (.Subscript (.Name x P) (.Constant (.int 1) t o) y) X.env)::starEach [b] X.env:=by exact dB rfl)(v:starEach [b] X.env=(false,eval b X.env)::starEach [] X.env:=by exact dB rfl):Q (PE X (.Tuple [.Subscript (.Name x s) (.Constant (.int 0) j d) l,.Subscript (.Name x P) (.Constant (.int 1) t o) y,b] k pos) (tE X.K W (BW i f))):=⟨T.ce_t3 S i A R Z.p a J c L v⟩
end
end TQ
namespace T
open PySem PySem.Spec L2
open PyProof.Rows hiding St
variable{X:Cx}
def mG(d:JS):Option JS:=(bI d).map λb=>.bool (!b)
theorem xn{a:Expr}{K:Pos}{f:TE}(U:PE X a f):PE X (.UnaryOp .Not a K) (λM H Q=>f M H λx n=>∃k,vw X.K x n k/\Q (.bl (!k)) n):=by
 intro G s M H Q I h;exact UnaryOp_ (bM (U G s M H _ I h) λv y ⟨x,n,I1,r1,k,t1,q1⟩=>not_of (bM (tp G y M n x v (λc A=>Q (.bl (!c)) A) I1 r1 ⟨k,t1,q1⟩) λc N ⟨A,I2,q2⟩=>⟨.bl (!c),A,I2,rfl,q2⟩))
theorem wQ{K:Fg}{W:XW}{M:St}{H:Hp}{Q:VK}{a:F1}(h:tE K W (eU mG a) M H Q):tE K W a M H λx n=>∃k,vw K x n k/\Q (.bl (!k)) n:=by
 refine vO h λf O Z I p v n G N X A w=>?_
 have r:=A.own.rep
 have w:Wants K W f O Z H M Q (match mG p.d with|some d=>.ok ⟨.leaf,d⟩ I|none=>.no):=w
 unfold mG at w
 cases e:bI p.d with
 |none=>rw[e]at w;exact w.elim
 |some b=>
  rw[e]at w;have fin:Q (.bl (!b)) n:=w.scal (.bl _) A.same A.go (λ_ z=>z) X A.newF
  generalize p.d=d at r e
  cases r with
  |non=>cases e;exact⟨_,rfl,fin⟩
  |bl c=>cases e;exact⟨_,rfl,fin⟩
  |int i=>cases e;exact⟨_,rfl,fin⟩
  |str x=>
   simp only[bI]at e
   split at e
   .rename_i z;cases e;exact⟨_,⟨z,rfl⟩,fin⟩
   .cases e
  |@lst p vs ds hq hl _=>cases e;exact⟨_,.inl ⟨vs,hq,by cases vs<;>cases ds<;>simp_all⟩,fin⟩
  |@tup p vs ds hq hl _=>cases e;exact⟨_,.inr (.inl ⟨vs,hq,by cases vs<;>cases ds<;>simp_all⟩),fin⟩
section
variable{prog:Program}{w:World}{A:Around}{R:Result->Shared->Prop}{I:Addr}{fp wr:List Addr}{n:Nat}{P:Nat->Value->Prop}{St:Nat->Heap->Prop}
theorem vq(W:Walks prog w A.in1 I fp wr n P St)(b:Nat->Bool)(Z:Heap->Prop)(x:∀h j,Z h->(∀c o,c∉wr->h.get? c=some o->j.get? c=some o)->Z j)(u:∀i v (s:Shared) (Q:Bool->Shared->Prop) (E:Value->Shared->Prop),i<n->P i v->Z s.heap->(∀C,Q (b i) {s with toks:=C})->wpAny (model prog w) A.in1 (truthy v) Q E s):∀(k i:Nat)(s:Shared),n=i+k->St i s.heap->Z s.heap->(∀j C,(∀c o,c∉wr->s.heap.get? c=some o->j.get? c=some o)->R (.ok (.ret (.bool ((List.range' i k).all b)))) {s with heap:=j,toks:=C})->codeAny (model prog w) A (.builtin "all.loop" ⟨[.ref I],[]⟩) R s
 |0,i,s,hk,st,z,hR=>codeAny_builtin F.entry_all_loop (by
   rw[Around.under_plainId F.plain_all_loop _];obtain rfl:n=i:=by omega
   exact JO (m:=pyNext (.ref I)) (W.done s _ _ st λj C t=>JO (wpAny_rule (JP (hR j C t)))))
 |k+1,i,s,hk,st,z,hR=>codeAny_builtin F.entry_all_loop (by
   rw[Around.under_plainId F.plain_all_loop _];refine JO (m:=pyNext (.ref I)) (W.item i s _ _ (by omega) st λv j C N r t=>JO (wpAny_holding (u i v _ _ _ (by omega) N (x _ _ z t) λa=>JO (wpAny_letGo ?_))))
   have e:(List.range' i (k+1)).all b=(b i&&(List.range' (i+1) k).all b):=by rw[List.range'_succ,all_cons]
   rw[e]at hR
   cases g:b i with
   |true=>
    rw[g]at hR;rw[if_pos rfl];exact JP ⟨plainId_quiet F.plain_all_loop _,vq W b Z x u k (i+1) _ (by omega) r (x _ _ z t) λS d H=>hR S d λc o f e=>H c o f (t c o f e)⟩
   |false=>
    rw[g]at hR;rw[if_neg (by decide)]
    exact JO (wpAny_rule (JP (hR j a t))))
end
def kG:List JS->Option (List Bool)
 |[]=>some []
 |.list es::r=>(kG r).map λbs=>(!es.isEmpty)::bs
 |_::_=>none
def j5:List JS->Option JS
 |[.list ds]=>(kG ds).map λbs=>.bool (bs.all id)
 |_=>none
def Jj(K:Fg)(H:Hp)(v:V)(b:Bool):Prop:=∃q S,v=.ref q/\SqL K H q S/\b=!S.isEmpty
def yZ(K:Fg):List V->Hp->VK->Prop:=λY H Q=>∃(p:Addr)(vs:List V)(bs:List Bool),Y=[.ref p]/\SqL K H p vs/\vs.length=bs.length/\(∀(i:Nat) v b,vs[i]?=some v->bs[i]?=some b->Jj K H v b)/\Q (.bl (bs.all id)) H
theorem mr{K:Fg}{H:Hp}:∀{t:List JS}{bs:List Bool}{vs:List V},kG t=some bs->vs.length=t.length->(∀(i:Nat) v d,vs[i]?=some v->t[i]?=some d->Rep K H v d)->vs.length=bs.length/\∀(i:Nat) v b,vs[i]?=some v->bs[i]?=some b->Jj K H v b
 |[],bs,[],e,_,_=>by cases e;exact⟨rfl,λi v b h=>by simp at h⟩
 |.list es::t,bs,v::vs,e,hl,hr=>by
  rw[kG]at e
  cases R:kG t with
  |none=>rw[R]at e;cases e
  |some f=>
   rw[R]at e
   cases e;obtain⟨J,S⟩:=mr R (vs:=vs) (by simpa using hl) λi v d a b=>hr (i+1) v d (by simpa using a) (by simpa using b)
   refine⟨by simp[J],λi u b a c=>?_⟩
   cases i with
   |zero=>
    cases a
    cases c;have r:=hr 0 v (.list es) rfl rfl
    cases r with
    |@lst q us _ hq hul _=>exact⟨q,us,rfl,hq,by cases us<;>cases es<;>simp_all⟩
   |succ i=>exact S i u b (by simpa using a) (by simpa using c)
 |[],_,_::_,_,hl,_=>by simp at hl
 |.list _::_,_,[],_,hl,_=>by simp at hl
 |.none::_,_,_,e,_,_=>by cases e
 |.bool _::_,_,_,e,_,_=>by cases e
 |.int _::_,_,_,e,_,_=>by cases e
 |.str _::_,_,_,e,_,_=>by cases e
 |.tuple _::_,_,_,e,_,_=>by cases e
 |.dict _::_,_,_,e,_,_=>by cases e
theorem xQ{K:Fg}:GCall K (yZ K) j5:=by
 intro L H Q t d l e k;match t,e with
 |[.list xs],e=>
  obtain⟨v,rfl,r⟩:=l.one;simp only[j5]at e
  cases a:kG xs with
  |none=>rw[a]at e;cases e
  |some bs=>
   rw[a]at e
   cases e
   cases r with
   |@lst p us _ hq hl hr=>
    obtain⟨J,S⟩:=mr a hl hr;exact⟨p,us,bs,rfl,hq,J,S,k _ (.bl _)⟩
theorem nS(bs:List Bool):(List.range' 0 bs.length).all (λi=>bs.getD i false)=bs.all id:=by
 rw[<-List.range_eq_range'];exact jS bs
theorem rX(f:X.calm=true):CallR X (.builtin "all") (yZ X.K):=by
 intro G s M H L us Q I c h;obtain⟨p,Y,bs,rfl,hq,C,K,q⟩:=h;obtain⟨u,rfl,E⟩:=vals1 c
 cases E;obtain⟨g,c,d,hz⟩:=I.list hq;have U:=I.ok.hd f
 have il:=c.length
 have truth:∀(i:Nat)(v:Value),g[i]?=some v->∃(a:Addr)(j:Array Value),v=.ref a/\s.heap.IsList a j/\a<s.heap.objs.size/\(j.size:Int)<2 ^ 63/\bs.getD i false=!j.isEmpty:=λi v R=>by
  have l:=(JN R).1
  obtain⟨y,hy⟩:∃y,Y[i]?=some y:=⟨Y[i]'(by omega),JJ _⟩
  obtain⟨b,Z⟩:∃b,bs[i]?=some b:=⟨bs[i]'(by omega),JJ _⟩
  obtain⟨a,ys,rfl,hs,eb⟩:=K i y b hy Z;obtain⟨u,hu,rl⟩:=c.get hy;rw[R]at hu
  cases hu
  cases rl;obtain⟨it2,r,pl2,hz2⟩:=I.list hs;have l2:=r.length
  have big:=yH
  refine⟨a,it2.toArray,rfl,pl2.isList,?_,by rw[size_toArray];omega,?_⟩
  .obtain⟨o,n,e,_⟩:=pl2
   exact Heap.lt_size e
  .rw[JK,Z,Hq r]
   exact eb
 have t:p≠s.heap.objs.size:=by
  obtain⟨o,n,e,_⟩:=d;exact Nat.ne_of_lt (Heap.lt_size e)
 refine call_function_tree F.kind_all F.plain_all F.entry_all (F.args_all1 _) (JO (m:=oneArg "all" _) (JP ?_))
 refine JO (wpAny_pyIter_list d.isList (JP ⟨plainId_quiet F.plain_all_loop _,?_⟩))
 refine vq (n:=g.length) (P:=λi v=>g[i]?=some v) (Walks.list (prog:=X.prog) (w:=X.w) (A:=X.A.in1) U s.heap.objs.size p t g.toArray |> λW=>by simpa using W) (λi=>bs.getD i false) (λh=>∀(i:Nat)(v:Value),g[i]?=some v->∃(a:Addr)(j:Array Value),v=.ref a/\h.IsList a j/\a<s.heap.objs.size/\(j.size:Int)<2 ^ 63/\bs.getD i false=!j.isEmpty) (λh h' z k i v R=>?_) (λi v N Q2 E2 l R z k=>?_) g.length 0 _ (by omega) ?_ ?_ λh' tk O=>?_
 .obtain⟨a,j,e,J,S,h3,x⟩:=z i v R
  exact⟨a,j,e,J.at λo eo=>k a o (λz=>by rw[List.mem_singleton.mp z]at S;exact absurd S (Nat.lt_irrefl _)) eo,S,h3,x⟩
 .obtain⟨a,j,rfl,J,S,h3,x⟩:=z i v R
  exact wpAny_truthy_list J h3 (by rw[<-x];exact k _)
 .exact⟨⟨_,Heap.get?_push_size _ rfl,rfl,rfl⟩,d.isList.at λo e=>JQ _ e⟩
 .intro i v R
  obtain⟨a,j,e,J,S,h3,x⟩:=truth i v R;exact⟨a,j,e,J.at λo eo=>JQ _ eo,S,h3,x⟩
 .refine⟨.bl _,H,I.kept (h':=h') (t':=tk) λb o e=>O b o (λz=>?_) (JQ _ e),rfl,?_⟩
  .have z:b=s.heap.objs.size:=by simpa using z
   exact absurd (Heap.lt_size e) (by rw[z];exact Nat.lt_irrefl _)
  .rw[show g.length=bs.length by omega,nS]
   exact q
section
variable{X:Cx}{N gl:List Str}{vs cs ls lo gs:List Nat}{W:XW}{e:Expr}{es:List Expr}{pos p:Pos}{fl:FL}
theorem cb_allT(S:Cp X N gl vs cs ls lo gs)(j:Nat)(A:gl[j]?=some ("all":Str))(l:gs.contains j=true)(C:X.mg "all"=none)(U:PA X (e::es) (tA X.K W fl))(R:starEach (e::es) X.env=(false,eval e X.env)::starEach es X.env)(J:(backTo pos (starEach es X.env)).any (·.1)=false):PE X (.Call (.Name "all" p) (e::es) [] pos) (tE X.K W (bc j5 fl)):=pR (rX S.calm) xQ zm C U (S.g A l).1 (S.g A l).2.2 (S.g A l).2.1 R J
end
end T
namespace TQ
open PySem PySem.Spec L2 T
open PyProof.Rows hiding St
section
variable{X:Cx}{N gl:List Str}{vs cs ls lo gs:List Nat}{W:XW}{a e:Expr}{es:List Expr}{pos p:Pos}{fl:FL}{fa:F1}
theorem qi(U:Q (PE X a (tE X.K W fa))):Q (PE X (.UnaryOp .Not a pos) (tE X.K W (eU mG fa))):=⟨have U:=U.p;aZ (xn U) λ_ _ _=>wQ⟩
theorem qu(S:Cp X N gl vs cs ls lo gs)(j:Nat)(A:gl[j]?=some ("all":Str))(l:gs.contains j=true)(C:X.mg "all"=none)(U:Q (PA X (e::es) (tA X.K W fl)))(R:starEach (e::es) X.env=(false,eval e X.env)::starEach es X.env)(J:(backTo pos (starEach es X.env)).any (·.1)=false):Q (PE X (.Call (.Name "all" p) (e::es) [] pos) (tE X.K W (bc j5 fl))):=⟨T.cb_allT S j A l C U.p R J⟩
end
end TQ
namespace T
open PySem PySem.Spec L2
open PyProof.Rows hiding St
variable{x:Str}{t N:List Str}{k:Nat}{o:List Sh}
def Eo(L:List Nat)(M j:St):Prop:=∀i∈L,j[i]?=M[i]?
def nD(L:List Nat)(D:cP)(M:St):cP:={D with nx:=λj Y=>Eo L M j->D.nx j Y}
def tN(L:List Nat)(K:Fg)(W:XW)(g:FS):TS:=λD M H=>tS K W g (nD L D M) M H
section
variable{K:Fg}{W:XW}{σ:St}{H:Hp}{D:cP}{fa fb fk:F1}{g g1 g2:FS}{c:FB}{L:List Nat}
theorem yu{i:Nat}{x:Option V}(h:i∉L):Eo L σ (σ.set i x):=λj A=>getElem?_set_ne (λz:i=j=>h (by rw[z];exact A))
theorem xx:(nD L D σ).nx σ=D.nx σ:=funext λ_=>propext ⟨λh=>h λ_ _=>rfl,λh _=>h⟩
theorem uw{R:(Hp->Prop)->Prop}(h:R ((nD L D σ).nx σ)):R (D.nx σ):=xx (L:=L) (D:=D) (σ:=σ)▸h
theorem wq{D':cP}(h:tS K W g D σ H)(J:∀j Y,D.nx j Y->D'.nx j Y)(S:D'.rt=D.rt)(I:D'.bk=D.bk)(x:D'.ct=D.ct):tS K W g D' σ H:=by
 obtain⟨M,O,Z,C,E,h⟩:=h;refine⟨M,O,Z,C,E,?_⟩
 cases e:g C with
 |nx X=>rw[e]at h;exact λj Y u R=>J _ _ (h j Y u R)
 |bk X=>rw[e]at h;exact λj Y u R=>by rw[I];exact h j Y u R
 |ct X=>rw[e]at h;exact λj Y u R=>by rw[x];exact h j Y u R
 |rt p=>rw[e]at h;exact λv Y G r=>by rw[S];exact h v Y G r
 |er c X=>rw[e]at h;exact h
 |no=>rw[e]at h;exact h
theorem Bo{b:St}(h:Eo L σ b):nD L D b=nD L D σ:=by
 unfold nD;congr 1
 funext σ' H'
 have:Eo L b σ'↔Eo L σ σ':=⟨λz i l=>(z i l).trans (h i l),λz i l=>(z i l).trans (h i l).symm⟩
 rw[propext this]
theorem wN(h:tN L K W (ax g1 g2) D σ H):zX (tN L K W g1) (tN L K W g2) D σ H:=by
 have h:=tP h
 refine wq (D':=nD L {D with nx:=tN L K W g2 D} σ) h (λb n z a=>?_) rfl rfl rfl
 show tS K W g2 (nD L D b) b n
 rw[Bo a];exact z
theorem tR(h:tN L K W aD D σ H):tu D σ H:=uw (L:=L) (R:=λP=>P H) (o5 h)
theorem Ay(h:tN L K W (bA c g1 g2) D σ H):zZ (tT K W c) (tN L K W g1) (tN L K W g2) D σ H:=tW h
theorem wL{own:Bool}{i:Nat}(l:i∉L)(h:tN L K W (aB own i fa) D σ H):gN (tE K W fa) (L2.gName i) D σ H:=by
 have h:tE K W fa σ H λv n=>(nD L D σ).nx (σ.set i (some v)) n:=F5 h
 have e:(λv n=>(nD L D σ).nx (σ.set i (some v)) n)=λv n=>D.nx (σ.set i (some v)) n:=funext λv=>funext λn=>propext ⟨λz=>z (yu l),λz _=>z⟩
 rw[e]at h;exact h
theorem tM{i:Nat}(h:tN L K W (cg i fa fb) D σ H):gN (tE K W fa) (L2.gSub (cm i) (tE K W fb) jT) D σ H:=
 uw (L:=L) (R:=λP=>tE K W fa σ H λx n=>cm i σ n λo n=>tE K W fb σ n λi A=>jT o i x A λt=>P t) (oZ h)
end
def C0:Sh->Sh->Bool
 |.leaf,.leaf=>true
 |.lst s,.lst t=>mz (.lst s)&&mz (.lst t)
 |.tup ss,.tup ts=>ss.all mz&&ts.all mz&&decide (ss.length=ts.length)
 |_,_=>false
theorem zo:∀{o p:List Sh},o.all mz=true->p.all mz=true->o.length=p.length->o=p
 |[],[],_,_,_=>rfl
 |s::o,t::p,h1,h2,h3=>by
  simp only[all_cons,Bool.and_eq_true]at h1 h2
  rw[EJ h1.1,EJ h2.1,zo h1.2 h2.2 (by simpa using h3)]
 |[],_::_,_,_,h=>by cases h
 |_::_,[],_,_,h=>by cases h
theorem jP{s t:Sh}(h:C0 s t=true):s=t:=by
 unfold C0 at h;split at h
 .rfl
 .simp only[Bool.and_eq_true]at h
  rw[EJ h.1,EJ h.2]
 .simp only[Bool.and_eq_true,decide_eq_true_eq]at h
  rw[zo h.1.1 h.1.2 h.2]
 .cases h
def qO:List Sh->Ev->Option (List JS)
 |[],_=>some []
 |s::ss,some p::Γ=>if C0 p.s s then(qO ss Γ).map (p.d :: ·)else none
 |_,_=>none
theorem md:∀{o:List Sh}{Γ:Ev}{ds:List JS},qO o Γ=some ds->ds.length=o.length/\o.length<=Γ.length/\∀(i:Nat) s d,o[i]?=some s->ds[i]?=some d->Γ[i]?=some (some ⟨s,d⟩)
 |[],Γ,ds,h=>by
  cases h;exact⟨rfl,Nat.zero_le _,λi s d e=>by simp at e⟩
 |s::o,[],ds,h=>by cases h
 |s::o,none::Γ,ds,h=>by cases h
 |s::o,some p::Γ,ds,h=>by
  unfold qO at h
  cases P:C0 p.s s with
  |false=>rw[P]at h;cases h
  |true=>
   rw[P]at h;simp only[if_true]at h
   cases e:qO o Γ with
   |none=>rw[e]at h;cases h
   |some f=>
    rw[e]at h
    cases h;obtain⟨a,b,c⟩:=md e;refine⟨by simp[a],by simpa using b,λi K d g R=>?_⟩
    cases i with
    |zero=>
     simp at g R
     subst g R;have:=jP P
     obtain⟨G,j⟩:=p
     cases this;rfl
    |succ i=>simpa using c i K d (by simpa using g) (by simpa using R)
def rL(n:Nat)(o:List Sh)(g:FS)(t:List JS):Option (List JS):=match g (p7 n o t)with
 |.nx C=>qO o C
 |_=>none
structure Cj(K:Fg)(He:Hp)(O:List Addr)(ss:List Sh)(vs:List V)(ds:List JS)(H:Hp)(Gs:List (List Addr)):Prop where
 same:Same He H
 lg:Gs.length=ss.length
 ld:ds.length=ss.length
 nd:Gs.flatten.Nodup
 inH:∀a∈Gs.flatten,H a≠none
 fresh:∀a∈Gs.flatten,He a=none
 own:∀(i:Nat) v d G s,vs[i]?=some v->ds[i]?=some d->Gs[i]?=some G->ss[i]?=some s->Own K (Gs.flatten++O) H s G v d
def Fh(K:Fg)(o:List Sh)(w:List JS->Option (List JS)):Sp:=λL H Q _=>L.length=o.length/\∃(O:List Addr)(Gs:List (List Addr))(ds:List JS),(Gs.flatten++O).Nodup/\(∀a∈Gs.flatten++O,H a≠none)/\Gs.length=o.length/\ds.length=o.length/\(∀s∈o,s.isView=false) /\
 (∀(i:Nat) v d G s,L[i]?=some v->ds[i]?=some d->Gs[i]?=some G->o[i]?=some s->Own K (Gs.flatten++O) H s G v d)/\match w ds with
 |some f=>∀Y b,Cj K (bV H Gs.flatten) O o L f Y b->Q .non Y
 |none=>False
section
variable{P:Program}{w:World}{K:Fg}{mg:Str->Option Value}{base:Heap}
theorem flat_take:∀{Z:List (List Addr)}{n:Nat},(Z.take n).flatten.Sublist Z.flatten
 |[],n=>by rw[List.take_nil];exact List.Sublist.refl _
 |F::Z,0=>nil_sublist _
 |F::Z,n+1=>by
  rw[List.take_succ_cons,flatten_cons,flatten_cons];exact List.Sublist.append (List.Sublist.refl _) flat_take
theorem xW{C:Str}{st:Stmt}{f:Addr}{r:FuncData}{ps:List Str}{g:FS}(F:Fun K x C st f r)(S:dM N ps (gJ st))(hss:o.length=ps.length)(Z:∀(cdv:Value)(A:Around)(M:List Env)(s:Shared)(H:Hp)(E:XK),Room k (A.deeper (envOfC C (gJ st) s.heap.objs.size f cdv)) ->
   PSs (jA i6 P w K mg base N C (gJ st) f cdv A M s H E).nox (sd st) (tN (List.range o.length) K W0 g)):dy P w K mg base i6 (k+1) f r ps (Fh K o (rL N.length o g)):=by
 have hpl:ps.length<=N.length:=by have:=congrArg List.length S.pre;rw[length_take]at this;omega
 refine F.ok S (λL H Q E h=>by rw[h.1];exact hss) (λcdv A M s H L Q E m h=>⟨_,Z cdv A M s H E m,?_⟩)
 obtain⟨hl,O,q,t,nd,inH,hG,hd,nv,ow,w⟩:=h;refine⟨_,O,_,p7 N.length o t,iP (by omega) hl hG hd nd inH nv ow,?_⟩
 unfold rL at w
 cases e:g (p7 N.length o t)with
 |nx X=>
  rw[e]at w;dsimp only at w;intro j Y Fs' R ag
  show Q .non Y
  cases eo:qO o X with
  |none=>rw[eo]at w;exact w.elim
  |some ds'=>
   rw[eo]at w;obtain⟨b1,b2,b3⟩:=md eo;have b:Fs'.length=X.length:=R.len2
   obtain⟨m1,m2,m3⟩:=JM R.nd
   have n:∀a∈(Fs'.take o.length).flatten,a∈Fs'.flatten:=λa U=>flat_take.subset U
   refine w Y (Fs'.take o.length) ⟨R.same,by rw[length_take];omega,b1,m2.sublist flat_take,λa U=>R.inH a (JF _ (n a U)),λa U=>R.fresh a (n a U),λi v d G s J h2 I h4=>?_⟩
   have l:i<o.length:=(JN h4).1
   obtain⟨_,u,F2,c1,c2,c3⟩:=R.slot i ⟨s,d⟩ (b3 i s d h4 h2)
   have a1:=ag i (List.mem_range.mpr l)
   have y:(L2.start N L)[i]?=some (some v):=by
    unfold L2.start;rw[getElem?_append_left (by simp;omega),getElem?_map,J]
    rfl
   rw[y,c1]at a1
   cases a1;rw[List.getElem?_take_of_lt l,c2]at I
   cases I;exact c3.mono (Same.refl _) λa U=>.inl (by
    rcases JH U with z|z
    .exact JF _ (n a z)
    .exact JG _ z)
 |rt p=>rw[e]at w;exact w.elim
 |bk X=>rw[e]at w;exact w.elim
 |ct X=>rw[e]at w;exact w.elim
 |er c X=>rw[e]at w;exact w.elim
 |no=>rw[e]at w;exact w.elim
end
def oh:List Nat->Ev->Option (List PV)
 |[],_=>some []
 |j::js,Γ=>match Γ[j]? with
  |some (some p)=>(oh js (Γ.set j none)).map (p :: ·)
  |_=>none
def rT:List Nat->Ev->Ev
 |[],Γ=>Γ
 |j::js,Γ=>rT js (Γ.set j none)
def xj:List Nat->List Sh->List JS->Ev->Ev
 |j::js,s::ss,d::ds,Γ=>xj js ss ds (Γ.set j (some ⟨s,d⟩))
 |_,_,_,Γ=>Γ
def za:List Sh->List PV->Bool
 |[],[]=>true
 |s::ss,p::ps=>C0 p.s s&&za ss ps
 |_,_=>false
theorem pC:∀{o:List Sh}{ps:List PV},za o ps=true->ps.length=o.length
 |[],[],_=>rfl
 |s::o,p::ps,h=>by
  simp only[za,Bool.and_eq_true]at h
  simp[pC h.2]
 |[],_::_,h=>by cases h
 |_::_,[],h=>by cases h
theorem Gd:∀{o:List Sh}{ps:List PV}{i:Nat}{s:Sh}{p:PV},za o ps=true->o[i]?=some s->ps[i]?=some p->p.s=s
 |s::o,p::ps,0,_,_,h,h1,h2=>by
  simp only[za,Bool.and_eq_true]at h
  simp at h1 h2
  subst h1 h2;exact jP h.1
 |s::o,p::ps,i+1,_,_,h,h1,h2=>by
  simp only[za,Bool.and_eq_true]at h
  exact Gd (i:=i) h.2 (by simpa using h1) (by simpa using h2)
 |[],[],i,_,_,_,h1,_=>by simp at h1
 |[],_::_,_,_,_,h,_,_=>by cases h
 |_::_,[],_,_,_,h,_,_=>by cases h
def iy(d:List Nat)(o:List Sh)(w:List JS->Option (List JS)):FS:=λC=>match oh d C with
 |some G=>if za o G then(match w (G.map (·.d))with
  |some t=>if d.all (λj=>decide (j<C.length))&&decide (o.length=d.length)then .nx (xj d o t (rT d C))else .no
  |none=>.no)else .no
 |none=>.no
def gp:List Nat->TA
 |[]=>ja
 |j::js=>cV (cm j) (gp js)
section
variable{K:Fg}{W:XW}{He H:Hp}{σ:St}{D:cP}
theorem lG:∀{d:List Nat}{vs:List V}{Q:List V->Hp->Prop},vs.length=d.length->(∀(m:Nat) j v,d[m]?=some j->vs[m]?=some v->σ[j]?=some (some v))->Q vs H->gp d σ H Q
 |[],[],Q,_,_,q=>q
 |j::d,v::vs,Q,hl,h,q=>⟨v,h 0 j v rfl rfl,lG (vs:=vs) (by simpa using hl) (λm r C g R=>h (m+1) r C (by simpa using g) (by simpa using R)) q⟩
 |[],_::_,_,hl,_,_=>by cases hl
 |_::_,[],_,hl,_,_=>by cases hl
theorem zc:∀{d:List Nat}{O:List Addr}{Fs:List (List Addr)}{Γ:Ev}{ps:List PV},EnvOk K He O Fs H σ Γ->oh d Γ=some ps ->
  ∃(L:List V)(q u:List (List Addr)),L.length=d.length/\q.length=d.length/\ps.length=d.length/\(∀(m:Nat) j v,d[m]?=some j->L[m]?=some v->σ[j]?=some (some v))/\EnvOk K He (q.flatten++O) u H σ (rT d Γ) /\
   (∀(m:Nat) v p G,L[m]?=some v->ps[m]?=some p->q[m]?=some G->p.s.isView=false/\Own K (q.flatten++O++u.flatten) H p.s G v p.d)/\∀a∈q.flatten++u.flatten,a∈Fs.flatten
 |[],O,Fs,Γ,ps,E,h=>by
  cases h;exact⟨[],[],Fs,rfl,rfl,rfl,λm j v e=>by simp at e,E,λm v p G e=>by simp at e,λa U=>by simpa using U⟩
 |j::d,O,Fs,Γ,ps,E,h=>by
  unfold oh at h;split at h
  .rename_i p A
   cases k:oh d (Γ.set j none)with
   |none=>rw[k]at h;cases h
   |some l=>
    rw[k]at h
    cases h;obtain⟨R,v,F,J,x,t,n⟩:=E.move A;obtain⟨L,q,u,w,M,o,Y,S,I,i⟩:=zc x k;have c:((F::q).flatten++O).Perm (q.flatten++(F++O)):=by
     rw[flatten_cons,append_assoc];exact jU _ _ _
    refine⟨v::L,F::q,u,by simp[w],by simp[M],by simp[o],λm r C P b=>?_,S.perm c,λm C X f P b s=>?_,λa U=>?_⟩
    .cases m with
     |zero=>simp at P b;subst P b;exact J
     |succ m=>exact Y m r C (by simpa using P) (by simpa using b)
    .cases m with
     |zero=>
      simp at P b s
      subst P b s;refine⟨R,t.mono (Same.refl _) λa U=>.inl ?_⟩
      rw[flatten_cons]at U;rcases JH U with z|z
      .rcases JH z with z|z
       .rcases JH z with z|z
        .exact JG _ (JG _ z)
        .exact JF _ (i a (JG _ z))
       .exact JG _ (JF _ z)
      .exact JF _ (i a (JF _ z))
     |succ m=>
      obtain⟨g,y⟩:=I m C X f (by simpa using P) (by simpa using b) (by simpa using s)
      refine⟨g,y.mono (Same.refl _) λa U=>.inl ?_⟩
      rcases JH U with z|z
      .exact JG _ (c.mem_iff.mp z)
      .exact JF _ z
    .rw[flatten_cons,append_assoc]at U
     rcases JH U with z|z
     .exact n a (JG _ z)
     .exact n a (JF _ (i a z))
  .cases h
theorem DR:∀{js:List Nat}{ss:List Sh}{ds:List JS}{vs:List V}{Gs:List (List Addr)}{O:List Addr}{Fs:List (List Addr)}{Γ:Ev},EnvOk K He (Gs.flatten++O) Fs H σ Γ->ss.length=js.length->ds.length=js.length->vs.length=js.length->Gs.length=js.length->(∀j∈js,j<Γ.length)->(∀s∈ss,s.isView=false) ->
  (∀(m:Nat) j v,js[m]?=some j->vs[m]?=some v->σ[j]?=some (some v))->(∀a∈Gs.flatten,He a=none)->(∀(m:Nat) v d G s,vs[m]?=some v->ds[m]?=some d->Gs[m]?=some G->ss[m]?=some s->Own K (Gs.flatten++O++Fs.flatten) H s G v d)->∃u,EnvOk K He O u H σ (xj js ss ds Γ)
 |[],[],[],[],[],O,Fs,Γ,E,_,_,_,_,_,_,_,_,_=>⟨Fs,E⟩
 |j::js,s::ss,d::ds,v::vs,G::Gs,O,Fs,Γ,E,l1,l2,l3,l4,hj,hs,hn,fr,ow=>by
  have g:((G::Gs).flatten++O)=G++(Gs.flatten++O):=by rw[flatten_cons,append_assoc]
  rw[g]at E;have X:=ow 0 v d G s rfl rfl rfl rfl
  rw[g]at X;have x:=EnvOk.put (i:=j) (p:=⟨s,d⟩) (v:=v) E X (hs s (by simp)) (λa U=>fr a (by rw[flatten_cons];exact JG _ U)) (hj j (by simp))
  rw[sI (hn 0 j v rfl rfl)]at x;refine DR (js:=js) (ss:=ss) (ds:=ds) (vs:=vs) (Gs:=Gs) x (by simpa using l1) (by simpa using l2) (by simpa using l3) (by simpa using l4) (λi l=>by rw[length_set];exact hj i (by simp[l])) (λt c=>hs t (by simp[c])) (λm r C P b=>hn (m+1) r C (by simpa using P) (by simpa using b)) (λa U=>fr a (by rw[flatten_cons];exact JF _ U)) λm C Y f k P b L e=>?_
  refine(ow (m+1) C Y f k (by simpa using P) (by simpa using b) (by simpa using L) (by simpa using e)).mono (Same.refl _) λa U=>.inl ?_
  rw[flatten_cons];rcases JH U with z|z
  .rw[append_assoc,append_assoc,<-append_assoc Gs.flatten]
   exact JF _ (JG _ z)
  .rcases kH z with z|z
   .exact JG _ (JG _ (JG _ z))
   .exact JF _ z
 |[],_::_,_,_,_,_,_,_,_,h,_,_,_,_,_,_,_,_=>by cases h
 |[],[],_::_,_,_,_,_,_,_,_,h,_,_,_,_,_,_,_=>by cases h
 |[],[],[],_::_,_,_,_,_,_,_,_,h,_,_,_,_,_,_=>by cases h
 |[],[],[],[],_::_,_,_,_,_,_,_,_,h,_,_,_,_,_=>by cases h
 |_::_,[],_,_,_,_,_,_,_,h,_,_,_,_,_,_,_,_=>by cases h
 |_::_,_::_,[],_,_,_,_,_,_,_,h,_,_,_,_,_,_,_=>by cases h
 |_::_,_::_,_::_,[],_,_,_,_,_,_,_,h,_,_,_,_,_,_=>by cases h
 |_::_,_::_,_::_,_::_,[],_,_,_,_,_,_,_,h,_,_,_,_,_=>by cases h
theorem m5:∀{d:List Nat}{Γ:Ev},(rT d Γ).length=Γ.length
 |[],_=>rfl
 |j::d,Γ=>by unfold rT;rw[m5,length_set]
theorem wV{js:List Nat}{ss:List Sh}{w:List JS->Option (List JS)}{E:XK}(h:tS K W (iy js ss w) D σ H):dq (jL (Fh K ss w) [] E (gp js)) D σ H:=by
 obtain⟨He,O,Z,C,E0,h⟩:=h;unfold iy at h
 cases k:oh js C with
 |none=>rw[k]at h;exact h.elim
 |some ps=>
  rw[k]at h
  cases J:za ss ps with
  |false=>simp only[J]at h;exact h.elim
  |true=>
   simp only[J,if_true]at h
   cases x:w (ps.map (·.d))with
   |none=>rw[x]at h;exact h.elim
   |some ds=>
    rw[x]at h
    cases f:(js.all (λj=>decide (j<C.length))&&decide (ss.length=js.length))with
    |false=>simp only[f]at h;exact h.elim
    |true=>
     simp only[f,if_true]at h
     have h:∀σ' Y u,EnvOk K He O u Y σ' (xj js ss ds (rT js C))->D.nx σ' Y:=h
     simp only[Bool.and_eq_true,decide_eq_true_eq]at f
     obtain⟨vs,Gs,u,X,M,o,hn,S,I,n⟩:=zc E0 k;have fr0:∀a∈Gs.flatten,He a=none:=λa U=>E0.fresh a (n a (JG _ U))
     have lp:=pC J
     refine lG X hn ?_
     have g:=S.nd
     rw[append_assoc]at g;have y:∀s∈ss,s.isView=false:=λs P=>by
      obtain⟨i,l,e⟩:=getElem_of_mem P;have e4:ss[i]?=some s:=by rw[JJ l,e]
      have R:ps[i]?=some (ps[i]'(by omega)):=JJ _
      rw[<-Gd J e4 R];exact(I i (vs[i]'(by omega)) _ (Gs[i]'(by omega)) (JJ _) R (JJ _)).1
     refine⟨by rw[append_nil];omega,O++u.flatten,Gs,ps.map (·.d),g,λa U=>S.inH a (by rw[append_assoc];exact U),by omega,by rw[length_map];omega,y,λi v d G s a1 b L a4=>?_,?_⟩
     .rw[append_nil]at a1
      rw[getElem?_map]at b
      cases R:ps[i]? with
      |none=>rw[R]at b;cases b
      |some q=>
       rw[R]at b
       cases b;have:=(I i v q G a1 R L).2
       rw[Gd J a4 R,append_assoc]at this;exact this
     .rw[x]
      intro H2 t r;rw[append_nil]at r;show D.nx σ H2
      have N:=S.step (G:=t.flatten) r.same fr0 r.nd r.fresh r.inH
      have z:∀a∈t.flatten,He a=none:=λa U=>by
       by_cases hm:a∈Gs.flatten
       .exact fr0 a hm
       .have:=r.fresh a U
        unfold bV at this;rw[if_neg hm]at this;exact S.same.free this
      obtain⟨c,p⟩:=DR (js:=js) (ss:=ss) (ds:=ds) (vs:=vs) (Gs:=t) N f.2 (by rw[r.ld];omega) X (by rw[r.lg];omega) (λj A=>by rw[m5];simpa using List.all_eq_true.mp f.1 j A) y hn z λm v d G s a1 b L a4=>by
       have:=r.own m v d G s a1 b L a4
       rw[<-append_assoc]at this;exact this
      exact h σ H2 c p
end
def DefOkL(P:Program)(w:World)(K:Fg)(p:Str->Option Value)(X:Heap)(j:Nat)(x:Str)(o:List Sh)(a:List JS->Option (List JS)):Prop:=
 ∃(f:Addr)(fd:FuncData)(ps:List Str),dy P w K p X i6 j f fd ps (Fh K o a)/\p x=some (.ref f)/\PySem.W.keepIn K (.ref f)=true/\Binds K fd ps []
def yy(X:Cx)(x:Str)(o:List Sh)(w:List JS->Option (List JS)):Prop:=∃(k:Nat)(f:Addr)(fd:FuncData)(ps:List Str),dy X.prog X.w X.K X.mg X.base i6 k f fd ps (Fh X.K o w)/\Room k X.A/\X.mg x=some (.ref f)/\PySem.W.keepIn X.K (.ref f)=true/\Binds X.K fd ps []
theorem DefOkL.cal{X:Cx}{j:Nat}{w:List JS->Option (List JS)}(h:DefOkL X.prog X.w X.K X.mg X.base j x o w)(m:Room k X.A)(A:decide (j<=k)=true):yy X x o w:=by
 obtain⟨f,r,G,F,a,b,c⟩:=h;exact⟨j,f,r,G,F,m.mono (of_decide_eq_true A),a,b,c⟩
section
variable{X:Cx}{N gl:List Str}{vs cs ls lo gs:List Nat}{W:XW}{L:List Nat}{a b c e:Expr}{es:List Expr}{pos p:Pos}{fa fb fk:F1}{ga:FB}{g g1 g2:FS}
theorem cs_lent(S:Cp X N gl vs cs ls lo gs)(j:Nat)(d:List Nat){w:List JS->Option (List JS)}{h:Pos}(A:gl[j]?=some x)(l:gs.contains j=true)(C:yy X x o w)(U:PA X (e::es) (gp d))(R:starEach (e::es) X.env=(false,eval e X.env)::starEach es X.env)(J:(backTo h (starEach es X.env)).any (·.1)=false)(P:swapsWith (.Call (.Name x p) (e::es) [] h) none pos.line X.env=pure false):PS X (.Expr (.Call (.Name x p) (e::es) [] h) pos) (tS X.K W (iy d o w)):=by
 obtain⟨k,f,r,G,F,m,i,O,Z⟩:=C;exact bB (vB (C6 F m (S.g A l).1 i O Z .nil ma U (S.g A l).2.1 R J) P) λ_ _ _=>wV
theorem ns_setI(S:Cp X N gl vs cs ls lo gs)(i:Nat){o K:Pos}(l:N[i]?=some x)(R:vs.contains i=true)(U:PE X a (tE X.K W fa))(Z:PE X b (tE X.K W fb))(P:swapsWithSole [.Subscript (.Name x o) b K] a pos.line X.env=pure false)(w:swappedStores [.Subscript (.Name x o) b K] a X.env=pure none)(J:(assignEach [.Subscript (.Name x o) b K] X.env).map (·.2)=[assign (.Subscript (.Name x o) b K) X.env])(has:∀v,assign (.Subscript (.Name x o) b K) X.env v=(do
   let ov <-holding [v] (eval (.Name x o) X.env)
   let iv <-holding [v,ov] (eval b X.env)
   standAt K
   holding [v,ov,iv] (setItem ov iv v)
   release [v,ov,iv] [])):PS X (.Assign [.Subscript (.Name x o) b K] a pos) (tN L X.K W (cg i fa fb)):=by
 have m:=S.nm x (mem_of_getElem? l)
 exact bB (zB U (FX (lz (by rw[S.hN];exact l) (S.vis i x l R) m.1 m.2) Z GE has) P w J) λ_ _ _=>tM
end
abbrev Cq(x:Str)(s:Stmt)(G:List Str)(S:List Value):Prop:=∀(kV z c:Value)(an:Option Addr)(cdv ct:Value),bindArgs (PySem.W.fnOf x x (Cy s) (sd s) (gJ s) .none kV z c an cdv ct) ⟨S,[]⟩=pure (G.zip S)
abbrev vA(x:Str)(s:Stmt)(G:List Str):Prop:=∀S:List Value,S.length=G.length->Cq x s G S
section
variable{x:Str}{s:Stmt}{p1 p2 p3 p4 p5 p6:Str}
theorem CM(h:∀a,Cq x s [p1] [a]:=by exact λ_ _ _ _ _ _ _=>rfl):vA x s [p1]:=λS N=>match S,N with|[_],_=>h _
theorem B6(h:∀a b,Cq x s [p1,p2] [a,b]:=by exact λ_ _ _ _ _ _ _ _=>rfl):vA x s [p1,p2]:=λS N=>match S,N with|[_,_],_=>h _ _
theorem pV(h:∀a b c,Cq x s [p1,p2,p3] [a,b,c]:=by exact λ_ _ _ _ _ _ _ _ _=>rfl):vA x s [p1,p2,p3]:=λS N=>match S,N with|[_,_,_],_=>h _ _ _
theorem yp(h:∀a b c d,Cq x s [p1,p2,p3,p4] [a,b,c,d]:=by exact λ_ _ _ _ _ _ _ _ _ _=>rfl):vA x s [p1,p2,p3,p4]:=λS N=>match S,N with|[_,_,_,_],_=>h _ _ _ _
theorem Je(h:∀a b c d e,Cq x s [p1,p2,p3,p4,p5] [a,b,c,d,e]:=by exact λ_ _ _ _ _ _ _ _ _ _ _=>rfl):vA x s [p1,p2,p3,p4,p5]:=λS N=>match S,N with|[_,_,_,_,_],_=>h _ _ _ _ _
end
def Ft(K:Fg)(p:Str->Option Value)(n:Str)(s:Stmt):Prop:=∃f r,p n=some (.ref f)/\Fun K n n s f r
theorem ft{K:Fg}{h:Heap}{p:Str->Option Value}{n:Str}{s:Stmt}{f:Addr}{m U:Option Addr}{M:Array (Option Value)}{S kV b d g ct:Value}(X:K.In h)(G:h.Ns mainGlobals p)(a:PySem.W.nsIn K mainGlobals n=some (some (.ref f)))(l:K.lookup f=some ⟨S,m,.func (PySem.W.fnOf n n (Cy s) (sd s) (gJ s) .none kV b d U g ct),M⟩)(c:PySem.W.codeIn K g n=true)(k:PySem.W.keepIn K (.ref f)=true):Ft K p n s:=⟨f,_,PySem.W.mg_of X G a,BO (st:=s) l c k⟩
theorem FT{K:Fg}{d:Stmt}{f:Addr}{r:FuncData}{G:List Str}(F:Fun K x x d f r)(b:vA x d G):Binds K r G []:=F.binds λkV z c U a ct S N=>b S N kV z c U a ct
def xA(L o:List Nat):List Nat:=L.filter λi=>!o.contains i
def fB(N t G:List Str)(L o u:List Nat)(s:Stmt):Bool:=sx N t L o L (xA L o) u (gJ s)&&D1 N t&&(!(gJ s).isCoroutine&&!(gJ s).isGenerator&&decide (N.take G.length=G)&&(G.all λx=>yF (gJ s) [.local,.cell] (some x))&&((gJ s).names.all λy=>!decide (y.2=.free)))
theorem u6{G:List Str}{L o u:List Nat}{s:Stmt}(h:fB N t G L o u s=true):sx N t L o L (xA L o) u (gJ s)=true/\D1 N t=true/\dM N G (gJ s):=by
 unfold fB at h;simp only[Bool.and_eq_true,decide_eq_true_eq,all_eq_true,Bool.not_eq_true',decide_eq_false_iff_not]at h
 obtain⟨⟨J,S⟩,⟨⟨⟨I,c⟩,E⟩,a⟩,b⟩:=h;refine⟨J,S,(FU J).kind,I,c,(uy S).1,E,λx A=>?_,b⟩
 obtain⟨k,O,q⟩:=CI (a x A);simp only[mem_cons,not_mem_nil,or_false]at O
 rcases O with rfl|rfl
 .exact .inl q
 .exact .inr q
structure In(p:Fg->(Str->Option Value)->Prop)(X:Cx)(P:Program)(w:World)(K:Fg)(mg:Str->Option Value)(base:Heap)(k:Nat):Prop where
 e1:X.prog=P
 e2:X.w=w
 e3:X.K=K
 e4:X.mg=mg
 e5:X.base=base
 rm:Room k X.A
 pp:p K mg
section
variable{p:Fg->(Str->Option Value)->Prop}{X Y:Cx}{P:Program}{w:World}{K:Fg}{mg:Str->Option Value}{base:Heap}{j k n:Nat}{x:Str}{s:Stmt}{ps:List Str}{g:FS}{den:List JS->Res}{ss:List Sh}
theorem In.r(I:In p X P w K mg base k):Rm X:=I.rm.units
theorem In.e(I:In p X P w K mg base k):p X.K X.mg:=by rw[I.e3,I.e4];exact I.pp
theorem In.c(I:In p X P w K mg base k)(h:DefOk P w K mg base j x n den)(A:decide (j<=k)=true:=by first|exact rfl|exact decide_eq_true (by omega)):CN X x n den:=by
 obtain⟨rfl,rfl,rfl,rfl,rfl,r,_⟩:=I;exact h.cal r A
theorem In.m(I:In p X P w K mg base k)(h:DefOkM P w K mg base j x ss den)(A:decide (j<=k)=true:=by first|exact rfl|exact decide_eq_true (by omega)):Co X x ss den:=by
 obtain⟨rfl,rfl,rfl,rfl,rfl,r,_⟩:=I;exact h.cal r A
theorem Fx.i(F:Fx X Y)(I:In p X P w K mg base k):In p Y P w K mg base k:=⟨F.prog.trans I.e1,F.w.trans I.e2,F.K.trans I.e3,F.mg.trans I.e4,F.base.trans I.e5,by rw[F.A];exact I.rm,I.pp⟩
abbrev Bd(p:Fg->(Str->Option Value)->Prop)(P:Program)(w:World)(K:Fg)(b:Str->Option Value)(a:Heap)(k:Nat)(N t:List Str)(L o u:List Nat)(s:Stmt)(g:FS):Prop:=∀X:Cx,Cp X N t L o L (xA L o) u->In p X P w K b a k->PassesOwn (model X.prog X.w) X.A X.env X.xe->TQ.Q (PSs X (sd s) (tS X.K W0 g))
theorem Ja{f:Addr}{r:FuncData}(F:Fun K x x s f r)(e:p K mg)(N t:List Str)(L o u:List Nat)(h:fB N t ps L o u s=true)(Z:Bd p P w K mg base k N t L o u s g):dy P w K mg base i6 (k+1) f r ps (qy K ps.length (aU N.length g)):=by
 obtain⟨J,S,I⟩:=u6 h;exact BP F I λa A M s H E m=>(Z _ (Cp.fn J S) ⟨rfl,rfl,rfl,rfl,rfl,m,e⟩ PassesOwn.never).p
theorem mk(F:Ft K mg x s)(e:p K mg)(G:List Str)(b:vA x s G)(l t:List Str)(L o u:List Nat)(Z:Bd p P w K mg base k (G++l) t L o u s g)(h:fB (G++l) t G L o u s=true:=by kernel_rfl):DefOk P w K mg base (k+1) x G.length (aU (G++l).length g):=by
 obtain⟨f,r,C,F⟩:=F;exact⟨f,r,G,Ja F e _ t L o u h Z,C,F.kp,FT F b⟩
theorem Jx(F:Ft K mg x s)(e:p K mg)(G:List Str)(b:vA x s G)(i:ss.length=G.length)(l t:List Str)(L o u:List Nat)(Z:Bd p P w K mg base k (G++l) t L o u s g)(h:fB (G++l) t G L o u s=true:=by kernel_rfl):DefOkM P w K mg base (k+1) x ss (rK (G++l).length ss g):=by
 obtain⟨f,r,C,F⟩:=F;obtain⟨J,S,I⟩:=u6 h;exact⟨f,r,G,xV F I i λa A M s H E m=>(Z _ (Cp.fn J S) ⟨rfl,rfl,rfl,rfl,rfl,m,e⟩ PassesOwn.never).p,C,F.kp,FT F b⟩
theorem Jy{M:Addr}(F:Ft K mg x s)(e:p K mg)(q:Str)(b:vA x s [q])(d:mg x=some (.ref M))(l t:List Str)(L o u:List Nat)(Z:∀base,Bd p P w K mg base k ([q]++l) t L o u s g)(h:fB ([q]++l) t [q] L o u s=true:=by kernel_rfl):∃r:FuncData,(∀(s:Shared)(v:Value),BindsTo s r ⟨[v],[]⟩ [(q,v)])/\∀base:Heap,K.In base->base.Ns mainGlobals mg->dy P w K mg base i6 (k+1) M r [q] (qy K 1 (aU ([q]++l).length g)):=by
 obtain⟨f,r,C,F⟩:=F;have y:=d.symm.trans C
 cases y
 refine⟨r,λs v=>?_,λbase _ _=>Ja F e _ t L o u h (Z base)⟩
 obtain⟨S,m,kV,z,c,U,a,ct,i,rfl,R,O⟩:=F.ex;exact .of_eq (b [v] rfl kV z c U a ct)
section
variable{h:Heap}{a:Addr}{dd:Option Addr}{its:Array Value}{n:Nat}{sl:Array (Option Value)}{ds:List JS}(KX:K.In h)(G:h.Ns mainGlobals mg)
include KX G
theorem gn(z:PySem.W.nsIn K mainGlobals x=some none):mg x=none:=PySem.W.mg_none_of KX G z
theorem gi{i:Int}{t:Tok}(z:PySem.W.nsIn K mainGlobals x=some (some (.int i t))):oK K mg x (.int i):=yk (PySem.W.mg_of KX G z)
theorem gt(z:PySem.W.nsIn K mainGlobals x=some (some (.ref a)))(l:K.lookup a=some ⟨.type "tuple",dd,.seq its n,sl⟩)(c:B5 its ds=true):oK K mg x (.tuple ds):=yj (PySem.W.mg_of KX G z) l c
end
theorem walkG{m:List JS->Res}{l:PySem.W.OpenLaw}{q:Program}{Z:(Str->Option Value)->Heap->Prop}{H:World->Heap->Prop}{d:DefRec}{K:Params->Fg}(lt:∀y:List Int,y.length<=63->m [.list (y.map .int)]=.ok ⟨.leaf,.bool true⟩)(c:Room j callerA)(e:l.most=some 63)(v:d.params.defaults=[])(b:∀(w:World)(h:Heap),H w h->(K w.params).In h)(F:∀(w:World)(mg:Str->Option Value)(fa:Addr)(h:Heap),(K w.params).In h->h.Ns mainGlobals mg->mg d.name=some (.ref fa) ->
   ∃r:FuncData,(∀(s:Shared)(u:Value),BindsTo s r ⟨[u],[]⟩ [("script",u)])/\∀base:Heap,(K w.params).In base->base.Ns mainGlobals mg->dy l.prog w (K w.params) mg base i6 j fa r ["script"] (qy (K w.params) 1 m)):PySem.W.WalkO q t Z H l.row.toRowW d [] (λf L=>PySem.call f L):=
 L2.walk_of (n:=63) (k:=j) (x := "script") (CX:=λ_=>i6) (sp:=λw=>qy (K w.params) 1 m) e (by decide) v c b F (λ_ _ a y N _ R=>Bt (lt y N) R) λ_ _ _ _ _ z=>z
end
end T
namespace TQ
open PySem PySem.Spec L2 T
open PyProof.Rows hiding St
variable{x:Str}
section
variable{X:Cx}{N gl:List Str}{vs cs ls lo gs:List Nat}{W:XW}{a b c e:Expr}{es:List Expr}{pos p:Pos}{fa fb fc:F1}{fl:FL}{ga gb:FB}{g1 g2 g:FS}
theorem ak(S:Cp X N gl vs cs ls lo gs)(i:Nat)(J:N[i]?=some x:=by exact rfl)(R:vs.contains i=true:=by exact rfl):Q (PE X (.Name x pos) (tE X.K W (aa i))):=Hv S i J R
theorem aO(U:Q (PE X e (tE X.K W fa)))(m:Q (PA X es (tA X.K W fl)))(P:yE e=false:=by exact rfl):Q (PA X (e::es) (tA X.K W (ae fa fl))):=jF U m (dB P)
theorem aK(U:Q (PE X e (tE X.K W fa)))(P:yE e=false:=by exact rfl):Q (PA X [e] (tA X.K W (ae fa ah))):=jF U oM (dB P)
theorem bC(U:Q (PE X a (tE X.K W fa)))(Z:Q (PE X b (tE X.K W fb)))(P:sD b:=by exact λ_ _=>rfl):Q (PE X (.Subscript a b pos) (tE X.K W (aq fa fb))):=sW U Z P
theorem bO{n:Nat}{w:List JS->Res}(S:Cp X N gl vs cs ls lo gs)(j:Nat)(C:CN X x n w)(U:Q (PA X (e::es) (tA X.K W fl)))(A:gl[j]?=some x:=by exact rfl)(l:gs.contains j=true:=by exact rfl)(R:yE e=false:=by exact rfl)(J:(backTo pos (starEach es X.env)).any (·.1)=false:=by exact rfl):Q (PE X (.Call (.Name x p) (e::es) [] pos) (tE X.K W (ar n w fl))):=Hz S j A l C U (dB R) J
theorem cU(S:Cp X N gl vs cs ls lo gs)(own:Bool)(i:Nat){K:Pos}(U:Q (PE X a (tE X.K W fa)))(l:N[i]?=some x:=by exact rfl)(d:ls.contains i=true:=by exact rfl)(P:swapsWith a (some (.Name x K)) pos.line X.env=pure false:=by exact rfl):Q (PS X (.Assign [.Name x K] a pos) (tS X.K W (aB own i fa))):=GM S own i l d P U
theorem dN(S:Cp X N gl vs cs ls lo gs)(j:Nat)(C:X.mg "len"=none)(U:Q (PA X (e::es) (tA X.K W fl)))(A:gl[j]?=some ("len":Str):=by exact rfl)(l:gs.contains j=true:=by exact rfl)(R:yE e=false:=by exact rfl)(J:(backTo pos (starEach es X.env)).any (·.1)=false:=by exact rfl):Q (PE X (.Call (.Name "len" p) (e::es) [] pos) (tE X.K W (bc aI fl))):=tf S j A l C U (dB R) J
theorem bD{j:CmpOp}{r:R2}{g:JS->JS->Option JS}(k:Ck X j r g)(U:Q (PE X a (tE X.K W fa)))(Z:Q (PE X b (tE X.K W fb)))(C:behindInMarks j b=false:=by with_unfolding_all rfl):Q (PT X (.Compare a [j] [b] pos) (tT X.K W (aG aj (az g fa fb)))):=Hw k U Z C
theorem gM{j:CmpOp}{r:R2}{g:JS->JS->Option JS}(k:Ck X j r g)(U:Q (PE X a (tE X.K W fa)))(Z:Q (PE X b (tE X.K W fb)))(C:behindInMarks j b=false:=by with_unfolding_all rfl):Q (PE X (.Compare a [j] [b] pos) (tE X.K W (az g fa fb))):=Hy k U Z C
theorem cc(U:Q (PE X a (tE X.K W fa))):Q (PSs X [.Return (some a) pos] (tS X.K W (aN fa))):=dA (sS U)
theorem fq{d:Scope}{o:Pos}{z q:Expr}{m:List Expr}{k:FI}{G:F1}{n:FB}(r v H:List Nat)(S:Cp X N gl vs cs ls lo gs)(i:Nat)(I:Q (PI X (.Name x o) z (tI X.K W k)))(f:sA X N gl r v [i] [] H λY=>Q (PF Y m (tT Y.K W0 n)))(R:sA X N gl r v [i] [] H λY=>Q (PE Y q (tE Y.K W0 G)))(A:N[i]?=some x:=by exact rfl)(J:kb N i cs d=true:=by kernel_rfl)(h:sx N gl r v [i] [] H d=true:=by kernel_rfl)(P:∀x,foldedSetIterable z X.env x=pure x:=by exact λ_=>rfl):Q (PE X (.ListComp q [⟨.Name x o,z,m,0⟩] d pos) (tE X.K W (aw .leaf i k n G))):=Dj S .leaf i A J h I f R P
end
end TQ
namespace T
open PySem PySem.Spec L2
open PyProof.Rows hiding St
section
variable{X:Cx}{N gl:List Str}{vs cs ls lo gs:List Nat}{W:XW}{a:Expr}{pos:Pos}{fa:F1}
theorem cs_unpt(S:Cp X N gl vs cs ls lo gs)(i j k:Nat){x y z:Str}{o I h pt:Pos}{r:Nat}(l:N[i]?=some x)(A:N[j]?=some y)(O:N[k]?=some z)(d:ls.contains i=true)(f:ls.contains j=true)(R:ls.contains k=true)(U:PE X a (tE X.K W fa))(P:swapsWithSole [.Tuple [.Name x o,.Name y I,.Name z h] r pt] a pos.line X.env=pure false)(w:swappedStores [.Tuple [.Name x o,.Name y I,.Name z h] r pt] a X.env=pure none):PS X (.Assign [.Tuple [.Name x o,.Name y I,.Name z h] r pt] a pos) (tS X.K W (cI [i,j,k] fa)):=by
 have J:X.N.Nodup:=by rw[S.hN];exact S.nd
 exact bB (zB U (CV S.calm (sg (nq J (by rw[S.hN];exact l) (S.loc i x l d).1 (S.loc i x l d).2) (sg (nq J (by rw[S.hN];exact A) (S.loc j y A f).1 (S.loc j y A f).2) (sg (nq J (by rw[S.hN];exact O) (S.loc k z O R).1 (S.loc k z O R).2) C7)))) P w) λ_ _ _=>Gg (is:=[i,j,k])
end
end T
namespace TQ
open PySem PySem.Spec L2 T
open PyProof.Rows hiding St
variable{X:Cx}{N gl:List Str}{vs cs ls lo gs:List Nat}{W:XW}{a:Expr}{pos:Pos}{fa:F1}
theorem qj(S:Cp X N gl vs cs ls lo gs)(i j k:Nat){x y z:Str}{o I h pt:Pos}{r:Nat}(l:N[i]?=some x)(A:N[j]?=some y)(O:N[k]?=some z)(d:ls.contains i=true)(f:ls.contains j=true)(R:ls.contains k=true)(U:Q (PE X a (tE X.K W fa)))(P:swapsWithSole [.Tuple [.Name x o,.Name y I,.Name z h] r pt] a pos.line X.env=pure false)(w:swappedStores [.Tuple [.Name x o,.Name y I,.Name z h] r pt] a X.env=pure none):Q (PS X (.Assign [.Tuple [.Name x o,.Name y I,.Name z h] r pt] a pos) (tS X.K W (cI [i,j,k] fa))):=⟨T.cs_unpt S i j k l A O d f R U.p P w⟩
end TQ
namespace KQ.F
open PySem PySem.Spec L2 T
open PyProof.Rows hiding St
open KC
variable{e:Nat}{rk:List (Option Int)}{C:Ev}{g:List Int}{x:Int}{o:Option Str}
noncomputable def kR:FS:=(ax (aB true 3 (aH .leaf ah))
  (ax (cM 4 (aF (aa 2))
  (lU 3 (aw .leaf 5 (aF (aq (aq (aa 0) (eK (.int 2))) (aa 4))) (aG aj (az (bw false) (aa 5) (aa 1))) (aa 5))))
  (aN (bh 3))))
noncomputable def bR:List JS->Res:=aU 6 kR
noncomputable def iS:FS:=(ax (aB false 4 (aq (aa 3) (eK (.int 0))))
  (ax (bA (fm (cQ (aG bI (aa 4))) (fm (cQ (aG bI (ar 1 cA (ae (aa 4) ah)))) (cQ (aG bI (bc (cL false) (ae (aw .leaf 7 (aF (aa 4)) aR (az (bw false) (aa 7) (aa 1))) ah)))))) (aN (eK (.bool false))) aD)
  (ax (aB false 5 (ar 3 bR (ae (aa 0) (ae (aa 1) (ae (aa 4) ah)))))
  (ax (bA (aG aj (az (bq false) (aq (aa 3) (eK (.int 1))) (eK .none))) (aN (eU mG (aa 5))) aD)
  (ax (aB false 6 (va (bc (cL true) (ae (aw .leaf 7 (aF (aa 4)) aR (az (bw false) (aq (aa 3) (eK (.int 1))) (aq (aq (aa 0) (eK (.int 1))) (aa 7)))) ah))))
  (aN (ff (az (bw false) (aq (aa 3) (eK (.int 1))) (aa 2)) (ff (aa 6) (bc (cL false) (ae (aw .leaf 8 (aF (aa 5)) aR (az (bw false) (aa 8) (aa 4))) ah))))))))))
noncomputable def cj:List JS->Res:=aU 9 iS
noncomputable def rP:FS:=(ax (aB false 4 (lh (aa 1)))
  (ax (cM 5 (aF (aa 3))
  (ax (bA (cQ (aG bI (ar 4 cj (ae (aa 0) (ae (aa 4) (ae (aa 2) (ae (aa 5) ah))))))) (aN (eK .none)) aD)
  (aB false 4 (aw .leaf 6 (aF (aa 4)) (aG aj (az (bw true) (aa 6) (aq (aa 5) (eK (.int 0))))) (aa 6)))))
  (aN (aa 4))))
noncomputable def eC:List JS->Res:=aU 7 rP
noncomputable def hU:FS:=(ax (aB false 5 (aq (aa 3) (aa 4)))
  (ax (bA (fm (aG aj (az (bw true) (aa 4) (aa 1))) (aG aj (az (bq false) (aa 5) (eK .none)))) (aN (ff (az (bw true) (aa 4) (aa 1)) (az (bq false) (aa 5) (eK .none)))) aD)
  (ax (bA (aG aj (az (bw false) (aa 2) (aq (aq (aa 0) (eK (.int 1))) (aa 4)))) (aN (az bP (aa 5) (eK (.int 0)))) aD)
  (aN (ff (az dS (aa 5) (eK (.int 0))) (az dS (bc aI (ae (ar 3 cY (ae (aa 0) (ae (aa 3) (ae (aa 4) ah)))) ah)) (eK (.int 0))))))))
noncomputable def cE:List JS->Res:=aU 6 hU
noncomputable def fO:FS:=(ax (bA (aG aj (az cO (bc aI (ae (aa 3) ah)) (bc aI (ae (aq (aa 0) (eK (.int 0))) ah)))) (aN (eK (.bool false))) aD)
  (aN (bc (cL false) (ae (aw .leaf 4 (i5 (ae (bc aI (ae (aa 3) ah)) ah)) aR (ar 5 cE (ae (aa 0) (ae (aa 1) (ae (aa 2) (ae (aa 3) (ae (aa 4) ah))))))) ah))))
noncomputable def bz:List JS->Res:=aU 5 fO
noncomputable def hV:FS:=(ax (dQ (ar 3 bS (ae (aa 0) (ae (aa 1) (ae (aa 2) ah)))))
  (ax (aB false 4 (ar 4 eC (ae (aa 0) (ae (aa 1) (ae (aa 2) (ae (aq (aa 3) (eK (.int 0))) ah))))))
  (ax (bA (fm (aG aj (az (bq false) (aa 4) (eK .none))) (fm (aG aj (az cO (aq (aa 3) (eK (.int 1))) (aa 4))) (aG aj (az cO (bc aI (ae (aq (aa 3) (eK (.int 2))) ah)) (bc aI (ae (aa 2) ah)))))) (aN (eK (.bool false))) aD)
  (ax (bA (cQ (aG bI (bc j5 (ae (aw .leaf 5 (aF (aa 4)) aR (ar 3 bR (ae (aa 0) (ae (aa 4) (ae (aH .leaf (ae (aa 5) ah)) ah))))) ah)))) (aN (eK (.bool false))) aD)
  (aN (bc (cL false) (ae (zx .leaf 6 7 (ae (aa 2) (ae (aq (aa 3) (eK (.int 2))) ah)) aR (ar 4 bz (ae (aa 0) (ae (aa 4) (ae (aa 6) (ae (aa 7) ah)))))) ah)))))))
noncomputable def bG:List JS->Res:=aU 8 hV
noncomputable def gg:FS:=(ax (cI [5,6] (aa 3))
  (ax (bA (fm (aG aj (az bP (bc aI (ae (aa 5) ah)) (eK (.int 0)))) (fm (aG aj (az cO (aa 5) (zy (ae (aa 5) ah)))) (aG aj (az dS (bc aI (ae (aw .leaf 4 (aF (aa 5)) (aG aj (az (bw true) (aa 4) (aa 1))) (aa 4)) ah)) (eK (.int 0)))))) (aN (eK (.bool false))) aD)
  (ax (cM 4 (aF (aa 5))
  (ax (aB false 7 (aw .leaf 9 (aF (aq (aq (aa 0) (eK (.int 2))) (aa 4))) (aG aj (az (bw false) (aa 9) (aa 1))) (aa 9)))
  (ax (bA (bK (aG aj (az (bq false) (aa 6) (eK .none))) (aG aj (az dS (bc aI (ae (aa 7) ah)) (eK (.int 0))))) (aN (eK (.bool false))) aD)
  (ax (aB false 8 (aw .leaf 10 (aF (aa 7)) (aG aj (az (bw true) (aa 10) (aa 5))) (aa 10)))
  (bA (bK (aG aj (az (bq true) (aa 6) (eK .none))) (fm (aG aj (az (bw false) (aa 6) (aq (aq (aa 0) (eK (.int 1))) (aa 4)))) (aG aj (az cO (aa 8) (aH .leaf ah))))) (aN (eK (.bool false))) aD)))))
  (aN (CL (az (bq false) (aa 6) (eK .none)) (az (bw false) (aa 6) (aa 2)))))))
noncomputable def bT:List JS->Res:=aU 11 gg
noncomputable def fP:FS:=(ax (bA (aG aj (az cO (bc aI (ae (aa 3) ah)) (bc aI (ae (aq (aa 0) (eK (.int 0))) ah)))) (aN (eK (.bool false))) aD)
  (ax (cM 4 (i5 (ae (bc aI (ae (aa 3) ah)) ah))
  (bA (aG aj (az cO (az (bq false) (aq (aa 3) (aa 4)) (eK .none)) (az (bw true) (aa 4) (aa 1)))) (aN (eK (.bool false))) aD))
  (ax (cM 4 (aF (aa 1))
  (ax (aB false 5 (aw .leaf 7 (aF (aq (aq (aa 0) (eK (.int 2))) (aa 4))) (aG aj (az (bw false) (aa 7) (aa 1))) (aa 7)))
  (ax (aB false 6 (aw .leaf 7 (aF (aa 5)) (aG aj (az gG (aq (aa 3) (aa 7)) (aq (aa 3) (aa 4)))) (aa 7)))
  (ax (bA (fm (aG aj (az gG (aq (aa 3) (aa 4)) (eK (.int 0)))) (aG aj (az cO (az bP (aq (aa 3) (aa 4)) (eK (.int 0))) (az (bw false) (aa 2) (aq (aq (aa 0) (eK (.int 1))) (aa 4)))))) (aN (eK (.bool false))) aD)
  (bA (bK (aG aj (az dS (aq (aa 3) (aa 4)) (eK (.int 0)))) (aG aj (az bP (aa 6) (aH .leaf ah)))) (aN (eK (.bool false))) aD)))))
  (aN (eK (.bool true))))))
noncomputable def ck:List JS->Res:=aU 8 fP
noncomputable def h9:FS:=(ax (cI [7,8,9] (aa 3))
  (ax (aB false 4 (lh (aa 1)))
  (ax (cM 5 (aF (aa 7))
  (ax (bA (cQ (aG bI (ar 4 bT (ae (aa 0) (ae (aa 4) (ae (aa 2) (ae (aa 5) ah))))))) (aN (eK (.bool false))) aD)
  (aB false 4 (aw .leaf 6 (aF (aa 4)) (aG aj (az (bw true) (aa 6) (aq (aa 5) (eK (.int 0))))) (aa 6)))))
  (ax (bA (fm (aG aj (az cO (aa 4) (aa 8))) (aG aj (az cO (bc aI (ae (aa 9) ah)) (bc aI (ae (aa 2) ah))))) (aN (eK (.bool false))) aD)
  (ax (cM 6 (aF (aa 8))
  (bA (aG aj (az bP (bc aI (ae (aw .leaf 11 (aF (aq (aq (aa 0) (eK (.int 2))) (aa 6))) (aG aj (az (bw false) (aa 11) (aa 8))) (aa 11)) ah)) (eK (.int 0)))) (aN (eK (.bool false))) aD))
  (aN (bc (cL false) (ae (aw .leaf 10 (i5 (ae (bc aI (ae (aa 2) ah)) ah)) aR (ar 4 ck (ae (aa 0) (ae (aa 8) (ae (aq (aa 2) (aa 10)) (ae (aq (aa 9) (aa 10)) ah)))))) ah))))))))
noncomputable def cF:List JS->Res:=aU 12 h9
open PySem.SeqAt
noncomputable def zD:Option Int->D
 |none=>.none
 |some z=>.int z
noncomputable abbrev bW(E:List (Option Int)):D:=.list (E.map zD)
noncomputable def zA(E:List (Option Int))(r:Nat):Option Int:=E.getD r none
theorem yz{E:List (Option Int)}{r:Nat}(h:r<E.length):(E.map zD)[r]?=some (zD (zA E r)):=by
 rw[getElem?_map,JJ h,zA,JK,JJ h];rfl
theorem nK{Γ:Ev}{M e:F1}{s:Sh}{r:Nat}(U:M Γ=.ok ⟨.leaf,bW rk⟩ Γ)(Z:e Γ=.ok ⟨s,rm r⟩ Γ)(h:r<rk.length):aq M e Γ=.ok ⟨.leaf,zD (zA rk r)⟩ Γ:=nC (j:=r) U Z (nj (by rw[length_map];exact h)) (yz h) rfl
theorem Io(a b:Bool):cO (.bool a) (.bool b)=some (.bool (a != b)):=by cases a<;>cases b<;>kernel_rfl
theorem Jn(o:Option Int):bP (zD o) (.int 0)=some (.bool (decide (o=some 0))):=by
 cases o with
 |none=>kernel_rfl
 |some z=>
  show bP (.int z) (.int 0)=_
  rw[KC.eq_int];congr 2
  rw[Bool.eq_iff_iff];simp
theorem Ei{c f:FB}(h:c C=.ok true C):fm c f C=.ok true C:=by
 unfold fm;rw[h];rfl
theorem C1{m:Type}(j:m->D){i:Nat}{body:FS}{Inv:Ev->Prop}{c:m->Bool}{q:PV}:∀(Y:List m)(C:Ev),(∀a∈Y,∀C,Inv C->i<C.length/\(c a=true->∃X,body (C.set i (JT (j a)))=.nx X/\Inv X)/\(c a=false->body (C.set i (JT (j a)))=.rt q))->Inv C ->
  (Y.all c=true->∃X,bf i body (Y.map j) C=.nx X/\Inv X)/\(Y.all c=false->bf i body (Y.map j) C=.rt q)
 |[],C,_,h=>⟨λ_=>⟨C,rfl,h⟩,nofun⟩
 |a::r,C,hb,h=>by
  obtain⟨J,S,f⟩:=hb a mem_cons_self C h;rw[map_cons,all_cons]
  cases e:c a with
  |true=>
   obtain⟨I,g,k⟩:=S e;have E:=C1 j r I (λb d=>hb b (JL _ d)) k
   have s:bf i body (j a::r.map j) C=bf i body (r.map j) I:=by
    rw[bf,if_pos J,g]
   rw[s,Bool.true_and];exact E
  |false=>
   rw[Bool.false_and];refine⟨λz=>(nomatch z),λ_=>?_⟩
   rw[bf,if_pos J,f e]
noncomputable abbrev iL(g:List Int):D:=.list (g.map .int)
noncomputable abbrev bL(G:List Nat):List Int:=G.map λt:Nat=>(t:Int)
theorem fX{G:List Nat}:ay G=iL (bL G):=by show PyData.list _=_;rw[KC.rms_int]
theorem ID:shaped (iL g)=true:=C4 KC.rowI_map
theorem Gx{a b:List Int}:bP (iL a) (iL b)=some (.bool (decide (a=b))):=by
 show(if shaped (iL a)&&shaped (iL b)then some (PyData.bool (PyData.eqv (.list (a.map .int)) (.list (b.map .int))))else none)=_
 rw[ID,ID,Bool.and_self,if_pos rfl,PyData.eqv];congr 2
 induction a generalizing b with
 |nil=>cases b<;>simp[PyData.eqvAll]
 |cons x a E=>
  cases b with
  |nil=>simp[PyData.eqvAll]
  |cons y b=>
   rw[map_cons,map_cons,PyData.eqvAll,E,PyData.eqv,Bool.eq_iff_iff];simp
theorem fI{a b:D}{c:Bool}(h:bP a b=some (.bool c)):cO a b=some (.bool (!c)):=by
 unfold bP at h;unfold cO;split at h
 .rename_i z
  rw[if_pos z];injection h with h
  injection h with h
  rw[h]
 .cases h
noncomputable def fA(g:List Int):Bool:=decide (g.Pairwise (· < ·))
theorem Ai:dZ (g.map .int)=fA g:=by
 unfold fA;by_cases h:g.Pairwise (· < ·)
 .rw[decide_eq_true h];exact GD h
 .rw[decide_eq_false h,Bool.eq_false_iff]
  intro e;apply h
  unfold dZ at e;rw[all_eq_true]at e;have a:∀k (O:k+1<g.length),g[k]<g[k+1]:=λk O=>by
   have q:=e (.int (1+((k:Nat):Int))) (by
    unfold T.rngD;refine List.mem_map.mpr ⟨k,List.mem_range.mpr ?_,rfl⟩
    rw[length_map];omega)
   unfold xy at q;dsimp only at q;rw[show(1+(k:Int)-1).toNat=k by omega,show(1+(k:Int)).toNat=k+1 by omega,JK,JK,getElem?_map,getElem?_map,JJ (by omega),JJ O]at q
   exact of_decide_eq_true q
  rw[List.pairwise_iff_getElem];intro i j l A c;obtain⟨d,rfl⟩:∃d,j=i+1+d:=⟨j-(i+1),by omega⟩
  clear c;induction d with
  |zero=>exact a i A
  |succ d E=>exact Int.lt_trans (E (by omega)) (a (i+1+d) (by omega))
theorem Ac:decide (g=PySem.W.sortI (gc g))=fA g:=by
 unfold fA;refine decide_eq_decide.mpr ⟨λe=>?_,λh=>?_⟩
 .have J:=PySem.W.sortI_rises (gc g)
  have S:(PySem.W.sortI (gc g)).Nodup:=(PySem.W.sortI_perm _).nodup_iff.mpr (EV g)
  rw[<-e]at J S
  exact(J.and S).imp λz=>by omega
 .refine PySem.W.eq_sortI ?_ (h.imp λz=>by omega)
  exact(List.perm_ext_iff_of_nodup (h.imp λz=>by omega) (EV _)).mpr λx=>ddp_mem.symm
structure FRow where
 g:List Int
 m:Option Str
noncomputable def mD:Option Str->D
 |none=>.none
 |some c=>.str c
noncomputable def FRow.enc(r:FRow):D:=.tuple [iL r.g,mD r.m]
structure FRow.Ok(r:FRow):Prop where
 len:r.g.length<=60
 str:∀c,r.m=some c->PyData.strOk c=true
noncomputable def inL(L:List Nat)(x:Int):Bool:=(bL L).contains x
noncomputable def pU(L:List Nat)(g:List Int):Bool:=!g.isEmpty&&fA g&&g.all (inL L)
noncomputable abbrev eL(w:Wd)(L G:List Nat):List Nat:=G.flatMap λr=>(w.stp r).filter λt=>L.contains t
noncomputable def pT(w:Wd)(L:List Nat)(M:List Str)(G:List Nat):Option Str->Bool
 |none=>(eL w L G).isEmpty
 |some c=>M.contains c&&(!G.any λr=>(w.mks r).contains c)&&(eL w L G).all λt=>G.contains t
noncomputable def du(w:Wd)(L:List Nat)(M:List Str)(r:FRow):Bool:=pU L r.g&&pT w L M (r.g.map Int.toNat) r.m
theorem vk{w:Wd}{L:List Nat}(P:Std w.n L)(h:pU L g=true):∃G:List Nat,g=bL G/\g.map Int.toNat=G/\(∀r∈G,r∈L)/\G≠[]/\G.Nodup/\G.length<=w.n:=by
 simp only[pU,Bool.and_eq_true,all_eq_true]at h
 obtain⟨⟨J,S⟩,I⟩:=h;have b:∀x∈g,∃r∈L,(r:Int)=x:=λx A=>by
  have:=I x A
  simpa[inL]using this
 have e:bL (g.map Int.toNat)=g:=by
  show((g.map Int.toNat).map λt:Nat=>(t:Int))=g
  rw[map_map];refine(map_congr_left λx A=>?_).trans (List.map_id g)
  obtain⟨r,_,rfl⟩:=b x A
  show((r:Int).toNat:Int)=id (r:Int)
  simp
 have Y:∀r∈g.map Int.toNat,r∈L:=λr m=>by
  obtain⟨x,A,rfl⟩:=List.mem_map.mp m;obtain⟨C,a,rfl⟩:=b x A
  simpa using a
 have X:(g.map Int.toNat).Nodup:=by
  have p:=of_decide_eq_true S
  rw[<-e,pairwise_map]at p;exact p.imp λz=>by omega
 exact⟨g.map Int.toNat,e.symm,rfl,Y,λz=>by rw[List.map_eq_nil_iff.mp z]at J;simp at J,X,CT X λx A=>P.lt x (Y x A)⟩
section
variable{w:Wd}{L:List Nat}{M:List Str}
theorem oU(ok:w.Ok)(r:Nat):(w.stp r).length<=30:=by
 unfold Wd.stp;rw[JK]
 cases e:w.s[r]? with
 |none=>simp
 |some l=>exact(ok.st l (mem_of_getElem? e)).2.1
noncomputable abbrev GA(w:Wd)(L G A:List Nat)(Y:Option PV):Ev:=[JT w.enc,JT (ay L),JT (ay G),some ⟨.lst .leaf,ay A⟩,Y,none]
noncomputable abbrev iW:FS:=(lU 3 (aw .leaf 5 (aF (aq (aq (aa 0) (eK (.int 2))) (aa 4))) (aG aj (az (bw false) (aa 5) (aa 1))) (aa 5)))
theorem zp(ok:w.Ok){G0:List Nat}:∀(G A:List Nat)(x4:Option PV),(∀r∈G,r<w.n)->A.length+30*G.length<=9000->∃k,bf 4 iW (G.map rm) (GA w L G0 A x4)=.nx (GA w L G0 (A++eL w L G) k)
 |[],A,x4,_,_=>⟨x4,by simp[bf,eL]⟩
 |r::G,A,x4,h,hn=>by
  have m:=h r mem_cons_self
  have N:=oU ok r
  have c:aw .leaf 5 (aF (aq (aq (aa 0) (eK (.int 2))) (aa 4))) (aG aj (az (bw false) (aa 5) (aa 1))) (aa 5) (GA w L G0 A (JT (rm r)))=.ok ⟨.lst .leaf,ay ((w.stp r).filter λt=>L.contains t)⟩ (GA w L G0 A (JT (rm r))):=
   i7 rm (w.stp r) (λt=>L.contains t) (λt=>⟨.leaf,rm t⟩) (st:=true) (bg (s:=.leaf) (CC ok rfl (au rfl) m) rfl) (by simp) rfl ok.z.len (λt u=>bQ (s:=.leaf) (aC (au rfl) (au rfl) yD)) λt u _=>⟨au rfl,rfl⟩
  have f:((w.stp r).filter λt=>L.contains t).length<=30:=Nat.le_trans (length_filter_le _ _) N
  rw[length_cons]at hn;have e:iW (GA w L G0 A (JT (rm r)))=.nx (GA w L G0 (A++(w.stp r).filter λt=>L.contains t) (JT (rm r))):=by
   refine(zN (ds:=A.map rm) (es:=((w.stp r).filter λt=>L.contains t).map rm) rfl c rfl (by rw[length_map,length_map];omega)).trans ?_
   rw[<-map_append];rfl
  obtain⟨k,E⟩:=zp ok (G0:=G0) G (A++(w.stp r).filter λt=>L.contains t) (JT (rm r)) (λx d=>h x (JL _ d)) (by rw[length_append];omega)
  refine⟨k,?_⟩
  rw[map_cons,bf,if_pos (by simp)]
  show(match iW (GA w L G0 A (some ⟨.leaf,rm r⟩))with|.nx I=>bf 4 iW (G.map rm) I|.ct I=>bf 4 iW (G.map rm) I|.bk I=>.nx I|.rt p=>.rt p|.er a b=>.er a b|.no=>.no)=_
  rw[e];dsimp only;rw[E];simp[eL,append_assoc]
theorem j9(ok:w.Ok){G:List Nat}(u:∀r∈G,r<w.n)(N:G.length<=24):bR [w.enc,ay L,ay G]=.ok ⟨.lst .leaf,ay (eL w L G)⟩:=by
 obtain⟨k,e⟩:=zp (L:=L) ok (G0:=G) G [] none u (by simp only[length_nil];omega)
 rw[nil_append]at e;exact aQ (af (lA (ie (s:=.leaf) ao rfl rfl rfl) rfl (by simp[bp])) (af (bE (bg (ds:=G.map rm) (s:=.leaf) (au rfl) rfl) e) (aL (p8 rfl) rfl)))
theorem BD{L:List Nat}:bw false (.int x) (ay L)=some (.bool (inL L x)):=by
 rw[fX];exact EC
noncomputable abbrev GI(w:Wd)(L:List Nat)(M:List Str)(r:FRow)(l H:Option PV):Ev:=[JT w.enc,JT (ay L),JT (bx M),JT r.enc,JT (iL r.g),l,H,none,none]
theorem xR{Γ:Ev}{i:Nat}(h:Γ[i]?=some (JT (iL g))):aG bI (aa i) Γ=.ok (!g.isEmpty) Γ:=by
 unfold aG;rw[au h]
 cases g<;>rfl
theorem pG{m:Option Str}{c:Str}(h:m=some c)(f:PyData.strOk c=true){r:List Str}(a:∀x∈r,PyData.strOk x=true):bw false (mD m) (bx r)=some (.bool (r.contains c)):=by
 rw[h];exact Ct f a
theorem ya(ok:w.Ok)(P:Std w.n L)(hM:∀c∈M,c∈bb){r:FRow}(m:r.Ok):cj [w.enc,ay L,bx M,r.enc]=.ok ⟨.leaf,.bool (du w L M r)⟩:=by
 have I:=ok.h24
 have z:=m.len
 have b:∀x∈M,PyData.strOk x=true:=λx Z=>(vL (hM x Z)).1
 have y:aB false 4 (aq (aa 3) (eK (.int 0))) (bp 9 [w.enc,ay L,bx M,r.enc])=.nx (GI w L M r none none):=dh (jC (j:=0) (ds:=[iL r.g,mD r.m]) (au rfl) aS rfl rfl rfl) rfl (by simp[bp])
 have u:aw .leaf 7 (aF (aa 4)) aR (az (bw false) (aa 7) (aa 1)) (GI w L M r none none)=.ok ⟨.lst .leaf,.list (r.g.map λx=>.bool (inL L x))⟩ (GI w L M r none none):=
  nr PyData.int r.g (λx=>⟨.leaf,.bool (inL L x)⟩) (st:=true) (bg (s:=.leaf) (au rfl) rfl) (by simp) rfl (by omega) λx Z=>⟨aC (au rfl) (au rfl) BD,rfl⟩
 have t:=fh (eV (xR (g:=r.g) (Γ:=GI w L M r none none) (i:=4) rfl)) (fh (eV (eT (s:=.leaf) (cH (n:=1) (aA (au (i:=4) rfl) ao) (Hu (.inl rowI_map) (by rw[length_map];omega)) rfl rfl))) (eV (eT (s:=.leaf) (bt (aA u ao) sF))))
 rw[Ai]at t
 cases f:pU L r.g with
 |false=>
  have e:(!(!r.g.isEmpty)||(!fA r.g||!r.g.all (inL L)))=true:=by
   have:(!(!r.g.isEmpty)||(!fA r.g||!r.g.all (inL L)))=!pU L r.g:=by
    unfold pU
    cases r.g.isEmpty<;>cases fA r.g<;>cases r.g.all (inL L)<;>rfl
   rw[this,f];rfl
  rw[e]at t;have:du w L M r=false:=by unfold du;rw[f];rfl
  rw[this];exact aQ (af y (fR (aP t (λ_=>aL aS rfl) nofun)))
 |true=>
  have e:(!(!r.g.isEmpty)||(!fA r.g||!r.g.all (inL L)))=false:=by
   have:(!(!r.g.isEmpty)||(!fA r.g||!r.g.all (inL L)))=!pU L r.g:=by
    unfold pU
    cases r.g.isEmpty<;>cases fA r.g<;>cases r.g.all (inL L)<;>rfl
   rw[this,f];rfl
  rw[e]at t;obtain⟨G,e1,R,Y,K,X,hlen⟩:=vk P f;have v:∀x∈G,x<w.n:=λx Z=>P.lt x (Y x Z)
  have l:iL r.g=ay G:=by rw[fX,<-e1]
  have:du w L M r=pT w L M G r.m:=by unfold du;rw[f,R];rfl
  rw[this];have N:bA _ (aN (eK (.bool false))) aD (GI w L M r none none)=.nx (GI w L M r none none):=aP t nofun λ_=>rfl
  have S:aB false 5 (ar 3 bR (ae (aa 0) (ae (aa 1) (ae (aa 4) ah)))) (GI w L M r none none)=.nx (GI w L M r (JT (ay (eL w L G))) none):=
   dh (cH (aA (au rfl) (aA (au rfl) (aA (au (d:=ay G) (by rw[<-l];rfl)) ao))) (j9 ok v (by omega)) rfl rfl) rfl (by simp)
  have k:∀x5 H,aq (aa 3) (eK (.int 1)) (GI w L M r x5 H)=.ok ⟨.leaf,mD r.m⟩ (GI w L M r x5 H):=λx5 H=>jC (j:=1) (ds:=[iL r.g,mD r.m]) (au rfl) aS rfl rfl rfl
  refine aQ (af y (af N (af S ?_)))
  cases C:r.m with
  |none=>
   have h:aG aj (az (bq false) (aq (aa 3) (eK (.int 1))) (eK .none)) (GI w L M r (JT (ay (eL w L G))) none)=.ok true (GI w L M r (JT (ay (eL w L G))) none):=bQ (s:=.leaf) (aC (k _ _) aS (by rw[C];rfl))
   refine fR (aP h (λ_=>aL (p:=⟨.leaf,.bool (pT w L M G none)⟩) (Γ1:=GI w L M r (JT (ay (eL w L G))) none) ?_ rfl) nofun)
   refine Jo (au (d:=ay (eL w L G)) rfl) ?_
   unfold pT;generalize eL w L G=A
   cases A<;>rfl
  |some c=>
   have q:=m.str c C
   have h:aG aj (az (bq false) (aq (aa 3) (eK (.int 1))) (eK .none)) (GI w L M r (JT (ay (eL w L G))) none)=.ok false (GI w L M r (JT (ay (eL w L G))) none):=bQ (s:=.leaf) (aC (k _ _) aS (by rw[C];rfl))
   have O:aw .leaf 7 (aF (aa 4)) aR (az (bw false) (aq (aa 3) (eK (.int 1))) (aq (aq (aa 0) (eK (.int 1))) (aa 7))) (GI w L M r (JT (ay (eL w L G))) none)=.ok ⟨.lst .leaf,.list (G.map λx=>.bool ((w.mks x).contains c))⟩ (GI w L M r (JT (ay (eL w L G))) none):=
    nr rm G (λx=>⟨.leaf,.bool ((w.mks x).contains c)⟩) (st:=true) (bg (s:=.leaf) (au (d:=ay G) (by rw[<-l];rfl)) rfl) (by simp) rfl (by omega) λx Z=>⟨aC (jC (j:=1) (ds:=[iL r.g,mD r.m]) (au rfl) aS rfl rfl rfl) (C9 ok rfl (au rfl) (v x Z)) (pG C q (zE ok x)),rfl⟩
   have o:aB false 6 _ (GI w L M r (JT (ay (eL w L G))) none)=.nx (GI w L M r (JT (ay (eL w L G))) (JT (.bool (!G.any λx=>(w.mks x).contains c)))):=
    dh (v_not (s:=.leaf) (bt (aA O ao) (by
     have:=Gy (bs:=G.map λx=>(w.mks x).contains c)
     rw[map_map,List.any_map]at this;exact this))) rfl (by simp)
   have U:(eL w L G).length<=10000:=by
    have:∀G:List Nat,(eL w L G).length<=30*G.length:=λG=>by
     induction G with
     |nil=>simp[eL]
     |cons a r E=>
      have J:((w.stp a).filter λt=>L.contains t).length<=30:=Nat.le_trans (length_filter_le _ _) (oU ok a)
      simp only[eL,List.flatMap_cons,length_append,length_cons]at E ⊢
      omega
    have:=this G
    omega
   have cd:aw .leaf 8 (aF (aa 5)) aR (az (bw false) (aa 8) (aa 4)) (GI w L M r (JT (ay (eL w L G))) (JT (.bool (!G.any λx=>(w.mks x).contains c))))=.ok ⟨.lst .leaf,.list ((eL w L G).map λx=>.bool (G.contains x))⟩ (GI w L M r (JT (ay (eL w L G))) (JT (.bool (!G.any λx=>(w.mks x).contains c)))):=
    nr rm (eL w L G) (λx=>⟨.leaf,.bool (G.contains x)⟩) (st:=true) (bg (s:=.leaf) (au rfl) rfl) (by simp) rfl U λx Z=>⟨aC (au rfl) (au (d:=ay G) (by rw[<-l];rfl)) yD,rfl⟩
   refine af (aP h nofun λ_=>rfl) (af o (aL (p:=⟨.leaf,.bool (pT w L M G (some c))⟩) (Γ1:=GI w L M r (JT (ay (eL w L G))) (JT (.bool (!G.any λx=>(w.mks x).contains c)))) ?_ rfl))
   have:=v_and (s:=.leaf) (aC (k _ _) (au (i:=2) rfl) (pG C q b)) (v_and (s:=.leaf) (au (i:=6) rfl) (bt (aA cd ao) sF))
   rw[this];simp[pT,Bool.and_assoc]
end
theorem len_sub:∀(l m:List Int),l.Nodup->(∀x∈l,x∈m)->l.length<=m.length
 |[],m,_,_=>Nat.zero_le _
 |a::l,m,nd,h=>by
  obtain⟨b,q⟩:=List.nodup_cons.mp nd;have U:=h a mem_cons_self
  have E:=len_sub l (m.erase a) q λx A=>(List.mem_erase_of_ne (λe:x=a=>b (e▸A))).mpr (h x (JL _ A))
  rw[List.length_erase_of_mem U]at E;have:0<m.length:=List.length_pos_of_mem U
  rw[length_cons];omega
theorem wg{b:FL}{s:Sh}(N:b C=.ok [⟨s,iL g⟩] C)(h:g.length<=60):zy b C=.ok ⟨.lst .leaf,iL (PySem.W.sortI (gc g))⟩ C:=by
 unfold zy;rw[N];have e:T.sortArg ([(⟨s,iL g⟩:PV)].map (·.d))=some g:=by
  show T.intsOf (g.map .int)=_
  rw[Ho]
 have U:(gc g).length<=g.length:=len_sub _ _ (EV g) λx A=>ddp_mem.mp A
 show(match T.sortArg ([(⟨s,iL g⟩:PV)].map (·.d))with|some y=>if y.length<4000/\(gc y).length<64 then Out.ok (⟨.lst .leaf,.list ((PySem.W.sortI (gc y)).map .int)⟩:PV) C else .no|none=>.no)=_
 rw[e];dsimp only;rw[if_pos ⟨by omega,by omega⟩]
theorem yq{c f:FB}(h:c C=.ok false C):bK c f C=.ok false C:=by unfold bK;rw[h];rfl
theorem qU{L:List Nat}:bw true (.int x) (ay L)=some (.bool (!inL L x)):=by
 rw[fX];exact De
section
variable{w:Wd}{L:List Nat}{M:List Str}
noncomputable abbrev GH(w:Wd)(L:List Nat)(M:List Str)(r:FRow)(Y C S:Option PV):Ev:=[JT w.enc,JT (ay L),JT (bx M),JT r.enc,Y,JT (iL r.g),JT (mD r.m),C,S,none,none]
noncomputable def cR(w:Wd)(L:List Nat)(G:List Nat)(m:Option Str)(r:Nat):Bool:=match m with
 |none=>((w.stp r).filter λt=>L.contains t).isEmpty
 |some c=>!(w.mks r).contains c&&((w.stp r).filter λt=>L.contains t).all λt=>G.contains t
noncomputable abbrev uQ:FS:=(ax (aB false 7 (aw .leaf 9 (aF (aq (aq (aa 0) (eK (.int 2))) (aa 4))) (aG aj (az (bw false) (aa 9) (aa 1))) (aa 9)))
  (ax (bA (bK (aG aj (az (bq false) (aa 6) (eK .none))) (aG aj (az dS (bc aI (ae (aa 7) ah)) (eK (.int 0))))) (aN (eK (.bool false))) aD)
  (ax (aB false 8 (aw .leaf 10 (aF (aa 7)) (aG aj (az (bw true) (aa 10) (aa 5))) (aa 10)))
  (bA (bK (aG aj (az (bq true) (aa 6) (eK .none))) (fm (aG aj (az (bw false) (aa 6) (aq (aq (aa 0) (eK (.int 1))) (aa 4)))) (aG aj (az cO (aa 8) (aH .leaf ah))))) (aN (eK (.bool false))) aD))))
theorem CS{n:Nat}:dS (.int (n:Int)) (.int 0)=some (.bool (decide (0<n))):=by
 show some (PyData.bool (decide ((0:Int)<(n:Int))))=_
 congr 2
 exact decide_eq_decide.mpr (by omega)
theorem FW{a:List Nat}:cO (ay a) (.list [])=some (.bool (!a.isEmpty)):=fI pP
theorem BF(ok:w.Ok){r:FRow}(m:r.Ok){G:List Nat}(l:iL r.g=ay G){x:Nat}(E:x<w.n)(p S:Option PV):(cR w L G r.m x=true->∃j h,uQ (GH w L M r (JT (rm x)) p S)=.nx (GH w L M r (JT (rm x)) j h))/\(cR w L G r.m x=false->uQ (GH w L M r (JT (rm x)) p S)=.rt ⟨.leaf,.bool false⟩):=by
 have N:=oU ok x
 have o:aw .leaf 9 (aF (aq (aq (aa 0) (eK (.int 2))) (aa 4))) (aG aj (az (bw false) (aa 9) (aa 1))) (aa 9) (GH w L M r (JT (rm x)) p S)=.ok ⟨.lst .leaf,ay ((w.stp x).filter λt=>L.contains t)⟩ (GH w L M r (JT (rm x)) p S):=
  i7 rm (w.stp x) (λt=>L.contains t) (λt=>⟨.leaf,rm t⟩) (st:=true) (bg (s:=.leaf) (CC ok rfl (au rfl) E) rfl) (by simp) rfl ok.z.len (λt u=>bQ (s:=.leaf) (aC (au rfl) (au rfl) yD)) λt u _=>⟨au rfl,rfl⟩
 have I:((w.stp x).filter λt=>L.contains t).length<=30:=Nat.le_trans (length_filter_le _ _) N
 unfold cR;generalize k:((w.stp x).filter λt=>L.contains t)=A at o I
 have O:aB false 7 _ (GH w L M r (JT (rm x)) p S)=.nx (GH w L M r (JT (rm x)) (JT (ay A)) S):=dh o rfl (by simp)
 have n:aw .leaf 10 (aF (aa 7)) (aG aj (az (bw true) (aa 10) (aa 5))) (aa 10) (GH w L M r (JT (rm x)) (JT (ay A)) S)=.ok ⟨.lst .leaf,ay (A.filter λt=>!G.contains t)⟩ (GH w L M r (JT (rm x)) (JT (ay A)) S):=
  i7 rm A (λt=>!G.contains t) (λt=>⟨.leaf,rm t⟩) (st:=true) (bg (s:=.leaf) (au rfl) rfl) (by simp) rfl (by omega) (λt u=>bQ (s:=.leaf) (aC (au rfl) (au (d:=ay G) (by rw[<-l];rfl)) Hk)) λt u _=>⟨au rfl,rfl⟩
 have f:aB false 8 _ (GH w L M r (JT (rm x)) (JT (ay A)) S)=.nx (GH w L M r (JT (rm x)) (JT (ay A)) (JT (ay (A.filter λt=>!G.contains t)))):=dh n rfl (by simp)
 have y:∀b,(bq false (mD r.m) .none=some (.bool b))->bK (aG aj (az (bq false) (aa 6) (eK .none))) (aG aj (az dS (bc aI (ae (aa 7) ah)) (eK (.int 0)))) (GH w L M r (JT (rm x)) (JT (ay A)) S)=.ok (b&&decide (0<A.length)) (GH w L M r (JT (rm x)) (JT (ay A)) S):=λb Z=>
  bZ (bQ (s:=.leaf) (aC (au rfl) aS Z)) (bQ (s:=.leaf) (aC (bt (g:=aI) (d:=.int (A.length:Int)) (aA (au rfl) ao) (by simp)) aS CS))
 cases C:r.m with
 |none=>
  have t:=y true (by rw[C];rfl)
  have v:bK (aG aj (az (bq true) (aa 6) (eK .none))) (fm (aG aj (az (bw false) (aa 6) (aq (aq (aa 0) (eK (.int 1))) (aa 4)))) (aG aj (az cO (aa 8) (aH .leaf ah)))) (GH w L M r (JT (rm x)) (JT (ay A)) (JT (ay (A.filter λt=>!G.contains t))))=.ok false (GH w L M r (JT (rm x)) (JT (ay A)) (JT (ay (A.filter λt=>!G.contains t)))):=
   yq (bQ (s:=.leaf) (aC (au (d:=mD r.m) rfl) aS (by rw[C];rfl)))
  refine⟨λe=>⟨_,_,af O (af (aP t (λz=>?_) λ_=>rfl) (af f (aP v nofun λ_=>rfl)))⟩,λe=>af O (fR (aP t (λ_=>aL aS rfl) λz=>?_))⟩
  .have e:A.isEmpty=true:=e
   rw[List.isEmpty_iff.mp e]at z;simp at z
  .have e:A.isEmpty=false:=e
   cases A with
   |nil=>cases e
   |cons a r=>simp at z
 |some c=>
  have q:=m.str c C
  have t:=y false (by rw[C];rfl)
  have v:=bZ (bQ (s:=.leaf) (aC (au (i:=6) (d:=mD r.m) (Γ:=GH w L M r (JT (rm x)) (JT (ay A)) (JT (ay (A.filter λt=>!G.contains t)))) rfl) (aS (d:=.none)) (show bq true (mD r.m) .none=some (.bool true) by rw[C];rfl)))
   (fh (bQ (s:=.leaf) (aC (au (i:=6) (d:=mD r.m) rfl) (C9 ok (i:=0) rfl (au (i:=4) rfl) E) (pG C q (zE ok x)))) (bQ (s:=.leaf) (aC (au (i:=8) rfl) (ie (s:=.leaf) ao rfl rfl rfl) FW)))
  have H:(!(w.mks x).contains c&&A.all λt=>G.contains t)=!(true&&((w.mks x).contains c||!(A.filter λt=>!G.contains t).isEmpty)):=by
   cases(w.mks x).contains c with
   |true=>rfl
   |false=>
    show A.all _=!(!(A.filter λt=>!G.contains t).isEmpty)
    rw[Bool.not_not,Bool.eq_iff_iff,all_eq_true,isEmpty_iff,filter_eq_nil_iff];simp
  refine⟨λe=>⟨_,_,af O (af (aP t nofun λ_=>rfl) (af f (aP v (λz=>?_) λ_=>rfl)))⟩,λe=>af O (af (aP t nofun λ_=>rfl) (af f (aP v (λ_=>aL aS rfl) λz=>?_)))⟩
  .have e:(!(w.mks x).contains c&&A.all λt=>G.contains t)=true:=e
   rw[H,z]at e
   cases e
  .have e:(!(w.mks x).contains c&&A.all λt=>G.contains t)=false:=e
   rw[H,z]at e
   cases e
theorem nc{G:List Nat}:G.all (cR w L G none)=(eL w L G).isEmpty:=by
 rw[Bool.eq_iff_iff,all_eq_true,isEmpty_iff,List.flatMap_eq_nil_iff];simp only[cR,isEmpty_iff]
theorem m9{G:List Nat}{c:Str}:G.all (cR w L G (some c))=((!G.any λr=>(w.mks r).contains c)&&(eL w L G).all λt=>G.contains t):=by
 rw[Bool.eq_iff_iff,all_eq_true];simp only[cR,Bool.and_eq_true,Bool.not_eq_true',all_eq_true,any_eq_false,List.mem_flatMap]
 exact⟨λh=>⟨λr m=>by simpa using(h r m).1,λt ⟨r,m,u⟩=>(h r m).2 t u⟩,λh r m=>⟨by simpa using h.1 r m,λt u=>h.2 t ⟨r,m,u⟩⟩⟩
theorem vd(ok:w.Ok)(P:Std w.n L)(H:∀c∈M,c∈bb){r:FRow}(m:r.Ok):bT [w.enc,ay L,bx M,r.enc]=.ok ⟨.leaf,.bool (du w L M r)⟩:=by
 have I:=ok.h24
 have z:=m.len
 have b:∀x∈M,PyData.strOk x=true:=λx A=>(vL (H x A)).1
 have y:cI [5,6] (aa 3) (bp 11 [w.enc,ay L,bx M,r.enc])=.nx (GH w L M r none none none):=F9 (au (d:=r.enc) rfl) rfl rfl rfl
 have o:aw .leaf 4 (aF (aa 5)) (aG aj (az (bw true) (aa 4) (aa 1))) (aa 4) (GH w L M r none none none)=.ok ⟨.lst .leaf,iL (r.g.filter λx=>!inL L x)⟩ (GH w L M r none none none):=
  i7 PyData.int r.g (λx=>!inL L x) (λx=>⟨.leaf,.int x⟩) (st:=true) (bg (s:=.leaf) (au rfl) rfl) (by simp) rfl (by omega) (λt u=>bQ (s:=.leaf) (aC (au rfl) (au rfl) qU)) λt u _=>⟨au rfl,rfl⟩
 have t:=fh (bQ (s:=.leaf) (aC (bt (g:=aI) (d:=.int (r.g.length:Int)) (aA (au (i:=5) (d:=iL r.g) (Γ:=GH w L M r none none none) rfl) ao) (by simp)) (aS (d:=.int 0)) KC.eq_int)) (fh (bQ (s:=.leaf) (aC (au (i:=5) rfl) (wg (aA (au (i:=5) (d:=iL r.g) rfl) ao) z) (fI Gx))) (bQ (s:=.leaf) (aC (bt (g:=aI) (d:=.int ((r.g.filter λx=>!inL L x).length:Int)) (aA o ao) (by simp)) (aS (d:=.int 0)) CS)))
 rw[Ac]at t;have e:((((r.g.length:Int)==0)||(!fA r.g||decide (0<(r.g.filter λx=>!inL L x).length))):Bool)=!pU L r.g:=by
  have O:((r.g.length:Int)==0)=r.g.isEmpty:=by cases r.g<;>simp;omega
  have R:decide (0<(r.g.filter λx=>!inL L x).length)=!r.g.all (inL L):=by
   rw[Bool.eq_iff_iff,decide_eq_true_eq,List.length_pos_iff];simp
  rw[O,R];unfold pU
  cases r.g.isEmpty<;>cases fA r.g<;>cases r.g.all (inL L)<;>rfl
 rw[e]at t
 cases f:pU L r.g with
 |false=>
  rw[f]at t;have:du w L M r=false:=by unfold du;rw[f];rfl
  rw[this];exact aQ (af y (fR (aP t (λ_=>aL aS rfl) nofun)))
 |true=>
  rw[f]at t;obtain⟨G,O,R,Y,K,nd,Z⟩:=vk P f;have v:∀x∈G,x<w.n:=λx A=>P.lt x (Y x A)
  have l:iL r.g=ay G:=by rw[fX,<-O]
  have:du w L M r=pT w L M G r.m:=by unfold du;rw[f,R];rfl
  rw[this];have N:bA _ (aN (eK (.bool false))) aD (GH w L M r none none none)=.nx (GH w L M r none none none):=aP t nofun λ_=>rfl
  obtain⟨f1,p⟩:=C1 rm (i:=4) (body:=uQ) (Inv:=λΓ=>∃k j h,Γ=GH w L M r k j h) (c:=cR w L G r.m) (q:=⟨.leaf,.bool false⟩) G (GH w L M r none none none) (λx A Γ ⟨k,j,h,hΓ⟩=>by
   subst hΓ;obtain⟨J,S⟩:=BF (L:=L) (M:=M) ok m l (v x A) j h
   exact⟨by simp,λe=>let⟨E,n,e⟩:=J e;⟨_,e,_,E,n,rfl⟩,λe=>S e⟩) ⟨none,none,none,rfl⟩
  have a:aF (aa 5) (GH w L M r none none none)=.ok ⟨G.map rm,true⟩ (GH w L M r none none none):=bg (s:=.leaf) (au (d:=ay G) (by rw[<-l];rfl)) rfl
  cases U:G.all (cR w L G r.m)with
  |false=>
   have:pT w L M G r.m=false:=by
    cases C:r.m with
    |none=>rw[C,nc]at U;exact U
    |some c=>rw[C,m9]at U;simp only[pT];rw[Bool.and_assoc,U,Bool.and_false]
   rw[this];exact aQ (af y (af N (fR (bE a (p U)))))
  |true=>
   obtain⟨X,e3,k,j,h,rfl⟩:=f1 U;refine aQ (af y (af N (af (bE a e3) (aL (Γ1:=GH w L M r k j h) ?_ rfl))))
   cases C:r.m with
   |none=>
    rw[C,nc]at U;have:pT w L M G none=true:=U
    rw[this];unfold CL aW;rw[aC (d:=.bool true) (au (i:=6) (d:=mD r.m) rfl) (aS (d:=.none)) (by rw[C];rfl)]
    rfl
   |some c=>
    rw[C,m9]at U;have:pT w L M G (some c)=(false||M.contains c):=by simp only[pT];rw[Bool.and_assoc,U,Bool.and_true];rfl
    rw[this];exact v_or (s:=.leaf) (aC (au (i:=6) (d:=mD r.m) rfl) (aS (d:=.none)) (by rw[C];rfl)) (aC (au (i:=6) (d:=mD r.m) rfl) (au (i:=2) rfl) (pG C (m.str c C) b))
end
noncomputable def mF{m d:Type}(step:d->m->Option d):d->List m->Option d
 |b,[]=>some b
 |b,a::r=>match step b a with
  |some v=>mF step v r
  |none=>none
theorem GZ{m d:Type}(j:m->D)(step:d->m->Option d){Inv:d->Prop}{i:Nat}{body:FS}{G:d->Option PV->Ev}{q:PV}(l:∀b x,i<(G b x).length)(P:∀b x y,(G b x).set i y=G b y):∀(Y:List m)(b:d)(x:Option PV),(∀a∈Y,∀b,Inv b->(∀v,step b a=some v->Inv v/\body (G b (JT (j a)))=.nx (G v (JT (j a))))/\(step b a=none->body (G b (JT (j a)))=.rt q))->Inv b ->
   (∀v,mF step b Y=some v->Inv v/\∃y,bf i body (Y.map j) (G b x)=.nx (G v y))/\(mF step b Y=none->bf i body (Y.map j) (G b x)=.rt q)
 |[],b,x,_,hI=>⟨λv e=>by cases e;exact⟨hI,x,rfl⟩,λe=>nomatch e⟩
 |a::r,b,x,h,hI=>by
  obtain⟨J,S⟩:=h a mem_cons_self b hI;have s:∀o,body (G b (some ⟨.leaf,j a⟩))=o->bf i body ((a::r).map j) (G b x)=(match o with|.nx I=>bf i body (r.map j) I|.ct I=>bf i body (r.map j) I|.bk I=>.nx I|.rt p=>.rt p|.er a b=>.er a b|.no=>.no):=λo g=>by
   (rw[map_cons,bf,if_pos (l b x),P,g])<;>(cases o<;>rfl)
  cases e:step b a with
  |none=>
   refine⟨λv z=>?_,λ_=>s _ (S e)⟩
   rw[mF,e]at z
   cases z
  |some C=>
   obtain⟨n,R⟩:=J C e;have E:=GZ j step l P r C (JT (j a)) (λc f=>h c (JL _ f)) n
   rw[s _ R];have:mF step b (a::r)=mF step C r:=by rw[mF,e]
   rw[this];exact E
section
variable{w:Wd}{R:List Nat}{M:List Str}
noncomputable abbrev mK(L:List Nat)(g:List Int):List Nat:=L.filter λx=>!g.contains (x:Int)
noncomputable def cn(w:Wd)(M:List Str)(L:List Nat)(r:FRow):Option (List Nat):=if du w L M r then some (mK L r.g)else none
noncomputable abbrev sr(w:Wd)(M:List Str)(L:List Nat)(v:List FRow):Option (List Nat):=mF (cn w M) L v
noncomputable abbrev aM(v:List FRow):D:=.list (v.map FRow.enc)
theorem pJ{M:List Str}:∀(v:List FRow){L K:List Nat},Std w.n L->sr w M L v=some K->Std w.n K/\∀r∈K,r∈L
 |[],L,K,h,e=>by cases e;exact⟨h,λ_ z=>z⟩
 |r::v,L,K,h,e=>by
  have e:mF (cn w M) L (r::v)=some K:=e
  rw[mF]at e
  cases Z:du w L M r with
  |true=>
   have:cn w M L r=some (mK L r.g):=by unfold cn;rw[Z];rfl
   rw[this]at e;obtain⟨J,S⟩:=pJ v (h.filter _) e;exact⟨J,λx A=>(List.mem_filter.mp (S x A)).1⟩
  |false=>
   have:cn w M L r=none:=by unfold cn;rw[Z];rfl
   rw[this]at e
   cases e
theorem u5{i j k:Nat}{L:List Nat}{r:FRow}(l:C[i]?=some (JT (ay L)))(A:C[j]?=some (JT r.enc))(O:k<C.length)(a:j≠k)(N:L.length<=1000):aw .leaf k (aF (aa i)) (aG aj (az (bw true) (aa k) (aq (aa j) (eK (.int 0))))) (aa k) C=.ok ⟨.lst .leaf,ay (mK L r.g)⟩ C:=by
 refine i7 rm L (λx=>!r.g.contains (x:Int)) (λt=>⟨.leaf,rm t⟩) (st:=true) (bg (s:=.leaf) (au l) rfl) O rfl (by omega) (λt u=>?_) λt u _=>⟨au (getElem?_set_self O),rfl⟩
 exact bQ (s:=.leaf) (aC (au (getElem?_set_self O)) (jC (j:=0) (ds:=[iL r.g,mD r.m]) (au (d:=r.enc) (by rw[getElem?_set_ne (Ne.symm a)];exact A)) aS rfl rfl rfl) De)
noncomputable def Jc:Option (List Nat)->D
 |none=>.none
 |some L=>ay L
theorem yd(ok:w.Ok)(a:Std w.n R)(H:∀c∈M,c∈bb){v:List FRow}(m:∀r∈v,r.Ok):eC [w.enc,ay R,bx M,aM v]=.ok ⟨.leaf,Jc (sr w M R v)⟩:=by
 have I:=ok.h24
 obtain⟨S,p⟩:=GZ FRow.enc (cn w M) (Inv:=λL=>Std w.n L) (i:=5) (q:=⟨.leaf,.none⟩)
  (body:=(ax (bA (cQ (aG bI (ar 4 cj (ae (aa 0) (ae (aa 4) (ae (aa 2) (ae (aa 5) ah))))))) (aN (eK .none)) aD) (aB false 4 (aw .leaf 6 (aF (aa 4)) (aG aj (az (bw true) (aa 6) (aq (aa 5) (eK (.int 0))))) (aa 6)))))
  (G:=λL x=>[JT w.enc,JT (ay R),JT (bx M),JT (aM v),JT (ay L),x,none]) (λ_ _=>by simp) (λ_ _ _=>rfl) v R none (λr o L P=>by
   have b:=P.len
   have t:=eV (eT (s:=.leaf) (cH (n:=4) (Γ:=[JT w.enc,JT (ay R),JT (bx M),JT (aM v),JT (ay L),JT r.enc,none]) (aA (au (i:=0) rfl) (aA (au (i:=4) rfl) (aA (au (i:=2) rfl) (aA (au (i:=5) rfl) ao)))) (ya ok P H (m r o)) rfl rfl))
   unfold cn
   cases Z:du w L M r with
   |true=>
    rw[Z]at t;refine⟨λf e=>?_,nofun⟩
    cases e;exact⟨P.filter _,af (aP t nofun λ_=>rfl) (dh (u5 rfl rfl (by simp) (by decide) (by omega)) rfl (by simp))⟩
   |false=>
    rw[Z]at t;exact⟨(λf e=>nomatch e),λ_=>fR (aP t (λ_=>aL aS rfl) nofun)⟩) a
 have d:aB false 4 (lh (aa 1)) (bp 7 [w.enc,ay R,bx M,aM v])=.nx [JT w.enc,JT (ay R),JT (bx M),JT (aM v),JT (ay R),none,none]:=dh (vQ (ds:=R.map rm) (au rfl) rfl) rfl (by simp[bp])
 have g:aF (aa 3) [JT w.enc,JT (ay R),JT (bx M),JT (aM v),JT (ay R),none,none]=.ok ⟨v.map FRow.enc,true⟩ [JT w.enc,JT (ay R),JT (bx M),JT (aM v),JT (ay R),none,none]:=bg (s:=.leaf) (au rfl) rfl
 cases e:sr w M R v with
 |none=>exact aQ (af d (fR (bE g (p e))))
 |some K=>
  obtain⟨_,y,h⟩:=S K e;exact aQ (af d (af (bE g h) (aL (au (i:=4) rfl) rfl)))
noncomputable def e8:Option Int->Option Int->Bool
 |some a,some b=>decide (a<b)
 |_,_=>false
theorem ve{a b:Option Int}:e7 [zD a,zD b]=.ok ⟨.leaf,.bool (e8 a b)⟩:=by
 refine aQ ?_
 cases a with
 |none=>simp[dJ,bp,zD,e8,vC]
 |some a=>
  cases b with
  |none=>simp[dJ,bp,zD,e8,vC]
  |some b=>simp[dJ,bp,zD,e8,vC,KC.lt_int]
theorem rH(ok:w.Ok){E:List (Option Int)}(N:E.length=w.n){r:Nat}(m:r<w.n):cY [w.enc,bW E,rm r]=.ok ⟨.lst .leaf,ay ((w.stp r).filter λt=>e8 (zA E t) (zA E r))⟩:=by
 refine aQ (aL (i7 rm (w.stp r) (λt=>e8 (zA E t) (zA E r)) (λt=>⟨.leaf,rm t⟩) (st:=true) (bg (s:=.leaf) (CC ok rfl (au rfl) m) rfl) (by simp[bp]) rfl ok.z.len (λt u=>?_) λt u _=>⟨au rfl,rfl⟩) rfl)
 exact eT (s:=.leaf) (cH (aA (nK (au rfl) (au (d:=rm t) rfl) (by rw[N];exact ok.stp_lt u)) (aA (nK (au rfl) (au (d:=rm r) rfl) (by omega)) ao)) ve rfl (by cases zA E t<;>cases zA E r<;>rfl))
noncomputable def gz(w:Wd)(K:List Nat)(c:Str)(E:List (Option Int))(r:Nat):Bool:=match zA E r with
 |none=>!K.contains r
 |some z=>K.contains r&&(if(w.mks r).contains c then decide (z=0)else decide (0<z)&&(w.stp r).any λt=>e8 (zA E t) (some z))
noncomputable def nu(w:Wd)(K:List Nat)(c:Str)(E:List (Option Int)):Bool:=decide (E.length=w.n)&&(List.range w.n).all (gz w K c E)
theorem iO{m:Type}{l:List m}{p:m->Bool}:decide (0<(l.filter p).length)=l.any p:=by
 rw[Bool.eq_iff_iff,decide_eq_true_eq,List.length_pos_iff,any_eq_true];constructor
 .intro h
  obtain⟨x,A⟩:=exists_mem_of_ne_nil _ h;exact⟨x,List.mem_filter.mp A⟩
 .rintro⟨x,J,S⟩ e
  have:=List.mem_filter.mpr ⟨J,S⟩
  rw[e]at this
  cases this
theorem rF(ok:w.Ok){K:List Nat}{c:Str}(f:PyData.strOk c=true){E:List (Option Int)}(N:E.length=w.n){r:Nat}(m:r<w.n):cE [w.enc,ay K,.str c,bW E,rm r]=.ok ⟨.leaf,.bool (gz w K c E r)⟩:=by
 have U:aB false 5 (aq (aa 3) (aa 4)) (bp 6 [w.enc,ay K,.str c,bW E,rm r])=.nx [JT w.enc,JT (ay K),JT (.str c),JT (bW E),JT (rm r),JT (zD (zA E r))]:=dh (nK (au rfl) (au (d:=rm r) rfl) (by omega)) (by cases zA E r<;>rfl) (by simp[bp])
 have h:bq false (zD (zA E r)) .none=some (.bool (zA E r).isNone):=by cases zA E r<;>rfl
 have a:=aC (g:=bw true) (au (i:=4) (d:=rm r) (Γ:=[JT w.enc,JT (ay K),JT (.str c),JT (bW E),JT (rm r),JT (zD (zA E r))]) rfl) (au (i:=1) (d:=ay K) rfl) Hk
 have b:=aC (g:=bq false) (au (i:=5) (d:=zD (zA E r)) (Γ:=[JT w.enc,JT (ay K),JT (.str c),JT (bW E),JT (rm r),JT (zD (zA E r))]) rfl) (aS (d:=.none)) h
 have L:=fh (bQ (s:=.leaf) a) (bQ (s:=.leaf) b)
 unfold gz
 cases P:zA E r with
 |none=>
  rw[P]at L b a U
  have e:(!K.contains r||(none:Option Int).isNone)=true:=by simp
  rw[e]at L;have:=v_and (s:=.leaf) a b
  rw[show(!K.contains r&&(none:Option Int).isNone)=!K.contains r by simp]at this
  exact aQ (af U (fR (aP L (λ_=>aL this rfl) nofun)))
 |some z=>
  rw[P]at L b a U
  cases O:K.contains r with
  |false=>
   rw[O]at L a
   have:=v_and (s:=.leaf) a b
   exact aQ (af U (fR (aP L (λ_=>aL this rfl) nofun)))
  |true=>
   rw[O]at L;have v:=bQ (s:=.leaf) (aC (g:=bw false) (au (i:=2) (d:=.str c) (Γ:=[JT w.enc,JT (ay K),JT (.str c),JT (bW E),JT (rm r),JT (zD (some z))]) rfl) (C9 ok (i:=0) rfl (au (i:=4) rfl) m) (Ct f (zE ok r)))
   refine aQ (af U (af (aP L nofun λ_=>rfl) ?_))
   cases C:(w.mks r).contains c with
   |true=>
    rw[C]at v;refine fR (aP v (λ_=>aL (p:=⟨.leaf,.bool _⟩) (aC (au (i:=5) rfl) aS ((Jn (some z)).trans ?_)) rfl) nofun)
    simp
   |false=>
    rw[C]at v;have j:=rH ok N m
    have:=v_and (s:=.leaf) (aC (g:=dS) (au (i:=5) (d:=.int z) (Γ:=[JT w.enc,JT (ay K),JT (.str c),JT (bW E),JT (rm r),JT (zD (some z))]) rfl) (aS (d:=.int 0)) (show _=some (PyData.bool (decide (0<z)))from rfl)) (aC (g:=dS) (bt (g:=aI) (d:=.int (((w.stp r).filter λt=>e8 (zA E t) (zA E r)).length:Int)) (aA (cH (n:=3) (aA (au (i:=0) rfl) (aA (au (i:=3) rfl) (aA (au (i:=4) rfl) ao))) j rfl rfl) ao) (by simp)) (aS (d:=.int 0)) CS)
    rw[iO,P]at this;exact af (aP v nofun λ_=>rfl) (aL this rfl)
theorem rE(ok:w.Ok){K:List Nat}{c:Str}(f:PyData.strOk c=true){E:List (Option Int)}(Z:E.length<=1000):bz [w.enc,ay K,.str c,bW E]=.ok ⟨.leaf,.bool (nu w K c E)⟩:=by
 have I:=ok.h24
 have O:=ok.g.lo
 have o:∀x,bc aI (ae (aa 3) ah) [JT w.enc,JT (ay K),JT (.str c),JT (bW E),x]=.ok ⟨.leaf,.int (E.length:Int)⟩ [JT w.enc,JT (ay K),JT (.str c),JT (bW E),x]:=λx=>bt (aA (au rfl) ao) (by simp)
 have a:bc aI (ae (aq (aa 0) (eK (.int 0))) ah) (bp 5 [w.enc,ay K,.str c,bW E])=.ok ⟨.leaf,.int (w.n:Int)⟩ (bp 5 [w.enc,ay K,.str c,bW E]):=bt (aA (jC (j:=0) (au rfl) aS rfl rfl rfl) ao) (by simp[O])
 have t:=bQ (s:=.leaf) (aC (o none) a (fI KC.eq_int))
 unfold nu;by_cases e:E.length=w.n
 .rw[e,beq_self_eq_true]at t
  rw[decide_eq_true e,Bool.true_and];refine aQ (af (aP t nofun λ_=>rfl) (aL (bt (aA (nr rm (List.range w.n) (λr=>⟨.leaf,.bool (gz w K c E r)⟩) (st:=true) (kh (s:=.leaf) (n:=w.n) (by omega) (by rw[<-e];exact aA (o none) ao)) (by simp[bp]) rfl (by simp;omega) λr m=>⟨cH (aA (au rfl) (aA (au rfl) (aA (au rfl) (aA (au rfl) (aA (au rfl) ao))))) (rF ok f e (List.mem_range.mp m)) rfl rfl,rfl⟩) ao) sF) rfl))
 .have:((E.length:Int)==(w.n:Int))=false:=by rw[beq_eq_false_iff_ne];omega
  rw[this]at t;rw[decide_eq_false e,Bool.false_and];exact aQ (fR (aP t (λ_=>aL aS rfl) nofun))
end
theorem iU{m:Type}(g R:m->D)(f:m->PV){i j:Nat}{fe:F1}{s:Sh}{Γ:Ev}(E:∀x y,(((Γ.set i x).set j y).set i none).set j none=Γ):∀(Y:List m)(acc:List D),(∀a∈Y,fe ((Γ.set i (JT (g a))).set j (JT (R a)))=.ok (f a) ((Γ.set i (JT (g a))).set j (JT (R a)))/\coer s (f a)=true)->acc.length+Y.length<=10000 ->
  yM i j aR fe s (Y.map λa=>(g a,R a)) Γ acc=.ok (acc++Y.map λa=>(f a).d) Γ
 |[],acc,_,_=>by rw[List.map_nil,List.map_nil,append_nil];rfl
 |a::r,acc,h,hn=>by
  obtain⟨J,S⟩:=h a mem_cons_self;have c:(10000:Nat)<=sizeLine:=by decide
  rw[length_cons]at hn;have N:acc.length<sizeLine:=by omega
  rw[map_cons,yM,B8];dsimp only;rw[J];dsimp only;rw[S,decide_eq_true N,Bool.and_self,if_pos rfl,E,iU g R f E r (acc++[(f a).d]) (λb Z=>h b (JL _ Z)) (by rw[length_append,length_singleton];omega),append_assoc]
  rfl
theorem nE{m:Type}{l:List m}{f:m->D}:aI [.list (l.map f)]=some (.int (l.length:Int)):=by
 show some (PyData.int ((l.map f).length:Int))=_
 rw[length_map]
structure Pap where
 rows:List FRow
 kept:List Int
 ranks:List (List (Option Int))
noncomputable def Pap.enc(p:Pap):D:=.tuple [aM p.rows,iL p.kept,.list (p.ranks.map bW)]
structure Pap.Ok(p:Pap):Prop where
 rows:∀r∈p.rows,r.Ok
 ranks:∀k∈p.ranks,k.length<=1000
section
variable{w:Wd}{R:List Nat}{M:List Str}
noncomputable def eE(w:Wd)(R:List Nat)(M:List Str)(p:Pap):Bool:=match sr w M R p.rows with
 |none=>false
 |some K=>decide (p.kept=bL K)&&decide (p.ranks.length=M.length)&&(K.all λr=>(w.stp r).any λt=>K.contains t)&&(M.zip p.ranks).all λx=>nu w K x.1 x.2
theorem zl(ok:w.Ok)(a:Std w.n R)(m:br [bx M]=.ok ⟨.leaf,.bool true⟩):bS [w.enc,ay R,bx M]=.ok ⟨.leaf,.none⟩:=by
 have X:=ok.check
 have Z:=g7 ok a
 refine uv (Γ:=bp 3 [w.enc,ay R,bx M]) ?_
 simp[fN,bp,X,Z,m]
theorem uA{L:List (List Nat)}:kG (L.map ay)=some (L.map λl=>!l.isEmpty):=by
 induction L with
 |nil=>rfl
 |cons a r E=>
  rw[map_cons,map_cons];show(kG (r.map ay)).map (λbs=>(!(a.map rm).isEmpty)::bs)=_
  rw[E]
  cases a<;>rfl
noncomputable abbrev GP(w:Wd)(R:List Nat)(M:List Str)(p:Pap)(Y:Option PV):Ev:=[JT w.enc,JT (ay R),JT (bx M),JT p.enc,Y,none,none,none]
theorem rG(ok:w.Ok)(a:Std w.n R)(H:∀c∈M,c∈bb)(m:br [bx M]=.ok ⟨.leaf,.bool true⟩)(f:M.length<=100){p:Pap}(y:p.Ok):bG [w.enc,ay R,bx M,p.enc]=.ok ⟨.leaf,.bool (eE w R M p)⟩:=by
 have I:=ok.h24
 have E:dQ (ar 3 bS (ae (aa 0) (ae (aa 1) (ae (aa 2) ah)))) (bp 8 [w.enc,ay R,bx M,p.enc])=.nx (GP w R M p none):=oN (cH (aA (au rfl) (aA (au rfl) (aA (au rfl) ao))) (zl ok a m) rfl rfl)
 have N:aB false 4 (ar 4 eC (ae (aa 0) (ae (aa 1) (ae (aa 2) (ae (aq (aa 3) (eK (.int 0))) ah))))) (GP w R M p none)=.nx (GP w R M p (JT (Jc (sr w M R p.rows)))):=
  dh (cH (aA (au rfl) (aA (au rfl) (aA (au rfl) (aA (jC (j:=0) (ds:=[aM p.rows,iL p.kept,.list (p.ranks.map bW)]) (au (d:=p.enc) rfl) aS rfl rfl rfl) ao)))) (yd ok a H y.rows) rfl rfl) rfl (by simp)
 unfold eE
 cases e:sr w M R p.rows with
 |none=>
  rw[e]at N;refine aQ (af E (af N (fR (aP (t:=true) (Ei (bQ (s:=.leaf) (aC (au (d:=.none) rfl) aS rfl))) (λ_=>aL aS rfl) nofun))))
 |some K=>
  rw[e]at N;obtain⟨Y,_⟩:=pJ p.rows a e;have q:=Y.len
  have k:aq (aa 3) (eK (.int 1)) (GP w R M p (JT (ay K)))=.ok ⟨.leaf,iL p.kept⟩ (GP w R M p (JT (ay K))):=jC (j:=1) (ds:=[aM p.rows,iL p.kept,.list (p.ranks.map bW)]) (au (d:=p.enc) rfl) aS rfl rfl rfl
  have n:aq (aa 3) (eK (.int 2)) (GP w R M p (JT (ay K)))=.ok ⟨.leaf,.list (p.ranks.map bW)⟩ (GP w R M p (JT (ay K))):=jC (j:=2) (ds:=[aM p.rows,iL p.kept,.list (p.ranks.map bW)]) (au (d:=p.enc) rfl) aS rfl rfl rfl
  have t:=fh (bQ (s:=.leaf) (aC (g:=bq false) (d:=.bool false) (au (i:=4) (d:=ay K) (Γ:=GP w R M p (JT (ay K))) rfl) (aS (d:=.none)) rfl)) (fh (bQ (s:=.leaf) (aC (g:=cO) k (au (i:=4) (d:=ay K) rfl) (by rw[fX];exact fI Gx))) (bQ (s:=.leaf) (aC (g:=cO) (bt (g:=aI) (d:=.int (p.ranks.length:Int)) (aA n ao) nE) (bt (g:=aI) (d:=.int (M.length:Int)) (aA (au (i:=2) (d:=bx M) rfl) ao) nE) (fI KC.eq_int))))
  have J:(false||(!decide (p.kept=bL K)||!((p.ranks.length:Int)==(M.length:Int))))=!(decide (p.kept=bL K)&&decide (p.ranks.length=M.length)):=by
   have:((p.ranks.length:Int)==(M.length:Int))=decide (p.ranks.length=M.length):=by
    rw[Bool.eq_iff_iff,beq_iff_eq,decide_eq_true_eq];omega
   rw[this]
   cases decide (p.kept=bL K)<;>cases decide (p.ranks.length=M.length)<;>rfl
  rw[J]at t;show _=Res.ok ⟨.leaf,.bool (decide (p.kept=bL K)&&decide (p.ranks.length=M.length)&&(K.all λr=>(w.stp r).any λt=>K.contains t)&&(M.zip p.ranks).all λx=>nu w K x.1 x.2)⟩
  cases Z:(decide (p.kept=bL K)&&decide (p.ranks.length=M.length))with
  |false=>
   rw[Z]at t;exact aQ (af E (af N (fR (aP t (λ_=>aL aS rfl) nofun))))
  |true=>
   rw[Z]at t;have C:p.ranks.length=M.length:=of_decide_eq_true (Bool.and_eq_true_iff.mp Z).2
   rw[Bool.true_and];have u:aw .leaf 5 (aF (aa 4)) aR (ar 3 bR (ae (aa 0) (ae (aa 4) (ae (aH .leaf (ae (aa 5) ah)) ah)))) (GP w R M p (JT (ay K)))=.ok ⟨.lst .leaf,.list ((K.map λr=>eL w K [r]).map ay)⟩ (GP w R M p (JT (ay K))):=by
    rw[map_map];exact nr rm K (λr=>⟨.lst .leaf,ay (eL w K [r])⟩) (st:=true) (bg (s:=.leaf) (au rfl) rfl) (by simp) rfl (by omega) λr m=>⟨cH (aA (au rfl) (aA (au rfl) (aA (ie (s:=.leaf) (aA (au (d:=rm r) rfl) ao) rfl rfl rfl) ao))) (j9 (G:=[r]) ok (λx A=>by rw[List.mem_singleton.mp A];exact Y.lt r m) (by simp)) rfl rfl,rfl⟩
   have v:=eV (eT (s:=.leaf) (bt (g:=j5) (d:=.bool (K.all λr=>(w.stp r).any λt=>K.contains t)) (aA u ao) (by
    show(kG _).map _=_
    rw[uA];show some (PyData.bool _)=_
    congr 2
    rw[map_map,List.all_map,Bool.eq_iff_iff,all_eq_true,all_eq_true];refine forall_congr' λr=>forall_congr' λ_=>?_
    show((!(eL w K [r]).isEmpty)=true)↔_
    simp[eL,any_eq_true,filter_eq_nil_iff])))
   cases U:(K.all λr=>(w.stp r).any λt=>K.contains t)with
   |false=>
    rw[U]at v;exact aQ (af E (af N (af (aP t nofun λ_=>rfl) (fR (aP v (λ_=>aL aS rfl) nofun)))))
   |true=>
    rw[U]at v;rw[Bool.true_and];have o:(M.map PyData.str).zip (p.ranks.map bW)=(M.zip p.ranks).map λx=>(PyData.str x.1,bW x.2):=by rw[List.zip_map];rfl
    have g:=iU (λx:Str×List (Option Int)=>PyData.str x.1) (λx=>bW x.2) (λx=>⟨.leaf,.bool (nu w K x.1 x.2)⟩) (i:=6) (j:=7) (fe:=ar 4 bz (ae (aa 0) (ae (aa 4) (ae (aa 6) (ae (aa 7) ah))))) (s:=.leaf) (Γ:=GP w R M p (JT (ay K))) (λ_ _=>rfl) (M.zip p.ranks) [] (λx A=>⟨cH (aA (au rfl) (aA (au rfl) (aA (au rfl) (aA (au rfl) ao)))) (rE ok (vL (H x.1 (of_mem_zip A).1)).1 (y.ranks x.2 (of_mem_zip A).2)) rfl rfl,rfl⟩) (by rw[List.length_zip];simp;omega)
    have z:zx .leaf 6 7 (ae (aa 2) (ae (aq (aa 3) (eK (.int 2))) ah)) aR (ar 4 bz (ae (aa 0) (ae (aa 4) (ae (aa 6) (ae (aa 7) ah))))) (GP w R M p (JT (ay K)))=.ok ⟨.lst .leaf,.list ((M.zip p.ranks).map λx=>.bool (nu w K x.1 x.2))⟩ (GP w R M p (JT (ay K))):=by
     unfold zx;rw[aA (au (i:=2) (d:=bx M) rfl) (aA n ao)];show sC .leaf 6 7 _ _ [⟨.leaf,.list (M.map PyData.str)⟩,⟨.leaf,.list (p.ranks.map bW)⟩] _=_
     unfold sC;have L:∀l:List D,cS ⟨.leaf,.list l⟩ l=true:=λl=>rfl
     have b:yN (GP w R M p (JT (ay K)))[6]?=true:=rfl
     have h:yN (GP w R M p (JT (ay K)))[7]?=true:=rfl
     simp only[L,b,h,length_map,C]
     rw[o,g];rfl
    exact aQ (af E (af N (af (aP t nofun λ_=>rfl) (af (aP v nofun λ_=>rfl) (aL (bt (aA z ao) sF) rfl)))))
end
section
variable{w:Wd}{R:List Nat}{M:List Str}
noncomputable def cN(K:List Nat)(E:List (Option Int))(r:Nat):Bool:=(zA E r).isNone==!K.contains r
noncomputable def cK(w:Wd)(K:List Nat)(c:Str)(E:List (Option Int))(r:Nat):Bool:=match zA E r with
 |none=>true
 |some z=>!decide (z<0)&&(decide (z=0)==(w.mks r).contains c)&&!(decide (0<z)&&(((w.stp r).filter λt=>K.contains t).filter λt=>e8 (zA E t) (some z)).isEmpty)
theorem wH{K:List Nat}(k:∀r∈K,r<w.n){c:Str}{E:List (Option Int)}(N:E.length=w.n)(q:∀r t,t∈w.stp r->t<w.n):((List.range w.n).all (cN K E)&&K.all (cK w K c E))=nu w K c E:=by
 unfold nu;rw[decide_eq_true N,Bool.true_and,Bool.eq_iff_iff,Bool.and_eq_true,all_eq_true,all_eq_true,all_eq_true];have f:(∀t,t<w.n->K.contains t=false->zA E t=none)->∀r z,((((w.stp r).filter λt=>K.contains t).filter λt=>e8 (zA E t) (some z)).isEmpty)=!((w.stp r).any λt=>e8 (zA E t) (some z)):=λh r z=>by
  rw[Bool.eq_iff_iff,isEmpty_iff,filter_eq_nil_iff,Bool.not_eq_true',any_eq_false];constructor
  .intro g t u e
   cases O:K.contains t with
   |true=>exact g t (List.mem_filter.mpr ⟨u,O⟩) e
   |false=>rw[h t (q r t u) O]at e;cases e
  .intro g t u
   exact g t (List.mem_filter.mp u).1
 constructor
 .rintro⟨J,S⟩ r m
  have Y:=List.mem_range.mp m
  have d:(zA E r).isNone=!K.contains r:=by simpa[cN]using J r m
  have j:=f λt u O=>by
   have:=J t (List.mem_range.mpr u)
   simp only[cN,O,Bool.not_false,beq_iff_eq,Option.isNone_iff_eq_none]at this
   exact this
  unfold gz
  cases P:zA E r with
  |none=>rw[P]at d;exact d.symm
  |some z=>
   rw[P]at d;have O:K.contains r=true:=by simpa using d
   have a:=S r (by simpa using O)
   unfold cK at a;rw[P]at a;dsimp only at a ⊢
   rw[j]at a;rw[O];simp only[Bool.and_eq_true,Bool.not_eq_true',decide_eq_false_iff_not,beq_iff_eq]at a
   obtain⟨⟨i,b⟩,L⟩:=a
   cases C:(w.mks r).contains c with
   |true=>
    rw[C]at b;simpa using b
   |false=>
    rw[C]at b;have:z≠0:=by simpa using b
    have y:0<z:=by omega
    rw[decide_eq_true y]at L ⊢;simpa using L
 .intro h
  have J:∀r∈List.range w.n,cN K E r=true:=λr m=>by
   have:=h r m
   unfold gz at this;unfold cN
   cases P:zA E r with
   |none=>rw[P]at this;simpa using this
   |some z=>
    rw[P]at this;have:=(Bool.and_eq_true_iff.mp this).1
    rw[this];rfl
  have j:=f λt u O=>by
   have:=J t (List.mem_range.mpr u)
   simp only[cN,O,Bool.not_false,beq_iff_eq,Option.isNone_iff_eq_none]at this
   exact this
  refine⟨J,λr m=>?_⟩
  have:=h r (List.mem_range.mpr (k r m))
  unfold gz at this;unfold cK
  cases P:zA E r with
  |none=>rfl
  |some z=>
   rw[P]at this;dsimp only at this ⊢
   rw[j];have:=(Bool.and_eq_true_iff.mp this).2
   cases C:(w.mks r).contains c with
   |true=>
    rw[C]at this;have:z=0:=by simpa using this
    subst this;rfl
   |false=>
    rw[C]at this;simp only[Bool.false_eq_true,if_false,Bool.and_eq_true,decide_eq_true_eq]at this
    obtain⟨i,b⟩:=this;rw[b,decide_eq_false (by omega:¬z<0),decide_eq_false (by omega:¬z=0),decide_eq_true i]
    rfl
noncomputable abbrev GK(w:Wd)(K:List Nat)(c:Str)(E:List (Option Int))(Y l H:Option PV):Ev:=[JT w.enc,JT (ay K),JT (.str c),JT (bW E),Y,l,H,none]
noncomputable abbrev uF:FS:=(ax (aB false 5 (aw .leaf 7 (aF (aq (aq (aa 0) (eK (.int 2))) (aa 4))) (aG aj (az (bw false) (aa 7) (aa 1))) (aa 7)))
  (ax (aB false 6 (aw .leaf 7 (aF (aa 5)) (aG aj (az gG (aq (aa 3) (aa 7)) (aq (aa 3) (aa 4)))) (aa 7)))
  (ax (bA (fm (aG aj (az gG (aq (aa 3) (aa 4)) (eK (.int 0)))) (aG aj (az cO (az bP (aq (aa 3) (aa 4)) (eK (.int 0))) (az (bw false) (aa 2) (aq (aq (aa 0) (eK (.int 1))) (aa 4)))))) (aN (eK (.bool false))) aD)
  (bA (bK (aG aj (az dS (aq (aa 3) (aa 4)) (eK (.int 0)))) (aG aj (az bP (aa 6) (aH .leaf ah)))) (aN (eK (.bool false))) aD))))
theorem By(ok:w.Ok){K:List Nat}{c:Str}(f:PyData.strOk c=true)(N:rk.length=w.n)(P:∀r,r<w.n->cN K rk r=true){r:Nat}(m:r<w.n)(O:K.contains r=true)(l H:Option PV):(cK w K c rk r=true->∃X C,uF (GK w K c rk (JT (rm r)) l H)=.nx (GK w K c rk (JT (rm r)) X C))/\(cK w K c rk r=false->uF (GK w K c rk (JT (rm r)) l H)=.rt ⟨.leaf,.bool false⟩):=by
 have x:=oU ok r
 have h:∀t,t<w.n->K.contains t=true->∃z,zA rk t=some z:=λt u O=>by
  have:=P t u
  simp only[cN,O,Bool.not_true,beq_iff_eq,Option.isNone_eq_false_iff]at this
  exact Option.isSome_iff_exists.mp this
 obtain⟨z,j⟩:=h r m O;have n:aw .leaf 7 (aF (aq (aq (aa 0) (eK (.int 2))) (aa 4))) (aG aj (az (bw false) (aa 7) (aa 1))) (aa 7) (GK w K c rk (JT (rm r)) l H)=.ok ⟨.lst .leaf,ay ((w.stp r).filter λt=>K.contains t)⟩ (GK w K c rk (JT (rm r)) l H):=
  i7 rm (w.stp r) (λt=>K.contains t) (λt=>⟨.leaf,rm t⟩) (st:=true) (bg (s:=.leaf) (CC ok rfl (au rfl) m) rfl) (by simp) rfl ok.z.len (λt u=>bQ (s:=.leaf) (aC (au rfl) (au rfl) yD)) λt u _=>⟨au rfl,rfl⟩
 have k:∀t∈(w.stp r).filter λt=>K.contains t,t<w.n/\∃y,zA rk t=some y:=λt u=>by
  obtain⟨a,b⟩:=List.mem_filter.mp u;exact⟨ok.stp_lt a,h t (ok.stp_lt a) b⟩
 have E:((w.stp r).filter λt=>K.contains t).length<=30:=Nat.le_trans (length_filter_le _ _) x
 unfold cK;rw[j];dsimp only;generalize ((w.stp r).filter λt=>K.contains t)=A at n k E
 have U:aB false 5 _ (GK w K c rk (JT (rm r)) l H)=.nx (GK w K c rk (JT (rm r)) (JT (ay A)) H):=dh n rfl (by simp)
 have p:∀X C,aq (aa 3) (aa 4) (GK w K c rk (JT (rm r)) X C)=.ok ⟨.leaf,.int z⟩ (GK w K c rk (JT (rm r)) X C):=λX C=>by
  have:=nK (Γ:=GK w K c rk (JT (rm r)) X C) (rk:=rk) (au (i:=3) rfl) (au (i:=4) (d:=rm r) rfl) (by omega)
  rw[j]at this;exact this
 have I:aw .leaf 7 (aF (aa 5)) (aG aj (az gG (aq (aa 3) (aa 7)) (aq (aa 3) (aa 4)))) (aa 7) (GK w K c rk (JT (rm r)) (JT (ay A)) H)=.ok ⟨.lst .leaf,ay (A.filter λt=>e8 (zA rk t) (some z))⟩ (GK w K c rk (JT (rm r)) (JT (ay A)) H):=by
  refine i7 rm A (λt=>e8 (zA rk t) (some z)) (λt=>⟨.leaf,rm t⟩) (st:=true) (bg (s:=.leaf) (au rfl) rfl) (by simp) rfl (by omega) (λt u=>?_) λt u _=>⟨au rfl,rfl⟩
  obtain⟨J,y,S⟩:=k t u;refine bQ (s:=.leaf) (aC (nK (rk:=rk) (au rfl) (au (d:=rm t) rfl) (by omega)) (nK (rk:=rk) (au rfl) (au (d:=rm r) rfl) (by omega)) ?_)
  rw[S,j];exact KC.lt_int
 have o:aB false 6 _ (GK w K c rk (JT (rm r)) (JT (ay A)) H)=.nx (GK w K c rk (JT (rm r)) (JT (ay A)) (JT (ay (A.filter λt=>e8 (zA rk t) (some z))))):=dh I rfl (by simp)
 generalize (A.filter λt=>e8 (zA rk t) (some z))=B at o
 have L:=fh (bQ (s:=.leaf) (aC (g:=gG) (p (JT (ay A)) (JT (ay B))) (aS (d:=.int 0)) KC.lt_int)) (bQ (s:=.leaf) (aC (g:=cO) (aC (g:=bP) (p (JT (ay A)) (JT (ay B))) (aS (d:=.int 0)) KC.eq_int) (aC (g:=bw false) (au (i:=2) (d:=.str c) rfl) (C9 ok (i:=0) rfl (au (i:=4) rfl) m) (Ct f (zE ok r))) (Io _ _)))
 have v:=bZ (bQ (s:=.leaf) (aC (g:=dS) (p (JT (ay A)) (JT (ay B))) (aS (d:=.int 0)) (show _=some (PyData.bool (decide (0<z)))from rfl))) (bQ (s:=.leaf) (aC (g:=bP) (au (i:=6) (d:=ay B) rfl) (ie (s:=.leaf) ao rfl rfl rfl) pP))
 have G:(decide (z<0)||((z==0) != (w.mks r).contains c))=!(!decide (z<0)&&(decide (z=0)==(w.mks r).contains c)):=by
  have:(z==0)=decide (z=0):=by rw[Bool.eq_iff_iff];simp
  rw[this]
  cases decide (z<0)<;>cases decide (z=0)<;>cases(w.mks r).contains c<;>rfl
 rw[G]at L
 cases J:(!decide (z<0)&&(decide (z=0)==(w.mks r).contains c))with
 |false=>
  rw[J]at L;exact⟨nofun,λ_=>af U (af o (fR (aP L (λ_=>aL aS rfl) nofun)))⟩
 |true=>
  rw[J]at L;refine⟨λe=>⟨_,_,af U (af o (af (aP L nofun λ_=>rfl) (aP v (λq=>?_) λ_=>rfl)))⟩,λe=>af U (af o (af (aP L nofun λ_=>rfl) (aP v (λ_=>aL aS rfl) λq=>?_)))⟩
  .rw[q]at e;cases e
  .rw[q]at e;cases e
theorem ox(ok:w.Ok){K:List Nat}(Y:Std w.n K){c:Str}(f:PyData.strOk c=true)(Z:rk.length<=1000):ck [w.enc,ay K,.str c,bW rk]=.ok ⟨.leaf,.bool (nu w K c rk)⟩:=by
 have I:=ok.h24
 have O:=ok.g.lo
 have o:∀x4 l H,bc aI (ae (aa 3) ah) (GK w K c rk x4 l H)=.ok ⟨.leaf,.int (rk.length:Int)⟩ (GK w K c rk x4 l H):=λ_ _ _=>bt (aA (au rfl) ao) nE
 have l0:bc aI (ae (aq (aa 0) (eK (.int 0))) ah) (GK w K c rk none none none)=.ok ⟨.leaf,.int (w.n:Int)⟩ (GK w K c rk none none none):=bt (aA (jC (j:=0) (au rfl) aS rfl rfl rfl) ao) (by simp[O])
 have t:=bQ (s:=.leaf) (aC (o none none none) l0 (fI KC.eq_int))
 by_cases e:rk.length=w.n
 .rw[e,beq_self_eq_true]at t
  rw[<-wH (c:=c) Y.lt e λr t u=>ok.stp_lt u]
  have y:bA _ (aN (eK (.bool false))) aD (GK w K c rk none none none)=.nx (GK w K c rk none none none):=aP t nofun λ_=>rfl
  obtain⟨f1,p⟩:=C1 rm (i:=4) (body:=bA (aG aj (az cO (az (bq false) (aq (aa 3) (aa 4)) (eK .none)) (az (bw true) (aa 4) (aa 1)))) (aN (eK (.bool false))) aD) (Inv:=λΓ=>∃k,Γ=GK w K c rk k none none) (c:=cN K rk) (q:=⟨.leaf,.bool false⟩) (List.range w.n) (GK w K c rk none none none) (λx A Γ ⟨k,hΓ⟩=>by
   subst hΓ;have A:=List.mem_range.mp A
   have a:bq false (zD (zA rk x)) .none=some (.bool (zA rk x).isNone):=by cases zA rk x<;>rfl
   have b:=bQ (s:=.leaf) (aC (g:=cO) (aC (g:=bq false) (nK (Γ:=GK w K c rk (JT (rm x)) none none) (rk:=rk) (au (i:=3) rfl) (au (i:=4) (d:=rm x) rfl) (by omega)) (aS (d:=.none)) a) (aC (g:=bw true) (au (i:=4) (d:=rm x) rfl) (au (i:=1) (d:=ay K) rfl) Hk) (Io _ _))
   have:((zA rk x).isNone != !K.contains x)=!cN K rk x:=by unfold cN;cases(zA rk x).isNone<;>cases K.contains x<;>rfl
   rw[this]at b;refine⟨by simp,λh=>⟨_,aP b (λz=>?_) λ_=>rfl,_,rfl⟩,λh=>aP b (λ_=>aL aS rfl) λz=>?_⟩
   .rw[h]at z;cases z
   .rw[h]at z;cases z) ⟨none,rfl⟩
  have E:i5 (ae (bc aI (ae (aa 3) ah)) ah) (GK w K c rk none none none)=.ok ⟨(List.range w.n).map rm,true⟩ (GK w K c rk none none none):=kh (s:=.leaf) (n:=w.n) (by omega) (by rw[<-e];exact aA (o _ _ _) ao)
  cases U:(List.range w.n).all (cN K rk)with
  |false=>exact aQ (af y (fR (bE E (p U))))
  |true=>
   obtain⟨_,e2,k,rfl⟩:=f1 U;have P:∀r,r<w.n->cN K rk r=true:=λr m=>List.all_eq_true.mp U r (List.mem_range.mpr m)
   obtain⟨g1,G⟩:=C1 rm (i:=4) (body:=uF) (Inv:=λΓ=>∃k X C,Γ=GK w K c rk k X C) (c:=cK w K c rk) (q:=⟨.leaf,.bool false⟩) K (GK w K c rk k none none) (λx A Γ ⟨k,X,C,hΓ⟩=>by
    subst hΓ;obtain⟨J,S⟩:=By ok f e P (Y.lt x A) (by simpa using A) X C
    exact⟨by simp,λq=>let⟨v,z6,q⟩:=J q;⟨_,q,_,v,z6,rfl⟩,λq=>S q⟩) ⟨k,none,none,rfl⟩
   have L:aF (aa 1) (GK w K c rk k none none)=.ok ⟨K.map rm,true⟩ (GK w K c rk k none none):=bg (s:=.leaf) (au rfl) rfl
   rw[Bool.true_and]
   cases N:K.all (cK w K c rk)with
   |false=>exact aQ (af y (af (bE E e2) (fR (bE L (G N)))))
   |true=>
    obtain⟨_,e3,z4,v,z6,rfl⟩:=g1 N;exact aQ (af y (af (bE E e2) (af (bE L e3) (aL aS rfl))))
 .have:((rk.length:Int)==(w.n:Int))=false:=by rw[beq_eq_false_iff_ne];omega
  rw[this]at t;have:nu w K c rk=false:=by unfold nu;rw[decide_eq_false e];rfl
  rw[this];exact aQ (fR (aP t (λ_=>aL aS rfl) nofun))
theorem pY{a:List (List (Option Int))}(h:a.length=M.length):M.zip a=(List.range M.length).map λk=>(M.getD k "",a.getD k []):=by
 apply List.ext_getElem
 .simp[h]
 .intro k J S
  have O:k<M.length:=by simpa using S
  simp[JK,JJ O,JJ (show k<a.length by omega)]
noncomputable abbrev GQ(w:Wd)(R:List Nat)(M:List Str)(p:Pap)(Y l H:Option PV):Ev:=[JT w.enc,JT (ay R),JT (bx M),JT p.enc,Y,l,H,JT (aM p.rows),JT (iL p.kept),JT (.list (p.ranks.map bW)),none,none]
theorem oy(ok:w.Ok)(a:Std w.n R)(hM:∀c∈M,c∈bb)(hl3:M.length<=100){p:Pap}(y:p.Ok):cF [w.enc,ay R,bx M,p.enc]=.ok ⟨.leaf,.bool (eE w R M p)⟩:=by
 have I:=ok.h24
 have l:cI [7,8,9] (aa 3) (bp 12 [w.enc,ay R,bx M,p.enc])=.nx (GQ w R M p none none none):=F9 (au (d:=p.enc) rfl) rfl rfl rfl
 have s1:aB false 4 (lh (aa 1)) (GQ w R M p none none none)=.nx (GQ w R M p (JT (ay R)) none none):=dh (vQ (ds:=R.map rm) (au rfl) rfl) rfl (by simp)
 obtain⟨S,f2⟩:=GZ FRow.enc (cn w M) (Inv:=λL=>Std w.n L) (i:=5) (q:=⟨.leaf,.bool false⟩)
  (body:=(ax (bA (cQ (aG bI (ar 4 bT (ae (aa 0) (ae (aa 4) (ae (aa 2) (ae (aa 5) ah))))))) (aN (eK (.bool false))) aD) (aB false 4 (aw .leaf 6 (aF (aa 4)) (aG aj (az (bw true) (aa 6) (aq (aa 5) (eK (.int 0))))) (aa 6)))))
  (G:=λL x=>GQ w R M p (JT (ay L)) x none) (λ_ _=>by simp) (λ_ _ _=>rfl) p.rows R none (λr o L P=>by
   have hll:=P.len
   have t:=eV (eT (s:=.leaf) (cH (n:=4) (Γ:=GQ w R M p (JT (ay L)) (JT r.enc) none) (aA (au (i:=0) rfl) (aA (au (i:=4) rfl) (aA (au (i:=2) rfl) (aA (au (i:=5) rfl) ao)))) (vd ok P hM (y.rows r o)) rfl rfl))
   unfold cn
   cases Z:du w L M r with
   |true=>
    rw[Z]at t;refine⟨λv e=>?_,nofun⟩
    cases e;exact⟨P.filter _,af (aP t nofun λ_=>rfl) (dh (u5 rfl rfl (by simp) (by decide) (by omega)) rfl (by simp))⟩
   |false=>
    rw[Z]at t;exact⟨(λv e=>nomatch e),λ_=>fR (aP t (λ_=>aL aS rfl) nofun)⟩) a
 have w7:aF (aa 7) (GQ w R M p (JT (ay R)) none none)=.ok ⟨p.rows.map FRow.enc,true⟩ (GQ w R M p (JT (ay R)) none none):=bg (s:=.leaf) (au rfl) rfl
 unfold eE
 cases e:sr w M R p.rows with
 |none=>exact aQ (af l (af s1 (fR (bE w7 (f2 e)))))
 |some K=>
  obtain⟨Y,X,e2⟩:=S K e;have hKl:=Y.len
  have t:=fh (bQ (s:=.leaf) (aC (g:=cO) (au (i:=4) (d:=ay K) (Γ:=GQ w R M p (JT (ay K)) X none) rfl) (au (i:=8) (d:=iL p.kept) rfl) (by rw[fX];exact fI Gx))) (bQ (s:=.leaf) (aC (g:=cO) (bt (g:=aI) (d:=.int (p.ranks.length:Int)) (aA (au (i:=9) rfl) ao) nE) (bt (g:=aI) (d:=.int (M.length:Int)) (aA (au (i:=2) (d:=bx M) rfl) ao) nE) (fI KC.eq_int)))
  have J:(!decide (bL K=p.kept)||!((p.ranks.length:Int)==(M.length:Int)))=!(decide (p.kept=bL K)&&decide (p.ranks.length=M.length)):=by
   have:((p.ranks.length:Int)==(M.length:Int))=decide (p.ranks.length=M.length):=by
    rw[Bool.eq_iff_iff,beq_iff_eq,decide_eq_true_eq];omega
   rw[this,show decide (bL K=p.kept)=decide (p.kept=bL K)from decide_eq_decide.mpr ⟨Eq.symm,Eq.symm⟩]
   cases decide (p.kept=bL K)<;>cases decide (p.ranks.length=M.length)<;>rfl
  rw[J]at t;show _=Res.ok ⟨.leaf,.bool (decide (p.kept=bL K)&&decide (p.ranks.length=M.length)&&(K.all λr=>(w.stp r).any λt=>K.contains t)&&(M.zip p.ranks).all λx=>nu w K x.1 x.2)⟩
  cases Z:(decide (p.kept=bL K)&&decide (p.ranks.length=M.length))with
  |false=>
   rw[Z]at t;exact aQ (af l (af s1 (af (bE w7 e2) (fR (aP t (λ_=>aL aS rfl) nofun)))))
  |true=>
   rw[Z]at t;have C:p.ranks.length=M.length:=of_decide_eq_true (Bool.and_eq_true_iff.mp Z).2
   have m:p.kept=bL K:=of_decide_eq_true (Bool.and_eq_true_iff.mp Z).1
   have k8:∀H,(GQ w R M p (JT (ay K)) X H)[8]?=some (JT (ay K)):=λH=>by
    show some (some (⟨.leaf,iL p.kept⟩:PV))=_
    rw[m,<-fX]
   rw[Bool.true_and];have N:bA _ (aN (eK (.bool false))) aD (GQ w R M p (JT (ay K)) X none)=.nx (GQ w R M p (JT (ay K)) X none):=aP t nofun λ_=>rfl
   obtain⟨g1,g2⟩:=C1 rm (i:=6) (body:=bA (aG aj (az bP (bc aI (ae (aw .leaf 11 (aF (aq (aq (aa 0) (eK (.int 2))) (aa 6))) (aG aj (az (bw false) (aa 11) (aa 8))) (aa 11)) ah)) (eK (.int 0)))) (aN (eK (.bool false))) aD) (Inv:=λΓ=>∃y6,Γ=GQ w R M p (JT (ay K)) X y6) (c:=λr=>(w.stp r).any λt=>K.contains t) (q:=⟨.leaf,.bool false⟩) K (GQ w R M p (JT (ay K)) X none) (λx A Γ ⟨y6,hΓ⟩=>by
    subst hΓ;have c11:aw .leaf 11 (aF (aq (aq (aa 0) (eK (.int 2))) (aa 6))) (aG aj (az (bw false) (aa 11) (aa 8))) (aa 11) (GQ w R M p (JT (ay K)) X (JT (rm x)))=.ok ⟨.lst .leaf,ay ((w.stp x).filter λt=>K.contains t)⟩ (GQ w R M p (JT (ay K)) X (JT (rm x))):=
     i7 rm (w.stp x) (λt=>K.contains t) (λt=>⟨.leaf,rm t⟩) (st:=true) (bg (s:=.leaf) (CC ok rfl (au rfl) (Y.lt x A)) rfl) (by simp) rfl ok.z.len (λt u=>bQ (s:=.leaf) (aC (au rfl) (au (d:=ay K) (k8 (JT (rm x)))) yD)) λt u _=>⟨au rfl,rfl⟩
    have b:=bQ (s:=.leaf) (aC (g:=bP) (bt (g:=aI) (d:=.int (((w.stp x).filter λt=>K.contains t).length:Int)) (aA c11 ao) nE) (aS (d:=.int 0)) KC.eq_int)
    have:((((w.stp x).filter λt=>K.contains t).length:Int)==0)=!((w.stp x).any λt=>K.contains t):=by
     rw[<-iO]
     cases((w.stp x).filter λt=>K.contains t).length with
     |zero=>rfl
     |succ n=>rw[decide_eq_true (Nat.succ_pos n),beq_eq_false_iff_ne.mpr (by omega)];rfl
    rw[this]at b;refine⟨by simp,λh=>⟨_,aP b (λz=>?_) λ_=>rfl,_,rfl⟩,λh=>aP b (λ_=>aL aS rfl) λz=>?_⟩
    .rw[h]at z;cases z
    .rw[h]at z;cases z) ⟨none,rfl⟩
   have w8:aF (aa 8) (GQ w R M p (JT (ay K)) X none)=.ok ⟨K.map rm,true⟩ (GQ w R M p (JT (ay K)) X none):=bg (s:=.leaf) (au (d:=ay K) (k8 _)) rfl
   cases U:(K.all λr=>(w.stp r).any λt=>K.contains t)with
   |false=>exact aQ (af l (af s1 (af (bE w7 e2) (af N (fR (bE w8 (g2 U)))))))
   |true=>
    obtain⟨_,e3,y6,rfl⟩:=g1 U;rw[Bool.true_and,pY C,List.all_map];refine aQ (af l (af s1 (af (bE w7 e2) (af N (af (bE w8 e3) (aL (bt (aA (nr rm (List.range M.length) (λk=>⟨.leaf,.bool (nu w K (M.getD k "") (p.ranks.getD k []))⟩) (st:=true) (kh (s:=.leaf) (n:=M.length) (by omega) (aA (bt (aA (au rfl) ao) nE) ao)) (by simp) rfl (by simp;omega) λk O=>⟨?_,rfl⟩) ao) sF) rfl))))))
    have O:=List.mem_range.mp O
    have f:M[k]?=some (M.getD k ""):=by rw[JK,JJ O];rfl
    have E:p.ranks[k]?=some (p.ranks.getD k []):=by rw[JK,JJ (by omega)];rfl
    refine cH (aA (au rfl) (aA (au (d:=ay K) (k8 y6)) (aA (nC (j:=k) (ds:=M.map PyData.str) (au rfl) (au rfl) (nj (by rw[length_map];exact O)) (by rw[getElem?_map,f];rfl) rfl) (aA (nC (j:=k) (ds:=p.ranks.map bW) (au rfl) (au rfl) (nj (by rw[length_map];omega)) (by rw[getElem?_map,E];rfl) rfl) ao)))) (ox ok Y (vL (hM _ (mem_of_getElem? f))).1 (y.ranks _ (mem_of_getElem? E))) rfl rfl
end
section
variable{w:Wd}{R L:List Nat}{M:List Str}
theorem EK{G:List Nat}:(bL G).map Int.toNat=G:=by
 show(G.map λt:Nat=>(t:Int)).map Int.toNat=G
 rw[map_map];refine(map_congr_left λx _=>?_).trans (List.map_id G)
 show((x:Int)).toNat=id x
 simp
theorem vn(P:Std w.n L){p:Nat->Bool}(K:L.filter p≠[]):pU L (bL (L.filter p))=true:=by
 simp only[pU,Bool.and_eq_true,all_eq_true]
 refine⟨⟨?_,?_⟩,λx A=>?_⟩
 .cases h:L.filter p with
  |nil=>exact absurd h K
  |cons a r=>rfl
 .unfold fA
  refine decide_eq_true ?_
  show((L.filter p).map λt:Nat=>(t:Int)).Pairwise (· < ·)
  rw[pairwise_map];exact(P.filter p).sorted.imp λh=>by omega
 .obtain⟨r,m,rfl⟩:=List.mem_map.mp A
  have:=(List.mem_filter.mp m).1
  unfold inL;rw[contains_iff_mem];exact List.mem_map.mpr ⟨r,this,rfl⟩
theorem pO{p:Nat->Bool}:mK L (bL (L.filter p))=L.filter λx=>!(L.filter p).contains x:=by
 refine List.filter_congr λx A=>?_
 congr 1
 rw[Bool.eq_iff_iff,contains_iff_mem,contains_iff_mem,mem_map];exact⟨λ⟨a,h,e⟩=>(show a=x by omega)▸h,λh=>⟨x,h,rfl⟩⟩
theorem yb(ok:w.Ok)(H:∀c∈M,c∈bb)(P:Std w.n L):(cu [w.enc,ay L,bx M]=.ok ⟨.leaf,.none⟩/\iY w M L)\/(∃n o,cu [w.enc,ay L,bx M]=.ok ⟨.tup [.lst .leaf,.leaf],(FRow.mk (bL n) o).enc⟩/\(FRow.mk (bL n) o).Ok/\(∀c,o=some c->c∈M)/\du w L M ⟨bL n,o⟩=true/\mK L (bL n)=(L.filter λx=>!n.contains x)/\vz w M L n):=by
 have h24:=ok.h24
 have N:=P.len
 have enc:∀(n:List Nat)(o:Option Str),(FRow.mk (bL n) o).enc=.tuple [ay n,mD o]:=λn o=>by unfold FRow.enc;rw[<-fX]
 have g:aw .leaf 7 (aF (aa 1)) (cQ (aG bI (bc (cL true) (ae (aw .leaf 8 (aF (aq (aq (aa 0) (eK (.int 2))) (aa 7))) aR (az (bw false) (aa 8) (aa 1))) ah)))) (aa 7) (bp 9 [w.enc,ay L,bx M])=.ok ⟨.lst .leaf,.list ((L.filter λr=>!(w.stp r).any λt=>L.contains t).map λt=>rm t)⟩ (bp 9 [w.enc,ay L,bx M]):=by
  refine i7 rm L (λr=>!(w.stp r).any λt=>L.contains t) (λt=>⟨.leaf,rm t⟩) (st:=true) (by simp[bp]) (by simp[bp]) rfl (by omega) (λr m=>?_) (λt u _=>?_)
  .have b:=ok.at2 (P.lt r m)
   have Z:aw .leaf 8 (aF (aq (aq (aa 0) (eK (.int 2))) (aa 7))) aR (az (bw false) (aa 8) (aa 1)) ((bp 9 [w.enc,ay L,bx M]).set 7 (JT (rm r)))=.ok ⟨.lst .leaf,.list ((w.stp r).map λt=>.bool (L.contains t))⟩ ((bp 9 [w.enc,ay L,bx M]).set 7 (JT (rm r))):=by
    refine nr rm (w.stp r) (λt=>⟨.leaf,.bool (L.contains t)⟩) (st:=true) (by simp[bp,Wd.enc,eD,b]) (by simp[bp]) rfl ok.z.len (λt u=>⟨?_,rfl⟩)
    exact aC (au rfl) (au rfl) yD
   exact eV (eT (s:=.leaf) (bt (aA Z ao) Cc))
  .simp[bp]
 by_cases q:(L.filter λr=>!(w.stp r).any λt=>L.contains t)=[]
 .rw[q]at g
  have f:∀r∈L,∃t∈w.stp r,t∈L:=λr m=>by
   have:=List.filter_eq_nil_iff.mp q r m
   simpa using this
  have y:aB true 3 _ (bp 9 [w.enc,ay L,bx M])=.nx (KQ.GRo w M L none none none):=lA g rfl (by simp[bp])
  have U:bA (aG bI (aa 3)) (aN (cG (ae (bh 3) (ae (eK .none) ah)))) aD (KQ.GRo w M L none none none)=.nx (KQ.GRo w M L none none none):=by simp
  rcases KQ.ro_for ok (M0:=M) P M H none none none with⟨⟨i,z5,z6,z⟩,h2⟩|⟨c,d,E,R,q',z⟩
  .refine .inl ⟨aQ (af y (af U (af (bE (bg (ds:=M.map .str) (au rfl) rfl) z) (aL aS rfl)))),f,λc d S I h4 r m=>?_⟩
   obtain⟨E,R,j⟩:=h2 c d;have:r∈L/\S r:=R.min (S:=λr=>r∈L/\S r) (λr t u=>ok.stp_lt u) (λr _ l=>by
     obtain⟨K,G⟩:=List.mem_filter.mp l;exact⟨K,I r K (by simpa using G)⟩) (λr _ u N=>by
     obtain⟨t,K,G,g3⟩:=led_t.mp N;exact⟨u,h4 r u ⟨t,K,G,g3⟩⟩) (P.lt r m) (j r m)
   exact this.2
  .have CB:∀r,r∈(L.filter λr=>(bo E r).isNone)↔r∈L/\bo E r=none:=λr=>by rw[List.mem_filter,Option.isNone_iff_eq_none]
   refine .inr ⟨L.filter λr=>(bo E r).isNone,some c,?_,⟨?_,λv e=>by cases e;exact(vL (H c d)).1⟩,(λv e=>by cases e;exact d),?_,pO,q',λr m=>(List.mem_filter.mp m).1,λRm X J h r m A=>?_⟩
   .rw[enc]
    exact aQ (af y (af U (fR (bE (bg (ds:=M.map .str) (au rfl) rfl) z))))
   .show(bL _).length<=60
    rw[length_map];exact Nat.le_trans (length_filter_le _ _) (by omega)
   .unfold du
    rw[vn P q',Bool.true_and,EK];simp only[pT,Bool.and_eq_true,Bool.not_eq_true',any_eq_false,all_eq_true,List.mem_flatMap]
    refine⟨⟨by simpa using d,λr m C=>?_⟩,λt ⟨r,m,u⟩=>?_⟩
    .obtain⟨K,G⟩:=(CB r).mp m
     exact R.goal_ok (P.lt r K) (List.mem_filter.mpr ⟨K,C⟩) G
    .obtain⟨K,G⟩:=(CB r).mp m
     obtain⟨Y,b⟩:=List.mem_filter.mp u;have A:(L.filter λr=>(bo E r).isNone).contains t=true:=by
      rw[contains_iff_mem];refine(CB t).mpr ⟨by simpa using b,?_⟩
      cases O:bo E t with
      |none=>rfl
      |some k=>exact absurd G (R.step_ok (P.lt r K) K (led_t.mpr ⟨t,Y,by rw[O];exact nofun⟩))
     exact A
   .obtain⟨K,G⟩:=List.mem_filter.mp m
    have O:bo E r=none:=by simpa using G
    exact J.a c d (λr=>bo E r≠none) (λr A C=>R.goal_ok (J.lt r A) (List.mem_filter.mpr ⟨h r A,by simpa using C⟩)) (λr A ⟨t,u,_,hk⟩=>R.step_ok (J.lt r A) (h r A) (led_t.mpr ⟨t,u,hk⟩)) r A O
 .refine .inr ⟨L.filter λr=>!(w.stp r).any λt=>L.contains t,none,?_,⟨?_,λv e=>nomatch e⟩,(λv e=>nomatch e),?_,pO,q,λr m=>(List.mem_filter.mp m).1,λRm X J h r m A=>?_⟩
  .rw[enc]
   refine aQ (af (lA g rfl (by simp[bp])) (fR ?_))
   generalize (L.filter λr=>!(w.stp r).any λt=>L.contains t)=F at q ⊢
   cases F with
   |nil=>exact absurd rfl q
   |cons a r=>simp[bp,wo,mD]
  .show(bL _).length<=60
   rw[length_map];exact Nat.le_trans (length_filter_le _ _) (by omega)
  .unfold du
   rw[vn P q,Bool.true_and,EK];simp only[pT,isEmpty_iff,List.flatMap_eq_nil_iff]
   intro r m;have:=(List.mem_filter.mp m).2
   simpa[filter_eq_nil_iff]using this
  .obtain⟨t,u,p⟩:=J.c r A
   have:=(List.mem_filter.mp m).2
   simp only[Bool.not_eq_true',any_eq_false,contains_iff_mem]at this
   exact this t u (h t p)
structure Iv where
 rows:List FRow
 L:List Nat
 row:Option FRow
noncomputable abbrev I0:Sh:=.tup [.lst .leaf,.leaf]
noncomputable def gx:Option FRow->PV
 |none=>⟨.leaf,.none⟩
 |some r=>⟨I0,r.enc⟩
theorem pN{m d:Type}{step:d->m->Option d}:∀(Y:List m){b v:d}{a:m},mF step b Y=some v->mF step b (Y++[a])=step v a
 |[],b,v,a,e=>by
  cases e;show(match step b a with|some v=>mF step v []|none=>none)=_
  cases step b a<;>rfl
 |x::Y,b,v,a,e=>by
  rw[List.cons_append];rw[mF]at e ⊢
  cases A:step b x with
  |none=>rw[A]at e;cases e
  |some c=>rw[A]at e;exact pN Y e
structure FJ(w:Wd)(R:List Nat)(M:List Str)(b:Iv):Prop where
 std:Std w.n b.L
 sub:∀r∈b.L,r∈R
 cnt:b.rows.length+b.L.length<=w.n
 by':sr w M R b.rows=some b.L
 ok:∀r∈b.rows,r.Ok/\∀c,r.m=some c->c∈M
 nat:∀r∈b.rows,∃off:List Nat,r.g=bL off/\∀x∈off,x<w.n
 big:∀X,Fr w.n w.stp (·∈R) M (Br w) X->∀r,X r->r∈b.L
 row:(b.row=none/\iY w M b.L)\/(∃off o,b.row=some ⟨bL off,o⟩/\(FRow.mk (bL off) o).Ok/\(∀c,o=some c->c∈M)/\du w b.L M ⟨bL off,o⟩=true/\mK b.L (bL off)=(b.L.filter λx=>!off.contains x)/\vz w M b.L off)
theorem BQ{n:List Nat}:fL ⟨I0,(FRow.mk (bL n) o).enc⟩=true:=by
 show(([Sh.lst .leaf,.leaf].zip [iL (bL n),mD o]).all λx=>j8 x.1 x.2)=true
 have:j8 (.lst .leaf) (iL (bL n))=true:=by rw[<-fX];exact KQ.sc_rms
 simp only[List.zip_cons_cons,List.zip_nil_right,all_cons,List.all_nil,this,Bool.true_and,Bool.and_true]
 cases o<;>rfl
theorem zi(ok:w.Ok)(H:∀c∈M,c∈bb)(P:Std w.n L):∃r,cu [w.enc,ay L,bx M]=.ok (gx r)/\(gx r).s.isView=false/\fL (gx r)=true /\
  ((r=none/\iY w M L)\/(∃n o,r=some ⟨bL n,o⟩/\(FRow.mk (bL n) o).Ok/\(∀c,o=some c->c∈M)/\du w L M ⟨bL n,o⟩=true/\mK L (bL n)=(L.filter λx=>!n.contains x)/\vz w M L n)):=by
 rcases yb ok H P with⟨e,h⟩|⟨n,o,e,h1,hm,h2,h3,h4⟩
 .exact⟨none,e,rfl,rfl,.inl ⟨rfl,h⟩⟩
 .exact⟨some ⟨bL n,o⟩,e,rfl,BQ,.inr ⟨n,o,rfl,h1,hm,h2,h3,h4⟩⟩
end
section
variable{w:Wd}{R K:List Nat}{M:List Str}
noncomputable def jR(E:List (Option Nat)):List (Option Int):=E.map (Option.map λn:Nat=>(n:Int))
theorem wF{E:List (Option Nat)}:eY E=bW (jR E):=by
 show PyData.list (E.map oD)=PyData.list ((E.map _).map zD)
 rw[map_map];congr 1
 refine map_congr_left λo _=>?_
 cases o<;>rfl
theorem sJ{E:List (Option Nat)}{r:Nat}:zA (jR E) r=(bo E r).map λn:Nat=>(n:Int):=by
 unfold zA bo jR;rw[JK,JK,getElem?_map]
 cases E[r]?<;>rfl
structure r9(w:Wd)(K:List Nat)(c:Str)(rk:List (Option Nat)):Prop where
 den:aY [w.enc,ay K,.str c]=.ok ⟨.lst .leaf,eY rk⟩
 r:RightG w.n w.stp (λ_=>true) K (gm w c K) rk
 few:∀r j,r<w.n->r∉gm w c K->bo rk r=some j->∀t∈w.stp r,∀i,bo rk t=some i->j<=i+1
 lt:∀r k,r<w.n->bo rk r=some k->k<w.n
theorem kN(ok:w.Ok){c:Str}(g:c∈bb){L:List Nat}(P:Std w.n L):∃E,r9 w L c E:=by
 have O:=ok.g.lo
 have I:=ok.h24
 have N:=P.len
 have p:(gm w c L).length<=1000:=Nat.le_trans (length_filter_le _ _) (by omega)
 have a:∀r,r<w.n->ig (w.os.map λ_=>true) r=true:=λr m=>by
  unfold ig;rw[JK,getElem?_map,JJ (by omega)]
  rfl
 obtain⟨E,e,b,f⟩:=fM ok.z (cl:=w.os.map λ_=>true) (thr:=L) (goal:=gm w c L) (by rw[length_map];exact O) (λr m=>ok.stp_ne (P.lt r m)) P.lt (by omega) (λr m=>P.lt r (List.mem_filter.mp m).1) p
 have v:∀r k,r<w.n->bo E r=some k->k<w.n:=λr k m e=>xX b f (λr t u=>ok.stp_lt u) m e
 have b:=b.congr (ch':=λ_=>true) λr m=>a r m
 refine⟨E,?_,b,λr j m n A t u i l=>?_,v⟩
 .have X:aw .leaf 3 (aF (aq (aa 0) (eK (.int 0)))) aR (eK (.bool true)) (bp 4 [w.enc,ay L,ay (gm w c L)])=.ok ⟨.lst .leaf,nA (w.os.map λ_=>true)⟩ (bp 4 [w.enc,ay L,ay (gm w c L)]):=by
   have:=nr (λd:D=>d) w.os (λd=>⟨.leaf,.bool true⟩) (s:=.leaf) (i:=3) (fi:=aF (aq (aa 0) (eK (.int 0)))) (fe:=eK (.bool true)) (st:=true) (Γ:=bp 4 [w.enc,ay L,ay (gm w c L)]) (by simp[bp,Wd.enc,eD]) (by simp[bp]) rfl (by omega) (λd U=>by simp)
   rw[this];simp
  have st:dC [w.enc,ay L,ay (gm w c L)]=.ok ⟨.lst .leaf,eY E⟩:=aQ (aL (cH (aA (au rfl) (aA X (aA (au rfl) (aA (au rfl) ao)))) e rfl rfl) rfl)
  have Z:aw .leaf 3 (aF (aa 1)) (aG aj (az (bw false) (aa 2) (aq (aq (aa 0) (eK (.int 1))) (aa 3)))) (aa 3) (bp 4 [w.enc,ay L,.str c])=.ok ⟨.lst .leaf,.list ((gm w c L).map λt=>rm t)⟩ (bp 4 [w.enc,ay L,.str c]):=by
   refine i7 rm L (λr=>(w.mks r).contains c) (λt=>⟨.leaf,rm t⟩) (st:=true) (by simp[bp]) (by simp[bp]) rfl (by omega) (λt u=>?_) (λt u _=>?_)
   .have h:=ok.at1 (P.lt t u)
    simp[bp,Wd.enc,eD,h,Ct (vL g).1 (zE ok t)]
   .simp[bp]
  exact aQ (aL (cH (aA (au rfl) (aA (au rfl) (aA Z ao))) st rfl rfl) rfl)
 .have:=f r j n A
  rw[a r m]at this;rw[led_t]at this;refine Nat.le_of_not_lt λz=>this ⟨t,u,i,l,z⟩
theorem tG(ok:w.Ok)(Y:Std w.n K)(J:iY w M K){c:Str}(f:c∈M){E:List (Option Nat)}(h:r9 w K c E):(∀r∈K,∃k,bo E r=some k)/\(∀r k,r<w.n->bo E r=some k->r∈K)/\nu w K c (jR E)=true:=by
 have all:∀r∈K,∃k,bo E r=some k:=λr m=>by
  have:=J.a c f (λr=>bo E r≠none) (λr m C=>h.r.goal_ok (Y.lt r m) (List.mem_filter.mpr ⟨m,by simpa using C⟩)) (λr m ⟨t,u,_,O⟩=>h.r.step_ok (Y.lt r m) m (led_t.mpr ⟨t,u,O⟩)) r m
  cases e:bo E r with
  |none=>exact absurd e this
  |some k=>exact⟨k,rfl⟩
 have b:∀r k,r<w.n->bo E r=some k->r∈K:=λr k m e=>by
  by_cases l:r∈gm w c K
  .exact(List.mem_filter.mp l).1
  .exact(h.r.p r k m l e).2.1
 refine⟨all,b,?_⟩
 unfold nu;have N:(jR E).length=w.n:=by unfold jR;rw[length_map];exact h.r.len
 rw[decide_eq_true N,Bool.true_and,all_eq_true];intro r m;have m:=List.mem_range.mp m
 unfold gz;rw[sJ]
 cases e:bo E r with
 |none=>
  show(!K.contains r)=true
  rw[Bool.not_eq_true',<-Bool.not_eq_true,contains_iff_mem];intro O;obtain⟨k,v⟩:=all r O;rw[e]at v
  cases v
 |some k=>
  have O:=b r k m e
  show(K.contains r&&_)=true
  rw[List.contains_iff_mem.mpr O,Bool.true_and]
  cases C:(w.mks r).contains c with
  |true=>
   have:=h.r.g r m (List.mem_filter.mpr ⟨O,C⟩)
   rw[e]at this
   cases this;rfl
  |false=>
   have l:r∉gm w c K:=λz=>by
    have:=(List.mem_filter.mp z).2
    rw[C]at this
    cases this
   obtain⟨P,_,d⟩:=h.r.p r k m l e;obtain⟨t,u,j,A,a⟩:=led_t.mp d;show(decide ((0:Int)<(k:Int))&&_)=true
   rw[decide_eq_true (by omega),Bool.true_and,any_eq_true]
   refine⟨t,u,?_⟩
   rw[sJ,A];show decide ((j:Int)<(k:Int))=true
   exact decide_eq_true (by omega)
theorem Dp{c:FB}{a e:F1}{b:Bool}{p:PV}(h:c C=.ok b C)(J:b=true->a C=.ok p C)(S:b=false->e C=.ok p C):vJ c a e C=.ok p C:=by
 unfold vJ;rw[h]
 cases b with
 |true=>exact J rfl
 |false=>exact S rfl
end
section
variable{w:Wd}{R K:List Nat}{M:List Str}
theorem jZ{c:Str}(h:c∈bb):(PyData.str c).shown.length<=10/\PyData.strOk (PyData.str c).shown=true/\PyData.strOk c=true:=by
 unfold bb at h;simp only[mem_cons,not_mem_nil,or_false]at h
 rcases h with rfl|rfl|rfl|rfl|rfl|rfl<;>exact⟨by decide +kernel,by decide +kernel,by decide +kernel⟩
structure Tx(d:D)(n e:Nat):Prop where
 lay:d.canLay0=true
 show':d.showable=true
 dep:d.depth<=e
 len:vG d<=n
 ok:i9 d=true
structure TxL(ds:List D)(n e:Nat):Prop where
 lay:PyData.canLayAll0 ds=true
 show':PyData.showableAll ds=true
 dep:PyData.depthAll ds<=e
 len:rzSL ds<=n
 ok:txOkL ds=true
theorem TxL.of{m:Type}{f:m->D}{n:Nat}:∀(l:List m),(∀a∈l,Tx (f a) n e)->TxL (l.map f) ((n+2)*l.length) e
 |[],_=>⟨rfl,rfl,by simp[PyData.depthAll],JR _,rfl⟩
 |a::l,h=>by
  have J:=h a mem_cons_self
  have E:=TxL.of l λb Z=>h b (JL _ Z)
  refine⟨?_,?_,?_,?_,?_⟩
  .rw[map_cons,PyData.canLayAll0,J.lay,E.lay];rfl
  .rw[map_cons,PyData.showableAll,J.show',E.show'];rfl
  .rw[map_cons,PyData.depthAll]
   have:=J.dep
   have:=E.dep
   omega
  .have:=J.len
   have:=E.len
   show(vG (f a)+2)+rzSL (l.map f)<=_
   rw[length_cons,Nat.mul_add];omega
  .show(i9 (f a)&&txOkL (l.map f))=true
   rw[J.ok,E.ok];rfl
theorem TxL.list{t:List D}{n:Nat}(h:TxL t n e):Tx (.list t) (n+2) (e+1):=⟨by rw[PyData.canLay0];exact h.lay,by rw[PyData.showable];exact h.show',by rw[PyData.depth];have:=h.dep;omega,by show 2+rzSL t<=_;have:=h.len;omega,h.ok⟩
theorem TxL.tup{ds:List D}{n e:Nat}(h:TxL ds n e):Tx (.tuple ds) (n+3) (e+1):=⟨by rw[PyData.canLay0];exact h.lay,by rw[PyData.showable];exact h.show',by rw[PyData.depth];have:=h.dep;omega,by show 3+rzSL ds<=_;have:=h.len;omega,h.ok⟩
theorem Tx.le{d:D}{n i f:Nat}(h:Tx d n e)(Y:n<=i)(a:e<=f):Tx d i f:=⟨h.lay,h.show',Nat.le_trans h.dep a,Nat.le_trans h.len Y,h.ok⟩
theorem F7{z:Int}(h:z.natAbs<1000):Tx (.int z) 1921 0:=by
 refine⟨rfl,?_,JR _,JR _,rfl⟩
 rw[PyData.showable];refine decide_eq_true ?_
 have:z.natAbs.log2<10:=by
  by_cases a:z.natAbs=0
  .rw[a];decide
  .exact(Nat.log2_lt a).mpr (by omega)
 omega
theorem tx_none:Tx .none 4 0:=⟨rfl,rfl,JR _,JR _,rfl⟩
noncomputable def qZ(c:Str):Prop:=(PyData.str c).shown.length<=10/\PyData.strOk (PyData.str c).shown=true/\PyData.strOk c=true
theorem Dr(h:∀c,o=some c->qZ c):Tx (mD o) 10 0:=by
 cases o with
 |none=>exact tx_none.le (by omega) (JR _)
 |some c=>
  obtain⟨J,S,I⟩:=h c rfl;exact⟨by show PyData.canLay0 (.str c)=true;rw[PyData.canLay0];exact I,rfl,JR _,J,S⟩
theorem zV{r:FRow}(l:r.g.length<=20)(P:∀z∈r.g,z.natAbs<1000)(C:∀c,r.m=some c->qZ c):Tx r.enc 40000 2:=by
 have J:Tx (iL r.g) (1923*r.g.length+2) 1:=(TxL.of (f:=PyData.int) r.g λz a=>F7 (P z a)).list
 have S:=Dr C
 have:TxL [iL r.g,mD r.m] (1923*r.g.length+2+2+(10+2)) 1:=by
  refine⟨?_,?_,?_,?_,?_⟩
  .rw[PyData.canLayAll0,J.lay,PyData.canLayAll0,S.lay];rfl
  .rw[PyData.showableAll,J.show',PyData.showableAll,S.show'];rfl
  .rw[PyData.depthAll,PyData.depthAll,PyData.depthAll]
   have:=J.dep
   have:=S.dep
   omega
  .show(vG (iL r.g)+2)+((vG (mD r.m)+2)+0)<=_
   have:=J.len
   have:=S.len
   omega
  .show(i9 (iL r.g)&&(i9 (mD r.m)&&true))=true
   rw[J.ok,S.ok];rfl
 exact this.tup.le (by omega) (by omega)
structure Pap.Small(p:Pap):Prop where
 ok:p.Ok
 rl:p.rows.length<=20
 gl:∀r∈p.rows,r.g.length<=20
 rz:∀r∈p.rows,∀z∈r.g,z.natAbs<1000
 rm':∀r∈p.rows,∀c,r.m=some c->qZ c
 kl:p.kept.length<=60
 kz:∀z∈p.kept,z.natAbs<1000
 nl:p.ranks.length<=20
 nk:∀k∈p.ranks,k.length<=30
 nz:∀k∈p.ranks,∀z,some z∈k->z.natAbs<1000
theorem vb{p:Pap}(h:p.Small):vP [p.enc]=some (.str p.enc.shown)/\PyData.strOk p.enc.shown=true:=by
 have J:Tx (aM p.rows) (40002*p.rows.length+2) 3:=(TxL.of (f:=FRow.enc) p.rows λr m=>zV (h.gl r m) (h.rz r m) (h.rm' r m)).list
 have S:Tx (iL p.kept) (1923*p.kept.length+2) 1:=(TxL.of (f:=PyData.int) p.kept λz a=>F7 (h.kz z a)).list
 have O:∀k∈p.ranks,Tx (bW k) 60000 1:=λk O=>by
  have:Tx (bW k) (1923*k.length+2) 1:=(TxL.of (f:=zD) (n:=1921) (e:=0) k λo g=>by
   cases o with
   |none=>exact tx_none.le (by omega) (JR _)
   |some z=>exact F7 (h.nz k O z g)).list
  have l:=h.nk k O
  exact this.le (by omega) (by omega)
 have I:Tx (.list (p.ranks.map bW)) (60002*p.ranks.length+2) 2:=(TxL.of (f:=bW) p.ranks O).list
 have b:=h.rl
 have d:=h.kl
 have q:=h.nl
 have:TxL [aM p.rows,iL p.kept,.list (p.ranks.map bW)] 3000000 3:=by
  refine⟨?_,?_,?_,?_,?_⟩
  .rw[PyData.canLayAll0,J.lay,PyData.canLayAll0,S.lay,PyData.canLayAll0,I.lay];rfl
  .rw[PyData.showableAll,J.show',PyData.showableAll,S.show',PyData.showableAll,I.show'];rfl
  .rw[PyData.depthAll,PyData.depthAll,PyData.depthAll,PyData.depthAll]
   have:=J.dep
   have:=S.dep
   have:=I.dep
   omega
  .show(vG (aM p.rows)+2)+((vG (iL p.kept)+2)+((vG (.list (p.ranks.map bW))+2)+0))<=_
   have:=J.len
   have:=S.len
   have:=I.len
   omega
  .show(i9 (aM p.rows)&&(i9 (iL p.kept)&&(i9 (.list (p.ranks.map bW))&&true)))=true
   rw[J.ok,S.ok,I.ok];rfl
 have t:Tx p.enc 3000003 4:=this.tup
 have c:(10000000:Nat)<=sizeLine:=by decide
 have P:=jO p.enc t.show'
 have N:=t.len
 have U:=t.dep
 refine⟨?_,iE _ t.ok⟩
 show(if BA p.enc&&p.enc.canLay0&&p.enc.showable&&decide (p.enc.depth<=50)&&decide (p.enc.shown.length<=sizeLine)then some (PyData.str p.enc.shown)else none)=_
 rw[t.lay,t.show',decide_eq_true (show p.enc.depth<=50 by omega),decide_eq_true (show p.enc.shown.length<=sizeLine by omega)]
 rfl
end
end KQ.F
namespace T
open PySem PySem.Spec L2
open PyProof.Rows hiding St
section
variable{p:Fg->(Str->Option Value)->Prop}{X Y:Cx}{P:Program}{w:World}{K:Fg}{mg:Str->Option Value}{base:Heap}{j k n:Nat}{x:Str}{s:Stmt}{ps:List Str}{g:FS}{den:List JS->Option (List JS)}{ss:List Sh}
theorem In.l(I:In p X P w K mg base k)(h:DefOkL P w K mg base j x ss den)(A:decide (j<=k)=true:=by first|exact rfl|exact decide_eq_true (by omega)):yy X x ss den:=by
 obtain⟨rfl,rfl,rfl,rfl,rfl,r,_⟩:=I;exact h.cal r A
abbrev JE(L:List Nat)(p:Fg->(Str->Option Value)->Prop)(P:Program)(w:World)(K:Fg)(c:Str->Option Value)(a:Heap)(k:Nat)(N t:List Str)(b o u:List Nat)(s:Stmt)(g:FS):Prop:=∀X:Cx,Cp X N t b o b (xA b o) u->In p X P w K c a k->PassesOwn (model X.prog X.w) X.A X.env X.xe->TQ.Q (PSs X (sd s) (tN L X.K W0 g))
theorem Jw(F:Ft K mg x s)(e:p K mg)(G:List Str)(b:vA x s G)(i:ss.length=G.length)(l t:List Str)(L o u:List Nat)(Z:JE (List.range ss.length) p P w K mg base k (G++l) t L o u s g)(h:fB (G++l) t G L o u s=true:=by kernel_rfl):DefOkL P w K mg base (k+1) x ss (rL (G++l).length ss g):=by
 obtain⟨f,r,C,F⟩:=F;obtain⟨J,S,I⟩:=u6 h;exact⟨f,r,G,xW F I i λa A M s H E m=>(Z _ (Cp.fn J S) ⟨rfl,rfl,rfl,rfl,rfl,m,e⟩ PassesOwn.never).p,C,F.kp,FT F b⟩
end
end T
namespace TQ
open PySem PySem.Spec L2 T
open PyProof.Rows hiding St
variable{x:Str}
section
variable{X:Cx}{N gl:List Str}{vs cs ls lo gs:List Nat}{W:XW}{L:List Nat}{a b c e:Expr}{es:List Expr}{pos p:Pos}{fa fb fk:F1}{ga:FB}{g g1 g2:FS}
theorem sP:Q (PA X [] (gp [])):=⟨yI⟩
theorem G8(S:Cp X N gl vs cs ls lo gs)(i:Nat){d:List Nat}{o:Pos}(f:Q (PA X es (gp d)))(l:N[i]?=some x:=by rfl)(R:vs.contains i=true:=by rfl)(P:starEach (.Name x o::es) X.env=(false,eval (.Name x o) X.env)::starEach es X.env:=by exact dB rfl):Q (PA X (.Name x o::es) (gp (i::d))):=⟨by
 have f:=f.p
 have m:=S.nm x (mem_of_getElem? l)
 exact sf (lz (by rw[S.hN];exact l) (S.vis i x l R) m.1 m.2) f P⟩
theorem qp(S:Cp X N gl vs cs ls lo gs)(j:Nat){d:List Nat}{o:List Sh}{w:List JS->Option (List JS)}{h:Pos}(C:yy X x o w)(U:Q (PA X (e::es) (gp d)))(A:gl[j]?=some x:=by rfl)(l:gs.contains j=true:=by rfl)(R:starEach (e::es) X.env=(false,eval e X.env)::starEach es X.env:=by exact dB rfl)(J:(backTo h (starEach es X.env)).any (·.1)=false:=by rfl)(P:swapsWith (.Call (.Name x p) (e::es) [] h) none pos.line X.env=pure false:=by rfl):Q (PS X (.Expr (.Call (.Name x p) (e::es) [] h) pos) (tS X.K W (iy d o w))):=⟨T.cs_lent S j d A l C U.p R J P⟩
theorem zJ:Q (PSs X [] (tN L X.K W aD)):=⟨Cr pj λ_ _ _=>tR⟩
theorem vD{d:Stmt}{U:List Stmt}(J:Q (PS X d (tN L X.K W g1)))(S:Q (PSs X U (tN L X.K W g2))):Q (PSs X (d::U) (tN L X.K W (ax g1 g2))):=⟨have J:=J.p;have S:=S.p;Cr (lZ J S) λ_ _ _=>wN⟩
theorem vS{d:Stmt}(J:Q (PS X d (tN L X.K W g1))):Q (PSs X [d] (tN L X.K W g1)):=⟨have J:=J.p;ph J⟩
theorem zH{A B:List Stmt}(f:Q (PT X c (tT X.K W ga)))(U:Q (PSs X A (tN L X.K W g1)))(Z:Q (PSs X B (tN L X.K W g2))):Q (PS X (.If c A B pos) (tN L X.K W (bA ga g1 g2))):=⟨have f:=f.p;have U:=U.p;have Z:=Z.p;bB (y3 f U Z) λ_ _ _=>Ay⟩
theorem EO(S:Cp X N gl vs cs ls lo gs)(own:Bool)(i:Nat){K:Pos}(l:N[i]?=some x)(d:ls.contains i=true)(P:swapsWith a (some (.Name x K)) pos.line X.env=pure false)(U:Q (PE X a (tE X.K W fa)))(f:L.contains i=false:=by rfl):Q (PS X (.Assign [.Name x K] a pos) (tN L X.K W (aB own i fa))):=⟨have U:=U.p;bB (FZ (by rw[S.hN];exact S.nd) (by rw[S.hN];exact l) (S.loc i x l d).1 U P (S.loc i x l d).2) λ_ _ _=>wL λz=>by rw[List.contains_iff_mem.mpr z]at f;cases f⟩
theorem ES(S:Cp X N gl vs cs ls lo gs)(i:Nat){o K:Pos}(l:N[i]?=some x)(R:vs.contains i=true)(U:Q (PE X a (tE X.K W fa)))(Z:Q (PE X b (tE X.K W fb)))(P:swapsWithSole [.Subscript (.Name x o) b K] a pos.line X.env=pure false)(w:swappedStores [.Subscript (.Name x o) b K] a X.env=pure none)(J:(assignEach [.Subscript (.Name x o) b K] X.env).map (·.2)=[assign (.Subscript (.Name x o) b K) X.env])(has:∀v,assign (.Subscript (.Name x o) b K) X.env v=(do
   let ov <-holding [v] (eval (.Name x o) X.env)
   let iv <-holding [v,ov] (eval b X.env)
   standAt K
   holding [v,ov,iv] (setItem ov iv v)
   release [v,ov,iv] [])):Q (PS X (.Assign [.Subscript (.Name x o) b K] a pos) (tN L X.K W (cg i fa fb))):=⟨T.ns_setI S i l R U.p Z.p P w J has⟩
end
end TQ
namespace T
open PySem PySem.Spec L2
open PyProof.Rows hiding St
variable{x:Str}{h:Pos}
def o9:V->List V->Hp->VK->Prop:=λx L H Q=>∃(l:Addr)(ns:List Int)(k:Int)(j:Nat),x=.ref l/\L=[.int k]/\H l=some (.lst (ns.map V.int))/\ns[j]?=some k/\(∀m,m<j->ns[m]?≠some k)/\Q .non (bF H l (.lst ((ns.map V.int).eraseIdx j)))
theorem qX{X:Cx}:Eu X "list.remove" o9:=by
 intro G s M H x L v S Q I Y c h;obtain⟨l,O,k,j,rfl,rfl,d,A,o,q⟩:=h
 cases Y;obtain⟨u,rfl,E⟩:=c.one;obtain⟨t,rfl⟩:=E;obtain⟨z,g,n,r,N,e⟩:=I.lstM d;have hi:=EI r
 have p:g.length=O.length:=by
  have:=r.length
  rw[length_map]at this;exact this.symm
 have f:∀(m:Nat)(a:Int),O[m]?=some a->∃u,g[m]?=some (.int a u):=λm a U=>by
  have:(O.map V.int)[m]?=some (V.int a):=by rw[getElem?_map,U];rfl
  obtain⟨w,hw,R⟩:=r.get this;obtain⟨u,rfl⟩:=R
  exact⟨u,hw⟩
 have J:j<O.length:=(JN A).1
 refine call_meets F.slot_list_remove ⟨_,e,rfl⟩ F.entry_list_remove (F.args_list_remove_2 _ _)
  (MeetsSeq.list_remove l g.toArray n (.int k t) (isInt k) (λy Z=>eq_isInt k t hi y (by simpa using Z)) j (by rw[size_toArray];omega) ?_ (λm C i=>?_) (by rw[size_toArray];omega)) ⟨e,?_⟩
 .obtain⟨u,P⟩:=f j k A
  have:g[j]'(by omega)=.int k u:=by
   rw[JJ (by omega)]at P
   exact Option.some.inj P
  show isInt k (g.toArray[j]'(by rw[size_toArray];omega))=true
  rw[List.getElem_toArray,this];simp[isInt]
 .have b:m<O.length:=by omega
  obtain⟨u,P⟩:=f m (O[m]'b) (JJ b)
  have:g[m]'(by omega)=.int (O[m]'b) u:=by
   rw[JJ (by omega)]at P
   exact Option.some.inj P
  rw[List.getElem_toArray,this];have K:=o m i
  rw[JJ b]at K;have:O[m]'b≠k:=λz=>K (by rw[z])
  simp[isInt,this]
 .refine⟨.non,_,I.lset (its':=g.eraseIdx j) d e ?_ (r.eraseIdx j) ?_,rfl,q⟩
  .show g.toArray.eraseIdxIfInBounds j=(g.eraseIdx j).toArray
   rw[List.eraseIdxIfInBounds_toArray]
  .have:=Hh (O.map V.int) j
   omega
def iM(i:Nat)(q:PV)(C:Ev):OutS:=match q.d,C[i]? with
 |.int k,some (some ⟨.lst .leaf,.list ds⟩)=>(match ds[k.toNat]? with
  |some d=>if decide (0<=k)&&decide (k<1000)&&decide (ds.length<10000)then .nx (C.set i (some ⟨.lst .leaf,.list (d::ds.eraseIdx k.toNat)⟩))else .no
  |none=>.no)
 |_,_=>.no
def gr(i:Nat)(e:F1):FS:=λC=>if ik C[i]? then(match e C with
 |.ok q o=>iM i q o
 |_=>.no)else .no
theorem uL{i:Nat}{q:PV}{Γ:Ev}:iM i q Γ=.no\/∃k t d,q.d=.int k/\Γ[i]?=some (some ⟨.lst .leaf,.list t⟩)/\t[k.toNat]?=some d/\0<=k/\k<1000/\t.length<10000/\iM i q Γ=.nx (Γ.set i (some ⟨.lst .leaf,.list (d::t.eraseIdx k.toNat)⟩)):=by
 unfold iM;split
 .rename_i k t Y g
  split
  .rename_i d x
   split
   .rename_i f
    rw[Bool.and_eq_true,Bool.and_eq_true,decide_eq_true_eq,decide_eq_true_eq,decide_eq_true_eq]at f;exact .inr ⟨k,t,d,Y,g,x,f.1.1,f.1.2,f.2,rfl⟩
   .exact .inl rfl
  .exact .inl rfl
 .exact .inl rfl
theorem wm{H:Hp}{l:Addr}{a b:HO}:bF (bF H l a) l b=bF H l b:=by
 funext c
 by_cases z:c=l
 .rw[z,fT,fT]
 .rw[eA z,eA z,eA z]
section
variable{K:Fg}{W:XW}{σ:St}{H:Hp}{Q:VK}{D:cP}{fa fb:F1}{fl:FL}{L:List Nat}
abbrev tv(K:Fg)(W:XW)(i:Nat)(e:F1):TE:=oS K "list" C3 (cm i) (cV (tC (.int 0)) (cV (oS K "list" CY (cm i) (cV (tE K W e) ja)) ja))
theorem wW{i:Nat}(h:tS K W (gr i fb) D σ H):dq (tv K W i fb) D σ H:=by
 obtain⟨M,O,Z,Γ,E,h⟩:=h;unfold gr at h
 cases f:ik Γ[i]? with
 |false=>rw[f]at h;exact h.elim
 |true=>
  rw[f]at h;obtain⟨ds0,R⟩:=zL f;obtain⟨l,vs,J,S,_⟩:=E.chgF R;refine⟨.ref l,J,.inl ⟨rfl,vs,.of S⟩,.ref l,J,.inl ⟨rfl,vs,.of S⟩,M,O,Z,Γ,E,?_⟩
  cases e:fb Γ with
  |er c X=>rw[e]at h;exact h.elim
  |no=>rw[e]at h;exact h.elim
  |ok q o=>
   rw[e]at h;intro y t G I A;have w:fU K W M O D (iM i q o):=h
   clear h;have N:=A.go
   have own:=A.own
   obtain⟨s,dd⟩:=q;rcases uL (i:=i) (q:=⟨s,dd⟩) (Γ:=o)with z|⟨k,ds,d,ek,e1,ed,c1,c2,c3,z⟩
   .rw[z]at w;exact w.elim
   .rw[z]at w
    cases ek;have ey:Rep K t y (.int k):=own.rep
    cases ey;obtain⟨U,r,a1,b,a3,a,a5⟩:=N.chgF e1;rw[J]at a1
    cases a1;have v:=(JN ed).1
    have m:r[k.toNat]?=some (r[k.toNat]'(by omega)):=JJ _
    have ru:=a k.toNat _ _ m ed
    generalize r[k.toNat]'(by omega)=u at ru m
    have p:=a5 (u::r.eraseIdx k.toNat) (d::ds.eraseIdx k.toNat) (by rw[length_cons,length_cons,length_eraseIdx,length_eraseIdx,a3]) λn x d' g C=>by
     cases n with
     |zero=>cases g;cases C;exact ru
     |succ n=>
      rw[getElem?_cons_succ]at g C
      rw[List.getElem?_eraseIdx]at g C
      split at g
      .rename_i Y
       rw[if_pos Y]at C;exact a _ x d' g C
      .rename_i Y
       rw[if_neg Y]at C;exact a _ x d' g C
    have six:seqIndex? k r.length=some k.toNat:=by
     have j:¬k<0:=by omega
     have:(decide (0<=k)&&decide (k<(r.length:Int)))=true:=by rw[Bool.and_eq_true,decide_eq_true_eq,decide_eq_true_eq];omega
     simp only[seqIndex?,if_neg j,this,if_true]
    have P:(r.eraseIdx k.toNat).length<10000:=by rw[length_eraseIdx];split<;>omega
    refine⟨l,r,k,k.toNat,u,rfl,rfl,b,?_,?_,six,m,l,r.eraseIdx k.toNat,0,u,rfl,rfl,fT,Nat.zero_le _,P,?_⟩
    .have:(0:Int)<=2 ^ 63:=by decide
     omega
    .have:(1000:Int)<=2 ^ 63:=by decide
     omega
    .rw[wm]
     exact w σ _ I p
theorem tV{i:Nat}(h:tN L K W (gr i fb) D σ H):dq (tv K W i fb) D σ H:=by
 have j:=wW h
 exact uw (L:=L) (R:=λP=>tv K W i fb σ H λ_ t=>P t) j
theorem tQ{i:Nat}(h:tN L K W (dt i fb) D σ H):dq (oS K "list" CY (cm i) (cV (tE K W fb) ja)) D σ H:=
 uw (L:=L) (R:=λP=>oS K "list" CY (cm i) (cV (tE K W fb) ja) σ H λ_ t=>P t) (o4 h)
end
section
variable{X:Cx}{N gl:List Str}{vs cs ls lo gs:List Nat}{W:XW}{L:List Nat}{a b c e:Expr}{es:List Expr}{pos p:Pos}{fa fb fk:F1}{fl:FL}
theorem ns_popD(S:Cp X N gl vs cs ls lo gs)(i:Nat){d:Pos}(l:N[i]?=some x)(R:vs.contains i=true)(Z:PE X b (tE X.K W fb))(E:starEach [b] X.env=[(false,eval b X.env)])(j:attributeBase (.Name x p) "pop" X.env (eval (.Name x p) X.env)=eval (.Name x p) X.env)(f:(d.endLine==h.line)=true)(n:((backTo h (starEach [b] X.env)).all (λx=>!x.1)&&(backToKw h (keywordEach [] X.env)).all (λx=>x.1.isSome)
   && decide ([b].length+([]:List Keyword).length+(if([]:List Keyword).isEmpty then 0 else 1)<30))=true)(v:swapsWith (.Call (.Attribute (.Name x p) "pop" d) [b] [] h) none pos.line X.env=pure false):PS X (.Expr (.Call (.Attribute (.Name x p) "pop" d) [b] [] h) pos) (tN L X.K W (dt i fb)):=by
 have m:=S.nm x (mem_of_getElem? l)
 exact bB (vB (eN PySem.F.plainAttrs_list PySem.F.slot_list_pop PySem.F.type_list_pop G6 (lz (by rw[S.hN];exact l) (S.vis i x l R) m.1 m.2) (sf Z yI E) j n f E rfl) v) λ_ _ _=>tQ
theorem ns_insP(S:Cp X N gl vs cs ls lo gs)(i:Nat){H:Nat}{s z d k g:Pos}(l:N[i]?=some x)(R:vs.contains i=true)(Z:PE X b (tE X.K W fb))(E:starEach [b] X.env=[(false,eval b X.env)])(j:attributeBase (.Name x p) "pop" X.env (eval (.Name x p) X.env)=eval (.Name x p) X.env)(f:(d.endLine==h.line)=true)(n:((backTo h (starEach [b] X.env)).all (λx=>!x.1)&&(backToKw h (keywordEach [] X.env)).all (λx=>x.1.isSome)
   && decide ([b].length+([]:List Keyword).length+(if([]:List Keyword).isEmpty then 0 else 1)<30))=true)(w:starEach [.Constant (.int 0) H s,.Call (.Attribute (.Name x p) "pop" d) [b] [] h] X.env=(false,eval (.Constant (.int 0) H s) X.env)::starEach [.Call (.Attribute (.Name x p) "pop" d) [b] [] h] X.env)(u:starEach [.Call (.Attribute (.Name x p) "pop" d) [b] [] h] X.env=[(false,eval (.Call (.Attribute (.Name x p) "pop" d) [b] [] h) X.env)])(o:attributeBase (.Name x z) "insert" X.env (eval (.Name x z) X.env)=eval (.Name x z) X.env)(r:(k.endLine==g.line)=true)(t:((backTo g (starEach [.Constant (.int 0) H s,.Call (.Attribute (.Name x p) "pop" d) [b] [] h] X.env)).all (λx=>!x.1)&&(backToKw g (keywordEach [] X.env)).all (λx=>x.1.isSome)
   && decide ([Expr.Constant (.int 0) H s,.Call (.Attribute (.Name x p) "pop" d) [b] [] h].length+([]:List Keyword).length+(if([]:List Keyword).isEmpty then 0 else 1)<30))=true)(J:(backTo g (starEach [.Call (.Attribute (.Name x p) "pop" d) [b] [] h] X.env)).any (·.1)=false)(v:swapsWith (.Call (.Attribute (.Name x z) "insert" k) [.Constant (.int 0) H s,.Call (.Attribute (.Name x p) "pop" d) [b] [] h] [] g) none pos.line X.env=pure false):PS X (.Expr (.Call (.Attribute (.Name x z) "insert" k) [.Constant (.int 0) H s,.Call (.Attribute (.Name x p) "pop" d) [b] [] h] [] g) pos) (tN L X.K W (gr i fb)):=by
 have m:=S.nm x (mem_of_getElem? l)
 have y:∀q,PE X (.Name x q) (cm i):=λq=>lz (by rw[S.hN];exact l) (S.vis i x l R) m.1 m.2
 exact bB (vB (eN PySem.F.plainAttrs_list PySem.F.slot_list_insert PySem.F.type_list_insert jY (y z) (sf CU (sf (eN PySem.F.plainAttrs_list PySem.F.slot_list_pop PySem.F.type_list_pop G6 (y p) (sf Z yI E) j n f E rfl) yI u) w) o t r w J) v) λ_ _ _=>tV
end
end T
namespace TQ
open PySem PySem.Spec L2 T
open PyProof.Rows hiding St
variable{x:Str}{h:Pos}
section
variable{X:Cx}{N gl:List Str}{vs cs ls lo gs:List Nat}{W:XW}{L:List Nat}{a b c e:Expr}{es:List Expr}{pos p:Pos}{fa fb fk:F1}{fl:FL}
theorem qg(S:Cp X N gl vs cs ls lo gs)(i:Nat){d:Pos}(Z:Q (PE X b (tE X.K W fb)))(l:N[i]?=some x:=by rfl)(R:vs.contains i=true:=by rfl)(E:starEach [b] X.env=[(false,eval b X.env)]:=by exact dk rfl)(j:attributeBase (.Name x p) "pop" X.env (eval (.Name x p) X.env)=eval (.Name x p) X.env:=by rfl)(f:(d.endLine==h.line)=true:=by rfl)(n:((backTo h (starEach [b] X.env)).all (λx=>!x.1)&&(backToKw h (keywordEach [] X.env)).all (λx=>x.1.isSome)
   && decide ([b].length+([]:List Keyword).length+(if([]:List Keyword).isEmpty then 0 else 1)<30))=true:=by rfl)(v:swapsWith (.Call (.Attribute (.Name x p) "pop" d) [b] [] h) none pos.line X.env=pure false:=by rfl):Q (PS X (.Expr (.Call (.Attribute (.Name x p) "pop" d) [b] [] h) pos) (tN L X.K W (dt i fb))):=⟨T.ns_popD S i l R Z.p E j f n v⟩
theorem qh(S:Cp X N gl vs cs ls lo gs)(i:Nat){H:Nat}{s z d k g:Pos}(Z:Q (PE X b (tE X.K W fb)))(l:N[i]?=some x:=by rfl)(R:vs.contains i=true:=by rfl)(E:starEach [b] X.env=[(false,eval b X.env)]:=by exact dk rfl)(j:attributeBase (.Name x p) "pop" X.env (eval (.Name x p) X.env)=eval (.Name x p) X.env:=by rfl)(f:(d.endLine==h.line)=true:=by rfl)(n:((backTo h (starEach [b] X.env)).all (λx=>!x.1)&&(backToKw h (keywordEach [] X.env)).all (λx=>x.1.isSome)
   && decide ([b].length+([]:List Keyword).length+(if([]:List Keyword).isEmpty then 0 else 1)<30))=true:=by rfl)(w:starEach [.Constant (.int 0) H s,.Call (.Attribute (.Name x p) "pop" d) [b] [] h] X.env=(false,eval (.Constant (.int 0) H s) X.env)::starEach [.Call (.Attribute (.Name x p) "pop" d) [b] [] h] X.env:=by exact dB rfl)(u:starEach [.Call (.Attribute (.Name x p) "pop" d) [b] [] h] X.env=[(false,eval (.Call (.Attribute (.Name x p) "pop" d) [b] [] h) X.env)]:=by exact dk rfl)(o:attributeBase (.Name x z) "insert" X.env (eval (.Name x z) X.env)=eval (.Name x z) X.env:=by rfl)(r:(k.endLine==g.line)=true:=by rfl)(t:((backTo g (starEach [.Constant (.int 0) H s,.Call (.Attribute (.Name x p) "pop" d) [b] [] h] X.env)).all (λx=>!x.1)&&(backToKw g (keywordEach [] X.env)).all (λx=>x.1.isSome)
   && decide ([Expr.Constant (.int 0) H s,.Call (.Attribute (.Name x p) "pop" d) [b] [] h].length+([]:List Keyword).length+(if([]:List Keyword).isEmpty then 0 else 1)<30))=true:=by rfl)(J:(backTo g (starEach [.Call (.Attribute (.Name x p) "pop" d) [b] [] h] X.env)).any (·.1)=false:=by rfl)(v:swapsWith (.Call (.Attribute (.Name x z) "insert" k) [.Constant (.int 0) H s,.Call (.Attribute (.Name x p) "pop" d) [b] [] h] [] g) none pos.line X.env=pure false:=by rfl):Q (PS X (.Expr (.Call (.Attribute (.Name x z) "insert" k) [.Constant (.int 0) H s,.Call (.Attribute (.Name x p) "pop" d) [b] [] h] [] g) pos) (tN L X.K W (gr i fb))):=⟨T.ns_insP S i l R Z.p E j f n w u o r t J v⟩
end
end TQ
namespace T
open PySem PySem.Spec L2
open PyProof.Rows hiding St
def mM(M:F1):F1:=aW M λp C=>match p.d with
 |.list t=>if cS p t then .ok ⟨.lst .leaf,.list t.reverse⟩ C else .no
 |_=>.no
theorem A6{X:Cx}{a:Expr}{f:TE}{j:Nat}{e z d pos:Pos}(U:PE X a f):PE X (.Subscript a (.Slice none none (some (.UnaryOp .USub (.Constant (.int 1) j e) d)) z) pos) (λM H Q=>f M H λx n=>∃b Y,x=.ref b/\SqL X.K n b Y/\∀p,n p=none->Q (.ref p) (bF n p (.lst Y.reverse))):=by
 intro G s M H Q I h;refine Subscript_ (bM (U G s M H _ I h) λv y ⟨x,n,I1,r1,b,Y,ex,hx,q⟩=>?_)
 subst ex
 cases r1;have part:=pk (X:=X) (DT (a:=.Constant (.int 1) j e) (pos:=d) zS CU)
 refine wpAny_Slice ?_
 rw[evalPart_none];refine JP (JP (bM (part G y M n (λl A=>l=some (-1)/\A=n) I1 ⟨1,rfl,-1,rfl,rfl,rfl⟩) λL N ⟨l,A,I2,pl,el,eH⟩=>?_))
 subst el eH;obtain⟨g,r,u,P⟩:=I2.list hx;have C:=r.length
 have c:Inv X G M A {N with heap:=N.heap.push {cls:=.type "slice",data:=.fields #[.none,.none,L]} }:=I2.kept (t':=N.toks) λb K q=>JQ _ q
 obtain⟨g,r,u,P⟩:=c.list hx;refine tail_any (ops:=[.ref b,.ref N.heap.objs.size]) u.isList.typeIs slot_list_getitem.lookup ?_ (by with_unfolding_all rfl)
 refine wpAny_getItem_list_slice u.isList (Heap.IsSliceOf.new ..) .none .none pl (by simp) ?_ (by rw[size_toArray,<-r.length];exact P)
 rw[PySem.W.krv_pick];refine⟨.ref _,_,c.laid (t':=N.toks) (o:=.lst Y.reverse) (λb K q=>JQ _ q) (JR _) ?_,rfl,q _ (c.hok.fresh (JR _))⟩
 exact⟨by rw[length_reverse];exact P,_,0,r.reverse,Heap.get?_push_size _ rfl⟩
section
variable{K:Fg}{W:XW}{σ:St}{H:Hp}{Q:VK}{D:cP}{fa fb fk:F1}{g:FS}{L:List Nat}{fl:FL}
theorem Aq(h:tE K W (mM fa) σ H Q):tE K W fa σ H λx n=>∃b Y,x=.ref b/\SqL K n b Y/\∀p,n p=none->Q (.ref p) (bF n p (.lst Y.reverse)):=by
 refine vO h λM O Z I p v n G a X A w=>?_
 obtain⟨s,d⟩:=p
 cases d with
 |list t=>
  have w:Wants K W M O Z H σ Q (if cS ⟨s,.list t⟩ t then .ok ⟨.lst .leaf,.list t.reverse⟩ I else .no):=w
  cases f:cS ⟨s,.list t⟩ t with
  |false=>rw[f]at w;exact w.elim
  |true=>
   rw[f]at w;obtain⟨p,e,rfl,k,_,m⟩:=A.own.items (O':=O++a.flatten) f gO A.disj
   refine⟨p,e,rfl,k,λl N=>w _ _ _ _ (Dd A.go A.same A.newF ⟨by rw[length_reverse,length_reverse];exact m.1,λi u d c R=>?_⟩ N)⟩
   have J:=(JN c).1
   rw[length_reverse]at J;rw[List.getElem?_reverse J]at c;rw[List.getElem?_reverse (by rw[<-m.1];exact J)]at R
   rw[<-m.1]at R;exact m.2 _ u d c R
 |_=>exact w.elim
def Aj(i:Nat)(p:PV)(C:Ev):OutS:=match C[i]?,p.d with
 |some (some ⟨.lst .leaf,.list es⟩),.int z=>(match intsOf es with
  |some y=>if decide (y.idxOf z<y.length)then .nx (C.set i (some ⟨.lst .leaf,.list (es.eraseIdx (y.idxOf z))⟩))else .no
  |none=>.no)
 |_,_=>.no
def fz(i:Nat)(M:F1):FS:=λC=>if ik C[i]? then eX M (Aj i) C else .no
theorem wO{i:Nat}(h:tS K W (fz i fa) D σ H):dq (oS K "list" o9 (cm i) (tA K W (ae fa ah))) D σ H:=by
 obtain⟨M,O,Z,C,E,h⟩:=h;unfold fz at h
 cases ho:ik C[i]? with
 |false=>rw[ho]at h;exact h.elim
 |true=>
  rw[ho]at h;obtain⟨r,e0⟩:=zL ho;obtain⟨l,vs,J,S,_⟩:=E.chgF e0;refine⟨.ref l,J,.inl ⟨rfl,vs,.of S⟩,EE (dO (D:=D) ⟨M,O,Z,C,E,h⟩ λM O Z I p v n G N _ X A w=>?_)⟩
  unfold Aj at w;split at w
  .rename_i U z e1 ez
   split at w
   .rename_i y R
    cases f:decide (y.idxOf z<y.length)with
    |false=>rw[f]at w;exact w.elim
    |true=>
     rw[f]at w;have hlt:=of_decide_eq_true f
     obtain⟨l1,a,o,k,q3,c,q⟩:=A.env.dropL.chgF e1;rw[J]at o
     cases o;have rz:=A.own.rep
     rw[ez]at rz
     cases rz;have s:a=y.map V.int:=qG (K:=K) (H:=bV n (O++N.flatten)) (by rw[<-Hf R];exact⟨q3,c⟩)
     subst s;have w:∀t Y Fs',EnvOk K M O Fs' Y t (I.set i (some ⟨.lst .leaf,.list (U.eraseIdx (y.idxOf z))⟩))->D.nx t Y:=w
     refine⟨l,y,z,y.idxOf z,rfl,rfl,k,?_,λm hm e=>?_,w _ _ _ (q _ _ ?_ λj u d P b=>?_)⟩
     .rw[JJ hlt,List.getElem_idxOf hlt]
     .have x:m<y.length:=by omega
      rw[JJ x]at e;injection e with e
      have:=List.not_of_lt_findIdx (p:=(·==z)) (xs:=y) (i:=m) hm
      simp[e]at this
     .rw[length_eraseIdx,length_eraseIdx,q3]
     .rw[List.getElem?_eraseIdx]at P b
      split at P
      .rename_i hj
       rw[if_pos hj]at b;exact c _ u d P b
      .rename_i hj
       rw[if_neg hj]at b;exact c _ u d P b
   .exact w.elim
  .exact w.elim
def gu(i:Nat)(g:FS):FS:=λC=>match C[i]? with
 |some (some ⟨.lst (.lst .leaf),d⟩)=>g (C.set i (some ⟨.lst .leaf,d⟩))
 |_=>.no
theorem w6{i:Nat}(h:tS K W (gu i g) D σ H):tS K W g D σ H:=by
 obtain⟨M,O,s,C,E,h⟩:=h;have h:fU K W M O D (gu i g C):=h
 unfold gu at h;split at h
 .rename_i d Y
  obtain⟨R,v,F,J,x,e,n⟩:=E.move Y;have l:i<C.length:=(JN Y).1
  have f:=E.fresh
  cases e with
  |@lst _ p vs ds Fs0 hsv hp hl hf nd q=>
   have r:=x.nd
   rw[append_assoc]at r;obtain⟨t,k,m⟩:=JM r;have S:EnvOk K M ([p]++O) (s.set i []) H σ (C.set i none):=x.drop (λa U=>by
    rcases JH U with z|z
    .rw[List.mem_singleton.mp z];exact JG _ mem_cons_self
    .exact JF _ z) (List.nodup_append.mpr ⟨by simp,(JM x.ndO).2.1,λa U b Z=>(JM x.ndO).2.2 a (by rw[List.mem_singleton.mp U];exact mem_cons_self) b Z⟩)
   have own:Own K ([p]++O++(s.set i []).flatten) H (.lst .leaf) [p] (.ref p) (.list ds):=Own.mkLeaves hp hl λj u d P o=>by
    have A:j<ds.length:=(JN o).1
    have w:Fs0[j]?=some (Fs0[j]'(by omega)):=JJ _
    refine(q j u d _ P o w).freeze hsv (λa U=>?_) λa U z=>?_
    .rw[append_assoc]at U ⊢
     rcases JH U with y|y
     .rw[List.mem_singleton.mp y];exact JG _ mem_cons_self
     .exact JF _ y
    .rw[append_assoc]at z
     have c:a∈Fs0.flatten:=gh w U
     rcases JH z with y|y
     .rw[List.mem_singleton.mp y]at c
      exact(List.nodup_cons.mp nd).1 c
     .exact m a (JL _ c) a y rfl
   have N:=EnvOk.put (G:=[p]) (i:=i) (p:=⟨.lst .leaf,.list ds⟩) (v:=.ref p) S own rfl (λa U=>by rw[List.mem_singleton.mp U];exact f p (n p (JG _ mem_cons_self))) (by rw[length_set];exact l)
   rw[set_set,set_set,sI J]at N;exact⟨M,O,_,_,N,h⟩
 .exact h.elim
def ED(i:Nat)(p q r:PV)(C:Ev):OutS:=match C[i]? with
 |some (some ⟨.lst (.lst .leaf),.list ds⟩)=>(match q.d,r.d with
  |.int k,.int z=>(match dg ds.length k with
   |some j=>(match ds[j]? with
    |some (.list es)=>(match dg es.length z with
     |some m=>if aV p.d then .nx (C.set i (some ⟨.lst (.lst .leaf),.list (ds.set j (.list (es.set m p.d)))⟩))else .no
     |none=>.no)
    |_=>.no)
   |none=>.no)
  |_,_=>.no)
 |_=>.no
def yK(i:Nat)(M a e:F1):FS:=λC=>match M C with
 |.ok p I=>(match a I with
  |.ok q o=>(match e o with
   |.ok r G=>if yO I[i]?&&jk i q o then ED i p q r G else .no
   |_=>.no)
  |_=>.no)
 |_=>.no
theorem tO{i:Nat}(h:tS K W (yK i fa fk fb) D σ H):gN (tE K W fa) (L2.gSub (qx (AL K) (cm i) (tE K W fk)) (tE K W fb) jT) D σ H:=by
 obtain⟨M,O,Z,C,E,h⟩:=h;have h:fU K W M O D (yK i fa fk fb C):=h
 unfold yK at h;refine⟨M,O,Z,C,E,?_⟩
 cases e1:fa C with
 |no=>rw[e1]at h;exact h
 |er c X=>rw[e1]at h;exact h.elim
 |ok p I=>
  rw[e1]at h;dsimp only at h;intro v H1 G1 N A1
  cases R:fk I with
  |no=>rw[R]at h;exact h.elim
  |er c X=>rw[R]at h;exact h.elim
  |ok q o=>
   rw[R]at h;dsimp only at h
   cases w:fb o with
   |no=>rw[w]at h;exact h.elim
   |er c X=>rw[w]at h;exact h.elim
   |ok r G=>
    rw[w]at h;dsimp only at h
    cases f:(yO I[i]?&&jk i q o)with
    |false=>rw[f]at h;exact h.elim
    |true=>
     rw[f]at h;have h:fU K W M O D (ED i p q r G):=h
     rw[Bool.and_eq_true]at f;obtain⟨ds1,e⟩:=iJ f.1;have x:=A1.env.dropL
     obtain⟨_,v0,F0,s0,_,_⟩:=x.slot i _ e;refine⟨v0,s0,M,O,N,I,x,?_⟩
     rw[R];intro u A G2 Fs2 A2;obtain⟨t,k,j,U,x1,ek,ej,ee⟩:=pD f.2;have S:=A2.env.dropL
     obtain⟨l,vs,m,ws,q1,q2,q3,q4,q5,q6,q7,q8⟩:=S.chg2 x1 ee;rw[s0]at q1
     cases q1;have hu:=A2.own.rep
     rw[ek]at hu
     cases hu;have hat:dU vs k=some (.ref m):=by unfold dU;rw[q3,ej];exact q4
     refine .inl ⟨l,vs,k,.ref m,rfl,rfl,.of q2,hat,M,O,Fs2,o,S,?_⟩
     rw[w];intro y H3 G3 Fs3 A3;have E3:=A3.env.dropL
     unfold ED at h;split at h
     .rename_i ds3 x3
      rw[ek]at h;split at h
      .rename_i k' z ek' ez
       cases ek'
       split at h
       .rename_i j3 ej3
        split at h
        .rename_i es3 ee3
         split at h
         .rename_i s em3
          cases P:aV p.d with
          |false=>rw[P]at h;exact h.elim
          |true=>
           rw[P]at h;have h:∀σ' Y Fs',EnvOk K M O Fs' Y σ' (G.set i (some ⟨.lst (.lst .leaf),.list (ds3.set j3 (.list (es3.set s p.d)))⟩))->D.nx σ' Y:=h
           obtain⟨l3,vs3,n3,ws3,J,r2,r3,r4,r5,r6,r7,r8⟩:=E3.chg2 x3 ee3;rw[s0]at J
           cases J;have x2:H3 l=some (.lst vs):=A3.same _ _ q2
           rw[x2]at r2
           cases r2;have y2:dU vs k=some (.ref n3):=by unfold dU;rw[r3,ej3];exact r4
           rw[hat]at y2
           cases y2;have hy:=A3.own.rep
           rw[ez]at hy
           cases hy;have sv:=(A1.own.rep).sc P
           refine⟨m,ws3,z,s,rfl,rfl,r5,by rw[r6];exact em3,h _ _ _ (r8 (ws3.set s v) (es3.set s p.d) (by rw[length_set,length_set];exact r6) λn a d a1 b=>?_)⟩
           by_cases hn:s=n
           .subst hn
            have b1:=(JN a1).1
            rw[length_set]at b1;rw[getElem?_set_self b1]at a1;rw[getElem?_set_self (by omega)]at b
            cases a1
            cases b;exact sv.rep
           .rw[getElem?_set_ne hn]at a1 b
            exact r7 n a d a1 b
         .exact h.elim
        .exact h.elim
       .exact h.elim
      .exact h.elim
     .exact h.elim
def uU(i j:Nat)(g:FS):Nat->Nat->Ev->OutS
 |0,_,_=>.no
 |f+1,n,Γ=>match Γ[i]? with
  |some (some ⟨.lst .leaf,.list ds⟩)=>(match ds[n]? with
   |none=>.nx Γ
   |some d=>if j<Γ.length then(match g (Γ.set j (JT d))with
    |.nx X=>uU i j g f (n+1) X
    |_=>.no)else .no)
  |_=>.no
def oX(i j:Nat)(g:FS):FS:=uU i j g 1000 0
theorem w9{i j:Nat}(hij:i≠j)(h:tS K W (oX i j g) D σ H):Aa (uN K (cm i)) (L2.gName j) (tN [i] K W g) D σ H:=by
 obtain⟨M,O,Z,C,E,h⟩:=h;have h:fU K W M O D (uU i j g 1000 0 C):=h
 have own:∀{f n:Nat}{X:Ev},fU K W M O D (uU i j g f n X)->∃f' t,f=f'+1/\X[i]?=some (some ⟨.lst .leaf,.list t⟩):=λ{f n X} w=>by
  cases f with
  |zero=>exact w.elim
  |succ f=>
   rw[uU]at w;split at w
   .rename_i t e;exact⟨f,t,rfl,e⟩
   .exact w.elim
 obtain⟨_,r,_,e0⟩:=own h;obtain⟨l,vs0,s0,b,_⟩:=E.chgF e0;refine⟨.ref l,s0,l,rfl,⟨vs0,.of b⟩,?_⟩
 refine⟨λn m σ' Y=>σ'[i]?=some (some (.ref l))/\∃u X,EnvOk K M O u Y σ' X/\fU K W M O D (uU i j g m n X),⟨1000,s0,Z,C,E,h⟩,?_⟩
 rintro n m σ' Y ⟨gi,u,X,E',w⟩
 obtain⟨f,t,rfl,ei⟩:=own w;obtain⟨l',vs,s1,N,hlen,s,_⟩:=E'.chgF ei
 rw[gi]at s1
 cases s1;rw[uU,ei]at w;dsimp only at w
 cases ed:t[n]? with
 |none=>
  rw[ed]at w;refine .inl ⟨⟨vs,.of N,?_⟩,w σ' Y u E'⟩
  have:=List.getElem?_eq_none_iff.mp ed
  omega
 |some d=>
  rw[ed]at w;dsimp only at w;have hn:n<t.length:=(JN ed).1
  have R:vs[n]?=some (vs[n]'(by omega)):=JJ _
  refine .inr ⟨⟨vs,vs[n]'(by omega),.of N,R⟩,λP H2=>∃q,q<f+1/\(P[i]?=some (some (.ref l))/\∃u X,EnvOk K M O u H2 P X/\fU K W M O D (uU i j g q (n+1) X)),λP H2 z=>z,λx H2 y=>?_⟩
  obtain⟨eH,y⟩:=y;subst eH;have ex:=y vs (.of N)
  rw[R]at ex
  cases ex;by_cases A:j<X.length
  .rw[if_pos A]at w
   have S:=EnvOk.put (G:=[]) (O:=O) (i:=j) (p:=⟨.leaf,d⟩) (v:=vs[n]'(by omega)) (by rw[nil_append];exact E') (.leaf (by rw[nil_append];exact s n _ d R ed)) rfl (λa U=>by simp at U) A
   refine⟨M,O,_,_,S,?_⟩
   cases k:g (X.set j (JT d))with
   |nx o=>
    rw[k]at w;intro P H3 I E3 J;refine⟨f,Nat.lt_succ_self f,?_,I,o,E3,w⟩
    rw[J i (List.mem_singleton.mpr rfl),getElem?_set_ne (Ne.symm hij)];exact gi
   |bk o=>rw[k]at w;exact w.elim
   |ct o=>rw[k]at w;exact w.elim
   |rt p=>rw[k]at w;exact w.elim
   |er c o=>rw[k]at w;exact w.elim
   |no=>rw[k]at w;exact w.elim
  .rw[if_neg A]at w
   exact w.elim
theorem wX{i:Nat}(h:tN L K W (nR i fl) D σ H):dq (oS K "list" C3 (cm i) (tA K W fl)) D σ H:=
 uw (L:=L) (R:=λP=>oS K "list" C3 (cm i) (tA K W fl) σ H λ_ t=>P t) (Ax h)
theorem tJ{i j:Nat}(l:i∉L)(A:j∉L)(h:tN L K W (cI [i,j] fa) D σ H):gN (tE K W fa) (uX K 2 (EA [i,j])) D σ H:=by
 have h:=Gg h
 refine oR h λv n q=>?_
 obtain⟨a,Y,d,R,w,c,J,f,o,C,b,e,q⟩:=q;exact⟨a,Y,d,R,w,c,J,f,o,C,b,e,q λk O=>by rw[getElem?_set_ne (λz:j=k=>A (by rw[z];exact O)),getElem?_set_ne (λz:i=k=>l (by rw[z];exact O))]⟩
end
end T
namespace TQ
open PySem PySem.Spec L2 T
open PyProof.Rows hiding St
variable{x y:Str}{h o I:Pos}
section
variable{X:Cx}{N gl:List Str}{vs cs ls lo gs L:List Nat}{W:XW}{a b k:Expr}{es:List Expr}{pos p:Pos}{fl:FL}{fa fb fk:F1}{g:FS}
theorem sY{j:Nat}{P z d:Pos}(U:Q (PE X a (tE X.K W fa))):Q (PE X (.Subscript a (.Slice none none (some (.UnaryOp .USub (.Constant (.int 1) j P) d)) z) pos) (tE X.K W (mM fa))):=⟨aZ (A6 U.p) λ_ _ _=>Aq⟩
theorem jH(S:Cp X N gl vs cs ls lo gs)(i:Nat){d:Pos}(U:Q (PE X a (tE X.K W fa)))(l:N[i]?=some x:=by rfl)(R:vs.contains i=true:=by rfl)(P:starEach [a] X.env=[(false,eval a X.env)]:=by exact dk rfl)(j:attributeBase (.Name x p) "remove" X.env (eval (.Name x p) X.env)=eval (.Name x p) X.env:=by rfl)(f:(d.endLine==h.line)=true:=by rfl)(n:((backTo h (starEach [a] X.env)).all (λx=>!x.1)&&(backToKw h (keywordEach [] X.env)).all (λx=>x.1.isSome)
   && decide ([a].length+([]:List Keyword).length+(if([]:List Keyword).isEmpty then 0 else 1)<30))=true:=by rfl)(v:swapsWith (.Call (.Attribute (.Name x p) "remove" d) [a] [] h) none pos.line X.env=pure false:=by rfl):Q (PS X (.Expr (.Call (.Attribute (.Name x p) "remove" d) [a] [] h) pos) (tS X.K W (fz i fa))):=⟨bB (vB (eN PySem.F.plainAttrs_list PySem.F.slot_list_remove PySem.F.type_list_remove qX (lz (by rw[S.hN];exact l) (S.vis i x l R) (S.nm x (mem_of_getElem? l)).1 (S.nm x (mem_of_getElem? l)).2) (da_cons U.p da_nil P) j n f P rfl) v) λ_ _ _=>wO⟩
theorem jI(i:Nat){d:List Stmt}(h:Q (PSs X d (tS X.K W g))):Q (PSs X d (tS X.K W (gu i g))):=⟨Cr h.p λ_ _ _=>w6⟩
theorem qq(S:Cp X N gl vs cs ls lo gs)(i j:Nat){w:List Stmt}(f:PassesOwn (model X.prog X.w) X.A X.env X.xe)(Z:Q (PSs X w (tN [i] X.K W g)))(A:N[i]?=some x:=by rfl)(R:vs.contains i=true:=by rfl)(d:N[j]?=some y:=by rfl)(e:ls.contains j=true:=by rfl)(c:(i==j)=false:=by rfl)(P:∀z,foldedSetIterable (.Name x o) X.env z=pure z:=by exact λ_=>rfl):Q (PS X (.For (.Name y I) (.Name x o) w [] pos) (tS X.K W (oX i j g))):=⟨bB (uh f S.calm (pw (lz (by rw[S.hN];exact A) (S.vis i x A R) (S.nm x (mem_of_getElem? A)).1 (S.nm x (mem_of_getElem? A)).2)) (nq (by rw[S.hN];exact S.nd) (by rw[S.hN];exact d) (S.loc j y d e).1 (S.loc j y d e).2) Z.p P) λ_ _ _=>w9 (by simpa using c)⟩
theorem sQ(S:Cp X N gl vs cs ls lo gs)(i:Nat){d:Pos}(U:Q (PA X [a,b] (tA X.K W fl)))(l:N[i]?=some x:=by rfl)(R:vs.contains i=true:=by rfl)(P:starEach [a,b] X.env=(false,eval a X.env)::starEach [b] X.env:=by exact dB rfl)(j:attributeBase (.Name x p) "insert" X.env (eval (.Name x p) X.env)=eval (.Name x p) X.env:=by rfl)(f:(d.endLine==h.line)=true:=by rfl)(n:((backTo h (starEach [a,b] X.env)).all (λx=>!x.1)&&(backToKw h (keywordEach [] X.env)).all (λx=>x.1.isSome)
   && decide ([a,b].length+([]:List Keyword).length+(if([]:List Keyword).isEmpty then 0 else 1)<30))=true:=by rfl)(J:(backTo h (starEach [b] X.env)).any (·.1)=false:=by rfl)(v:swapsWith (.Call (.Attribute (.Name x p) "insert" d) [a,b] [] h) none pos.line X.env=pure false:=by rfl):Q (PS X (.Expr (.Call (.Attribute (.Name x p) "insert" d) [a,b] [] h) pos) (tN L X.K W (nR i fl))):=⟨bB (vB (eN PySem.F.plainAttrs_list PySem.F.slot_list_insert PySem.F.type_list_insert jY (lz (by rw[S.hN];exact l) (S.vis i x l R) (S.nm x (mem_of_getElem? l)).1 (S.nm x (mem_of_getElem? l)).2) U.p j n f P J) v) λ_ _ _=>wX⟩
theorem qf(S:Cp X N gl vs cs ls lo gs)(i j:Nat){pt:Pos}{r:Nat}(U:Q (PE X a (tE X.K W fa)))(l:N[i]?=some x:=by rfl)(A:N[j]?=some y:=by rfl)(d:ls.contains i=true:=by rfl)(f:ls.contains j=true:=by rfl)(c:L.contains i=false:=by rfl)(e:L.contains j=false:=by rfl)(P:swapsWithSole [.Tuple [.Name x o,.Name y I] r pt] a pos.line X.env=pure false:=by rfl)(w:swappedStores [.Tuple [.Name x o,.Name y I] r pt] a X.env=pure none:=by rfl):Q (PS X (.Assign [.Tuple [.Name x o,.Name y I] r pt] a pos) (tN L X.K W (cI [i,j] fa))):=⟨bB (zB U.p (CV S.calm (sg (nq (by rw[S.hN];exact S.nd) (by rw[S.hN];exact l) (S.loc i x l d).1 (S.loc i x l d).2) (sg (nq (by rw[S.hN];exact S.nd) (by rw[S.hN];exact A) (S.loc j y A f).1 (S.loc j y A f).2) C7))) P w) λ_ _ _=>tJ (by simpa using c) (by simpa using e)⟩
theorem nH(S:Cp X N gl vs cs ls lo gs)(i:Nat){K r:Pos}(O:Q (PE X k (tE X.K W fk)))(U:Q (PE X a (tE X.K W fa)))(Z:Q (PE X b (tE X.K W fb)))(has:∀v,assign (.Subscript (.Subscript (.Name x o) k r) b K) X.env v=(do
   let ov <-holding [v] (eval (.Subscript (.Name x o) k r) X.env)
   let iv <-holding [v,ov] (eval b X.env)
   standAt K
   holding [v,ov,iv] (setItem ov iv v)
   release [v,ov,iv] []))(l:N[i]?=some x:=by rfl)(R:vs.contains i=true:=by rfl)(A:sD k:=by exact λ_ _=>rfl)(P:swapsWithSole [.Subscript (.Subscript (.Name x o) k r) b K] a pos.line X.env=pure false:=by rfl)(w:swappedStores [.Subscript (.Subscript (.Name x o) k r) b K] a X.env=pure none:=by rfl)(J:(assignEach [.Subscript (.Subscript (.Name x o) k r) b K] X.env).map (·.2)=[assign (.Subscript (.Subscript (.Name x o) k r) b K) X.env]:=by rfl):Q (PS X (.Assign [.Subscript (.Subscript (.Name x o) k r) b K] a pos) (tS X.K W (yK i fa fk fb))):=by
 have m:=S.nm x (mem_of_getElem? l)
 exact⟨bB (zB U.p (FX (jV Cv (lz (by rw[S.hN];exact l) (S.vis i x l R) m.1 m.2) O.p A) Z.p GE has) P w J) λ_ _ _=>tO⟩
end
end TQ
namespace KQ.F.B
open PySem PySem.Spec L2 T
open PyProof.Rows hiding St
open KC KQ KQ.F
noncomputable def hJ:FS:=(ax (aB true 3 (aH .leaf ah))
  (ax (aB true 4 (lh (aa 1)))
  (ax (aB false 5 (yB 3 cu (ae (aa 0) (ae (aa 4) (ae (aa 2) ah)))))
  (ax (zC 1000 (aG aj (az (bq true) (aa 5) (eK .none)))
  (ax (fS 3 (aa 5))
  (ax (aB true 4 (aw .leaf 6 (aF (aa 4)) (aG aj (az (bw true) (aa 6) (aq (aa 5) (eK (.int 0))))) (aa 6)))
  (aB false 5 (yB 3 cu (ae (aa 0) (ae (aa 4) (ae (aa 2) ah))))))))
  (aN (cG (ae (bh 3) (ae (bh 4) ah))))))))
noncomputable def bY:List JS->Res:=aU 7 hJ
noncomputable def kS:FS:=(ax (dQ (ar 3 bS (ae (aa 0) (ae (aa 1) (ae (aa 2) ah)))))
  (ax (aB true 3 (ar 3 bY (ae (aa 0) (ae (aa 1) (ae (aa 2) ah)))))
  (aN (BW 3 (aw (.lst .leaf) 4 (aF (aa 2)) aR (ar 3 aY (ae (aa 0) (ae (aq (aa 3) (eK (.int 1))) (ae (aa 4) ah)))))))))
noncomputable def dE:List JS->Res:=aU 5 kS
noncomputable def ia:FS:=(ax (aB false 3 (az bN (ar 3 ai (ae (aa 1) (ae (eK (.int 1)) (ae (eK (.int 60)) ah)))) (bc aI (ae (aa 0) ah))))
  (ax (cI [6,7] (gH 0 (aa 3)))
  (ax (aB false 4 (az gSub (az bN (ar 3 ai (ae (aa 1) (ae (eK (.int 2)) (ae (eK (.int 24)) ah)))) (az ba (aa 2) (eK (.int 2)))) (eK (.int 1))))
  (ax (aB false 5 (ar 3 ai (ae (aa 1) (ae (eK (.int 0)) (ae (eK (.int 7)) ah)))))
  (ax (bA (aG aj (az bP (aa 5) (eK (.int 0)))) (dt 0 (aa 3)) aD)
  (ax (bA (aG aj (az bP (aa 5) (eK (.int 1)))) (nR 0 (ae (az bN (ar 3 ai (ae (aa 1) (ae (eK (.int 3)) (ae (eK (.int 60)) ah)))) (az ba (bc aI (ae (aa 0) ah)) (eK (.int 1)))) (ae (cG (ae (lh (aa 6)) (ae (aa 7) ah))) ah))) aD)
  (ax (bA (aG aj (az bP (aa 5) (eK (.int 2)))) (gr 0 (aa 3)) aD)
  (ax (bA (aG aj (az bP (aa 5) (eK (.int 3)))) (cg 0 (cG (ae (yC (ae (eJ (aa 6) (aH .leaf (ae (aa 4) ah))) ah)) (ae (aa 7) ah))) (aa 3)) aD)
  (ax (bA (aG aj (az bP (aa 5) (eK (.int 4)))) (cg 0 (cG (ae (aw .leaf 8 (aF (aa 6)) (aG aj (az cO (aa 8) (aa 4))) (aa 8)) (ae (aa 7) ah))) (aa 3)) aD)
  (ax (bA (aG aj (az bP (aa 5) (eK (.int 5)))) (cg 0 (cG (ae (aa 6) (ae (aq (aH .leaf (ae (eK .none) (ae (eK (.str "a")) (ae (eK (.str "b")) (ae (eK (.str "c")) (ae (eK (.str "f")) (ae (eK (.str "ab")) ah))))))) (ar 3 ai (ae (aa 1) (ae (eK (.int 3)) (ae (eK (.int 6)) ah))))) ah))) (aa 3)) aD)
  (bA (aG aj (az bP (aa 5) (eK (.int 6)))) (cg 0 (cG (ae (mM (aa 6)) (ae (aa 7) ah))) (aa 3)) aD)))))))))))
noncomputable def bH:List JS->Option (List JS):=rL 9 [.lst .leaf,.leaf,.leaf] ia
noncomputable def mW:FS:=(ax (qD 5 6 7 (bh 0))
  (ax (aB false 3 (ar 3 ai (ae (aa 1) (ae (eK (.int 4)) (ae (eK (.int 8)) ah)))))
  (ax (aB false 4 (az bN (ar 3 ai (ae (aa 1) (ae (eK (.int 5)) (ae (eK (.int 24)) ah)))) (aa 2)))
  (ax (bA (bK (aG aj (az gG (aa 3) (eK (.int 3)))) (aG aj (az dS (bc aI (ae (aa 5) ah)) (eK (.int 0))))) (iy [5,1,2] [.lst .leaf,.leaf,.leaf] bH) aD)
  (ax (bA (bK (aG aj (az bP (aa 3) (eK (.int 3)))) (aG aj (az (bw false) (aa 4) (aa 6)))) (fz 6 (aa 4)) (bA (aG aj (az bP (aa 3) (eK (.int 3)))) (aB true 6 (yC (ae (eJ (bh 6) (aH .leaf (ae (aa 4) ah))) ah))) aD))
  (ax (bA (bK (aG aj (az bP (aa 3) (eK (.int 4)))) (aG aj (az dS (bc aI (ae (aa 7) ah)) (eK (.int 0))))) (ax (aB false 8 (aq (aH .leaf (ae (eK .none) (ae (az gSub (ar 3 ai (ae (aa 1) (ae (eK (.int 7)) (ae (eK (.int 9)) ah)))) (eK (.int 2))) ah))) (az bN (az bN (ar 3 ai (ae (aa 1) (ae (eK (.int 8)) (ae (eK (.int 4)) ah)))) (eK (.int 3))) (eK (.int 2)))))
  (yK 7 (aa 8) (az bN (ar 3 ai (ae (aa 1) (ae (eK (.int 6)) (ae (eK (.int 3)) ah)))) (bc aI (ae (aa 7) ah))) (aa 4))) aD)
  (ax (bA (bK (aG aj (az bP (aa 3) (eK (.int 5)))) (aG aj (az dS (bc aI (ae (aa 7) ah)) (eK (.int 0))))) (gu 7 (dt 7 (az bN (ar 3 ai (ae (aa 1) (ae (eK (.int 6)) (ae (eK (.int 3)) ah)))) (bc aI (ae (aa 7) ah))))) aD)
  (ax (bA (aG aj (az bP (aa 3) (eK (.int 6)))) (gu 7 (fS 7 (aq (aH .leaf (ae (aH .leaf ah) (ae (fZ (aH .leaf (ae (eK .none) ah)) (aa 2)) (ae (fZ (aH .leaf (ae (eK (.int 0)) ah)) (aa 2)) ah)))) (ar 3 ai (ae (aa 1) (ae (eK (.int 6)) (ae (eK (.int 3)) ah))))))) aD)
  (ax (bA (bK (aG aj (az bP (aa 3) (eK (.int 7)))) (aG aj (az dS (bc aI (ae (aa 7) ah)) (eK (.int 0))))) (yJ 7 (eK (.int 0)) (aq (aH .leaf (ae (eK .none) (ae (eK (.int 1)) ah))) (ar 3 ai (ae (aa 1) (ae (eK (.int 6)) (ae (eK (.int 2)) ah)))))) aD)
  (aN (cG (ae (bh 5) (ae (bh 6) (ae (bh 7) ah))))))))))))))
noncomputable def cX:List JS->Res:=rK 9 [.tup [.lst .leaf,.lst .leaf,.lst (.lst .leaf)],.leaf,.leaf] mW
noncomputable def jz:FS:=(ax (aB true 3 (aw .leaf 5 (i5 (ae (bc aI (ae (aq (aa 0) (eK (.int 0))) ah)) ah)) aR (vJ (bK (aG aj (az (bw false) (aa 5) (aa 1))) (aG aj (az (bw false) (aa 2) (aq (aq (aa 0) (eK (.int 1))) (aa 5))))) (eK (.int 0)) (eK .none))))
  (ax (cM 4 (vI (ae (eK (.int 1)) (ae (az ba (bc aI (ae (aa 3) ah)) (eK (.int 1))) ah)))
  (cM 5 (aF (aa 1))
  (ax (aB false 6 (aw .leaf 7 (aF (aq (aq (aa 0) (eK (.int 2))) (aa 5))) (bK (aG aj (az (bw false) (aa 7) (aa 1))) (aG aj (az bP (aq (aa 3) (aa 7)) (az gSub (aa 4) (eK (.int 1)))))) (aa 7)))
  (bA (bK (aG aj (az (bq false) (aq (aa 3) (aa 5)) (eK .none))) (aG aj (az cO (aa 6) (aH .leaf ah)))) (cg 3 (aa 4) (aa 5)) aD))))
  (aN (bh 3))))
noncomputable def bJ:List JS->Res:=aU 8 jz
noncomputable def jy:FS:=(ax (aB true 5 (u9 (λk=>(none,some k)) (aq (aa 2) (eK (.int 0))) (az bN (ar 3 ai (ae (aa 4) (ae (eK (.int 0)) (ae (eK (.int 24)) ah)))) (az ba (bc aI (ae (aq (aa 2) (eK (.int 0))) ah)) (eK (.int 1))))))
  (ax (aB false 6 (aH .leaf ah))
  (ax (oX 5 7 (aB false 6 (eJ (aa 6) (aq (aa 7) (eK (.int 0))))))
  (ax (aB true 8 (aw .leaf 9 (aF (aa 3)) (aG aj (az (bw true) (aa 9) (aa 6))) (aa 9)))
  (ax (bA (bK (aG aj (az bP (ar 3 ai (ae (aa 4) (ae (eK (.int 1)) (ae (eK (.int 3)) ah)))) (eK (.int 1)))) (aG aj (az cO (aa 8) (aH .leaf ah)))) (ax (aB false 9 (aq (aa 8) (az bN (ar 3 ai (ae (aa 4) (ae (eK (.int 2)) (ae (eK (.int 24)) ah)))) (bc aI (ae (aa 8) ah)))))
  (ax (fS 5 (cG (ae (aH .leaf (ae (aa 9) ah)) (ae (aq (eJ (aH .leaf (ae (eK .none) ah)) (aa 1)) (az bN (ar 3 ai (ae (aa 4) (ae (eK (.int 3)) (ae (eK (.int 24)) ah)))) (az ba (eK (.int 1)) (bc aI (ae (aa 1) ah))))) ah))))
  (fz 8 (aa 9)))) aD)
  (iA 8 (iA 5 (aN (cG (ae (aa 5) (ae (aa 8) (ae (aw .leaf 10 (aF (aa 1)) aR (ar 3 bJ (ae (aa 0) (ae (aa 8) (ae (aa 10) ah))))) ah))))))))))))
noncomputable def cy:List JS->Res:=aU 11 jy
noncomputable def Ed:FS:=(ax (aB false 1 (ar 3 dF (ae (aa 0) (ae (eK (.int 0)) (ae (eK (.int 6)) ah)))))
  (ax (aB false 2 (ar 2 dG (ae (ar 2 aE (ae (aa 0) (ae (eK (.int 7)) ah))) (ae (bc aI (ae (aq (aa 1) (eK (.int 0))) ah)) ah))))
  (ax (aB false 3 (ar 1 dH (ae (ar 2 aE (ae (aa 0) (ae (eK (.int 8)) ah))) ah)))
  (ax (aB true 4 (ar 3 dE (ae (aa 1) (ae (aa 2) (ae (aa 3) ah)))))
  (ax (bA (aG aj (az bP (ar 3 ai (ae (ar 2 aE (ae (aa 0) (ae (eK (.int 10)) ah))) (ae (eK (.int 9)) (ae (eK (.int 3)) ah)))) (eK (.int 1)))) (iA 4 (aB true 4 (ar 5 cy (ae (aa 1) (ae (aa 3) (ae (aa 4) (ae (aa 2) (ae (ar 2 aE (ae (aa 0) (ae (eK (.int 10)) ah))) ah)))))))) (bA (aG aj (az dS (ar 3 ai (ae (ar 2 aE (ae (aa 0) (ae (eK (.int 9)) ah))) (ae (eK (.int 9)) (ae (eK (.int 8)) ah)))) (eK (.int 0)))) (ix true 4 [.tup [.lst .leaf,.lst .leaf,.lst (.lst .leaf)],.leaf,.leaf] cX (ae (bh 4) (ae (ar 2 aE (ae (aa 0) (ae (eK (.int 9)) ah))) (ae (bc aI (ae (aq (aa 1) (eK (.int 0))) ah)) ah)))) aD))
  (ax (aB false 5 (aH .leaf (ae (ar 1 d9 (ae (aa 1) ah)) (ae (lh (aa 2)) (ae (lh (aa 3)) (ae (bc vP (ae (aa 4) ah)) ah))))))
  (ax (aB false 6 (ar 4 cF (ae (aa 1) (ae (aa 2) (ae (aa 3) (ae (aa 4) ah))))))
  (ax (cM 7 (i5 (ae (eK (.int 2)) ah))
  (ax (aB false 8 (ar 4 bG (ae (aa 1) (ae (aa 2) (ae (aa 3) (ae (aa 4) ah))))))
  (bA (fm (cQ (aG bI (ot "bool" (aa 8)))) (fm (aG aj (az cO (aa 8) (aa 6))) (aG aj (az cO (aH .leaf (ae (aa 1) (ae (aa 2) (ae (aa 3) (ae (bc vP (ae (aa 4) ah)) ah))))) (aa 5))))) (aN (eK (.bool false))) aD)))
  (aN (eK (.bool true)))))))))))
noncomputable def uD:List JS->Res:=aU 9 Ed
end KQ.F.B
namespace KQ.F.B
open PySem PySem.Spec L2 T PySem.SeqAt KC KQ.F
open PyProof.Rows hiding St
variable{b:FL}{a z:Int}{C I:Ev}{M e:F1}{k t:Nat}{ns:List Int}{g:FS}{l es:List D}
section
variable{w:Wd}{R L:List Nat}{M:List Str}
noncomputable abbrev Cn(w:Wd)(R:List Nat)(M:List Str)(b:Iv):Ev:=[JT w.enc,JT (ay R),JT (bx M),some ⟨.lst .leaf,aM b.rows⟩,some ⟨.lst .leaf,ay b.L⟩,JT ((gx b.row).d),none]
noncomputable abbrev oq:FS:=(ax (fS 3 (aa 5))
  (ax (aB true 4 (aw .leaf 6 (aF (aa 4)) (aG aj (az (bw true) (aa 6) (aq (aa 5) (eK (.int 0))))) (aa 6)))
  (aB false 5 (yB 3 cu (ae (aa 0) (ae (aa 4) (ae (aa 2) ah)))))))
theorem xY(ok:w.Ok)(H:∀c∈M,c∈bb){b:Iv}(I:FJ w R M b)(Z:b.row.isSome=true):∃v,oq (Cn w R M b)=.nx (Cn w R M v)/\FJ w R M v/\v.L.length<b.L.length:=by
 have i:=ok.h24
 have N:=I.std.len
 have q:=I.cnt
 rcases I.row with⟨e,_⟩|⟨off,o,e,h1,hm,h2,h3,hoff⟩
 .rw[e]at Z;cases Z
 have P:=I.std.filter λr=>!off.contains r
 obtain⟨E,a,l,k,m⟩:=zi ok H P
 have lt:(b.L.filter λr=>!off.contains r).length<b.L.length:=by
  obtain⟨x,A⟩:=exists_mem_of_ne_nil _ hoff.ne;have:(b.L.filter λr=>!off.contains r).length≠b.L.length:=λe=>by
   have:=List.length_filter_eq_length_iff.mp e x (hoff.sub x A)
   simp[A]at this
  have:=length_filter_le (λr=>!off.contains r) b.L
  omega
 refine⟨⟨b.rows++[⟨bL off,o⟩],b.L.filter λr=>!off.contains r,E⟩,?_,⟨P,λr m=>I.sub r (List.mem_filter.mp m).1,by simp only[length_append,length_cons,length_nil];omega,?_,λr m=>?_,λr m=>?_,λX J r A=>?_,m⟩,lt⟩
 .have h:(Cn w R M b)[5]?=some (JT ((FRow.mk (bL off) o).enc)):=by show some (some (⟨.leaf,(gx b.row).d⟩:PV))=_;rw[e];rfl
  have y:fS 3 (aa 5) (Cn w R M b)=.nx [JT w.enc,JT (ay R),JT (bx M),some ⟨.lst .leaf,aM (b.rows++[FRow.mk (bL off) o])⟩,some ⟨.lst .leaf,ay b.L⟩,JT ((FRow.mk (bL off) o).enc),none]:=by
   refine(CD (s:=.leaf) (ds:=b.rows.map FRow.enc) rfl (au h) rfl (by rw[length_map];omega)).trans (congrArg OutS.nx ?_)
   show[JT w.enc,JT (ay R),JT (bx M),some ⟨.lst .leaf,.list (b.rows.map FRow.enc++[(FRow.mk (bL off) o).enc])⟩,some ⟨.lst .leaf,ay b.L⟩,some (PV.mk .leaf (gx b.row).d),none]=_
   rw[e,show aM (b.rows++[FRow.mk (bL off) o])=.list (b.rows.map FRow.enc++[(FRow.mk (bL off) o).enc]) by show PyData.list _=_;rw[map_append];rfl]
   rfl
  have d:aw .leaf 6 (aF (aa 4)) (aG aj (az (bw true) (aa 6) (aq (aa 5) (eK (.int 0))))) (aa 6) [JT w.enc,JT (ay R),JT (bx M),some ⟨.lst .leaf,aM (b.rows++[FRow.mk (bL off) o])⟩,some ⟨.lst .leaf,ay b.L⟩,JT ((FRow.mk (bL off) o).enc),none]=.ok ⟨.lst .leaf,ay (b.L.filter λr=>!off.contains r)⟩ [JT w.enc,JT (ay R),JT (bx M),some ⟨.lst .leaf,aM (b.rows++[FRow.mk (bL off) o])⟩,some ⟨.lst .leaf,ay b.L⟩,JT ((FRow.mk (bL off) o).enc),none]:=by
   rw[<-h3];refine i7 rm b.L (λx=>!(bL off).contains (x:Int)) (λt=>⟨.leaf,rm t⟩) (st:=false) (bg (s:=.view) (dm rfl) Bm) (by simp) rfl (by omega) (λt u=>?_) λt u _=>⟨au rfl,rfl⟩
   exact bQ (s:=.leaf) (aC (au rfl) (jC (j:=0) (ds:=[iL (bL off),mD o]) (au rfl) aS rfl rfl rfl) De)
  have g:coer .leaf (gx E)=true:=by cases E<;>rfl
  exact af y (af (lA d rfl (by simp)) (dh (KQ.v_callG (aA (au rfl) (aA (dm rfl) (aA (au rfl) ao))) a rfl (KQ.av _ _ _) k) g (by simp)))
 .show mF (cn w M) R (b.rows++[⟨bL off,o⟩])=_
  rw[pN b.rows I.by']
  show cn w M b.L ⟨bL off,o⟩=_
  unfold cn;rw[h2,if_pos rfl];exact congrArg some h3
 .rcases JH m with z|z
  .exact I.ok r z
  .rw[List.mem_singleton.mp z];exact⟨h1,hm⟩
 .rcases JH m with z|z
  .exact I.nat r z
  .rw[List.mem_singleton.mp z];exact⟨off,rfl,λx A=>I.std.lt x (hoff.sub x A)⟩
 .refine List.mem_filter.mpr ⟨I.big X J r A,?_⟩
  cases f:off.contains r with
  |false=>rfl
  |true=>exact absurd A (hoff.no _ X J (I.big X J) r (by simpa using f))
theorem rD(ok:w.Ok)(a:Std w.n R)(H:∀c∈M,c∈bb):∃v K,bY [w.enc,ay R,bx M]=.ok ⟨.tup [.lst .leaf,.lst .leaf],.tuple [aM v,ay K]⟩/\Std w.n K/\sr w M R v=some K/\(∀r∈v,r.Ok/\∀c,r.m=some c->c∈M)/\(∀r∈v,∃n:List Nat,r.g=bL n/\∀x∈n,x<w.n)/\v.length<=w.n/\iY w M K/\Fr w.n w.stp (·∈R) M (Br w) (·∈K)/\∀X,Fr w.n w.stp (·∈R) M (Br w) X->∀r,X r->r∈K:=by
 have y:=ok.h24
 have N:=a.len
 obtain⟨m,Y,z,k,t⟩:=zi ok H a;have l:FJ w R M ⟨[],R,m⟩:=⟨a,λr h=>h,by simpa using N,rfl,(λr h=>nomatch h),(λr h=>nomatch h),λX J=>J.sub,t⟩
 obtain⟨b,e,I,u⟩:=G9 (c:=aG aj (az (bq true) (aa 5) (eK .none))) (g:=oq) (G:=Cn w R M) (test:=λb=>b.row.isSome) (Inv:=FJ w R M) (meas:=λb=>b.L.length) (λb I=>by
   refine(bQ (s:=.leaf) (aC (g:=bq true) (au (i:=5) (d:=(gx b.row).d) rfl) (aS (d:=.none)) (d:=.bool b.row.isSome) ?_))
   cases b.row<;>rfl) (λb I Z=>xY ok H I Z) 1000 _ l (by show R.length<1000;omega)
 have f:iY w M b.L:=by
  rcases I.row with⟨_,h⟩|⟨n,o,h,_⟩
  .exact h
  .rw[h]at u;cases u
 have j:zC 1000 (aG aj (az (bq true) (aa 5) (eK .none))) oq (Cn w R M ⟨[],R,m⟩)=.nx (Cn w R M b):=by
  unfold zC;rw[e]
 have q:=I.cnt
 refine⟨b.rows,b.L,?_,I.std,I.by',I.ok,I.nat,by omega,f,⟨I.std.lt,I.sub,f.c,f.a⟩,I.big⟩
 exact aQ (af (lA (ie (s:=.leaf) ao rfl rfl rfl) rfl (by simp[bp])) (af (lA (vQ (ds:=R.map rm) (au rfl) rfl) rfl (by simp[bp])) (af (dh (KQ.v_callG (aA (au rfl) (aA (dm rfl) (aA (au rfl) ao))) Y rfl (KQ.av _ _ _) k) (by cases m<;>rfl) (by simp[bp])) (af j (aL (dX (aA (p8 (p:=⟨.lst .leaf,aM b.rows⟩) rfl) (aA (p8 (p:=⟨.lst .leaf,ay b.L⟩) rfl) ao)) rfl rfl) rfl)))))
noncomputable abbrev y0:Sh:=.tup [.lst .leaf,.lst .leaf,.lst (.lst .leaf)]
theorem rC(ok:w.Ok)(a:Std w.n R)(H:∀c∈M,c∈bb)(m:br [bx M]=.ok ⟨.leaf,.bool true⟩)(N:M.length<=100):∃(v:List FRow)(K:List Nat)(F:Str->List (Option Nat)),dE [w.enc,ay R,bx M]=.ok ⟨y0,(Pap.mk v (bL K) (M.map λc=>jR (F c))).enc⟩/\Std w.n K/\iY w M K/\(∀c∈M,r9 w K c (F c))/\eE w R M ⟨v,bL K,M.map λc=>jR (F c)⟩=true/\(∀r∈v,r.Ok/\∀c,r.m=some c->c∈M)/\(∀r∈v,∃n:List Nat,r.g=bL n/\∀x∈n,x<w.n)/\v.length<=w.n/\Fr w.n w.stp (·∈R) M (Br w) (·∈K)/\∀X,Fr w.n w.stp (·∈R) M (Br w) X->∀r,X r->r∈K:=by
 obtain⟨v,K,e,Y,I,hok,i,C,J,b,k⟩:=rD ok a H;have h:∀c:Str,∃E:List (Option Nat),c∈bb->r9 w K c E:=λc=>by
  by_cases Z:c∈bb
  .obtain⟨E,q⟩:=kN ok Z Y
   exact⟨E,λ_=>q⟩
  .exact⟨[],λz=>absurd z Z⟩
 obtain⟨F,P⟩:=Classical.axiomOfChoice h;have G:∀c∈M,r9 w K c (F c):=λc Z=>P c (H c Z)
 refine⟨v,K,F,?_,Y,J,G,?_,hok,i,C,b,k⟩
 .have y:dQ (ar 3 bS (ae (aa 0) (ae (aa 1) (ae (aa 2) ah)))) (bp 5 [w.enc,ay R,bx M])=.nx (bp 5 [w.enc,ay R,bx M]):=oN (cH (aA (au rfl) (aA (au rfl) (aA (au rfl) ao))) (zl ok a m) rfl rfl)
  have s2:aB true 3 (ar 3 bY (ae (aa 0) (ae (aa 1) (ae (aa 2) ah)))) (bp 5 [w.enc,ay R,bx M])=.nx [JT w.enc,JT (ay R),JT (bx M),some ⟨.tup [.lst .leaf,.lst .leaf],.tuple [aM v,ay K]⟩,none]:=lA (cH (aA (au rfl) (aA (au rfl) (aA (au rfl) ao))) e rfl rfl) rfl (by simp[bp])
  have c4:aw (.lst .leaf) 4 (aF (aa 2)) aR (ar 3 aY (ae (aa 0) (ae (aq (aa 3) (eK (.int 1))) (ae (aa 4) ah)))) [JT w.enc,JT (ay R),JT (bx M),JT (.tuple [aM v,ay K]),none]=.ok ⟨.lst (.lst .leaf),.list (M.map λc=>eY (F c))⟩ [JT w.enc,JT (ay R),JT (bx M),JT (.tuple [aM v,ay K]),none]:=
   nr PyData.str M (λc=>⟨.lst .leaf,eY (F c)⟩) (st:=true) (bg (s:=.leaf) (au rfl) rfl) (by simp) rfl (by omega) λc Z=>⟨cH (aA (au rfl) (aA (jC (j:=1) (ds:=[aM v,ay K]) (au rfl) aS rfl rfl rfl) (aA (au rfl) ao))) (G c Z).den rfl rfl,rfl⟩
  refine aQ (af y (af s2 (aL (Γ1:=[JT w.enc,JT (ay R),JT (bx M),none,none]) ?_ rfl)))
  unfold BW;show(match aw (.lst .leaf) 4 (aF (aa 2)) aR (ar 3 aY (ae (aa 0) (ae (aq (aa 3) (eK (.int 1))) (ae (aa 4) ah)))) [JT w.enc,JT (ay R),JT (bx M),JT (.tuple [aM v,ay K]),none]with
   |.ok p _=>if fJ p.s p.d then Out.ok (PV.mk (.tup [.lst .leaf,.lst .leaf,p.s]) (.tuple [aM v,ay K,p.d])) [JT w.enc,JT (ay R),JT (bx M),none,none]else .no
   |_=>.no)=_
  rw[c4];dsimp only;have S:fJ (.lst (.lst .leaf)) (.list (M.map λc=>eY (F c)))=true:=by
   show(M.map λc=>eY (F c)).all _=true
   rw[all_eq_true];intro d U;obtain⟨c,_,rfl⟩:=List.mem_map.mp U;show((F c).map oD).all aV=true
   rw[all_eq_true];intro d U;obtain⟨o,_,rfl⟩:=List.mem_map.mp U
   cases o<;>rfl
  rw[S,if_pos rfl];unfold Pap.enc;dsimp only;rw[<-fX,map_map,show(M.map λc=>eY (F c))=M.map (bW∘λc=>jR (F c))from map_congr_left λc _=>wF]
 .unfold eE
  dsimp only;rw[I];show(decide (bL K=bL K)&&decide ((M.map λc=>jR (F c)).length=M.length)&&(K.all λr=>(w.stp r).any λt=>K.contains t)&&(M.zip (M.map λc=>jR (F c))).all λx=>nu w K x.1 x.2)=true
  rw[decide_eq_true rfl,decide_eq_true (length_map _),Bool.true_and,Bool.true_and,Bool.and_eq_true,all_eq_true,all_eq_true];refine⟨λr m=>?_,λx A=>?_⟩
  .obtain⟨t,u,O⟩:=J.c r m
   exact List.any_eq_true.mpr ⟨t,u,List.contains_iff_mem.mpr O⟩
  .rw[show M.zip (M.map λc=>jR (F c))=M.map λc=>(c,jR (F c)) by
    have:=List.zip_map' (f:=λc:Str=>c) (g:=λc=>jR (F c)) (l:=M)
    rw[List.map_id']at this;exact this]at A
   obtain⟨c,Z,rfl⟩:=List.mem_map.mp A;exact(tG ok Y J Z (G c Z)).2.2
end
noncomputable def mx(a:Int)(n:Nat):Nat:=(a % (n:Int)).toNat
theorem gF{n:Nat}(Y:0<n):a % (n:Int)=(mx a n:Int)/\mx a n<n:=by
 have J:=Int.emod_nonneg a (show(n:Int)≠0 by omega)
 have S:=Int.emod_lt_of_pos a (show(0:Int)<n by omega)
 unfold mx;omega
theorem lE{s K:Sh}{n:Nat}(U:M C=.ok ⟨s,.int a⟩ C)(Z:e C=.ok ⟨K,.int (n:Int)⟩ C)(Y:0<n):az bN M e C=.ok ⟨.leaf,rm (mx a n)⟩ C:=by
 have:=aC (g:=bN) U Z (d8 (a:=a) (b:=(n:Int)) (by omega))
 rw[(gF Y).1]at this;exact this
theorem sM{s:Sh}{ds:List D}{i:Nat}(a:C[i]?=some (some ⟨.lst .leaf,.list ds⟩))(Z:e C=.ok ⟨s,rm k⟩ C)(O:k<ds.length)(J:k<1000):dt i e C=.nx (C.set i (some ⟨.lst .leaf,.list (ds.eraseIdx k)⟩)):=by
 unfold dt;have:ik C[i]?=true:=by rw[a];rfl
 rw[if_pos this,Z];show iC i ⟨s,.int (k:Int)⟩ C=_
 unfold iC;dsimp only;rw[a];dsimp only;rw[if_pos (by simp[O];omega)]
 simp
theorem zM{s:Sh}{ds:List D}{d:D}{i:Nat}(a:C[i]?=some (some ⟨.lst .leaf,.list ds⟩))(Z:e C=.ok ⟨s,rm k⟩ C)(O:ds[k]?=some d)(J:k<1000)(S:ds.length<10000):gr i e C=.nx (C.set i (some ⟨.lst .leaf,.list (d::ds.eraseIdx k)⟩)):=by
 unfold gr;have:ik C[i]?=true:=by rw[a];rfl
 rw[if_pos this,Z];show iM i ⟨s,.int (k:Int)⟩ C=_
 unfold iM;dsimp only;rw[a];dsimp only;rw[show((k:Int)).toNat=k by simp,O]
 dsimp only;rw[if_pos (by simp;omega)]
theorem Dg{i:Nat}{q p:PV}{ds:List D}(J:C[i]?=some (some ⟨.lst .leaf,.list ds⟩))(h:b C=.ok [q,p] C)(a:q.d=.int (k:Int))(O:k<=ds.length)(N:ds.length<=900)(f:coer .leaf p=true):nR i b C=.nx (C.set i (some ⟨.lst .leaf,.list (ds.take k++p.d::ds.drop k)⟩)):=by
 unfold nR ik;rw[J];simp only[if_true,h]
 unfold xI;rw[J,a];simp only[f,Bool.and_true]
 rw[decide_eq_true (show(0:Int)<=(k:Int) by omega),decide_eq_true (show(k:Int)<=(ds.length:Int) by omega),decide_eq_true (show ds.length<10000 by omega)]
 simp
theorem oP{s:Sh}(N:b C=.ok [⟨s,iL ns⟩] I)(h:ns.length<64):yC b C=.ok ⟨.lst .leaf,iL (PySem.W.sortI ns)⟩ I:=by
 unfold yC;rw[N];have e:T.sortArg ([(⟨s,iL ns⟩:PV)].map (·.d))=some ns:=by
  show T.intsOf (ns.map .int)=_
  rw[Ho]
 simp only[Out.bind,e]
 first|rw[if_pos h]|simp[h]
theorem Dm{s:Sh}{ds:List D}(U:M C=.ok ⟨s,.list ds⟩ I)(J:cS ⟨s,.list ds⟩ ds=true):mM M C=.ok ⟨.lst .leaf,.list ds.reverse⟩ I:=by
 unfold mM aW;rw[U];simp only[Out.bind,J,if_true]
theorem CQ{m d:Type}(h:m->d):∀(l:List m)(k:Nat),(l.eraseIdx k).map h=(l.map h).eraseIdx k
 |[],_=>rfl
 |a::l,0=>rfl
 |a::l,k+1=>by
  show h a::(l.eraseIdx k).map h=h a::(l.map h).eraseIdx k
  rw[CQ h l k]
theorem EF{Γ o:Ev}{s K:Sh}{xs ys:List D}(U:M Γ=.ok ⟨s,.list xs⟩ I)(Z:e I=.ok ⟨K,.list ys⟩ o)(J:cS ⟨s,.list xs⟩ xs=true)(S:cS ⟨K,.list ys⟩ ys=true)(N:xs.length+ys.length<=1000):eJ M e Γ=.ok ⟨.lst .leaf,.list (xs++ys)⟩ o:=by
 have c:(1000:Nat)<=sizeLine:=by decide
 have b:xs.length+ys.length<=sizeLine:=by omega
 unfold eJ aW;rw[U];simp only[Out.bind,Z,J,S,decide_eq_true b,Bool.and_self,if_true]
structure Rb(n:Nat)(r:FRow):Prop where
 len:r.g.length<=n
 z:∀z∈r.g,z.natAbs<1000
 m:∀c,r.m=some c->qZ c
theorem Rb.le{n i:Nat}{r:FRow}(h:Rb n r)(e:n<=i):Rb i r:=⟨Nat.le_trans h.len e,h.z,h.m⟩
theorem Bq:∀c∈(["a","b","c","f","ab"]:List Str),qZ c:=by
 intro c f;simp only[mem_cons,not_mem_nil,or_false]at f
 rcases f with rfl|rfl|rfl|rfl|rfl<;>exact⟨by decide +kernel,by decide +kernel,by decide +kernel⟩
noncomputable def odd:List (Option Str):=[none,some "a",some "b",some "c",some "f",some "ab"]
section
variable{c:Int}{many:Nat}{rows:List FRow}{r:FRow}
noncomputable abbrev sy(c:Int)(b:Nat)(v G:List FRow)(r:FRow)(a f:Int):Ev:=[some ⟨.lst .leaf,aM G⟩,JT (.int c),JT (.int (b:Int)),JT (rm (mx (aX c 1 60) v.length)),JT (.int a),JT (.int f),JT (iL r.g),JT (mD r.m),none]
theorem df{G:List FRow}{f n:Int}(h:f≠n):bA (aG aj (az bP (aa 5) (eK (.int n)))) g aD (sy c many rows G r a f)=.nx (sy c many rows G r a f):=
 aP (bQ (s:=.leaf) (aC (au (i:=5) (d:=.int f) rfl) (aS (d:=.int n)) KC.eq_int)) (λz=>absurd (by simpa using z) h) λ_=>rfl
theorem Cd{f:Int}{o:OutS}(h:g (sy c many rows rows r a f)=o):bA (aG aj (az bP (aa 5) (eK (.int f)))) g aD (sy c many rows rows r a f)=o:=
 aP (bQ (s:=.leaf) (aC (au (i:=5) (d:=.int f) rfl) (aS (d:=.int f)) KC.eq_int)) (λ_=>h) λz=>by simp at z
theorem wy{G:List FRow}{f:Int}(e:l=G.map FRow.enc):OutS.nx ((sy c many rows rows r a f).set 0 (some ⟨.lst .leaf,.list l⟩))=.nx (sy c many rows G r a f):=by rw[e];rfl
theorem kQ(Y:rows≠[])(N:rows.length<=15)(m:∀r∈rows,Rb 15 r)(hm:many<=24):∃G,bH [aM rows,.int c,.int (many:Int)]=some [aM G,.int c,.int (many:Int)]/\G.length<=16/\∀r∈G,Rb 16 r:=by
 have w:0<rows.length:=List.length_pos_iff.mpr Y
 have E:=(gF (a:=aX c 1 60) w).2
 have ert:rows[mx (aX c 1 60) rows.length]?=some (rows[mx (aX c 1 60) rows.length]'E):=JJ _
 generalize hrd:rows[mx (aX c 1 60) rows.length]'E=r at ert
 have l:Rb 15 r:=m r (mem_of_getElem? ert)
 have hglen:=l.len
 have er:(rows.map FRow.enc)[mx (aX c 1 60) rows.length]?=some r.enc:=by rw[getElem?_map,ert];rfl
 have X:=yA (c:=c) (k:=0) (b:=7) (by omega) (by omega) (by omega) (by omega)
 generalize hrm:aX c 2 24 % ((many:Int)+2)-1=rm'
 have hrmb:rm'.natAbs<1000:=by
  have J:=Int.emod_nonneg (aX c 2 24) (show((many:Int)+2)≠0 by omega)
  have S:=Int.emod_lt_of_pos (aX c 2 24) (show(0:Int)<(many:Int)+2 by omega)
  omega
 have dr:∀(k b:Int) C,C[1]?=some (JT (.int c))->0<=k->k<=1000->1<=b->b<=1000->ar 3 ai (ae (aa 1) (ae (eK (.int k)) (ae (eK (.int b)) ah))) C=.ok ⟨.leaf,.int (aX c k b)⟩ C:=λk b C h J S I h4=>cH (aA (au h) (aA aS (aA aS ao))) (qe J S I h4) rfl rfl
 have ln:∀C,C[0]?=some (some ⟨.lst .leaf,aM rows⟩)->bc aI (ae (aa 0) ah) C=.ok ⟨.leaf,.int (rows.length:Int)⟩ C:=λC h=>bt (aA (dm h) ao) nE
 have ahead:∀g:FS,(∃G,g (sy c many rows rows r rm' (aX c 0 7))=.nx (sy c many rows G r rm' (aX c 0 7))/\G.length<=16/\∀r∈G,Rb 16 r)->∃G,rL 9 [.lst .leaf,.leaf,.leaf] (ax (aB false 3 (az bN (ar 3 ai (ae (aa 1) (ae (eK (.int 1)) (ae (eK (.int 60)) ah)))) (bc aI (ae (aa 0) ah)))) (ax (cI [6,7] (gH 0 (aa 3))) (ax (aB false 4 (az gSub (az bN (ar 3 ai (ae (aa 1) (ae (eK (.int 2)) (ae (eK (.int 24)) ah)))) (az ba (aa 2) (eK (.int 2)))) (eK (.int 1)))) (ax (aB false 5 (ar 3 ai (ae (aa 1) (ae (eK (.int 0)) (ae (eK (.int 7)) ah))))) g)))) [aM rows,.int c,.int (many:Int)]=some [aM G,.int c,.int (many:Int)]/\G.length<=16/\∀r∈G,Rb 16 r:=λg ⟨G,e,J,S⟩=>by
  refine⟨G,?_,J,S⟩
  unfold rL;have s1:aB false 3 (az bN (ar 3 ai (ae (aa 1) (ae (eK (.int 1)) (ae (eK (.int 60)) ah)))) (bc aI (ae (aa 0) ah))) (p7 9 [.lst .leaf,.leaf,.leaf] [aM rows,.int c,.int (many:Int)])=.nx [some ⟨.lst .leaf,aM rows⟩,JT (.int c),JT (.int (many:Int)),JT (rm (mx (aX c 1 60) rows.length)),none,none,none,none,none]:=dh (lE (dr 1 60 _ rfl (by omega) (by omega) (by omega) (by omega)) (ln _ rfl) w) rfl (by simp[p7])
  have s2:cI [6,7] (gH 0 (aa 3)) [some ⟨.lst .leaf,aM rows⟩,JT (.int c),JT (.int (many:Int)),JT (rm (mx (aX c 1 60) rows.length)),none,none,none,none,none]=.nx [some ⟨.lst .leaf,aM rows⟩,JT (.int c),JT (.int (many:Int)),JT (rm (mx (aX c 1 60) rows.length)),none,none,JT (iL r.g),JT (mD r.m),none]:=
   F9 (zQ (i:=0) (j:=mx (aX c 1 60) rows.length) (ds:=rows.map FRow.enc) (d:=r.enc) rfl (au rfl) (nj (by rw[length_map];exact E)) er) rfl rfl rfl
  have s3:=dh (i:=4) (Γ1:=[some ⟨.lst .leaf,aM rows⟩,JT (.int c),JT (.int (many:Int)),JT (rm (mx (aX c 1 60) rows.length)),none,none,JT (iL r.g),JT (mD r.m),none]) (aC (g:=gSub) (aC (g:=bN) (dr 2 24 _ rfl (by omega) (by omega) (by omega) (by omega)) (aC (g:=ba) (au (i:=2) rfl) (aS (d:=.int 2)) (d:=.int ((many:Int)+2)) rfl) (d8 (by omega))) (aS (d:=.int 1)) (d:=.int (aX c 2 24 % ((many:Int)+2)-1)) rfl) rfl (by simp)
  rw[hrm]at s3;have K:=dh (i:=5) (Γ1:=[some ⟨.lst .leaf,aM rows⟩,JT (.int c),JT (.int (many:Int)),JT (rm (mx (aX c 1 60) rows.length)),JT (.int rm'),none,JT (iL r.g),JT (mD r.m),none]) (dr 0 7 _ rfl (by omega) (by omega) (by omega) (by omega)) rfl (by simp)
  rw[af s1 (af s2 (af s3 (af K e)))];rfl
 refine ahead _ ?_
 generalize aX c 0 7=κ at X
 have o:∀(x:FRow),Rb 16 x->∀y∈rows.set (mx (aX c 1 60) rows.length) x,Rb 16 y:=λx A y Z=>by
  rcases mem_or_eq_of_mem_set Z with z|z
  .exact(m y z).le (by omega)
  .rw[z];exact A
 have R:∀(x:FRow)(M:F1)(p:PV),M (sy c many rows rows r rm' κ)=.ok p (sy c many rows rows r rm' κ)->p.d=x.enc->coer .leaf p=true->cg 0 M (aa 3) (sy c many rows rows r rm' κ)=.nx (sy c many rows (rows.set (mx (aX c 1 60) rows.length) x) r rm' κ):=λx M p L U hc=>by
  refine(F8 (i:=0) (j:=mx (aX c 1 60) rows.length) (ds:=rows.map FRow.enc) rfl L (au (i:=3) rfl) (nj (by rw[length_map];exact E)) hc).trans (wy ?_)
  rw[U];exact(map_set (f:=FRow.enc)).symm
 obtain⟨H,k7⟩:=X;have O:κ=0\/κ=1\/κ=2\/κ=3\/κ=4\/κ=5\/κ=6:=by omega
 rcases O with rfl|rfl|rfl|rfl|rfl|rfl|rfl
 .exact⟨rows.eraseIdx (mx (aX c 1 60) rows.length),(af (Cd ((sM (ds:=rows.map FRow.enc) rfl (au rfl) (by rw[length_map];exact E) (by omega)).trans (wy (CQ FRow.enc rows _).symm))) (af (df (by decide)) (af (df (by decide)) (af (df (by decide)) (af (df (by decide)) (af (df (by decide)) (df (by decide)))))))),by have:=List.length_eraseIdx_le rows (mx (aX c 1 60) rows.length);omega,λy Z=>(m y (mem_of_mem_eraseIdx Z)).le (by omega)⟩
 .exact⟨rows.take (mx (aX c 3 60) (rows.length+1))++r::rows.drop (mx (aX c 3 60) (rows.length+1)),(af (df (by decide)) (af (Cd ((Dg (ds:=rows.map FRow.enc) (k:=mx (aX c 3 60) (rows.length+1)) (q:=⟨.leaf,rm (mx (aX c 3 60) (rows.length+1))⟩) (p:=⟨.tup [.lst .leaf,.leaf],r.enc⟩) rfl (aA (lE (dr 3 60 _ rfl (by omega) (by omega) (by omega) (by omega)) (aC (g:=ba) (ln _ rfl) (aS (d:=.int 1)) (d:=.int ((rows.length+1:Nat):Int)) rfl) (by omega)) (aA (dX (aA (vQ (au (i:=6) (d:=iL r.g) rfl) rfl) (aA (au (i:=7) rfl) ao)) rfl rfl) ao)) rfl (by rw[length_map];have:=(gF (a:=aX c 3 60) (n:=rows.length+1) (by omega)).2;omega) (by rw[length_map];omega) rfl).trans (wy (by rw[map_append,List.map_take,map_cons,List.map_drop])))) (af (df (by decide)) (af (df (by decide)) (af (df (by decide)) (af (df (by decide)) (df (by decide)))))))),by simp only[length_append,length_take,length_cons,length_drop];omega,λy Z=>by
   rcases JH Z with z|z
   .exact(m y (List.mem_of_mem_take z)).le (by omega)
   .rcases JI z with rfl|z
    .exact l.le (by omega)
    .exact(m y (List.mem_of_mem_drop z)).le (by omega)⟩
 .exact⟨r::rows.eraseIdx (mx (aX c 1 60) rows.length),(af (df (by decide)) (af (df (by decide)) (af (Cd ((zM (ds:=rows.map FRow.enc) (k:=mx (aX c 1 60) rows.length) rfl (au rfl) er (by omega) (by rw[length_map];omega)).trans (wy (by rw[map_cons,CQ FRow.enc rows _])))) (af (df (by decide)) (af (df (by decide)) (af (df (by decide)) (df (by decide)))))))),by have:=List.length_eraseIdx_le rows (mx (aX c 1 60) rows.length);rw[length_cons];omega,λy Z=>by
   rcases JI Z with rfl|z
   .exact l.le (by omega)
   .exact(m y (mem_of_mem_eraseIdx z)).le (by omega)⟩
 .exact⟨rows.set (mx (aX c 1 60) rows.length) ⟨PySem.W.sortI (r.g++[rm']),r.m⟩,(af (df (by decide)) (af (df (by decide)) (af (df (by decide)) (af (Cd (R ⟨PySem.W.sortI (r.g++[rm']),r.m⟩ _ ⟨.tup [.lst .leaf,.leaf],_⟩ (dX (aA (oP (ns:=r.g++[rm']) (aA ((EF (xs:=r.g.map .int) (ys:=[.int rm']) (au (i:=6) rfl) (ie (s:=.leaf) (aA (au (i:=4) (d:=.int rm') rfl) ao) rfl rfl rfl) rfl rfl (by simp only[length_map,length_cons,length_nil];omega)).trans (by rw[show r.g.map PyData.int++[.int rm']=(r.g++[rm']).map .int by simp])) ao) (by simp only[length_append,length_cons,length_nil];omega)) (aA (au (i:=7) rfl) ao)) rfl rfl) rfl rfl)) (af (df (by decide)) (af (df (by decide)) (df (by decide)))))))),by rw[length_set];omega,o _ ⟨by show(PySem.W.sortI (r.g++[rm'])).length<=16;rw[(PySem.W.sortI_perm _).length_eq,length_append,length_singleton];omega,λz P=>by
   have P:=(PySem.W.sortI_perm _).mem_iff.mp P
   rcases JH P with y|y
   .exact l.z z y
   .rw[List.mem_singleton.mp y];exact hrmb,l.m⟩⟩
 .exact⟨rows.set (mx (aX c 1 60) rows.length) ⟨r.g.filter λx=>x != rm',r.m⟩,(af (df (by decide)) (af (df (by decide)) (af (df (by decide)) (af (df (by decide)) (af (Cd (R ⟨r.g.filter λx=>x != rm',r.m⟩ _ ⟨.tup [.lst .leaf,.leaf],_⟩ (dX (aA (i7 PyData.int r.g (λx=>x != rm') (λx=>⟨.leaf,.int x⟩) (st:=true) (bg (s:=.leaf) (au (i:=6) rfl) rfl) (by simp) rfl (by omega) (λt u=>bQ (s:=.leaf) (aC (au (d:=.int t) rfl) (au (d:=.int rm') rfl) (fI KC.eq_int))) λt u _=>⟨au rfl,rfl⟩) (aA (au (i:=7) rfl) ao)) rfl rfl) rfl rfl)) (af (df (by decide)) (df (by decide)))))))),by rw[length_set];omega,o _ ⟨Nat.le_trans (length_filter_le _ _) (by omega),λz P=>l.z z (List.mem_filter.mp P).1,l.m⟩⟩
 .have ki:=yA (c:=c) (k:=3) (b:=6) (by omega) (by omega) (by omega) (by omega)
  have v:(aX c 3 6).toNat<odd.length:=by show(aX c 3 6).toNat<6;omega
  have oddm:odd[(aX c 3 6).toNat]?=some (odd.getD (aX c 3 6).toNat none):=by rw[JK,JJ v];rfl
  have hix:dg (odd.map mD).length (aX c 3 6)=some (aX c 3 6).toNat:=by
   have:=nj (n:=(odd.map mD).length) (k:=(aX c 3 6).toNat) (by rw[length_map];exact v)
   rw[show(((aX c 3 6).toNat:Nat):Int)=aX c 3 6 by omega]at this
   exact this
  have hodd:∀c',odd.getD (aX c 3 6).toNat none=some c'->qZ c':=λc' e=>by
   have:=mem_of_getElem? oddm
   rw[e]at this;refine Bq c' ?_
   simpa[odd]using this
  exact⟨rows.set (mx (aX c 1 60) rows.length) ⟨r.g,odd.getD (aX c 3 6).toNat none⟩,(af (df (by decide)) (af (df (by decide)) (af (df (by decide)) (af (df (by decide)) (af (df (by decide)) (af (Cd (R ⟨r.g,odd.getD (aX c 3 6).toNat none⟩ _ ⟨.tup [.leaf,.leaf],_⟩ (dX (aA (au (i:=6) rfl) (aA (nC (j:=(aX c 3 6).toNat) (ds:=odd.map mD) (d:=mD (odd.getD (aX c 3 6).toNat none)) (ie (s:=.leaf) (aA aS (aA aS (aA aS (aA aS (aA aS (aA aS ao)))))) rfl rfl rfl) (dr 3 6 _ rfl (by omega) (by omega) (by omega) (by omega)) hix (by rw[getElem?_map,oddm];rfl) rfl) ao)) (by cases odd.getD (aX c 3 6).toNat none<;>rfl) rfl) rfl rfl)) (df (by decide)))))))),by rw[length_set];omega,o _ ⟨by show r.g.length<=16;omega,l.z,λc' hc'=>hodd c' hc'⟩⟩
 .exact⟨rows.set (mx (aX c 1 60) rows.length) ⟨r.g.reverse,r.m⟩,(af (df (by decide)) (af (df (by decide)) (af (df (by decide)) (af (df (by decide)) (af (df (by decide)) (af (df (by decide)) (Cd (R ⟨r.g.reverse,r.m⟩ _ ⟨.tup [.lst .leaf,.leaf],_⟩ (dX (aA ((Dm (ds:=r.g.map .int) (au (i:=6) rfl) rfl).trans (by rw[<-List.map_reverse])) (aA (au (i:=7) rfl) ao)) rfl rfl) rfl rfl)))))))),by rw[length_set];omega,o _ ⟨by show r.g.reverse.length<=16;rw[length_reverse];omega,λz P=>l.z z (List.mem_reverse.mp P),l.m⟩⟩
end
structure Pb(n:Nat)(p:Pap):Prop where
 rl:p.rows.length<=n
 rb:∀r∈p.rows,Rb n r
 kl:p.kept.length<=n
 kz:∀z∈p.kept,z.natAbs<1000
 nl:p.ranks.length<=n
 nk:∀k∈p.ranks,k.length<=n
 nz:∀k∈p.ranks,∀z,some z∈k->z.natAbs<1000
theorem Pb.small{p:Pap}(h:Pb 16 p):p.Small:=
 ⟨⟨λr m=>⟨Nat.le_trans (h.rb r m).len (by omega),λc f=>((h.rb r m).m c f).2.2⟩,λk O=>Nat.le_trans (h.nk k O) (by omega)⟩,Nat.le_trans h.rl (by omega),λr m=>Nat.le_trans (h.rb r m).len (by omega),λr m=>(h.rb r m).z,λr m=>(h.rb r m).m,Nat.le_trans h.kl (by omega),h.kz,Nat.le_trans h.nl (by omega),λk O=>Nat.le_trans (h.nk k O) (by omega),h.nz⟩
theorem vZ{Γ:Ev}{i j m:Nat}{a:F1}{p:PV}{s K:Sh}{k:Int}{ds:List D}(J:Γ[i]?=some (some ⟨.lst (.lst .leaf),.list ds⟩))(U:M Γ=.ok p Γ)(O:a Γ=.ok ⟨s,.int k⟩ Γ)(Z:e Γ=.ok ⟨K,.int z⟩ Γ)(A:dg ds.length k=some j)(c:ds[j]?=some (.list es))(C:dg es.length z=some m)(P:aV p.d=true):yK i M a e Γ=.nx (Γ.set i (some ⟨.lst (.lst .leaf),.list (ds.set j (.list (es.set m p.d)))⟩)):=by
 have d:yO Γ[i]?=true:=by rw[J];rfl
 have b:jk i ⟨s,.int k⟩ Γ=true:=by unfold jk;rw[J];simp only[A,c]
 unfold yK;rw[U];simp only[O,Z,d,b,Bool.and_self,if_true]
 unfold ED;rw[J];simp only[A,c,C,P,if_true]
theorem sO{a:F1}{p:PV}{s:Sh}{i j:Nat}{k:Int}{ds:List D}(J:C[i]?=some (some ⟨.lst (.lst .leaf),.list ds⟩))(O:a C=.ok ⟨s,.int k⟩ C)(l:dg ds.length k=some j)(U:ds[j]?=some (.list es))(h:M C=.ok p C)(f:coer .leaf p=true)(Y:es.length<=900):yJ i a M C=.nx (C.set i (some ⟨.lst (.lst .leaf),.list (ds.set j (.list (es++[p.d])))⟩)):=by
 have S:es.length<sizeLine:=Nat.lt_of_lt_of_le (by omega:es.length<1000) (by decide)
 have o:jk i ⟨s,.int k⟩ C=true:=by unfold jk;rw[J];simp only[l,U]
 unfold yJ yO;rw[J];simp only[if_true]
 unfold eX;rw[O];simp only[o,if_true]
 rw[h];simp only
 unfold FQ;rw[J];simp only[l,U,f,decide_eq_true S,Bool.and_self,if_true]
theorem sL{i:Nat}{s:Sh}(J:C[i]?=some (some ⟨.lst .leaf,iL ns⟩))(U:M C=.ok ⟨s,.int z⟩ C)(P:z∈ns):fz i M C=.nx (C.set i (some ⟨.lst .leaf,iL (ns.erase z)⟩)):=by
 have o:ik C[i]?=true:=by rw[J];rfl
 have N:ns.idxOf z<ns.length:=List.idxOf_lt_length_of_mem P
 unfold fz;rw[if_pos o];unfold eX;rw[U];dsimp only;unfold Aj;rw[J];dsimp only;rw[Ho];dsimp only;rw[decide_eq_true N,if_pos rfl,<-CQ,List.erase_eq_eraseIdx_of_idxOf (i:=ns.idxOf z) rfl]
section
variable{c:Int}{many room:Nat}{κ:Int}{rows:List FRow}{kept:List Int}{ranks:List (List (Option Int))}{s7:Sh}{x8:Option PV}
noncomputable abbrev GC(c:Int)(b:Nat)(f:Int)(h:Nat)(v:List FRow)(kept:List Int)(O:Sh)(a:List (List (Option Int)))(S:Option PV):Ev:=[none,JT (.int c),JT (.int (b:Int)),JT (.int f),JT (rm h),some ⟨.lst .leaf,aM v⟩,some ⟨.lst .leaf,iL kept⟩,some ⟨.lst O,.list (a.map bW)⟩,S]
theorem Bs:aG aj (az dS (bc aI (ae (aa 5) ah)) (eK (.int 0))) (GC c many κ room rows kept s7 ranks x8)=.ok (decide (0<rows.length)) (GC c many κ room rows kept s7 ranks x8):=bQ (s:=.leaf) (aC (bt (aA (dm (i:=5) rfl) ao) nE) (aS (d:=.int 0)) CS)
theorem oa:aG aj (az dS (bc aI (ae (aa 7) ah)) (eK (.int 0))) (GC c many κ room rows kept s7 ranks x8)=.ok (decide (0<ranks.length)) (GC c many κ room rows kept s7 ranks x8):=bQ (s:=.leaf) (aC (bt (aA (dm (i:=7) rfl) ao) nE) (aS (d:=.int 0)) CS)
theorem ny{n:Int}:aG aj (az bP (aa 3) (eK (.int n))) (GC c many κ room rows kept s7 ranks x8)=.ok (κ==n) (GC c many κ room rows kept s7 ranks x8):=bQ (s:=.leaf) (aC (au (i:=3) (d:=.int κ) rfl) (aS (d:=.int n)) KC.eq_int)
theorem Ig{n:Int}:aG aj (az gG (aa 3) (eK (.int n))) (GC c many κ room rows kept s7 ranks x8)=.ok (decide (κ<n)) (GC c many κ room rows kept s7 ranks x8):=bQ (s:=.leaf) (aC (au (i:=3) (d:=.int κ) rfl) (aS (d:=.int n)) KC.lt_int)
theorem Ii:aG aj (az (bw false) (aa 4) (aa 6)) (GC c many κ room rows kept s7 ranks x8)=.ok (kept.contains (room:Int)) (GC c many κ room rows kept s7 ranks x8):=bQ (s:=.leaf) (aC (au (i:=4) (d:=rm room) rfl) (dm (i:=6) rfl) EC)
noncomputable abbrev b4:FS:=(bA (bK (aG aj (az gG (aa 3) (eK (.int 3)))) (aG aj (az dS (bc aI (ae (aa 5) ah)) (eK (.int 0))))) (iy [5,1,2] [.lst .leaf,.leaf,.leaf] bH) aD)
noncomputable abbrev b5:FS:=(bA (bK (aG aj (az bP (aa 3) (eK (.int 3)))) (aG aj (az (bw false) (aa 4) (aa 6)))) (fz 6 (aa 4)) (bA (aG aj (az bP (aa 3) (eK (.int 3)))) (aB true 6 (yC (ae (eJ (bh 6) (aH .leaf (ae (aa 4) ah))) ah))) aD))
noncomputable abbrev b6:FS:=(bA (bK (aG aj (az bP (aa 3) (eK (.int 4)))) (aG aj (az dS (bc aI (ae (aa 7) ah)) (eK (.int 0))))) (ax (aB false 8 (aq (aH .leaf (ae (eK .none) (ae (az gSub (ar 3 ai (ae (aa 1) (ae (eK (.int 7)) (ae (eK (.int 9)) ah)))) (eK (.int 2))) ah))) (az bN (az bN (ar 3 ai (ae (aa 1) (ae (eK (.int 8)) (ae (eK (.int 4)) ah)))) (eK (.int 3))) (eK (.int 2)))))
  (yK 7 (aa 8) (az bN (ar 3 ai (ae (aa 1) (ae (eK (.int 6)) (ae (eK (.int 3)) ah)))) (bc aI (ae (aa 7) ah))) (aa 4))) aD)
noncomputable abbrev b7:FS:=(bA (bK (aG aj (az bP (aa 3) (eK (.int 5)))) (aG aj (az dS (bc aI (ae (aa 7) ah)) (eK (.int 0))))) (gu 7 (dt 7 (az bN (ar 3 ai (ae (aa 1) (ae (eK (.int 6)) (ae (eK (.int 3)) ah)))) (bc aI (ae (aa 7) ah))))) aD)
noncomputable abbrev b8:FS:=(bA (aG aj (az bP (aa 3) (eK (.int 6)))) (gu 7 (fS 7 (aq (aH .leaf (ae (aH .leaf ah) (ae (fZ (aH .leaf (ae (eK .none) ah)) (aa 2)) (ae (fZ (aH .leaf (ae (eK (.int 0)) ah)) (aa 2)) ah)))) (ar 3 ai (ae (aa 1) (ae (eK (.int 6)) (ae (eK (.int 3)) ah))))))) aD)
noncomputable abbrev b9:FS:=(bA (bK (aG aj (az bP (aa 3) (eK (.int 7)))) (aG aj (az dS (bc aI (ae (aa 7) ah)) (eK (.int 0))))) (yJ 7 (eK (.int 0)) (aq (aH .leaf (ae (eK .none) (ae (eK (.int 1)) ah))) (ar 3 ai (ae (aa 1) (ae (eK (.int 6)) (ae (eK (.int 2)) ah)))))) aD)
theorem k4(h:¬κ<3):b4 (GC c many κ room rows kept s7 ranks x8)=.nx (GC c many κ room rows kept s7 ranks x8):=aP (bZ Ig Bs) (λz=>by simp[h]at z) λ_=>rfl
theorem k5(h:κ≠3):b5 (GC c many κ room rows kept s7 ranks x8)=.nx (GC c many κ room rows kept s7 ranks x8):=aP (bZ ny Ii) (λz=>by simp[h]at z) λ_=>aP ny (λz=>by simp[h]at z) λ_=>rfl
theorem k6(h:κ≠4):b6 (GC c many κ room rows kept s7 ranks x8)=.nx (GC c many κ room rows kept s7 ranks x8):=aP (bZ ny oa) (λz=>by simp[h]at z) λ_=>rfl
theorem k7(h:κ≠5):b7 (GC c many κ room rows kept s7 ranks x8)=.nx (GC c many κ room rows kept s7 ranks x8):=aP (bZ ny oa) (λz=>by simp[h]at z) λ_=>rfl
theorem k8(h:κ≠6):b8 (GC c many κ room rows kept s7 ranks x8)=.nx (GC c many κ room rows kept s7 ranks x8):=aP ny (λz=>by simp[h]at z) λ_=>rfl
theorem k9(h:κ≠7):b9 (GC c many κ room rows kept s7 ranks x8)=.nx (GC c many κ room rows kept s7 ranks x8):=aP (bZ ny oa) (λz=>by simp[h]at z) λ_=>rfl
theorem n7{b:FB}(Z:b (GC c many κ room rows kept s7 [] x8)=.ok (κ==κ) (GC c many κ room rows kept s7 [] x8)):bA (bK b (aG aj (az dS (bc aI (ae (aa 7) ah)) (eK (.int 0))))) g aD (GC c many κ room rows kept s7 [] x8)=.nx (GC c many κ room rows kept s7 [] x8):=aP (bZ Z oa) (λz=>by simp at z) λ_=>rfl
theorem fin(P:s7.isView=false):aN (cG (ae (bh 5) (ae (bh 6) (ae (bh 7) ah)))) (GC c many κ room rows kept (s7) ranks x8)=.rt ⟨.tup [.lst .leaf,.lst .leaf,.lst s7],(Pap.mk rows kept ranks).enc⟩:=
 aL (dX (aA (p8 (p:=⟨.lst .leaf,aM rows⟩) rfl) (aA (p8 (p:=⟨.lst .leaf,iL kept⟩) rfl) (aA (p8 (p:=⟨.lst s7,.list (ranks.map bW)⟩) rfl) ao))) rfl rfl) rfl
theorem dr{k b:Int}(J:0<=k)(S:k<=1000)(I:1<=b)(x:b<=1000):ar 3 ai (ae (aa 1) (ae (eK (.int k)) (ae (eK (.int b)) ah))) (GC c many κ room rows kept s7 ranks x8)=.ok ⟨.leaf,.int (aX c k b)⟩ (GC c many κ room rows kept s7 ranks x8):=cH (aA (au rfl) (aA aS (aA aS ao))) (qe J S I x) rfl rfl
theorem Jb:bc aI (ae (aa 7) ah) (GC c many κ room rows kept s7 ranks x8)=.ok ⟨.leaf,.int (ranks.length:Int)⟩ (GC c many κ room rows kept s7 ranks x8):=bt (aA (dm (i:=7) rfl) ao) nE
theorem yT{Γ:Ev}{fa fb:F1}{o1 o2:Option Int}{e:Int}(U:fa Γ=.ok ⟨.leaf,zD o1⟩ Γ)(Z:fb Γ=.ok ⟨.leaf,zD o2⟩ Γ){G:F1}(R:G Γ=.ok ⟨.leaf,.int e⟩ Γ)(a:0<=e)(J:e<2):∃o,(o=o1\/o=o2)/\aq (aH .leaf (ae fa (ae fb ah))) G Γ=.ok ⟨.leaf,zD o⟩ Γ:=by
 have l:aH .leaf (ae fa (ae fb ah)) Γ=.ok ⟨.lst .leaf,.list [zD o1,zD o2]⟩ Γ:=ie (s:=.leaf) (aA U (aA Z ao)) rfl rfl rfl
 have:e=0\/e=1:=by omega
 rcases this with rfl|rfl
 .exact⟨o1,.inl rfl,nC (j:=0) l R rfl rfl rfl⟩
 .exact⟨o2,.inr rfl,nC (j:=1) l R rfl rfl rfl⟩
theorem vg{p:Pap}(hp:Pb 15 p)(hm1:1<=many)(C:many<=15)(O:∀k∈p.ranks,k.length=many):∃s7 X,cX [p.enc,.int c,.int (many:Int)]=.ok ⟨.tup [.lst .leaf,.lst .leaf,.lst s7],X.enc⟩/\s7.isView=false/\Pb 16 X:=by
 have kin:=yA (c:=c) (k:=4) (b:=8) (by omega) (by omega) (by omega) (by omega)
 have J:=(gF (a:=aX c 5 24) (show 0<many by omega)).2
 obtain⟨rows,kept,ranks⟩:=p;obtain⟨rl,R,kl,kz,nl,nk,nz⟩:=hp;dsimp only at rl R kl kz nl nk nz O
 have same:Pb 16 ⟨rows,kept,ranks⟩:=⟨by show rows.length<=16;omega,λr hr=>(R r hr).le (by omega),by show kept.length<=16;omega,kz,by show ranks.length<=16;omega,λk O=>by have:=nk k O;omega,nz⟩
 have go:∀g:FS,(∃s7 X,g (GC c many (aX c 4 8) (mx (aX c 5 24) many) rows kept (.lst .leaf) ranks none)=.rt ⟨.tup [.lst .leaf,.lst .leaf,.lst s7],X.enc⟩/\s7.isView=false/\Pb 16 X)->∃s7 X,rK 9 [.tup [.lst .leaf,.lst .leaf,.lst (.lst .leaf)],.leaf,.leaf] (ax (qD 5 6 7 (bh 0)) (ax (aB false 3 (ar 3 ai (ae (aa 1) (ae (eK (.int 4)) (ae (eK (.int 8)) ah))))) (ax (aB false 4 (az bN (ar 3 ai (ae (aa 1) (ae (eK (.int 5)) (ae (eK (.int 24)) ah)))) (aa 2))) g))) [(Pap.mk rows kept ranks).enc,.int c,.int (many:Int)]=.ok ⟨.tup [.lst .leaf,.lst .leaf,.lst s7],X.enc⟩/\s7.isView=false/\Pb 16 X:=λg ⟨s7,X,e,h1,h2⟩=>by
  refine⟨s7,X,?_,h1,h2⟩
  have s1:qD 5 6 7 (bh 0) (p7 9 [.tup [.lst .leaf,.lst .leaf,.lst (.lst .leaf)],.leaf,.leaf] [(Pap.mk rows kept ranks).enc,.int c,.int (many:Int)])=.nx [none,JT (.int c),JT (.int (many:Int)),none,none,some ⟨.lst .leaf,aM rows⟩,some ⟨.lst .leaf,iL kept⟩,some ⟨.lst (.lst .leaf),.list (ranks.map bW)⟩,none]:=by
   unfold qD eX;rw[p8 (p:=⟨.tup [.lst .leaf,.lst .leaf,.lst (.lst .leaf)],(Pap.mk rows kept ranks).enc⟩) rfl]
   rfl
  have N:=dh (i:=3) (Γ1:=[none,JT (.int c),JT (.int (many:Int)),none,none,some ⟨.lst .leaf,aM rows⟩,some ⟨.lst .leaf,iL kept⟩,some ⟨.lst (.lst .leaf),.list (ranks.map bW)⟩,none]) (cH (n:=3) (den:=ai) (aA (au (i:=1) (d:=.int c) rfl) (aA (aS (d:=.int 4)) (aA (aS (d:=.int 8)) ao))) (qe (by omega) (by omega) (by omega) (by omega)) rfl rfl) rfl (by simp)
  have S:=dh (i:=4) (Γ1:=[none,JT (.int c),JT (.int (many:Int)),JT (.int (aX c 4 8)),none,some ⟨.lst .leaf,aM rows⟩,some ⟨.lst .leaf,iL kept⟩,some ⟨.lst (.lst .leaf),.list (ranks.map bW)⟩,none]) (lE (n:=many) (cH (n:=3) (den:=ai) (aA (au (i:=1) (d:=.int c) rfl) (aA (aS (d:=.int 5)) (aA (aS (d:=.int 24)) ao))) (qe (by omega) (by omega) (by omega) (by omega)) rfl rfl) (au (i:=2) rfl) (by omega)) rfl (by simp)
  unfold rK;rw[af s1 (af N (af S e))]
 refine go (ax b4 (ax b5 (ax b6 (ax b7 (ax b8 (ax b9 (aN (cG (ae (bh 5) (ae (bh 6) (ae (bh 7) ah)))))))))) ) ?_
 generalize mx (aX c 5 24) many=room at J
 generalize aX c 4 8=κ at kin
 by_cases I:κ<3
 .-- a row
  by_cases M:rows=[]
  .subst M
   have K:b4 (GC c many κ room [] kept (.lst .leaf) ranks none)=.nx (GC c many κ room [] kept (.lst .leaf) ranks none):=aP (bZ Ig Bs) (λz=>by simp at z) λ_=>rfl
   exact⟨_,_,af K (af (k5 (by omega)) (af (k6 (by omega)) (af (k7 (by omega)) (af (k8 (by omega)) (af (k9 (by omega)) (fin rfl)))))),rfl,same⟩
  .obtain⟨G,e,l',v⟩:=kQ (c:=c) (many:=many) M rl R (by omega)
   have K:b4 (GC c many κ room rows kept (.lst .leaf) ranks none)=.nx (GC c many κ room G kept (.lst .leaf) ranks none):=aP (bZ Ig Bs) (λ_=>by
    have g:oh [5,1,2] (GC c many κ room rows kept (.lst .leaf) ranks none)=some [⟨.lst .leaf,aM rows⟩,⟨.leaf,.int c⟩,⟨.leaf,.int (many:Int)⟩]:=rfl
    have f:bH (([⟨.lst .leaf,aM rows⟩,⟨.leaf,.int c⟩,⟨.leaf,.int (many:Int)⟩]:List PV).map λx=>x.d)=some [aM G,.int c,.int (many:Int)]:=e
    unfold iy;rw[g];dsimp only;rw[if_pos (by rfl),f]
    rfl) λz=>by
    have:0<rows.length:=List.length_pos_iff.mpr M
    simp[I,this]at z
   exact⟨_,_,af K (af (k5 (by omega)) (af (k6 (by omega)) (af (k7 (by omega)) (af (k8 (by omega)) (af (k9 (by omega)) (fin rfl)))))),rfl,⟨l',v,same.kl,kz,same.nl,same.nk,nz⟩⟩
 .have H:κ=3\/κ=4\/κ=5\/κ=6\/κ=7:=by omega
  rcases H with rfl|rfl|rfl|rfl|rfl
  .-- kept
   cases Y:kept.contains (room:Int)with
   |true=>
    have s5:b5 (GC c many 3 room rows kept (.lst .leaf) ranks none)=.nx (GC c many 3 room rows (kept.erase (room:Int)) (.lst .leaf) ranks none):=aP (bZ ny Ii) (λ_=>sL (ns:=kept) rfl (au (i:=4) (d:=rm room) rfl) (by simpa using Y)) λz=>by rw[Y]at z;cases z
    exact⟨_,_,af (k4 I) (af s5 (af (k6 (by omega)) (af (k7 (by omega)) (af (k8 (by omega)) (af (k9 (by omega)) (fin rfl)))))),rfl,⟨same.rl,same.rb,by have:=List.length_erase_le (a:=(room:Int)) (l:=kept);show(kept.erase (room:Int)).length<=16;omega,λz P=>kz z (List.mem_of_mem_erase P),same.nl,same.nk,nz⟩⟩
   |false=>
    have s5:b5 (GC c many 3 room rows kept (.lst .leaf) ranks none)=.nx (GC c many 3 room rows (PySem.W.sortI (kept++[(room:Int)])) (.lst .leaf) ranks none):=aP (bZ ny Ii) (λz=>by rw[Y]at z;cases z) λ_=>aP ny (λ_=>by
     refine lA (Γ1:=(GC c many 3 room rows kept (.lst .leaf) ranks none).set 6 none) (oP (ns:=kept++[(room:Int)]) (aA ((EF (xs:=kept.map .int) (ys:=[rm room]) (p8 (p:=⟨.lst .leaf,iL kept⟩) rfl) (ie (s:=.leaf) (aA (au (i:=4) (d:=rm room) rfl) ao) rfl rfl rfl) rfl rfl (by simp only[length_map,length_cons,length_nil];omega)).trans (by rw[show kept.map PyData.int++[rm room]=(kept++[(room:Int)]).map .int by simp])) ao) (by simp only[length_append,length_cons,length_nil];omega)) rfl (by simp)) λz=>by simp at z
    refine⟨_,_,af (k4 I) (af s5 (af (k6 (by omega)) (af (k7 (by omega)) (af (k8 (by omega)) (af (k9 (by omega)) (fin rfl)))))),rfl,⟨same.rl,same.rb,?_,λz P=>?_,same.nl,same.nk,nz⟩⟩
    .show(PySem.W.sortI (kept++[(room:Int)])).length<=16
     rw[(PySem.W.sortI_perm _).length_eq,length_append,length_singleton];omega
    .have P:=(PySem.W.sortI_perm _).mem_iff.mp P
     rcases JH P with y|y
     .exact kz z y
     .rw[List.mem_singleton.mp y]
      show((room:Int)).natAbs<1000
      omega
  .-- a rank
   by_cases M:ranks=[]
   .subst M
    exact⟨_,_,af (k4 I) (af (k5 (by omega)) (af (n7 ny) (af (k7 (by omega)) (af (k8 (by omega)) (af (k9 (by omega)) (fin rfl)))))),rfl,same⟩
   .have w:0<ranks.length:=List.length_pos_iff.mpr M
    have A:=(gF (a:=aX c 6 3) w).2
    have Z:ranks[mx (aX c 6 3) ranks.length]?=some (ranks[mx (aX c 6 3) ranks.length]'A):=JJ _
    generalize ranks[mx (aX c 6 3) ranks.length]'A=E at Z
    have hrkm:=mem_of_getElem? Z
    have hrl:=O E hrkm
    have d7:=yA (c:=c) (k:=7) (b:=9) (by omega) (by omega) (by omega) (by omega)
    have m3:=Int.emod_nonneg (aX c 8 4 % 3) (show(2:Int)≠0 by omega)
    have m4:=Int.emod_lt_of_pos (aX c 8 4 % 3) (show(0:Int)<2 by omega)
    obtain⟨q,hnum,enum⟩:=yT (Γ:=GC c many 4 room rows kept (.lst .leaf) ranks none) (o1:=none) (o2:=some (aX c 7 9-2)) (fa:=eK .none) aS (aC (g:=gSub) (dr (by omega) (by omega) (by omega) (by omega)) (aS (d:=.int 2)) (d:=.int (aX c 7 9-2)) rfl) (aC (g:=bN) (aC (g:=bN) (dr (k:=8) (b:=4) (by omega) (by omega) (by omega) (by omega)) (aS (d:=.int 3)) (d8 (by omega))) (aS (d:=.int 2)) (d8 (by omega))) m3 m4
    have s6:b6 (GC c many 4 room rows kept (.lst .leaf) ranks none)=.nx (GC c many 4 room rows kept (.lst .leaf) (ranks.set (mx (aX c 6 3) ranks.length) (E.set room q)) (JT (zD q))):=aP (bZ ny oa) (λ_=>af (dh enum (by cases q<;>rfl) (by simp)) ((vZ (p:=⟨.leaf,zD q⟩) (Γ:=GC c many 4 room rows kept (.lst .leaf) ranks (JT (zD q))) (j:=mx (aX c 6 3) ranks.length) (m:=room) (ds:=ranks.map bW) (es:=E.map zD) rfl (au (i:=8) rfl) (lE (dr (by omega) (by omega) (by omega) (by omega)) Jb w) (au (i:=4) (d:=rm room) rfl) (nj (by rw[length_map];exact A)) (by rw[getElem?_map,Z];rfl) (nj (by rw[length_map,hrl];exact J)) (by cases q<;>rfl)).trans (by
     rw[show(ranks.map bW).set (mx (aX c 6 3) ranks.length) (.list ((E.map zD).set room (zD q)))=(ranks.set (mx (aX c 6 3) ranks.length) (E.set room q)).map bW by rw[map_set];show _=List.set _ _ (PyData.list ((E.set room q).map zD));rw[map_set]]
     rfl))) λz=>by simp[w]at z
    refine⟨_,_,af (k4 I) (af (k5 (by omega)) (af s6 (af (k7 (by omega)) (af (k8 (by omega)) (af (k9 (by omega)) (fin rfl)))))),rfl,⟨same.rl,same.rb,same.kl,kz,by show(ranks.set _ _).length<=16;rw[length_set];omega,λk t=>?_,λk t z P=>?_⟩⟩
    .rcases mem_or_eq_of_mem_set t with y|y
     .have:=nk k y;omega
     .rw[y,length_set];have:=nk E hrkm;omega
    .rcases mem_or_eq_of_mem_set t with y|y
     .exact nz k y z P
     .rw[y]at P
      rcases mem_or_eq_of_mem_set P with u|u
      .exact nz E hrkm z u
      .rcases hnum with e|e
       .rw[e]at u;cases u
       .rw[e]at u;cases u;omega
  .-- one list less
   by_cases M:ranks=[]
   .subst M
    exact⟨_,_,af (k4 I) (af (k5 (by omega)) (af (k6 (by omega)) (af (n7 ny) (af (k8 (by omega)) (af (k9 (by omega)) (fin rfl)))))),rfl,same⟩
   .have w:0<ranks.length:=List.length_pos_iff.mpr M
    have A:=(gF (a:=aX c 6 3) w).2
    have s7':b7 (GC c many 5 room rows kept (.lst .leaf) ranks none)=.nx (GC c many 5 room rows kept .leaf (ranks.eraseIdx (mx (aX c 6 3) ranks.length)) none):=aP (bZ ny oa) (λ_=>by
     show dt 7 _ (GC c many 5 room rows kept .leaf ranks none)=_
     refine(sM (ds:=ranks.map bW) rfl (lE (dr (by omega) (by omega) (by omega) (by omega)) Jb w) (by rw[length_map];exact A) (by omega)).trans ?_
     rw[<-CQ];rfl) λz=>by simp[w]at z
    refine⟨_,_,af (k4 I) (af (k5 (by omega)) (af (k6 (by omega)) (af s7' (af (k8 (by omega)) (af (k9 (by omega)) (fin rfl)))))),rfl,⟨same.rl,same.rb,same.kl,kz,by have:=List.length_eraseIdx_le ranks (mx (aX c 6 3) ranks.length);show(ranks.eraseIdx _).length<=16;omega,λk t=>same.nk k (mem_of_mem_eraseIdx t),λk t=>nz k (mem_of_mem_eraseIdx t)⟩⟩
  .-- one list more
   have d6:=yA (c:=c) (k:=6) (b:=3) (by omega) (by omega) (by omega) (by omega)
   have rep:∀(o:Option Int)(fa:F1),fa (GC c many 6 room rows kept .leaf ranks none)=.ok ⟨.leaf,zD o⟩ (GC c many 6 room rows kept .leaf ranks none)->fZ (aH .leaf (ae fa ah)) (aa 2) (GC c many 6 room rows kept .leaf ranks none)=.ok ⟨.lst .leaf,bW (List.replicate many o)⟩ (GC c many 6 room rows kept .leaf ranks none):=λo fa L=>by
    have:=Dn (k:=(many:Int)) (ds:=[zD o]) (ie (s:=.leaf) (aA L ao) rfl rfl rfl) (au (i:=2) (d:=.int (many:Int)) rfl) (by omega) (by omega) (by simp;omega)
    rw[this];show Out.ok (PV.mk (.lst .leaf) (.list (List.replicate many [zD o]).flatten)) _=Out.ok (PV.mk (.lst .leaf) (.list ((List.replicate many o).map zD))) _
    rw[List.map_replicate,show(List.replicate many [zD o]).flatten=List.replicate many (zD o) by rw[List.flatten_replicate_singleton]]
   have pick:∃k:List (Option Int),k.length<=16/\(∀z,some z∈k->z.natAbs<1000)/\aq (aH .leaf (ae (aH .leaf ah) (ae (fZ (aH .leaf (ae (eK .none) ah)) (aa 2)) (ae (fZ (aH .leaf (ae (eK (.int 0)) ah)) (aa 2)) ah)))) (ar 3 ai (ae (aa 1) (ae (eK (.int 6)) (ae (eK (.int 3)) ah)))) (GC c many 6 room rows kept .leaf ranks none)=.ok ⟨.leaf,bW k⟩ (GC c many 6 room rows kept .leaf ranks none):=by
    have l:aH .leaf (ae (aH .leaf ah) (ae (fZ (aH .leaf (ae (eK .none) ah)) (aa 2)) (ae (fZ (aH .leaf (ae (eK (.int 0)) ah)) (aa 2)) ah))) (GC c many 6 room rows kept .leaf ranks none)=.ok ⟨.lst .leaf,.list [bW [],bW (List.replicate many none),bW (List.replicate many (some 0))]⟩ (GC c many 6 room rows kept .leaf ranks none):=ie (s:=.leaf) (aA (ie (s:=.leaf) ao rfl rfl rfl) (aA (rep none _ aS) (aA (rep (some 0) _ aS) ao))) rfl rfl rfl
    have dd:=dr (c:=c) (many:=many) (κ:=6) (room:=room) (rows:=rows) (kept:=kept) (s7:=.leaf) (ranks:=ranks) (x8:=none) (k:=6) (b:=3) (by omega) (by omega) (by omega) (by omega)
    generalize aX c 6 3=e at d6 dd
    have:e=0\/e=1\/e=2:=by omega
    rcases this with rfl|rfl|rfl
    .exact⟨[],by simp,(λz h=>nomatch h),nC (j:=0) l dd rfl rfl rfl⟩
    .exact⟨List.replicate many none,by simp;omega,λz h=>(nomatch (List.eq_of_mem_replicate h)),nC (j:=1) l dd rfl rfl rfl⟩
    .exact⟨List.replicate many (some 0),by simp;omega,λz h=>by have:=List.eq_of_mem_replicate h;cases this;decide,nC (j:=2) l dd rfl rfl rfl⟩
   obtain⟨k,hk1,H,ek⟩:=pick;have s8:b8 (GC c many 6 room rows kept (.lst .leaf) ranks none)=.nx (GC c many 6 room rows kept .leaf (ranks++[k]) none):=aP ny (λ_=>by
    show fS 7 _ (GC c many 6 room rows kept .leaf ranks none)=_
    refine(CD (s:=.leaf) (ds:=ranks.map bW) rfl ek rfl (by rw[length_map];omega)).trans ?_
    rw[show ranks.map bW++[bW k]=(ranks++[k]).map bW by rw[map_append];rfl]
    rfl) λz=>by simp at z
   refine⟨_,_,af (k4 I) (af (k5 (by omega)) (af (k6 (by omega)) (af (k7 (by omega)) (af s8 (af (k9 (by omega)) (fin rfl)))))),rfl,⟨same.rl,same.rb,same.kl,kz,by show(ranks++[k]).length<=16;rw[length_append,length_singleton];omega,λk' t=>?_,λk' t=>?_⟩⟩
   .rcases JH t with y|y
    .exact same.nk k' y
    .rw[List.mem_singleton.mp y];exact hk1
   .rcases JH t with y|y
    .exact nz k' y
    .rw[List.mem_singleton.mp y];exact H
  .-- one rank more
   cases ranks with
   |nil=>exact⟨_,_,af (k4 I) (af (k5 (by omega)) (af (k6 (by omega)) (af (k7 (by omega)) (af (k8 (by omega)) (af (n7 ny) (fin rfl)))))),rfl,same⟩
   |cons E U=>
    have d2:=yA (c:=c) (k:=6) (b:=2) (by omega) (by omega) (by omega) (by omega)
    obtain⟨q,hnum,enum⟩:=yT (Γ:=GC c many 7 room rows kept (.lst .leaf) (E::U) none) (o1:=none) (o2:=some 1) (fa:=eK .none) (fb:=eK (.int 1)) aS aS (dr (k:=6) (b:=2) (by omega) (by omega) (by omega) (by omega)) d2.1 d2.2
    have hrl:=nk E mem_cons_self
    have s9:b9 (GC c many 7 room rows kept (.lst .leaf) (E::U) none)=.nx (GC c many 7 room rows kept (.lst .leaf) ((E++[q])::U) none):=aP (bZ ny oa) (λ_=>(sO (j:=0) (ds:=(E::U).map bW) (es:=E.map zD) rfl (aS (d:=.int 0)) (nj (k:=0) (by simp)) rfl enum (by cases q<;>rfl) (by rw[length_map];omega)).trans (by
     rw[show((E::U).map bW).set 0 (.list (E.map zD++[zD q]))=((E++[q])::U).map bW by rw[map_cons,map_cons];show PyData.list _::_=PyData.list _::_;rw[map_append];rfl]
     rfl)) λz=>by simp at z
    refine⟨_,_,af (k4 I) (af (k5 (by omega)) (af (k6 (by omega)) (af (k7 (by omega)) (af (k8 (by omega)) (af s9 (fin rfl)))))),rfl,⟨same.rl,same.rb,same.kl,kz,same.nl,λk t=>?_,λk t z P=>?_⟩⟩
    .rcases JI t with y|y
     .rw[y,length_append,length_singleton];omega
     .exact same.nk k (JL _ y)
    .rcases JI t with y|y
     .rw[y]at P
      rcases JH P with u|u
      .exact nz E mem_cons_self z u
      .have u:=List.mem_singleton.mp u
       rcases hnum with e|e
       .rw[e]at u;cases u
       .rw[e]at u;cases u;decide
     .exact nz k (JL _ y) z P
end
section
variable{w:Wd}{R L:List Nat}{M:List Str}{c:Str}
theorem Ad:T.cutD l none (some (k:Int))=l.take k:=by
 unfold T.cutD;rw[HT.sIx_none,HT.sIx_nat,List.drop_zero,Nat.sub_zero];by_cases h:k<=l.length
 .rw[Nat.min_eq_left h]
 .rw[Nat.min_eq_right (by omega),take_of_length_le (JR _),take_of_length_le (by omega)]
theorem FO{o:Option Int}{t:Int}:bP (zD o) (.int t)=some (.bool (decide (o=some t))):=by
 cases o with
 |none=>
  show(if shaped PyData.none&&shaped (.int t)then some (PyData.bool (PyData.eqv .none (.int t)))else none)=_
  rw[yL];rfl
 |some z=>
  show bP (.int z) (.int t)=_
  rw[KC.eq_int];congr 2
  rw[Bool.eq_iff_iff];simp
structure Fo(w:Wd)(rk:List (Option Int)):Prop where
 len:rk.length=w.n
 z:∀z,some z∈rk->z.natAbs<1000
noncomputable abbrev GN(w:Wd)(L:List Nat)(c:Str)(E:List (Option Int))(Y l H:Option PV):Ev:=[JT w.enc,JT (ay L),JT (.str c),some ⟨.lst .leaf,bW E⟩,Y,l,H,none]
noncomputable abbrev uB:FS:=(ax (aB false 6 (aw .leaf 7 (aF (aq (aq (aa 0) (eK (.int 2))) (aa 5))) (bK (aG aj (az (bw false) (aa 7) (aa 1))) (aG aj (az bP (aq (aa 3) (aa 7)) (az gSub (aa 4) (eK (.int 1)))))) (aa 7)))
  (bA (bK (aG aj (az (bq false) (aq (aa 3) (aa 5)) (eK .none))) (aG aj (az cO (aa 6) (aH .leaf ah)))) (cg 3 (aa 4) (aa 5)) aD))
theorem g3{E:List (Option Int)}{Γ:Ev}(h:Γ[3]?=some (some ⟨.lst .leaf,bW E⟩))(Z:e Γ=.ok ⟨.leaf,rm t⟩ Γ)(u:t<E.length):aq (aa 3) e Γ=.ok ⟨.leaf,zD (zA E t)⟩ Γ:=nC (j:=t) (dm h) Z (nj (by rw[length_map];exact u)) (yz u) (by cases zA E t<;>rfl)
theorem Bn(ok:w.Ok){E:List (Option Int)}(h:Fo w E){r:Nat}(e:t<=24)(m:r<w.n)(H:Option PV):∃p C,uB (GN w L c E (JT (.int (t:Int))) (JT (rm r)) H)=.nx (GN w L c p (JT (.int (t:Int))) (JT (rm r)) C)/\Fo w p:=by
 have N:=h.len
 have J:aw .leaf 7 (aF (aq (aq (aa 0) (eK (.int 2))) (aa 5))) (bK (aG aj (az (bw false) (aa 7) (aa 1))) (aG aj (az bP (aq (aa 3) (aa 7)) (az gSub (aa 4) (eK (.int 1)))))) (aa 7) (GN w L c E (JT (.int (t:Int))) (JT (rm r)) H)=.ok ⟨.lst .leaf,ay ((w.stp r).filter λu=>L.contains u&&decide (zA E u=some ((t:Int)-1)))⟩ (GN w L c E (JT (.int (t:Int))) (JT (rm r)) H):=
  i7 rm (w.stp r) (λu=>L.contains u&&decide (zA E u=some ((t:Int)-1))) (λt=>⟨.leaf,rm t⟩) (st:=true) (bg (s:=.leaf) (CC ok rfl (au rfl) m) rfl) (by simp) rfl ok.z.len (λu f=>bZ (bQ (s:=.leaf) (aC (au rfl) (au rfl) yD)) (bQ (s:=.leaf) (aC (g:=bP) (g3 rfl (au rfl) (by rw[N];exact ok.stp_lt f)) (aC (g:=gSub) (au (i:=4) (d:=.int (t:Int)) rfl) (aS (d:=.int 1)) (d:=.int ((t:Int)-1)) rfl) FO))) λt e _=>⟨au rfl,rfl⟩
 generalize ((w.stp r).filter λu=>L.contains u&&decide (zA E u=some ((t:Int)-1)))=A at J
 have o:aB false 6 _ (GN w L c E (JT (.int (t:Int))) (JT (rm r)) H)=.nx (GN w L c E (JT (.int (t:Int))) (JT (rm r)) (JT (ay A))):=dh J rfl (by simp)
 have a:bq false (zD (zA E r)) .none=some (.bool (zA E r).isNone):=by cases zA E r<;>rfl
 have b:=bZ (bQ (s:=.leaf) (aC (g:=bq false) (g3 (Γ:=GN w L c E (JT (.int (t:Int))) (JT (rm r)) (JT (ay A))) rfl (au (i:=5) rfl) (by omega)) (aS (d:=.none)) a)) (bQ (s:=.leaf) (aC (g:=cO) (au (i:=6) rfl) (ie (s:=.leaf) ao rfl rfl rfl) FW))
 cases Z:((zA E r).isNone&&!A.isEmpty)with
 |false=>
  rw[Z]at b;exact⟨E,_,af o (aP b nofun λ_=>rfl),h⟩
 |true=>
  rw[Z]at b;refine⟨E.set r (some (t:Int)),JT (ay A),af o (aP b (λ_=>(F8 (i:=3) (j:=r) (ds:=E.map zD) rfl (au (i:=4) (d:=.int (t:Int)) rfl) (au (i:=5) (d:=rm r) rfl) (nj (by rw[length_map];omega)) rfl).trans ?_) nofun),⟨by rw[length_set];exact N,λz P=>?_⟩⟩
  .rw[show(E.map zD).set r (.int (t:Int))=(E.set r (some (t:Int))).map zD by rw[map_set];rfl]
   rfl
  .rcases mem_or_eq_of_mem_set P with u|u
   .exact h.z z u
   .cases u
    omega
theorem vf(ok:w.Ok)(hL:∀r∈L,r<w.n)(f:PyData.strOk c=true):∃E,bJ [w.enc,ay L,.str c]=.ok ⟨.lst .leaf,bW E⟩/\Fo w E:=by
 have I:=ok.h24
 have O:=ok.g.lo
 have A:∀Γ:Ev,Γ[0]?=some (JT w.enc)->bc aI (ae (aq (aa 0) (eK (.int 0))) ah) Γ=.ok ⟨.leaf,.int (w.n:Int)⟩ Γ:=λΓ h=>bt (aA (jC (j:=0) (au h) aS rfl rfl rfl) ao) (by simp[O])
 have q:aw .leaf 5 (i5 (ae (bc aI (ae (aq (aa 0) (eK (.int 0))) ah)) ah)) aR (vJ (bK (aG aj (az (bw false) (aa 5) (aa 1))) (aG aj (az (bw false) (aa 2) (aq (aq (aa 0) (eK (.int 1))) (aa 5))))) (eK (.int 0)) (eK .none)) (bp 8 [w.enc,ay L,.str c])=.ok ⟨.lst .leaf,bW ((List.range w.n).map λr=>if L.contains r&&(w.mks r).contains c then some 0 else none)⟩ (bp 8 [w.enc,ay L,.str c]):=by
  have:=nr rm (List.range w.n) (λr=>⟨.leaf,zD (if L.contains r&&(w.mks r).contains c then some 0 else none)⟩) (s:=.leaf) (i:=5) (fi:=i5 (ae (bc aI (ae (aq (aa 0) (eK (.int 0))) ah)) ah)) (fe:=vJ (bK (aG aj (az (bw false) (aa 5) (aa 1))) (aG aj (az (bw false) (aa 2) (aq (aq (aa 0) (eK (.int 1))) (aa 5))))) (eK (.int 0)) (eK .none)) (st:=true) (Γ:=bp 8 [w.enc,ay L,.str c]) (kh (s:=.leaf) (n:=w.n) (by omega) (aA (A _ rfl) ao)) (by simp[bp]) rfl (by simp;omega) λr N=>⟨Dp (bZ (bQ (s:=.leaf) (aC (au rfl) (au rfl) yD)) (bQ (s:=.leaf) (aC (au rfl) (C9 ok (i:=0) rfl (au rfl) (List.mem_range.mp N)) (Ct f (zE ok r))))) (λe=>by rw[e];exact aS) λe=>by rw[e];exact aS,by cases(L.contains r&&(w.mks r).contains c)<;>rfl⟩
  rw[this];show Out.ok (PV.mk _ (.list _)) _=Out.ok (PV.mk _ (.list _)) _
  rw[map_map];rfl
 have a:Fo w ((List.range w.n).map λr=>if L.contains r&&(w.mks r).contains c then(some 0:Option Int)else none):=⟨by simp,λz P=>by
  obtain⟨r,_,e⟩:=List.mem_map.mp P;split at e
  .cases e;decide
  .cases e⟩
 generalize ((List.range w.n).map λr=>if L.contains r&&(w.mks r).contains c then(some 0:Option Int)else none)=rk0 at q a
 have S:aB true 3 _ (bp 8 [w.enc,ay L,.str c])=.nx (GN w L c rk0 none none none):=lA q rfl (by simp[bp])
 have Y:=a.len
 obtain⟨X,e,_,E,Z,K,C,rfl,b⟩:=EW (λt:Nat=>PyData.int (1+(t:Int))) (i:=4) (body:=cM 5 (aF (aa 1)) uB) (Inv:=λl Γ=>(∀t∈l,t<24)/\∃E Z K C,Γ=GN w L c E Z K C/\Fo w E) (λt U Γ ⟨hts,E,Z,K,C,hΓ,b⟩=>by
  subst hΓ;have u:=hts t mem_cons_self
  obtain⟨o,e2,_,y,v,x,rfl,J⟩:=EW rm (i:=5) (body:=uB) (Inv:=λl Γ=>(∀r∈l,r<w.n)/\∃E K C,Γ=GN w L c E (JT (.int ((t+1:Nat):Int))) K C/\Fo w E) (λr U Γ ⟨hrs,E,K,C,hΓ,b⟩=>by
   subst hΓ;obtain⟨p,H,e,G⟩:=Bn (L:=L) (c:=c) ok b (t:=t+1) (by omega) (hrs r mem_cons_self) C
   exact⟨by simp,_,e,λr N=>hrs r (JL _ N),p,_,H,rfl,G⟩) L (GN w L c E (JT (.int ((t+1:Nat):Int))) K C) ⟨hL,E,K,C,rfl,b⟩
  refine⟨by simp,GN w L c y (JT (.int ((t+1:Nat):Int))) v x,?_,λt u=>hts t (JL _ u),y,JT (.int ((t+1:Nat):Int)),v,x,rfl,J⟩
  rw[show(1+(t:Int))=((t+1:Nat):Int) by omega]
  exact bE (bg (ds:=L.map rm) (s:=.leaf) (au rfl) rfl) e2) (List.range w.n) (GN w L c rk0 none none none) ⟨λt u=>by have:=List.mem_range.mp u;omega,rk0,none,none,none,rfl,a⟩
 have wr:vI (ae (eK (.int 1)) (ae (az ba (bc aI (ae (aa 3) ah)) (eK (.int 1))) ah)) (GN w L c rk0 none none none)=.ok ⟨(List.range w.n).map λt:Nat=>PyData.int (1+(t:Int)),true⟩ (GN w L c rk0 none none none):=by
  have:=Dh (k:=1) (m:=(w.n:Int)+1) (aA (aS (d:=.int 1) (Γ:=GN w L c rk0 none none none)) (aA (aC (g:=ba) (bt (g:=aI) (d:=.int (rk0.length:Int)) (aA (dm (i:=3) rfl) ao) nE) (aS (d:=.int 1)) (d:=.int ((rk0.length:Int)+1)) rfl) ao)) (by rw[Y];rfl) (by omega) (by omega) (by omega) (by omega)
  rw[this];unfold T.rngD;rw[show((w.n:Int)+1-1).toNat=w.n by omega]
 exact⟨E,aQ (af S (af (bE wr e) (aL (p8 rfl) rfl))),b⟩
noncomputable abbrev GF(w:Wd)(M:List Str)(p:Pap)(R:List Nat)(U:Int)(v:List FRow)(H C S a:Option PV):Ev:=[JT w.enc,JT (bx M),JT p.enc,JT (ay R),JT (.int U),some ⟨.lst .leaf,aM v⟩,H,C,S,a,none]
theorem pM{p:Pap}{cl:Int}{rows:List FRow}(m:∀r∈rows,r.g.length<=15)(N:rows.length<=15):∀(f n:Nat)(gone:List Int)(x7:Option PV),rows.length<=n+f->gone.length<=15*n->n<=rows.length->∃a b,uU 5 7 (aB false 6 (eJ (aa 6) (aq (aa 7) (eK (.int 0))))) (f+1) n (GF w M p R cl rows (JT (iL gone)) x7 none none)=.nx (GF w M p R cl rows (JT (iL a)) b none none)
 |f,n,gone,x7,h1,h2,h3=>by
  have h:(GF w M p R cl rows (JT (iL gone)) x7 none none)[5]?=some (some ⟨.lst .leaf,.list (rows.map FRow.enc)⟩):=rfl
  rw[uU,h];dsimp only
  cases e:rows[n]? with
  |none=>
   rw[getElem?_map,e];exact⟨gone,x7,rfl⟩
  |some r=>
   have Y:=(JN e).1
   have g:=m r (mem_of_getElem? e)
   rw[getElem?_map,e];show ∃a b,(if 7<(GF w M p R cl rows (JT (iL gone)) x7 none none).length then(match aB false 6 (eJ (aa 6) (aq (aa 7) (eK (.int 0)))) (GF w M p R cl rows (JT (iL gone)) (JT r.enc) none none)with
    |.nx X=>uU 5 7 (aB false 6 (eJ (aa 6) (aq (aa 7) (eK (.int 0))))) f (n+1) X
    |_=>.no)else .no)=_
   have s:aB false 6 (eJ (aa 6) (aq (aa 7) (eK (.int 0)))) (GF w M p R cl rows (JT (iL gone)) (JT r.enc) none none)=.nx (GF w M p R cl rows (JT (iL (gone++r.g))) (JT r.enc) none none):=by
    have:=dh (i:=6) (EF (Γ:=GF w M p R cl rows (JT (iL gone)) (JT r.enc) none none) (xs:=gone.map .int) (ys:=r.g.map .int) (au (i:=6) rfl) (jC (j:=0) (ds:=[iL r.g,mD r.m]) (au (i:=7) (d:=r.enc) rfl) (aS (d:=.int 0)) rfl rfl rfl) rfl rfl (by rw[length_map,length_map];omega)) rfl (by simp)
    rw[this,<-map_append];rfl
   rw[s,if_pos (by simp)]
   cases f with
   |zero=>omega
   |succ f=>exact pM m N f (n+1) (gone++r.g) _ (by omega) (by rw[length_append];omega) (by omega)
theorem oz(ok:w.Ok)(hR:Std w.n R)(Y:w.n<=15)(H:∀c∈M,c∈bb)(hl3:M.length<=3){p:Pap}(hp:Pb 15 p){cl:Int}:∃X,cy [w.enc,bx M,p.enc,ay R,.int cl]=.ok ⟨.tup [.leaf,.leaf,.lst .leaf],X.enc⟩/\Pb 16 X:=by
 have h24:=ok.h24
 have hRl:=hR.len
 have dr:∀{k b:Int}{Γ:Ev},Γ[4]?=some (JT (.int cl))->0<=k->k<=1000->1<=b->b<=1000->ar 3 ai (ae (aa 4) (ae (eK (.int k)) (ae (eK (.int b)) ah))) Γ=.ok ⟨.leaf,.int (aX cl k b)⟩ Γ:=λh J S I h4=>cH (aA (au h) (aA aS (aA aS ao))) (qe J S I h4) rfl rfl
 have i0:aq (aa 2) (eK (.int 0)) (bp 11 [w.enc,bx M,p.enc,ay R,.int cl])=.ok ⟨.leaf,aM p.rows⟩ (bp 11 [w.enc,bx M,p.enc,ay R,.int cl]):=jC (j:=0) (ds:=[aM p.rows,iL p.kept,.list (p.ranks.map bW)]) (au (d:=p.enc) rfl) aS rfl rfl rfl
 have sl:=Dl (g:=λk=>(none,some k)) (xs:=p.rows.map FRow.enc) (k:=(mx (aX cl 0 24) (p.rows.length+1):Int)) i0 (lE (n:=p.rows.length+1) (dr (k:=0) (b:=24) rfl (by omega) (by omega) (by omega) (by omega)) (aC (g:=ba) (bt (g:=aI) (d:=.int (p.rows.length:Int)) (aA i0 ao) nE) (aS (d:=.int 1)) (d:=.int ((p.rows.length+1:Nat):Int)) rfl) (by omega)) rfl
 have cut:T.cutD (p.rows.map FRow.enc) none (some (mx (aX cl 0 24) (p.rows.length+1):Int))=((p.rows.take (mx (aX cl 0 24) (p.rows.length+1))).map FRow.enc):=by rw[Ad,List.map_take]
 simp only at sl
 rw[cut]at sl;generalize hrows:p.rows.take (mx (aX cl 0 24) (p.rows.length+1))=rows at sl
 have hrl:rows.length<=15:=by rw[<-hrows,length_take];have:=hp.rl;omega
 have hrb:∀r∈rows,Rb 15 r:=λr m=>hp.rb r (by rw[<-hrows]at m;exact List.mem_of_mem_take m)
 have s1:aB true 5 _ (bp 11 [w.enc,bx M,p.enc,ay R,.int cl])=.nx (GF w M p R cl rows none none none none):=lA sl rfl (by simp[bp])
 have s2:aB false 6 (aH .leaf ah) (GF w M p R cl rows none none none none)=.nx (GF w M p R cl rows (JT (iL [])) none none none):=dh (ie (s:=.leaf) ao rfl rfl rfl) rfl (by simp)
 obtain⟨l,C,s3⟩:=pM (w:=w) (M:=M) (R:=R) (p:=p) (cl:=cl) (rows:=rows) (λr m=>(hrb r m).len) hrl 999 0 [] none (by omega) (by simp) (by omega)
 have s3:oX 5 7 (aB false 6 (eJ (aa 6) (aq (aa 7) (eK (.int 0))))) (GF w M p R cl rows (JT (iL [])) none none none)=.nx (GF w M p R cl rows (JT (iL l)) C none none):=s3
 have c8:aw .leaf 9 (aF (aa 3)) (aG aj (az (bw true) (aa 9) (aa 6))) (aa 9) (GF w M p R cl rows (JT (iL l)) C none none)=.ok ⟨.lst .leaf,ay (R.filter λr=>!l.contains (r:Int))⟩ (GF w M p R cl rows (JT (iL l)) C none none):=
  i7 rm R (λr=>!l.contains (r:Int)) (λt=>⟨.leaf,rm t⟩) (st:=true) (bg (s:=.leaf) (au rfl) rfl) (by simp) rfl (by omega) (λt u=>bQ (s:=.leaf) (aC (au rfl) (au rfl) De)) λt u _=>⟨au rfl,rfl⟩
 have hLs:=hR.filter λr:Nat=>!l.contains (r:Int)
 generalize (R.filter λr:Nat=>!l.contains (r:Int))=L at c8 hLs
 have hLl:=hLs.len
 have s4:aB true 8 _ (GF w M p R cl rows (JT (iL l)) C none none)=.nx (GF w M p R cl rows (JT (iL l)) C (some ⟨.lst .leaf,ay L⟩) none):=lA c8 rfl (by simp)
 have last:∀(G:List FRow)(L':List Nat)(x9:Option PV),G.length<=16->(∀r∈G,Rb 16 r)->L'.length<=16->(∀r∈L',r<w.n)->∃X,(iA 8 (iA 5 (aN (cG (ae (aa 5) (ae (aa 8) (ae (aw .leaf 10 (aF (aa 1)) aR (ar 3 bJ (ae (aa 0) (ae (aa 8) (ae (aa 10) ah))))) ah))))))) (GF w M p R cl G (JT (iL l)) C (some ⟨.lst .leaf,ay L'⟩) x9)=.rt ⟨.tup [.leaf,.leaf,.lst .leaf],X.enc⟩/\Pb 16 X:=λG L' x9 N Z hl2 v=>by
  have h:∀c:Str,∃E:List (Option Int),c∈M->(bJ [w.enc,ay L',.str c]=.ok ⟨.lst .leaf,bW E⟩/\Fo w E):=λc=>by
   by_cases f:c∈M
   .obtain⟨E,q⟩:=vf (L:=L') ok v (vL (H c f)).1
    exact⟨E,λ_=>q⟩
   .exact⟨[],λz=>absurd z f⟩
  obtain⟨F,hF⟩:=Classical.axiomOfChoice h;refine⟨⟨G,bL L',M.map F⟩,sN (p:=⟨.lst .leaf,ay L'⟩) rfl (sN (p:=⟨.lst .leaf,aM G⟩) rfl (aL (Γ1:=[JT w.enc,JT (bx M),JT p.enc,JT (ay R),JT (.int cl),JT (aM G),JT (iL l),C,JT (ay L'),x9,none]) ?_ rfl)),⟨N,Z,by show(bL L').length<=16;rw[length_map];exact hl2,λz P=>?_,by show(M.map F).length<=16;rw[length_map];omega,λk O=>?_,λk O=>?_⟩⟩
  .have cf:aw .leaf 10 (aF (aa 1)) aR (ar 3 bJ (ae (aa 0) (ae (aa 8) (ae (aa 10) ah)))) [JT w.enc,JT (bx M),JT p.enc,JT (ay R),JT (.int cl),JT (aM G),JT (iL l),C,JT (ay L'),x9,none]=.ok ⟨.lst .leaf,.list (M.map λc=>bW (F c))⟩ [JT w.enc,JT (bx M),JT p.enc,JT (ay R),JT (.int cl),JT (aM G),JT (iL l),C,JT (ay L'),x9,none]:=
    nr PyData.str M (λc=>⟨.lst .leaf,bW (F c)⟩) (st:=true) (bg (s:=.leaf) (au rfl) rfl) (by simp) rfl (by omega) λc f=>⟨cH (aA (au rfl) (aA (au rfl) (aA (au rfl) ao))) (hF c f).1 rfl rfl,rfl⟩
   refine(dX (aA (au (i:=5) rfl) (aA (au (i:=8) rfl) (aA cf ao))) rfl rfl).trans ?_
   unfold Pap.enc;dsimp only;rw[<-fX,map_map];rfl
  .obtain⟨x,A,rfl⟩:=List.mem_map.mp P
   have:=v x A
   show((x:Int)).natAbs<1000
   omega
  .obtain⟨c,f,rfl⟩:=List.mem_map.mp O
   have:=(hF c f).2.len
   omega
  .obtain⟨c,f,rfl⟩:=List.mem_map.mp O
   exact(hF c f).2.z
 have tt:=bZ (bQ (s:=.leaf) (aC (g:=bP) (dr (k:=1) (b:=3) (Γ:=GF w M p R cl rows (JT (iL l)) C (some ⟨.lst .leaf,ay L⟩) none) rfl (by omega) (by omega) (by omega) (by omega)) (aS (d:=.int 1)) KC.eq_int)) (bQ (s:=.leaf) (aC (g:=cO) (dm (i:=8) rfl) (ie (s:=.leaf) ao rfl rfl rfl) (FW (a:=L))))
 cases Z:((aX cl 1 3==1)&&!L.isEmpty)with
 |false=>
  rw[Z]at tt;obtain⟨X,e,q⟩:=last rows L none (by omega) (λr m=>(hrb r m).le (by omega)) (by omega) hLs.lt
  exact⟨X,aQ (af s1 (af s2 (af s3 (af s4 (af (aP tt nofun λ_=>rfl) e))))),q⟩
 |true=>
  rw[Z]at tt;have K:L≠[]:=λz=>by rw[z]at Z;simp at Z
  have hpos:0<L.length:=List.length_pos_iff.mpr K
  have hj:=(gF (a:=aX cl 2 24) hpos).2
  have ej:L[mx (aX cl 2 24) L.length]?=some (L[mx (aX cl 2 24) L.length]'hj):=JJ _
  generalize L[mx (aX cl 2 24) L.length]'hj=room at ej
  have hroom:=mem_of_getElem? ej
  have hrn:=hLs.lt room hroom
  have U:=dh (i:=9) (nC (j:=mx (aX cl 2 24) L.length) (ds:=L.map rm) (d:=rm room) (dm (i:=8) (Γ:=GF w M p R cl rows (JT (iL l)) C (some ⟨.lst .leaf,ay L⟩) none) rfl) (lE (n:=L.length) (dr (k:=2) (b:=24) rfl (by omega) (by omega) (by omega) (by omega)) (bt (aA (dm (i:=8) rfl) ao) nE) hpos) (nj (by rw[length_map];exact hj)) (by rw[getElem?_map,ej];rfl) rfl) rfl (by simp)
  have hmk:=(gF (a:=aX cl 3 24) (n:=1+M.length) (by omega)).2
  have em:∃o:Option Str,(∀c,o=some c->c∈M)/\((PyData.none::M.map PyData.str)[mx (aX cl 3 24) (1+M.length)]?=some (mD o)):=by
   generalize mx (aX cl 3 24) (1+M.length)=k at hmk
   cases k with
   |zero=>exact⟨none,(λc e=>nomatch e),rfl⟩
   |succ k=>
    have:M[k]?=some (M[k]'(by omega)):=JJ _
    exact⟨some (M[k]'(by omega)),λc e=>by cases e;exact getElem_mem _,by rw[getElem?_cons_succ,getElem?_map,this];rfl⟩
  obtain⟨o,ho,eo⟩:=em;have vm:aq (eJ (aH .leaf (ae (eK .none) ah)) (aa 1)) (az bN (ar 3 ai (ae (aa 4) (ae (eK (.int 3)) (ae (eK (.int 24)) ah)))) (az ba (eK (.int 1)) (bc aI (ae (aa 1) ah)))) (GF w M p R cl rows (JT (iL l)) C (some ⟨.lst .leaf,ay L⟩) (JT (rm room)))=.ok ⟨.leaf,mD o⟩ (GF w M p R cl rows (JT (iL l)) C (some ⟨.lst .leaf,ay L⟩) (JT (rm room))):=
   nC (j:=mx (aX cl 3 24) (1+M.length)) (ds:=PyData.none::M.map PyData.str) (EF (xs:=[.none]) (ys:=M.map PyData.str) (ie (s:=.leaf) (aA aS ao) rfl rfl rfl) (au (i:=1) rfl) rfl rfl (by simp;omega)) (lE (n:=1+M.length) (dr (k:=3) (b:=24) rfl (by omega) (by omega) (by omega) (by omega)) (aC (g:=ba) (aS (d:=.int 1)) (bt (g:=aI) (d:=.int (M.length:Int)) (aA (au (i:=1) (d:=bx M) rfl) ao) nE) (d:=.int ((1+M.length:Nat):Int)) (by show some (PyData.int (1+(M.length:Int)))=_;congr 2)) (by omega)) (nj (by rw[length_cons,length_map];omega)) eo rfl
  have s6:fS 5 (cG (ae (aH .leaf (ae (aa 9) ah)) (ae (aq (eJ (aH .leaf (ae (eK .none) ah)) (aa 1)) (az bN (ar 3 ai (ae (aa 4) (ae (eK (.int 3)) (ae (eK (.int 24)) ah)))) (az ba (eK (.int 1)) (bc aI (ae (aa 1) ah))))) ah))) (GF w M p R cl rows (JT (iL l)) C (some ⟨.lst .leaf,ay L⟩) (JT (rm room)))=.nx (GF w M p R cl (rows++[⟨[(room:Int)],o⟩]) (JT (iL l)) C (some ⟨.lst .leaf,ay L⟩) (JT (rm room))):=by
   refine(CD (s:=.leaf) (ds:=rows.map FRow.enc) (p:=⟨.tup [.lst .leaf,.leaf],(FRow.mk [(room:Int)] o).enc⟩) rfl ((dX (aA (ie (s:=.leaf) (aA (au (i:=9) (d:=rm room) rfl) ao) rfl rfl rfl) (aA vm ao)) rfl rfl).trans rfl) rfl (by rw[length_map];omega)).trans ?_
   rw[show rows.map FRow.enc++[(FRow.mk [(room:Int)] o).enc]=(rows++[FRow.mk [(room:Int)] o]).map FRow.enc by rw[map_append];rfl]
   rfl
  have er:∀(L:List Nat),(bL L).erase (room:Int)=bL (L.erase room):=λL=>by
   induction L with
   |nil=>rfl
   |cons a r ih=>
    show((a:Int)::bL r).erase (room:Int)=bL ((a::r).erase room)
    rw[List.erase_cons,List.erase_cons];by_cases h:a=room
    .subst h
     simp
    .rw[if_neg (by rw[beq_iff_eq];omega),if_neg (by rw[beq_iff_eq];exact h),ih]
     rfl
  have s7:fz 8 (aa 9) (GF w M p R cl (rows++[⟨[(room:Int)],o⟩]) (JT (iL l)) C (some ⟨.lst .leaf,ay L⟩) (JT (rm room)))=.nx (GF w M p R cl (rows++[⟨[(room:Int)],o⟩]) (JT (iL l)) C (some ⟨.lst .leaf,ay (L.erase room)⟩) (JT (rm room))):=by
   refine(sL (ns:=bL L) (z:=(room:Int)) (by show some (some (PV.mk (.lst .leaf) (ay L)))=_;rw[fX]) (au (i:=9) (d:=rm room) rfl) (List.mem_map.mpr ⟨room,hroom,rfl⟩)).trans ?_
   rw[er,<-fX];rfl
  obtain⟨X,e,q⟩:=last (rows++[⟨[(room:Int)],o⟩]) (L.erase room) (JT (rm room)) (by rw[length_append,length_singleton];omega) (λr m=>by
   rcases JH m with y|y
   .exact(hrb r y).le (by omega)
   .rw[List.mem_singleton.mp y]
    refine⟨by show 1<=16;omega,λz P=>?_,λc' e=>jZ (H c' (ho c' e))⟩
    rw[List.mem_singleton.mp P];show((room:Int)).natAbs<1000
    omega) (Nat.le_trans (List.length_erase_le) (by omega)) λr m=>hLs.lt r (List.mem_of_mem_erase m)
  exact⟨X,aQ (af s1 (af s2 (af s3 (af s4 (af (aP tt (λ_=>af U (af s6 s7)) nofun) e))))),q⟩
end
section
variable{w:Wd}{R:List Nat}{M:List Str}
theorem vY{G:List PV}{p:PV}{j:Nat}{o:List Sh}{a:List D->Res}(N:b C=.ok G I)(U:a (G.map (·.d))=.ok p)(t:vH o G=true)(A:j<I.length)(c:p.s.isView=false):ix true j o a b C=.nx (I.set j (some p)):=by
 unfold ix;rw[N];simp only[t,decide_eq_true A,Bool.and_self,if_true,U,c];rfl
theorem Jr(ok:w.Ok)(H:∀x∈M,PyData.strOk x=true){t:Str}(u:PyData.strOk t=true):shaped (.list [w.enc,ay R,bx M,.str t])=true:=by
 have J:=B3 ok
 have S:=B4 (xs:=R.map rm) λa U=>by
  obtain⟨t,_,e⟩:=List.mem_map.mp U;exact⟨(t:Int),e.symm⟩
 have I:=Ee (xs:=M.map .str) λa U=>by
  obtain⟨t,u,e⟩:=List.mem_map.mp U;exact⟨t,e.symm,H t u⟩
 have Z:PyData.canLay0 (ay R)=true:=by
  show PyData.canLay0 (.list (R.map rm))=true
  rw[PyData.canLay0];exact S.1
 have q:PyData.canLay0 (bx M)=true:=by
  show PyData.canLay0 (.list (M.map .str))=true
  rw[PyData.canLay0];exact I.1
 have i:PyData.depth (ay R)<=1:=by
  show PyData.depth (.list (R.map rm))<=1
  rw[PyData.depth,S.2];omega
 have f:PyData.depth (bx M)<=1:=by
  show PyData.depth (.list (M.map .str))<=1
  rw[PyData.depth,I.2];omega
 have l:=J.2
 have g:=J.1
 generalize ay R=A at Z i
 generalize bx M=B at q f
 generalize w.enc=C at g l
 have o:PyData.canLay0 (.str t)=true:=by rw[PyData.canLay0];exact u
 have b:PyData.depth (.str t)=0:=by rw[PyData.depth]
 generalize PyData.str t=E at o b
 simp only[shaped,PyData.canLay0,PyData.canLayAll0,PyData.depth,PyData.depthAll,g,Z,q,o,b,Bool.and_self,Bool.true_and,decide_eq_true_eq]
 omega
noncomputable abbrev GX(Y:List D)(w:Wd)(R:List Nat)(M:List Str)(a:PV)(l H C S:Option PV):Ev:=[JT (.list Y),JT w.enc,JT (ay R),JT (bx M),some a,l,H,C,S]
theorem v_any{i:Nat}{s:Sh}{d:D}(P:s.isView=false)(h:C[i]?=some (some ⟨s,d⟩)):∃K,aa i C=.ok ⟨K,d⟩ C:=by
 unfold aa;rw[h]
 cases s with
 |leaf=>exact⟨_,rfl⟩
 |view=>cases P
 |lst s=>exact⟨_,rfl⟩
 |tup o=>exact⟨_,rfl⟩
theorem Du(l:w.n<=6)(H:∀c∈M,c∈bb)(h:M.length<=3){v:List FRow}{K:List Nat}{F:Str->List (Option Nat)}(u:Std w.n K)(G:∀c∈M,r9 w K c (F c))(I:sr w M R v=some K)(t:∀r∈v,r.Ok/\∀c,r.m=some c->c∈M)(i:∀r∈v,∃n:List Nat,r.g=bL n/\∀x∈n,x<w.n)(b:v.length<=w.n):Pb 15 ⟨v,bL K,M.map λc=>jR (F c)⟩/\∀k∈M.map λc=>jR (F c),k.length=w.n:=by
 have q:=u.len
 have s:∀(v:List FRow)(L K:List Nat),sr w M L v=some K->∀r∈v,r.g.Pairwise (· < ·):=λv=>by
  induction v with
  |nil=>intro L K _ r m;cases m
  |cons a U E=>
   intro L K e r m;have e:mF (cn w M) L (a::U)=some K:=e
   rw[mF]at e
   cases Z:du w L M a with
   |false=>
    have:cn w M L a=none:=by unfold cn;rw[Z];rfl
    rw[this]at e
    cases e
   |true=>
    have:cn w M L a=some (mK L a.g):=by unfold cn;rw[Z];rfl
    rw[this]at e;rcases JI m with rfl|m
    .have f:=(Bool.and_eq_true_iff.mp Z).1
     simp only[pU,Bool.and_eq_true]at f
     exact of_decide_eq_true f.1.2
    .exact E _ _ e r m
 have p:∀c∈M,(F c).length=w.n:=λc f=>(G c f).r.len
 have g:∀k∈M.map λc=>jR (F c),k.length=w.n:=λk O=>by
  obtain⟨c,f,rfl⟩:=List.mem_map.mp O;unfold jR;rw[length_map];exact p c f
 refine⟨⟨by show v.length<=15;omega,λr m=>⟨?_,λz P=>?_,λc f=>jZ (H c ((t r m).2 c f))⟩,by show(bL K).length<=15;rw[length_map];omega,λz P=>?_,by show(M.map _).length<=15;rw[length_map];omega,λk O=>by have:=g k O;omega,λk O z P=>?_⟩,g⟩
 .obtain⟨n,e,J⟩:=i r m
  have y:=s v R K I r m
  rw[e]at y ⊢;rw[pairwise_map]at y;have X:n.Nodup:=y.imp λz=>by omega
  have:=CT X J
  rw[length_map];omega
 .obtain⟨n,e,J⟩:=i r m
  rw[e]at P;obtain⟨x,A,rfl⟩:=List.mem_map.mp P;have:=J x A
  show((x:Int)).natAbs<1000
  omega
 .obtain⟨x,A,rfl⟩:=List.mem_map.mp P
  have:=u.lt x A
  show((x:Int)).natAbs<1000
  omega
 .obtain⟨c,f,rfl⟩:=List.mem_map.mp O
  unfold jR at P;obtain⟨o,J,d⟩:=List.mem_map.mp P
  cases o with
  |none=>cases d
  |some k=>
   cases d;obtain⟨r,m,er⟩:=getElem_of_mem J;have j:r<w.n:=by rw[<-p c f];exact m
   have:=(G c f).lt r k j (by unfold bo;rw[JK,JJ m,er];rfl)
   show((k:Int)).natAbs<1000
   omega
theorem ye{Y:List D}(A:ic Y):uD [.list Y]=.ok ⟨.leaf,.bool true⟩:=by
 obtain⟨n,G,y,o,e0,g,J,h6⟩:=rB A (at':=0) (lim:=6) (by omega) (by omega) (by omega)
 obtain⟨w,ok,ew,j⟩:=Dt g J (by omega)
 rw[<-ew]at e0;have I:=ok.h24
 have hw1:=ok.h1
 have hn6:w.n<=6:=by omega
 obtain⟨c7,hc7⟩:=Cz A (k:=7) (by omega)
 obtain⟨c8,hc8⟩:=Cz A (k:=8) (by omega)
 obtain⟨c9,hc9⟩:=Cz A (k:=9) (by omega)
 obtain⟨c10,hc10⟩:=Cz A (k:=10) (by omega)
 obtain⟨R,er,sR⟩:=KQ.den_rooms (c:=c7) (n:=w.n) I
 obtain⟨M,em,hM,ea,hm3⟩:=KQ.den_lmarks (c:=c8)
 have hMs:∀x∈M,PyData.strOk x=true:=λx A=>(vL (hM x A)).1
 obtain⟨v,K,F,et,sK,hE,hRk,hpap,t,hnat,hrl,_,_⟩:=rC ok sR hM ea (by omega)
 have hby:sr w M R v=some K:=by
  unfold eE at hpap;dsimp only at hpap;split at hpap
  .cases hpap
  .rename_i K' e
   rw[e];simp only[Bool.and_eq_true,decide_eq_true_eq]at hpap
   have:=congrArg (List.map Int.toNat) hpap.1.1.1
   rw[EK,EK]at this;rw[this]
 obtain⟨u,hlk⟩:=Du hn6 hM hm3 sK hRk hby t hnat hrl;generalize hp0:Pap.mk v (bL K) (M.map λc=>jR (F c))=p0 at et u
 have hlk0:∀k∈p0.ranks,k.length=w.n:=by rw[<-hp0];exact hlk
 have cell:∀(k c:Int)(Γ:Ev),Γ[0]?=some (JT (.list Y))->aE [.list Y,.int k]=.ok ⟨.leaf,.int c⟩->ar 2 aE (ae (aa 0) (ae (eK (.int k)) ah)) Γ=.ok ⟨.leaf,.int c⟩ Γ:=λk c Γ a f=>cH (aA (au a) (aA aS ao)) f rfl rfl
 have paper:∃p4:PV,∃p:Pap,p4.s.isView=false/\p4.d=p.enc/\Pb 16 p/\(bA (aG aj (az bP (ar 3 ai (ae (ar 2 aE (ae (aa 0) (ae (eK (.int 10)) ah))) (ae (eK (.int 9)) (ae (eK (.int 3)) ah)))) (eK (.int 1)))) (iA 4 (aB true 4 (ar 5 cy (ae (aa 1) (ae (aa 3) (ae (aa 4) (ae (aa 2) (ae (ar 2 aE (ae (aa 0) (ae (eK (.int 10)) ah))) ah)))))))) (bA (aG aj (az dS (ar 3 ai (ae (ar 2 aE (ae (aa 0) (ae (eK (.int 9)) ah))) (ae (eK (.int 9)) (ae (eK (.int 8)) ah)))) (eK (.int 0)))) (ix true 4 [.tup [.lst .leaf,.lst .leaf,.lst (.lst .leaf)],.leaf,.leaf] cX (ae (bh 4) (ae (ar 2 aE (ae (aa 0) (ae (eK (.int 9)) ah))) (ae (bc aI (ae (aq (aa 1) (eK (.int 0))) ah)) ah)))) aD)) (GX Y w R M ⟨y0,p0.enc⟩ none none none none)=.nx (GX Y w R M p4 none none none none):=by
  have L:=bQ (s:=.leaf) (aC (g:=bP) (cH (n:=3) (den:=ai) (aA (cell 10 c10 (GX Y w R M ⟨y0,p0.enc⟩ none none none none) rfl hc10) (aA (aS (d:=.int 9)) (aA (aS (d:=.int 3)) ao))) (qe (by omega) (by omega) (by omega) (by omega)) rfl rfl) (aS (d:=.int 1)) KC.eq_int)
  have t2:=bQ (s:=.leaf) (aC (g:=dS) (cH (n:=3) (den:=ai) (aA (cell 9 c9 (GX Y w R M ⟨y0,p0.enc⟩ none none none none) rfl hc9) (aA (aS (d:=.int 9)) (aA (aS (d:=.int 8)) ao))) (qe (by omega) (by omega) (by omega) (by omega)) rfl rfl) (aS (d:=.int 0)) (show _=some (PyData.bool (decide (0<aX c9 9 8)))from rfl))
  cases Z:(aX c10 9 3==1)with
  |true=>
   rw[Z]at L;obtain⟨p',e,q⟩:=oz ok sR (by omega) hM hm3 u (cl:=c10)
   exact⟨⟨_,p'.enc⟩,p',rfl,rfl,q,aP L (λ_=>sN (p:=⟨y0,p0.enc⟩) rfl (lA (cH (aA (au (i:=1) rfl) (aA (au (i:=3) rfl) (aA (au (i:=4) rfl) (aA (au (i:=2) rfl) (aA (cell 10 c10 _ rfl hc10) ao))))) e rfl rfl) rfl (by simp))) nofun⟩
  |false=>
   rw[Z]at L
   cases N:decide (0<aX c9 9 8)with
   |true=>
    rw[N]at t2;obtain⟨s7,p',e,P,q⟩:=vg (c:=c9) (many:=w.n) u hw1 (by omega) hlk0
    exact⟨⟨_,p'.enc⟩,p',rfl,rfl,q,aP L nofun λ_=>aP t2 (λ_=>vY (aA (p8 (p:=⟨y0,p0.enc⟩) rfl) (aA (cell 9 c9 _ rfl hc9) (aA (oW ok rfl) ao))) e rfl (by simp) rfl) nofun⟩
   |false=>
    rw[N]at t2;refine⟨⟨y0,p0.enc⟩,p0,rfl,rfl,⟨Nat.le_trans u.rl (by omega),λr m=>(u.rb r m).le (by omega),Nat.le_trans u.kl (by omega),u.kz,Nat.le_trans u.nl (by omega),λk O=>Nat.le_trans (u.nk k O) (by omega),u.nz⟩,aP L nofun λ_=>aP t2 nofun λ_=>rfl⟩
 obtain⟨⟨s4,d4⟩,p,hv,U,hpb,e4⟩:=paper;dsimp only at hv U
 subst U;have small:=hpb.small
 have hlp:=oy ok sR hM (by omega) small.ok
 have hpp:=rG ok sR hM ea (by omega) small.ok
 obtain⟨rep,repok⟩:=vb small;have v4:∀l H C S,∃s',aa 4 (GX Y w R M ⟨s4,p.enc⟩ l H C S)=.ok ⟨s',p.enc⟩ (GX Y w R M ⟨s4,p.enc⟩ l H C S):=λ_ _ _ _=>v_any hv rfl
 have rp:∀l H C S,bc vP (ae (aa 4) ah) (GX Y w R M ⟨s4,p.enc⟩ l H C S)=.ok ⟨.leaf,.str p.enc.shown⟩ (GX Y w R M ⟨s4,p.enc⟩ l H C S):=λ_ _ _ _=>let⟨_,h⟩:=v4 _ _ _ _;bt (aA h ao) rep
 have cl4:∀(den:List D->Res) (b:Bool) l H C S,den [w.enc,ay R,bx M,p.enc]=.ok ⟨.leaf,.bool b⟩->ar 4 den (ae (aa 1) (ae (aa 2) (ae (aa 3) (ae (aa 4) ah)))) (GX Y w R M ⟨s4,p.enc⟩ l H C S)=.ok ⟨.leaf,.bool b⟩ (GX Y w R M ⟨s4,p.enc⟩ l H C S):=λden b _ _ _ _ U=>let⟨_,h⟩:=v4 _ _ _ _;KQ.v_callS (aA (au (i:=1) rfl) (aA (au (i:=2) rfl) (aA (au (i:=3) rfl) (aA h ao)))) U rfl rfl
 have shn:shaped (.list [w.enc,ay R,bx M,.str p.enc.shown])=true:=Jr ok hMs repok
 refine aQ ?_
 refine af (dh (cH (aA (au rfl) (aA aS (aA aS ao))) e0 rfl rfl) rfl (by simp[bp])) ?_
 refine af (dh (cH (aA (cH (aA (au rfl) (aA aS ao)) hc7 rfl rfl) (aA (oW ok rfl) ao)) er rfl rfl) rfl (by simp[bp])) ?_
 refine af (dh (cH (aA (cH (aA (au rfl) (aA aS ao)) hc8 rfl rfl) ao) em rfl rfl) rfl (by simp[bp])) ?_
 refine af (Γ1:=GX Y w R M ⟨y0,p0.enc⟩ none none none none) (lA (cH (aA (au rfl) (aA (au rfl) (aA (au rfl) ao))) et rfl rfl) rfl (by simp[bp])) ?_
 refine af e4 ?_
 refine af (Γ1:=GX Y w R M ⟨s4,p.enc⟩ (JT (.list [w.enc,ay R,bx M,.str p.enc.shown])) none none none) (dh (ie (s:=.leaf) (aA (cH (aA (au (i:=1) rfl) ao) (KQ.den_twinQ ok) rfl rfl) (aA (vQ (au (i:=2) rfl) rfl) (aA (vQ (au (i:=3) rfl) rfl) (aA (rp _ _ _ _) ao)))) rfl rfl rfl) rfl (by simp)) ?_
 refine af (Γ1:=GX Y w R M ⟨s4,p.enc⟩ (JT (.list [w.enc,ay R,bx M,.str p.enc.shown])) (JT (.bool (eE w R M p))) none none) (dh (cl4 _ _ _ _ _ _ hlp) rfl (by simp)) ?_
 obtain⟨X,e9,y7,y8,E⟩:=EW rm (i:=7) (body:=(ax (aB false 8 (ar 4 bG (ae (aa 1) (ae (aa 2) (ae (aa 3) (ae (aa 4) ah)))))) (bA (fm (cQ (aG bI (ot "bool" (aa 8)))) (fm (aG aj (az cO (aa 8) (aa 6))) (aG aj (az cO (aH .leaf (ae (aa 1) (ae (aa 2) (ae (aa 3) (ae (bc vP (ae (aa 4) ah)) ah))))) (aa 5))))) (aN (eK (.bool false))) aD))) (Inv:=λ_ Γ=>∃C S,Γ=GX Y w R M ⟨s4,p.enc⟩ (JT (.list [w.enc,ay R,bx M,.str p.enc.shown])) (JT (.bool (eE w R M p))) C S) (λr rest Γ ⟨C,S,e⟩=>by
  subst e;have s8:=dh (i:=8) (cl4 bG _ (JT (.list [w.enc,ay R,bx M,.str p.enc.shown])) (JT (.bool (eE w R M p))) (JT (rm r)) S hpp) rfl (by simp)
  have tt:=fh (eV (eT (s:=.leaf) (Do (c := "bool") (b:=true) (au (i:=8) (d:=.bool (eE w R M p)) (Γ:=GX Y w R M ⟨s4,p.enc⟩ (JT (.list [w.enc,ay R,bx M,.str p.enc.shown])) (JT (.bool (eE w R M p))) (JT (rm r)) (JT (.bool (eE w R M p)))) rfl) rfl))) (fh (bQ (s:=.leaf) (aC (g:=cO) (au (i:=8) rfl) (au (i:=6) rfl) (Io (eE w R M p) (eE w R M p)))) (bQ (s:=.leaf) (aC (g:=cO) (ie (s:=.leaf) (aA (au (i:=1) rfl) (aA (au (i:=2) rfl) (aA (au (i:=3) rfl) (aA (rp _ _ _ _) ao)))) rfl rfl rfl) (au (i:=5) rfl) (uz shn))))
  exact⟨by simp,_,af s8 (aP tt (λz=>by simp at z) λ_=>rfl),_,_,rfl⟩) (List.range 2) (GX Y w R M ⟨s4,p.enc⟩ (JT (.list [w.enc,ay R,bx M,.str p.enc.shown])) (JT (.bool (eE w R M p))) none none) ⟨none,none,rfl⟩
 subst E;exact af (bE (kh (s:=.leaf) (n:=2) (by omega) (aA aS ao)) e9) (aL aS rfl)
theorem law_true(y:List Int)(N:y.length<=63):uD [.list (y.map .int)]=.ok ⟨.leaf,.bool true⟩:=ye rowI_map
end
end KQ.F.B
namespace KQ.F.B
open PySem PySem.Spec L2 T TQ
open PyProof.Rows hiding St
open KC KQ KQ.F
noncomputable def dP(n:Nat):Stmt:=(PySem.Challenge.pw_foreseehall_k54_fair_papers_judged.main.body)[n]!
noncomputable def lM:Stmt:=dP 9
noncomputable def lP:Stmt:=dP 10
noncomputable def lO:Stmt:=dP 11
noncomputable def lN:Stmt:=dP 12
noncomputable def nP:Stmt:=dP 13
noncomputable def jf:Stmt:=dP 14
noncomputable def jg:Stmt:=dP 15
noncomputable def tD:Stmt:=dP 17
noncomputable def nQ:Stmt:=dP 18
noncomputable def je:Stmt:=dP 19
noncomputable def jc:Stmt:=dP 20
noncomputable def nO:Stmt:=dP 21
noncomputable def nN:Stmt:=dP 22
noncomputable def ku:Stmt:=dP 24
noncomputable def gP:Stmt:=dP 25
noncomputable def qB:Stmt:=dP 26
noncomputable def gQ:Stmt:=dP 27
noncomputable def kr:Stmt:=dP 29
noncomputable def kq:Stmt:=dP 30
noncomputable def iu:Stmt:=dP 31
noncomputable def qC:Stmt:=dP 32
noncomputable def gR:Stmt:=dP 33
noncomputable def fx:Stmt:=dP 34
noncomputable def gU:Stmt:=dP 35
noncomputable def iw:Stmt:=dP 37
noncomputable def lR:Stmt:=dP 38
noncomputable def kv:Stmt:=dP 39
noncomputable def lQ:Stmt:=dP 40
noncomputable def kx:Stmt:=dP 41
noncomputable def ky:Stmt:=dP 42
noncomputable def fW:Stmt:=dP 43
noncomputable def fy:Stmt:=dP 44
noncomputable def gV:Stmt:=dP 45
noncomputable def gW:Stmt:=dP 46
noncomputable def lT:Stmt:=dP 47
noncomputable def ji:Stmt:=dP 48
noncomputable def jh:Stmt:=dP 49
noncomputable def DE:Stmt:=dP 50
structure Gl(K:Fg)(mg:Str->Option Value):Prop where
 n0:mg "len"=none
 n1:mg "range"=none
 n2:mg "all"=none
 n3:mg "any"=none
 n4:mg "list"=none
 n5:mg "zip"=none
 n6:mg "int"=none
 n7:mg "sorted"=none
 n8:mg "set"=none
 n9:mg "repr"=none
 n10:mg "isinstance"=none
 n11:mg "bool"=none
 h0:oK K mg "LETTERS" cw
 h1:oK K mg "MOST_ROOMS" dI
 h2:oK K mg "PLAYERS" cv
structure Al(K:Fg)(mg:Str->Option Value):Prop where
 g:Gl K mg
 f0:Ft K mg "is_rising" lM
 f1:Ft K mg "are_marks" lP
 f2:Ft K mg "are_rooms" lO
 f3:Ft K mg "are_steps" lN
 f4:Ft K mg "is_world" nP
 f5:Ft K mg "check_world" jf
 f6:Ft K mg "check_rooms" jg
 f7:Ft K mg "is_led" tD
 f8:Ft K mg "is_lower" nQ
 f9:Ft K mg "lower_steps" je
 f10:Ft K mg "ranked_next" jc
 f11:Ft K mg "ranks_to" nO
 f12:Ft K mg "steps_to" nN
 f13:Ft K mg "check_fair" ku
 f14:Ft K mg "steps_to_mark" gP
 f15:Ft K mg "row_off" qB
 f16:Ft K mg "rows_and_kept" gQ
 f17:Ft K mg "fair_paper" kr
 f18:Ft K mg "left_ahead" kq
 f19:Ft K mg "is_row_right" iu
 f20:Ft K mg "left_by" qC
 f21:Ft K mg "is_rank_right" gR
 f22:Ft K mg "are_ranks_right" fx
 f23:Ft K mg "is_fair_paper" gU
 f24:Ft K mg "_law_cell_at" iw
 f25:Ft K mg "_law_draw" lR
 f26:Ft K mg "_law_world" kv
 f27:Ft K mg "_law_twin" lQ
 f28:Ft K mg "_law_rooms" kx
 f29:Ft K mg "_law_marks" ky
 f30:Ft K mg "_law_row_holds" fW
 f31:Ft K mg "_law_ranks_hold" fy
 f32:Ft K mg "_law_is_paper" gV
 f33:Ft K mg "_law_bent_row" gW
 f34:Ft K mg "_law_bent" lT
 f35:Ft K mg "_law_fewest" ji
 f36:Ft K mg "_law_forged" jh
 f37:Ft K mg "law" DE
section
variable{P:Program}{w:World}{K:Fg}{mg:Str->Option Value}{base:Heap}(A:Al K mg)
include A
theorem Hm:DefOk P w K mg base 1 "is_rising" 1 cA:=mk A.f0 A.g ["entries"] CM ["k"] ["len","range","all"] [0] [0] [0,1,2] λX S I y=>
 (cc (sh S 2 rfl rfl I.e.n2 (aK (fq [0,1] [0] [] S 1 (yS S 1 rfl rfl I.e.n1 (aO aJ (aK (dN S 0 I.e.n0 (aK (ak S 0))))) (lJ rfl rfl) (dk rfl)) (λ_ _ _=>i4) (λc a F1=>have I:=F1.i I;(gM (lY I.r) (bC (ak a 0) (EN (ak a 1) aJ)) (bC (ak a 0) (ak a 1)))))) (dB rfl) rfl))
theorem gE:DefOk P w K mg base 2 "are_marks" 1 br:=mk A.f1 A.g ["entries"] CM ["entry"] ["LETTERS","all","is_rising"] [0] [] [1,2] λX S I y=>
 (cc (vF (sh S 1 rfl rfl I.e.n2 (aK (fq [1] [] [0] S 1 (cT (ak S 0)) (λ_ _ _=>i4) (λc a F1=>have I:=F1.i I;(gM (dv I.r) (ak a 1) (zO a 0 rfl rfl I.e.h0))))) (dB rfl) rfl) (vT (bO S 2 (I.c (Hm A)) (aK (ak S 0))))))
theorem gD:DefOk P w K mg base 2 "are_rooms" 2 cB:=mk A.f2 A.g ["entries","size"] B6 ["entry"] ["all","is_rising"] [0,1] [1] [0,1] λX S I y=>
 (cc (vF (sh S 0 rfl rfl I.e.n2 (aK (fq [1,2] [1] [] S 2 (cT (ak S 0)) (λ_ _ _=>i4) (λc a F1=>have I:=F1.i I;(Dk (Ib I.r) (lY I.r) aJ (ak a 2) (ak a 1) (by with_unfolding_all rfl))))) (dB rfl) rfl) (vT (bO S 1 (I.c (Hm A)) (aK (ak S 0))))))
theorem mi:DefOk P w K mg base 3 "are_steps" 2 cW:=mk A.f3 A.g ["entries","size"] B6 [] ["len","are_rooms"] [0,1] [] [0,1] λX S I y=>
 (cc (vF (gM (fC I.r) (dN S 0 I.e.n0 (aK (ak S 0))) aJ) (vT (bO S 1 (I.c (gD A)) (aO (ak S 0) (aK (ak S 1)))))))
theorem nX:DefOk P w K mg base 4 "is_world" 3 dD:=mk A.f4 A.g ["owners","marks","steps"] pV ["size","owner","row"] ["len","MOST_ROOMS","PLAYERS","all","are_marks","are_steps"] [0,1,2,3] [3] [0,1,3] λX S I y=>
 (bj (cU S false 3 (dN S 0 I.e.n0 (aK (ak S 0)))) (bj (dj (iZ (nF (bD (lY I.r) (ak S 3) aJ) (nF (bD (fC I.r) (ak S 3) (zO S 1 rfl rfl I.e.h1)) (nF (bD (d5 I.r) (dN S 0 I.e.n0 (aK (ak S 1))) (ak S 3)) (vR (bD (d5 I.r) (dN S 0 I.e.n0 (aK (ak S 2))) (ak S 3))))))) (cc jD) dz) (bj (dj (sj (lx (sh S 3 rfl rfl I.e.n2 (aK (fq [4] [] [2] S 4 (cT (ak S 0)) (λ_ _ _=>i4) (λc a F1=>have I:=F1.i I;(gM (dv I.r) (ak a 4) (zO a 2 rfl rfl I.e.h2))))) (dB rfl) rfl) (λ_=>rfl))) (cc jD) dz) (cc (vF (sh S 3 rfl rfl I.e.n2 (aK (fq [5] [] [4] S 5 (cT (ak S 1)) (λ_ _ _=>i4) (λf b d=>have I:=d.i I;(bO b 4 (I.c (gE A)) (aK (ak b 5)))))) (dB rfl) rfl) (vT (sh S 3 rfl rfl I.e.n2 (aK (fq [3,5] [3] [5] S 5 (cT (ak S 2)) (λ_ _ _=>i4) (λg e i=>have I:=i.i I;(bO e 5 (I.c (mi A)) (aO (ak e 5) (aK (ak e 3))))))) (dB rfl) rfl)))))))
theorem jn:DefOk P w K mg base 5 "check_world" 1 cx:=mk A.f5 A.g ["world"] CM [] ["is_world"] [0] [] [0] λX S I y=>
 (dA (dj (sj (lx (bO S 0 (I.c (nX A)) (aO (bC (ak S 0) aJ) (aO (bC (ak S 0) aJ) (aK (bC (ak S 0) aJ))))) (λ_=>rfl))) (dA Gp) dz))
theorem jo:DefOk P w K mg base 3 "check_rooms" 2 cZ:=mk A.f6 A.g ["world","rooms"] B6 [] ["len","are_rooms"] [0,1] [] [0,1] λX S I y=>
 (dA (dj (sj (lx (bO S 1 (I.c (gD A)) (aO (ak S 1) (aK (dN S 0 I.e.n0 (aK (bC (ak S 0) aJ)))))) (λ_=>rfl))) (dA Gp) dz))
theorem ur:DefOk P w K mg base 1 "is_led" 2 dw:=mk A.f7 A.g ["is_chosen","by_steps"] B6 [] ["any","all"] [0,1] [] [0,1] λX S I y=>
 (cc (oO (lx (ak S 0) (λ_=>rfl)) (GJ S 0 rfl rfl I.e.n3 (aK (ak S 1)) (dB rfl) rfl) (sh S 1 rfl rfl I.e.n2 (aK (ak S 1)) (dB rfl) rfl)))
theorem nY:DefOk P w K mg base 1 "is_lower" 2 e7:=mk A.f8 A.g ["rank","other"] B6 [] [] [0,1] [] [] λX S I y=>
 (cc (vF (gM (C2 I.r) (ak S 0) gK) (vF (gM (C2 I.r) (ak S 1) gK) (vT (gM (lY I.r) (ak S 0) (ak S 1))))))
theorem jm:DefOk P w K mg base 2 "lower_steps" 3 cY:=mk A.f9 A.g ["world","ranks","room"] pV ["there"] ["is_lower"] [0,1,2] [1,2] [] λX S I y=>
 (cc (fq [1,2,3] [1,2] [0] S 3 (cT (bC (bC (ak S 0) aJ) (ak S 2))) (λc a F1=>have I:=F1.i I;i8 (lx (bO a 0 (I.c (nY A)) (aO (bC (ak a 1) (ak a 3)) (aK (bC (ak a 1) (ak a 2))))) (λ_=>rfl))) (λc a F1=>have I:=F1.i I;(ak a 3))))
theorem jl:DefOk P w K mg base 2 "ranked_next" 4 bX:=mk A.f10 A.g ["world","chosen","through","ranks"] yp ["found","room","there"] ["is_led"] [0,1,2,3,4,5] [3] [0] λX S I y=>
 (bj (cU S true 4 (fV .leaf oM)) (bj (nG S 5 rfl rfl y (cT (ak S 2)) (dA (dj (iZ (qb (bD (jj I.r) (bC (ak S 3) (ak S 5)) gK) (qc (lx (bO S 0 (I.c (ur A)) (aO (bC (ak S 1) (ak S 5)) (aK (fq [3,6] [3] [] S 6 (cT (bC (bC (ak S 0) aJ) (ak S 5))) (λ_ _ _=>i4) (λc a F1=>have I:=F1.i I;(gM (C2 I.r) (bC (ak a 3) (ak a 6)) gK)))))) (λ_=>rfl))))) (dA (zK S 4 rfl rfl (ak S 5) (dk rfl) rfl rfl rfl rfl)) dz)) (λ_=>rfl)) (cc (dW S 4 rfl rfl))))
theorem nW:DefOk P w K mg base 3 "ranks_to" 4 eZ:=mk A.f11 A.g ["world","chosen","through","goal"] yp ["ranks","rank","fresh","room","owner"] ["ranked_next"] [0,1,2,3,4,5,6,7] [] [0] λX S I y=>
 (bj (so (vs':=[8]) (cs':=[]) (lo':=[]) (gs':=[]) S true 4 .leaf 8 rfl rfl rfl rfl (by kernel_rfl) (by kernel_rfl) (by kernel_rfl) (cT (bC (ak S 0) aJ)) (λ_ _ _=>i4) (λc a F1=>gK) (λ_=>rfl)) (bj (cU S false 5 aJ) (bj (cU S false 6 (ak S 3)) (bj (ip 1000 y (lx (ak S 6) (λ_=>rfl)) (bj (nG S 7 rfl rfl y (cT (ak S 6)) (dA (jG S 4 rfl rfl (ak S 5) (ak S 7) rfl rfl rfl (λ_=>rfl))) (λ_=>rfl)) (bj (sX S 5 rfl rfl aJ) (dA (cU S false 6 (zP S 0 rfl rfl (I.c (jl A)) (aO (ak S 0) (aO (ak S 1) (aO (ak S 2) (aK (ak S 4))))) (dB rfl) rfl)))))) (cc (dW S 4 rfl rfl))))))
theorem nV:DefOk P w K mg base 4 "steps_to" 3 dC:=mk A.f12 A.g ["world","through","goal"] pV ["owner"] ["ranks_to"] [0,1,2] [] [0] λX S I y=>
 (cc (bO S 0 (I.c (nW A)) (aO (ak S 0) (aO (fq [3] [] [] S 3 (cT (bC (ak S 0) aJ)) (λ_ _ _=>i4) (λc a F1=>jD)) (aO (ak S 1) (aK (ak S 2)))))))
theorem fE:DefOk P w K mg base 6 "check_fair" 3 bS:=mk A.f13 A.g ["world","rooms","marks"] pV [] ["check_world","are_marks","check_rooms"] [0,1,2] [] [0,1,2] λX S I y=>
 (bj (ER (bO S 0 (I.c (jn A)) (aK (ak S 0))) rfl) (bj (dj (sj (lx (bO S 1 (I.c (gE A)) (aK (ak S 2))) (λ_=>rfl))) (dA Gp) dz) (dA (ER (bO S 2 (I.c (jo A)) (aO (ak S 0) (aK (ak S 1)))) rfl))))
theorem dR:DefOk P w K mg base 5 "steps_to_mark" 3 aY:=mk A.f14 A.g ["world","rooms","mark"] pV ["room"] ["steps_to"] [0,1,2] [0,2] [0] λX S I y=>
 (cc (bO S 0 (I.c (nV A)) (aO (ak S 0) (aO (ak S 1) (aK (fq [0,2,3] [0,2] [] S 3 (cT (ak S 1)) (λc a F1=>have I:=F1.i I;i8 (bD (dv I.r) (ak a 2) (bC (bC (ak a 0) aJ) (ak a 3)))) (λc a F1=>have I:=F1.i I;(ak a 3))))))))
theorem jX:DefOk P w K mg base 6 "row_off" 3 cu:=mk A.f15 A.g ["world","left","marks"] pV ["ended","mark","ranks","lost","room","there"] ["any","steps_to_mark"] [0,1,2,3,4,5,6] [0,1,5] [1] λX S I y=>
 (bj (so (vs':=[0,1,7]) (cs':=[0,1]) (lo':=[]) (gs':=[0]) S true 3 .leaf 7 rfl rfl rfl rfl (by kernel_rfl) (by kernel_rfl) (by kernel_rfl) (cT (ak S 1)) (λc a F1=>have I:=F1.i I;i8 (sj (lx (GJ a 0 rfl rfl I.e.n3 (aK (fq [1,8] [1] [] a 8 (cT (bC (bC (ak a 0) aJ) (ak a 7))) (λ_ _ _=>i4) (λf b d=>have I:=d.i I;(gM (dv I.r) (ak b 8) (ak b 1))))) (dB rfl) rfl) (λ_=>rfl)))) (λc a F1=>have I:=F1.i I;(ak a 7)) (λ_=>rfl)) (bj (dj (lx (ak S 3) (λ_=>rfl)) (cc (qa (aO (dW S 3 rfl rfl) (aK gK)))) dz) (bj (nG S 4 rfl rfl y (cT (ak S 2)) (bj (cU S false 5 (bO S 1 (I.c (dR A)) (aO (ak S 0) (aO (ak S 1) (aK (ak S 4)))))) (bj (so (vs':=[5,7]) (cs':=[5]) (lo':=[]) (gs':=[]) S true 6 .leaf 7 rfl rfl rfl rfl (by kernel_rfl) (by kernel_rfl) (by kernel_rfl) (cT (ak S 1)) (λg e i=>have I:=i.i I;i8 (bD (jj I.r) (bC (ak e 5) (ak e 7)) gK)) (λg e i=>have I:=i.i I;(ak e 7)) (λ_=>rfl)) (dA (dj (lx (ak S 6) (λ_=>rfl)) (cc (qa (aO (dW S 6 rfl rfl) (aK (ak S 4))))) dz)))) (λ_=>rfl)) (cc gK))))
theorem gX:DefOk P w K mg base 7 "rows_and_kept" 3 bY:=mk A.f16 A.g ["world","rooms","marks"] pV ["rows","left","row","room"] ["list","row_off"] [0,1,2,3,4,5] [5] [0,1] λX S I y=>
 (bj (cU S true 3 (fV .leaf oM)) (bj (cU S true 4 (vX S 0 rfl rfl I.e.n4 (ak S 1) (dk rfl))) (bj (cU S false 5 (td S 1 rfl rfl (I.c (jX A)) (aO (ak S 0) (aO (ak S 4) (aK (ak S 2)))) (dB rfl) rfl)) (bj (ip 1000 y (bD (C2 I.r) (ak S 5) gK) (bj (zK S 3 rfl rfl (ak S 5) (dk rfl) rfl rfl rfl rfl) (bj (so (vs':=[5,6]) (cs':=[5]) (lo':=[]) (gs':=[]) S true 4 .leaf 6 rfl rfl rfl rfl (by kernel_rfl) (by kernel_rfl) (by kernel_rfl) (cT (ak S 4)) (λc a F1=>have I:=F1.i I;i8 (bD (vU I.r) (ak a 6) (bC (ak a 5) aJ))) (λc a F1=>have I:=F1.i I;(ak a 6)) (λ_=>rfl)) (dA (cU S false 5 (td S 1 rfl rfl (I.c (jX A)) (aO (ak S 0) (aO (ak S 4) (aK (ak S 2)))) (dB rfl) rfl)))))) (cc (qa (aO (dW S 3 rfl rfl) (aK (dW S 4 rfl rfl)))))))))
theorem kC:DefOk P w K mg base 8 "fair_paper" 3 dE:=mk A.f17 A.g ["world","rooms","marks"] pV ["both","mark"] ["check_fair","rows_and_kept","steps_to_mark"] [0,1,2,3] [0,3] [0,1] λX S I y=>
 (bj (ER (bO S 0 (I.c (fE A)) (aO (ak S 0) (aO (ak S 1) (aK (ak S 2))))) rfl) (bj (cU S true 3 (bO S 1 (I.c (gX A)) (aO (ak S 0) (aO (ak S 1) (aK (ak S 2)))))) (cc (we S 3 (Dj (vs':=[0,3,4]) (cs':=[0,3]) (lo':=[]) (gs':=[2]) S (.lst .leaf) 4 rfl (by kernel_rfl) (by kernel_rfl) (cT (ak S 2)) (λ_ _ _=>i4) (λc a F1=>have I:=F1.i I;(bO a 2 (I.c (dR A)) (aO (ak a 0) (aO (bC (ak a 3) aJ) (aK (ak a 4)))))) (λ_=>rfl))))))
theorem fD:DefOk P w K mg base 1 "left_ahead" 3 bR:=mk A.f18 A.g ["world","left","rooms"] pV ["found","room","there"] [] [0,1,2,3,4] [1] [] λX S I y=>
 (bj (cU S true 3 (fV .leaf oM)) (bj (nG S 4 rfl rfl y (cT (ak S 2)) (dA (lC S 3 rfl rfl (fq [1,5] [1] [] S 5 (cT (bC (bC (ak S 0) aJ) (ak S 4))) (λc a F1=>have I:=F1.i I;i8 (bD (dv I.r) (ak a 5) (ak a 1))) (λc a F1=>have I:=F1.i I;(ak a 5))) (dk rfl) rfl rfl rfl rfl)) (λ_=>rfl)) (cc (dW S 3 rfl rfl))))
theorem iF:DefOk P w K mg base 2 "is_row_right" 4 cj:=mk A.f19 A.g ["world","left","marks","row"] yp ["rooms","ahead","is_bare","room","there"] ["is_rising","all","left_ahead","any"] [0,1,2,3,4,5,6] [0,1,3,4] [0,1,2,3] λX S I y=>
 (bj (cU S false 4 (bC (ak S 3) aJ)) (bj (dj (iZ (nF (sj (lx (ak S 4) (λ_=>rfl))) (nF (sj (lx (bO S 0 (I.c (Hm A)) (aK (ak S 4))) (λ_=>rfl))) (vR (sj (lx (sh S 1 rfl rfl I.e.n2 (aK (fq [1,7] [1] [] S 7 (cT (ak S 4)) (λ_ _ _=>i4) (λc a F1=>have I:=F1.i I;(gM (dv I.r) (ak a 7) (ak a 1))))) (dB rfl) rfl) (λ_=>rfl))))))) (cc jD) dz) (bj (cU S false 5 (bO S 2 (I.c (fD A)) (aO (ak S 0) (aO (ak S 1) (aK (ak S 4)))))) (bj (dj (bD (jj I.r) (bC (ak S 3) aJ) gK) (cc (qi (ak S 5))) dz) (bj (cU S false 6 (sV (GJ S 3 rfl rfl I.e.n3 (aK (fq [0,3,7] [0,3] [] S 7 (cT (ak S 4)) (λ_ _ _=>i4) (λf b d=>have I:=d.i I;(gM (dv I.r) (bC (ak b 3) aJ) (bC (bC (ak b 0) aJ) (ak b 7)))))) (dB rfl) rfl))) (cc (vF (gM (dv I.r) (bC (ak S 3) aJ) (ak S 2)) (vF (ak S 6) (vT (sh S 1 rfl rfl I.e.n2 (aK (fq [4,8] [4] [] S 8 (cT (ak S 5)) (λ_ _ _=>i4) (λg e i=>have I:=i.i I;(gM (dv I.r) (ak e 8) (ak e 4))))) (dB rfl) rfl))))))))))
theorem qT:DefOk P w K mg base 3 "left_by" 4 eC:=mk A.f20 A.g ["world","rooms","marks","rows"] yp ["left","row","room"] ["list","is_row_right"] [0,1,2,3,4,5] [5] [0,1] λX S I y=>
 (bj (cU S false 4 (vX S 0 rfl rfl I.e.n4 (ak S 1) (dk rfl))) (bj (nG S 5 rfl rfl y (cT (ak S 3)) (bj (dj (sj (lx (bO S 1 (I.c (iF A)) (aO (ak S 0) (aO (ak S 4) (aO (ak S 2) (aK (ak S 5)))))) (λ_=>rfl))) (cc gK) dz) (dA (so (vs':=[5,6]) (cs':=[5]) (lo':=[]) (gs':=[]) S false 4 .leaf 6 rfl rfl rfl rfl (by kernel_rfl) (by kernel_rfl) (by kernel_rfl) (cT (ak S 4)) (λc a F1=>have I:=F1.i I;i8 (bD (vU I.r) (ak a 6) (bC (ak a 5) aJ))) (λc a F1=>have I:=F1.i I;(ak a 6)) (λ_=>rfl)))) (λ_=>rfl)) (cc (ak S 4))))
theorem gY:DefOk P w K mg base 3 "is_rank_right" 5 cE:=mk A.f21 A.g ["world","kept","mark","ranks","room"] Je ["rank"] ["lower_steps","len"] [0,1,2,3,4,5] [] [0,1] λX S I y=>
 (bj (cU S false 5 (bC (ak S 3) (ak S 4))) (bj (dj (iZ (nF (bD (vU I.r) (ak S 4) (ak S 1)) (vR (bD (jj I.r) (ak S 5) gK)))) (cc (vF (gM (vU I.r) (ak S 4) (ak S 1)) (vT (gM (jj I.r) (ak S 5) gK)))) dz) (bj (dj (bD (dv I.r) (ak S 2) (bC (bC (ak S 0) aJ) (ak S 4))) (cc (gM (cD I.r) (ak S 5) aJ)) dz) (cc (vF (gM (fC I.r) (ak S 5) aJ) (vT (gM (fC I.r) (dN S 1 I.e.n0 (aK (bO S 0 (I.c (jm A)) (aO (ak S 0) (aO (ak S 3) (aK (ak S 4))))))) aJ)))))))
theorem fF:DefOk P w K mg base 4 "are_ranks_right" 4 bz:=mk A.f22 A.g ["world","kept","mark","ranks"] yp ["room"] ["len","range","is_rank_right","all"] [0,1,2,3] [0,1,2,3] [0,1,3] λX S I y=>
 (bj (dj (bD (d5 I.r) (dN S 0 I.e.n0 (aK (ak S 3))) (dN S 0 I.e.n0 (aK (bC (ak S 0) aJ)))) (cc jD) dz) (cc (sh S 3 rfl rfl I.e.n2 (aK (fq [0,1,2,3,4] [0,1,2,3] [2] S 4 (fo S 1 rfl rfl I.e.n1 (aK (dN S 0 I.e.n0 (aK (ak S 3)))) (dk rfl)) (λ_ _ _=>i4) (λc a F1=>have I:=F1.i I;(bO a 2 (I.c (gY A)) (aO (ak a 0) (aO (ak a 1) (aO (ak a 2) (aO (ak a 3) (aK (ak a 4)))))))))) (dB rfl) rfl)))
theorem gZ:DefOk P w K mg base 7 "is_fair_paper" 4 bG:=mk A.f23 A.g ["world","rooms","marks","paper"] yp ["kept","room","mark","ranks"] ["check_fair","left_by","len","left_ahead","all","zip","are_ranks_right"] [0,1,2,3,4] [0,4] [0,1,2,4,5] λX S I y=>
 (bj (ER (bO S 0 (I.c (fE A)) (aO (ak S 0) (aO (ak S 1) (aK (ak S 2))))) rfl) (bj (cU S false 4 (bO S 1 (I.c (qT A)) (aO (ak S 0) (aO (ak S 1) (aO (ak S 2) (aK (bC (ak S 3) aJ))))))) (bj (dj (iZ (nF (bD (jj I.r) (ak S 4) gK) (nF (bD (d5 I.r) (bC (ak S 3) aJ) (ak S 4)) (vR (bD (d5 I.r) (dN S 2 I.e.n0 (aK (bC (ak S 3) aJ))) (dN S 2 I.e.n0 (aK (ak S 2)))))))) (cc jD) dz) (bj (dj (sj (lx (qu S 4 rfl rfl I.e.n2 (aK (fq [0,4,5] [0,4] [3] S 5 (cT (ak S 4)) (λ_ _ _=>i4) (λc a F1=>have I:=F1.i I;(bO a 3 (I.c (fD A)) (aO (ak a 0) (aO (ak a 4) (aK (fV .leaf (aK (ak a 5)))))))))) (dB rfl) rfl) (λ_=>rfl))) (cc jD) dz) (cc (sh S 4 rfl rfl I.e.n2 (aK (Di (vs':=[0,4,6,7]) (cs':=[0,4]) (lo':=[]) (gs':=[6]) S .leaf 6 7 5 rfl rfl rfl rfl rfl I.e.n5 (by kernel_rfl) (by kernel_rfl) (aO (ak S 2) (aK (bC (ak S 3) aJ))) (dB rfl) rfl (λ_ _ _=>i4) (λf b d=>have I:=d.i I;(bO b 6 (I.c (fF A)) (aO (ak b 0) (aO (ak b 4) (aO (ak b 6) (aK (ak b 7))))))) (λ_=>rfl))) (dB rfl) rfl))))))
theorem yR:DefOk P w K mg base 1 "_law_cell_at" 2 aE:=mk A.f24 A.g ["script","k"] B6 [] ["len"] [0,1] [] [0] λX S I y=>
 (bj (dj (bD (lY I.r) (ak S 1) (dN S 0 I.e.n0 (aK (ak S 0)))) (cc (bC (ak S 0) (ak S 1))) dz) (cc aJ))
theorem gL:DefOk P w K mg base 1 "_law_draw" 3 ai:=mk A.f25 A.g ["cell","k","bound"] pV ["stir","left","j"] ["range"] [0,1,2,3,4,5] [] [0] λX S I y=>
 (bj (dj (bD (Ic I.r) (ak S 0) (sU aJ aJ)) (bj (cU S false 4 (ak S 0)) (bj (nG S 5 rfl rfl y (fo S 0 rfl rfl I.e.n1 (aK (ak S 1)) (dk rfl)) (dA (cU S false 4 (lB (ak S 4) (ak S 2)))) (λ_=>rfl)) (cc (lq (ak S 4) (ak S 2))))) dz) (bj (cU S false 3 (lq (Da (nt (nt (lq (ak S 0) aJ) (Da aJ (ak S 1))) aJ) aJ) aJ)) (bj (cU S false 3 (lq (nt (nt (Da (ak S 3) (ak S 3)) (Da aJ (ak S 1))) aJ) aJ)) (cc (lq (lB (lq (Da (ak S 3) aJ) aJ) aJ) (ak S 2))))))
theorem kD:DefOk P w K mg base 2 "_law_world" 3 dF:=mk A.f26 A.g ["script","at","most"] pV ["many","owners","marks","steps","room","cell","row","there","mark"] ["_law_cell_at","range","_law_draw","int"] [0,1,2,3,4,5,6,7,8,9] [3,8] [0,1,2] λX S I y=>
 (bj (cU S false 3 (nt aJ (lq (bO S 0 (I.c (yR A)) (aO (ak S 0) (aK (ak S 1)))) (ak S 2)))) (bj (cU S true 4 (fV .leaf oM)) (bj (cU S true 5 (fV .leaf oM)) (bj (cU S true 6 (fV .leaf oM)) (bj (nG S 7 rfl rfl y (fo S 1 rfl rfl I.e.n1 (aK (ak S 3)) (dk rfl)) (bj (cU S false 8 (bO S 0 (I.c (yR A)) (aO (ak S 0) (aK (nt (nt (ak S 1) aJ) (ak S 7)))))) (bj (zK S 4 rfl rfl (bO S 2 (I.c (gL A)) (aO (ak S 8) (aO aJ (aK aJ)))) (dk rfl) rfl rfl rfl rfl) (bj (zK S 5 rfl rfl (fq [8,11] [8] [2] S 11 (jE (by kernel_rfl)) (λc a F1=>have I:=F1.i I;i8 (bD (cD I.r) (bO a 2 (I.c (gL A)) (aO (ak a 8) (aO (nt aJ (jJ (ak a 11) (dk rfl) rfl)) (aK aJ)))) aJ)) (λc a F1=>have I:=F1.i I;(ak a 11))) (dk rfl) rfl rfl rfl rfl) (bj (so (vs':=[3,8,10]) (cs':=[3,8]) (lo':=[]) (gs':=[2,3]) S false 9 .leaf 10 rfl rfl rfl rfl (by kernel_rfl) (by kernel_rfl) (by kernel_rfl) (fo S 1 rfl rfl I.e.n1 (aK (ak S 3)) (dk rfl)) (λf b d=>have I:=d.i I;i8 (bD (cD I.r) (bO b 2 (I.c (gL A)) (aO (ak b 8) (aO (nt aJ (ak b 10)) (aK (nt aJ (tj b 3 rfl rfl I.e.n6 (aK (gM (fC I.r) (ak b 3) aJ)) (dB rfl) rfl)))))) aJ)) (λf b d=>have I:=d.i I;(ak b 10)) (λ_=>rfl)) (bj (dj (bD (cD I.r) (ak S 9) (fV .leaf oM)) (dA (cU S false 9 (fV .leaf (aK (bO S 2 (I.c (gL A)) (aO (ak S 8) (aO (nt aJ (ak S 3)) (aK (ak S 3))))))))) dz) (dA (zK S 6 rfl rfl (ak S 9) (dk rfl) rfl rfl rfl rfl))))))) (λ_=>rfl)) (cc (qa (aO (dW S 4 rfl rfl) (aO (dW S 5 rfl rfl) (aK (dW S 6 rfl rfl)))))))))))
theorem mj:DefOk P w K mg base 1 "_law_twin" 1 d9:=mk A.f27 A.g ["world"] CM ["row"] ["list"] [0] [] [0] λX S I y=>
 (cc (qa (aO (vX S 0 rfl rfl I.e.n4 (bC (ak S 0) aJ) (dk rfl)) (aO (fq [1] [] [0] S 1 (cT (bC (ak S 0) aJ)) (λ_ _ _=>i4) (λc a F1=>have I:=F1.i I;(vX a 0 rfl rfl I.e.n4 (ak a 1) (dk rfl)))) (aK (fq [1] [] [0] S 1 (cT (bC (ak S 0) aJ)) (λ_ _ _=>i4) (λf b d=>have I:=d.i I;(vX b 0 rfl rfl I.e.n4 (ak b 1) (dk rfl)))))))))
theorem kE:DefOk P w K mg base 2 "_law_rooms" 2 dG:=mk A.f28 A.g ["cell","many"] B6 ["room"] ["range","_law_draw"] [0,1] [0] [0] λX S I y=>
 (cc (fq [0,2] [0] [1] S 2 (fo S 0 rfl rfl I.e.n1 (aK (ak S 1)) (dk rfl)) (λc a F1=>have I:=F1.i I;i8 (bD (fC I.r) (bO a 1 (I.c (gL A)) (aO (ak a 0) (aO (ak a 2) (aK aJ)))) aJ)) (λc a F1=>have I:=F1.i I;(ak a 2))))
theorem kF:DefOk P w K mg base 2 "_law_marks" 1 dH:=mk A.f29 A.g ["cell"] CM ["mark"] ["_law_draw"] [0] [0] [] λX S I y=>
 (cc (fq [0,1] [0] [0] S 1 (jE (by kernel_rfl)) (λc a F1=>have I:=F1.i I;i8 (bD (cD I.r) (bO a 0 (I.c (gL A)) (aO (ak a 0) (aO (jJ (ak a 1) (dk rfl) rfl) (aK aJ)))) aJ)) (λc a F1=>have I:=F1.i I;(ak a 1))))
theorem fY:DefOk P w K mg base 1 "_law_row_holds" 4 bT:=mk A.f30 A.g ["world","left","marks","row"] yp ["room","gone","mark","steps","away","there","one"] ["len","sorted","set"] [0,1,2,3,4,5,6,7,8] [1,5] [0,1,2] λX S I y=>
 (bj (ql S 5 6 rfl rfl rfl rfl (ak S 3) rfl rfl) (bj (dj (iZ (nF (bD (cD I.r) (dN S 0 I.e.n0 (aK (ak S 5))) aJ) (nF (bD (d5 I.r) (ak S 5) (km S 1 2 rfl rfl I.e.n7 rfl rfl I.e.n8 (aK (ak S 5)) (dk rfl) (dk rfl))) (vR (bD (fC I.r) (dN S 0 I.e.n0 (aK (fq [1,4] [1] [] S 4 (cT (ak S 5)) (λc a F1=>have I:=F1.i I;i8 (bD (vU I.r) (ak a 4) (ak a 1))) (λc a F1=>have I:=F1.i I;(ak a 4))))) aJ))))) (cc jD) dz) (bj (nG S 4 rfl rfl y (cT (ak S 5)) (bj (so (vs':=[1,9]) (cs':=[1]) (lo':=[]) (gs':=[]) S false 7 .leaf 9 rfl rfl rfl rfl (by kernel_rfl) (by kernel_rfl) (by kernel_rfl) (cT (bC (bC (ak S 0) aJ) (ak S 4))) (λf b d=>have I:=d.i I;i8 (bD (dv I.r) (ak b 9) (ak b 1))) (λf b d=>have I:=d.i I;(ak b 9)) (λ_=>rfl)) (bj (dj (iZ (qb (bD (jj I.r) (ak S 6) gK) (qc (bD (fC I.r) (dN S 0 I.e.n0 (aK (ak S 7))) aJ)))) (cc jD) dz) (bj (so (vs':=[5,10]) (cs':=[5]) (lo':=[]) (gs':=[]) S false 8 .leaf 10 rfl rfl rfl rfl (by kernel_rfl) (by kernel_rfl) (by kernel_rfl) (cT (ak S 7)) (λg e i=>have I:=i.i I;i8 (bD (vU I.r) (ak e 10) (ak e 5))) (λg e i=>have I:=i.i I;(ak e 10)) (λ_=>rfl)) (dA (dj (iZ (qb (bD (C2 I.r) (ak S 6) gK) (qc (iZ (nF (bD (dv I.r) (ak S 6) (bC (bC (ak S 0) aJ) (ak S 4))) (vR (bD (d5 I.r) (ak S 8) (fV .leaf oM)))))))) (cc jD) dz))))) (λ_=>rfl)) (cc (wc (gM (jj I.r) (ak S 6) gK) (vT (gM (dv I.r) (ak S 6) (ak S 2))))))))
theorem fG:DefOk P w K mg base 1 "_law_ranks_hold" 4 ck:=mk A.f31 A.g ["world","kept","mark","ranks"] yp ["room","ahead","lower","there"] ["len","range"] [0,1,2,3,4,5,6] [1,3,4] [0,1] λX S I y=>
 (bj (dj (bD (d5 I.r) (dN S 0 I.e.n0 (aK (ak S 3))) (dN S 0 I.e.n0 (aK (bC (ak S 0) aJ)))) (cc jD) dz) (bj (nG S 4 rfl rfl y (fo S 1 rfl rfl I.e.n1 (aK (dN S 0 I.e.n0 (aK (ak S 3)))) (dk rfl)) (dA (dj (bD (d5 I.r) (gM (jj I.r) (bC (ak S 3) (ak S 4)) gK) (gM (vU I.r) (ak S 4) (ak S 1))) (cc jD) dz)) (λ_=>rfl)) (bj (nG S 4 rfl rfl y (cT (ak S 1)) (bj (so (vs':=[1,7]) (cs':=[1]) (lo':=[]) (gs':=[]) S false 5 .leaf 7 rfl rfl rfl rfl (by kernel_rfl) (by kernel_rfl) (by kernel_rfl) (cT (bC (bC (ak S 0) aJ) (ak S 4))) (λc a F1=>have I:=F1.i I;i8 (bD (dv I.r) (ak a 7) (ak a 1))) (λc a F1=>have I:=F1.i I;(ak a 7)) (λ_=>rfl)) (bj (so (vs':=[3,4,7]) (cs':=[3,4]) (lo':=[]) (gs':=[]) S false 6 .leaf 7 rfl rfl rfl rfl (by kernel_rfl) (by kernel_rfl) (by kernel_rfl) (cT (ak S 5)) (λf b d=>have I:=d.i I;i8 (bD (lY I.r) (bC (ak b 3) (ak b 7)) (bC (ak b 3) (ak b 4)))) (λf b d=>have I:=d.i I;(ak b 7)) (λ_=>rfl)) (bj (dj (iZ (nF (bD (lY I.r) (bC (ak S 3) (ak S 4)) aJ) (vR (bD (d5 I.r) (gM (cD I.r) (bC (ak S 3) (ak S 4)) aJ) (gM (dv I.r) (ak S 2) (bC (bC (ak S 0) aJ) (ak S 4))))))) (cc jD) dz) (dA (dj (iZ (qb (bD (fC I.r) (bC (ak S 3) (ak S 4)) aJ) (qc (bD (cD I.r) (ak S 6) (fV .leaf oM))))) (cc jD) dz))))) (λ_=>rfl)) (cc jD))))
theorem g0:DefOk P w K mg base 2 "_law_is_paper" 4 cF:=mk A.f32 A.g ["world","rooms","marks","told"] yp ["left","row","room","rows","kept","ranks","k","there"] ["list","_law_row_holds","len","range","_law_ranks_hold","all"] [0,1,2,3,4,5,6,7,8,9] [0,2,5,8,9] [0,1,2,3,5] λX S I y=>
 (bj (qj S 7 8 9 rfl rfl rfl rfl rfl rfl (ak S 3) rfl rfl) (bj (cU S false 4 (vX S 0 rfl rfl I.e.n4 (ak S 1) (dk rfl))) (bj (nG S 5 rfl rfl y (cT (ak S 7)) (bj (dj (sj (lx (bO S 1 (I.c (fY A)) (aO (ak S 0) (aO (ak S 4) (aO (ak S 2) (aK (ak S 5)))))) (λ_=>rfl))) (cc jD) dz) (dA (so (vs':=[5,6]) (cs':=[5]) (lo':=[]) (gs':=[]) S false 4 .leaf 6 rfl rfl rfl rfl (by kernel_rfl) (by kernel_rfl) (by kernel_rfl) (cT (ak S 4)) (λc a F1=>have I:=F1.i I;i8 (bD (vU I.r) (ak a 6) (bC (ak a 5) aJ))) (λc a F1=>have I:=F1.i I;(ak a 6)) (λ_=>rfl)))) (λ_=>rfl)) (bj (dj (iZ (nF (bD (d5 I.r) (ak S 4) (ak S 8)) (vR (bD (d5 I.r) (dN S 2 I.e.n0 (aK (ak S 9))) (dN S 2 I.e.n0 (aK (ak S 2))))))) (cc jD) dz) (bj (nG S 6 rfl rfl y (cT (ak S 8)) (dA (dj (bD (cD I.r) (dN S 2 I.e.n0 (aK (fq [8,11] [8] [] S 11 (cT (bC (bC (ak S 0) aJ) (ak S 6))) (λf b d=>have I:=d.i I;i8 (bD (dv I.r) (ak b 11) (ak b 8))) (λf b d=>have I:=d.i I;(ak b 11))))) aJ) (cc jD) dz)) (λ_=>rfl)) (cc (sh S 5 rfl rfl I.e.n2 (aK (fq [0,2,8,9,10] [0,2,8,9] [4] S 10 (fo S 3 rfl rfl I.e.n1 (aK (dN S 2 I.e.n0 (aK (ak S 2)))) (dk rfl)) (λ_ _ _=>i4) (λg e i=>have I:=i.i I;(bO e 4 (I.c (fG A)) (aO (ak e 0) (aO (ak e 8) (aO (bC (ak e 2) (ak e 10)) (aK (bC (ak e 9) (ak e 10)))))))))) (dB rfl) rfl)))))))
theorem g4:DefOkL P w K mg base 2 "_law_bent_row" [.lst .leaf,.leaf,.leaf] bH:=Jw A.f33 A.g ["rows","cell","many"] pV rfl ["at","room","kind","gone","mark","one"] ["_law_draw","len","list","sorted"] [0,1,2,3,4,5,6,7] [4] [0,1,2,3] λX S I y=>
 (vD (EO S false 3 rfl rfl rfl (lq (bO S 0 (I.c (gL A)) (aO (ak S 1) (aO aJ (aK aJ)))) (dN S 1 I.e.n0 (aK (ak S 0))))) (vD (qf S 6 7 (qt S 0 rfl rfl (ak S 3) (λ_ _=>rfl))) (vD (EO S false 4 rfl rfl rfl (EN (lq (bO S 0 (I.c (gL A)) (aO (ak S 1) (aO aJ (aK aJ)))) (nt (ak S 2) aJ)) aJ)) (vD (EO S false 5 rfl rfl rfl (bO S 0 (I.c (gL A)) (aO (ak S 1) (aO aJ (aK aJ))))) (vD (zH (bD (cD I.r) (ak S 5) aJ) (vS (qg S 0 (ak S 3))) zJ) (vD (zH (bD (cD I.r) (ak S 5) aJ) (vS (sQ S 0 (aO (lq (bO S 0 (I.c (gL A)) (aO (ak S 1) (aO aJ (aK aJ)))) (nt (dN S 1 I.e.n0 (aK (ak S 0))) aJ)) (aK (qa (aO (vX S 2 rfl rfl I.e.n4 (ak S 6) (dk rfl)) (aK (ak S 7)))))))) zJ) (vD (zH (bD (cD I.r) (ak S 5) aJ) (vS (qh S 0 (ak S 3))) zJ) (vD (zH (bD (cD I.r) (ak S 5) aJ) (vS (ES S 0 rfl rfl (qa (aO (gj S 3 rfl rfl I.e.n7 (aK (EM (ak S 6) (fV .leaf (aK (ak S 4))))) (dB rfl) rfl) (aK (ak S 7)))) (ak S 3) rfl rfl rfl (λ_=>rfl))) zJ) (vD (zH (bD (cD I.r) (ak S 5) aJ) (vS (ES S 0 rfl rfl (qa (aO (fq [4,8] [4] [] S 8 (cT (ak S 6)) (λc a F1=>have I:=F1.i I;i8 (bD (d5 I.r) (ak a 8) (ak a 4))) (λc a F1=>have I:=F1.i I;(ak a 8))) (aK (ak S 7)))) (ak S 3) rfl rfl rfl (λ_=>rfl))) zJ) (vD (zH (bD (cD I.r) (ak S 5) aJ) (vS (ES S 0 rfl rfl (qa (aO (ak S 6) (aK (bC (fV .leaf (aO gK (aO Dc (aO Dc (aO Dc (aO Dc (aK Dc))))))) (bO S 0 (I.c (gL A)) (aO (ak S 1) (aO aJ (aK aJ)))))))) (ak S 3) rfl rfl rfl (λ_=>rfl))) zJ) (vS (zH (bD (cD I.r) (ak S 5) aJ) (vS (ES S 0 rfl rfl (qa (aO (sY (ak S 6)) (aK (ak S 7)))) (ak S 3) rfl rfl rfl (λ_=>rfl))) zJ))))))))))))
theorem ml:DefOkM P w K mg base 3 "_law_bent" [.tup [.lst .leaf,.lst .leaf,.lst (.lst .leaf)],.leaf,.leaf] cX:=Jx A.f34 A.g ["told","cell","many"] pV rfl ["kind","room","rows","kept","ranks","number"] ["_law_draw","len","_law_bent_row","sorted"] [0,1,2,3,4,5,6,7,8] [] [0,1,2,3] λX S I y=>
 (bj (qk S 5 6 7 rfl rfl rfl rfl rfl rfl (dW S 0 rfl rfl) rfl rfl) (bj (cU S false 3 (bO S 0 (I.c (gL A)) (aO (ak S 1) (aO aJ (aK aJ))))) (bj (cU S false 4 (lq (bO S 0 (I.c (gL A)) (aO (ak S 1) (aO aJ (aK aJ)))) (ak S 2))) (bj (dj (iZ (qb (bD (lY I.r) (ak S 3) aJ) (qc (bD (fC I.r) (dN S 1 I.e.n0 (aK (ak S 5))) aJ)))) (dA (qp S 2 (I.l (g4 A)) (G8 S 5 (G8 S 1 (G8 S 2 sP))))) dz) (bj (dj (iZ (qb (bD (cD I.r) (ak S 3) aJ) (qc (bD (dv I.r) (ak S 4) (ak S 6))))) (dA (jH S 6 (ak S 4))) (dA (dj (bD (cD I.r) (ak S 3) aJ) (dA (cU S true 6 (gj S 3 rfl rfl I.e.n7 (aK (EM (dW S 6 rfl rfl) (fV .leaf (aK (ak S 4))))) (dB rfl) rfl))) dz))) (bj (dj (iZ (qb (bD (cD I.r) (ak S 3) aJ) (qc (bD (fC I.r) (dN S 1 I.e.n0 (aK (ak S 7))) aJ)))) (bj (cU S false 8 (bC (fV .leaf (aO gK (aK (EN (bO S 0 (I.c (gL A)) (aO (ak S 1) (aO aJ (aK aJ)))) aJ)))) (lq (lq (bO S 0 (I.c (gL A)) (aO (ak S 1) (aO aJ (aK aJ)))) aJ) aJ))) (dA (nH S 7 (lq (bO S 0 (I.c (gL A)) (aO (ak S 1) (aO aJ (aK aJ)))) (dN S 1 I.e.n0 (aK (ak S 7)))) (ak S 8) (ak S 4) (λ_=>rfl)))) dz) (bj (dj (iZ (qb (bD (cD I.r) (ak S 3) aJ) (qc (bD (fC I.r) (dN S 1 I.e.n0 (aK (ak S 7))) aJ)))) (jI 7 (dA (qo S 7 (lq (bO S 0 (I.c (gL A)) (aO (ak S 1) (aO aJ (aK aJ)))) (dN S 1 I.e.n0 (aK (ak S 7))))))) dz) (bj (dj (bD (cD I.r) (ak S 3) aJ) (jI 7 (dA (zK S 7 rfl rfl (bC (fV .leaf (aO (fV .leaf oM) (aO (lD (fV .leaf (aK gK)) (ak S 2)) (aK (lD (fV .leaf (aK aJ)) (ak S 2)))))) (bO S 0 (I.c (gL A)) (aO (ak S 1) (aO aJ (aK aJ))))) (dk rfl) rfl rfl rfl rfl))) dz) (bj (dj (iZ (qb (bD (cD I.r) (ak S 3) aJ) (qc (bD (fC I.r) (dN S 1 I.e.n0 (aK (ak S 7))) aJ)))) (dA (nJ S 7 rfl rfl aJ (bC (fV .leaf (aO gK (aK aJ))) (bO S 0 (I.c (gL A)) (aO (ak S 1) (aO aJ (aK aJ))))) (λ_ _=>rfl) (dk rfl) rfl rfl rfl rfl)) dz) (cc (qa (aO (dW S 5 rfl rfl) (aO (dW S 6 rfl rfl) (aK (dW S 7 rfl rfl)))))))))))))))
theorem jr:DefOk P w K mg base 1 "_law_fewest" 3 bJ:=mk A.f35 A.g ["world","kept","mark"] pV ["found","turn","room","near","there"] ["len","range"] [0,1,2,3,4,5,6] [0,1,2,3,4] [0,1] λX S I y=>
 (bj (GM S true 3 rfl rfl (gq (S.cel 3 _ rfl rfl)) (fq [0,1,2,5] [0,1,2] [] S 5 (fo S 1 rfl rfl I.e.n1 (aK (dN S 0 I.e.n0 (aK (bC (ak S 0) aJ)))) (dk rfl)) (λ_ _ _=>i4) (λc a F1=>have I:=F1.i I;(oO (iZ (qb (bD (dv I.r) (ak a 5) (ak a 1)) (qc (bD (dv I.r) (ak a 2) (bC (bC (ak a 0) aJ) (ak a 5)))))) aJ gK)))) (bj (nG S 4 rfl rfl y (yS S 1 rfl rfl I.e.n1 (aO aJ (aK (nt (dN S 0 I.e.n0 (aK (ak S 3))) aJ))) (lJ rfl rfl) (dk rfl)) (dA (nG S 5 rfl rfl y (cT (ak S 1)) (bj (so (vs':=[1,3,4,7]) (cs':=[1,3,4]) (lo':=[]) (gs':=[]) S false 6 .leaf 7 rfl rfl rfl rfl (by kernel_rfl) (by kernel_rfl) (by kernel_rfl) (cT (bC (bC (ak S 0) aJ) (ak S 5))) (λf b d=>have I:=d.i I;i8 (iZ (qb (bD (dv I.r) (ak b 7) (ak b 1)) (qc (bD (cD I.r) (bC (ak b 3) (ak b 7)) (EN (ak b 4) aJ)))))) (λf b d=>have I:=d.i I;(ak b 7)) (λ_=>rfl)) (dA (dj (iZ (qb (bD (jj I.r) (bC (ak S 3) (ak S 5)) gK) (qc (bD (d5 I.r) (ak S 6) (fV .leaf oM))))) (dA (jG S 3 rfl rfl (ak S 4) (ak S 5) rfl rfl rfl (λ_=>rfl))) dz))) (λ_=>rfl))) (λ_=>rfl)) (cc (dW S 3 rfl rfl))))
theorem jq:DefOk P w K mg base 2 "_law_forged" 5 cy:=mk A.f36 A.g ["world","marks","told","rooms","cell"] Je ["rows","gone","row","left","room","mark"] ["_law_draw","len","_law_fewest"] [0,1,2,3,4,5,6,7,8,9] [0,6,8] [0,1] λX S I y=>
 (bj (cU S true 5 (qr (bC (ak S 2) aJ) (lq (bO S 0 (I.c (gL A)) (aO (ak S 4) (aO aJ (aK aJ)))) (nt (dN S 1 I.e.n0 (aK (bC (ak S 2) aJ))) aJ)))) (bj (cU S false 6 (fV .leaf oM)) (bj (qq S 5 7 y (vS (EO S false 6 rfl rfl rfl (EM (ak S 6) (bC (ak S 7) aJ))))) (bj (GM S true 8 rfl rfl (gq (S.cel 8 _ rfl rfl)) (fq [6,9] [6] [] S 9 (cT (ak S 3)) (λc a F1=>have I:=F1.i I;i8 (bD (vU I.r) (ak a 9) (ak a 6))) (λc a F1=>have I:=F1.i I;(ak a 9)))) (bj (dj (iZ (qb (bD (cD I.r) (bO S 0 (I.c (gL A)) (aO (ak S 4) (aO aJ (aK aJ)))) aJ) (qc (bD (d5 I.r) (ak S 8) (fV .leaf oM))))) (bj (cU S false 9 (bC (ak S 8) (lq (bO S 0 (I.c (gL A)) (aO (ak S 4) (aO aJ (aK aJ)))) (dN S 1 I.e.n0 (aK (ak S 8)))))) (bj (zK S 5 rfl rfl (qa (aO (fV .leaf (aK (ak S 9))) (aK (bC (EM (fV .leaf (aK gK)) (ak S 1)) (lq (bO S 0 (I.c (gL A)) (aO (ak S 4) (aO aJ (aK aJ)))) (nt aJ (dN S 1 I.e.n0 (aK (ak S 1))))))))) (dk rfl) rfl rfl rfl rfl) (dA (jH S 8 (ak S 9))))) dz) (GL 8 (GL 5 (cc (qa (aO (ak S 5) (aO (ak S 8) (aK (fq [0,8,10] [0,8] [2] S 10 (cT (ak S 1)) (λ_ _ _=>i4) (λf b d=>have I:=d.i I;(bO b 2 (I.c (jr A)) (aO (ak b 0) (aO (ak b 8) (aK (ak b 10)))))))))))))))))))
theorem o_law{M:Addr}(d:mg "law"=some (.ref M)):∃r:FuncData,(∀(s:Shared)(v:Value),BindsTo s r ⟨[v],[]⟩ [("script",v)])/\∀base:Heap,K.In base->base.Ns mainGlobals mg->dy P w K mg base i6 9 M r ["script"] (qy K 1 uD):=Jy A.f37 A.g "script" CM d ["world","rooms","marks","told","kept","due","turn","found"] ["_law_world","_law_cell_at","len","_law_rooms","_law_marks","fair_paper","_law_draw","_law_forged","_law_bent","_law_twin","list","repr","_law_is_paper","range","is_fair_paper","isinstance","bool"] [0,1,2,3,4,5,6,7,8] [] [0,1,2,3,4,5,6,7,8,9,10,11,12,13,14,15,16] λbase X S I y=>
 (bj (cU S false 1 (bO S 0 (I.c (kD A)) (aO (ak S 0) (aO aJ (aK aJ))))) (bj (cU S false 2 (bO S 3 (I.c (kE A)) (aO (bO S 1 (I.c (yR A)) (aO (ak S 0) (aK aJ))) (aK (dN S 2 I.e.n0 (aK (bC (ak S 1) aJ))))))) (bj (cU S false 3 (bO S 4 (I.c (kF A)) (aK (bO S 1 (I.c (yR A)) (aO (ak S 0) (aK aJ)))))) (bj (cU S true 4 (bO S 5 (I.c (kC A)) (aO (ak S 1) (aO (ak S 2) (aK (ak S 3)))))) (bj (dj (bD (cD I.r) (bO S 6 (I.c (gL A)) (aO (bO S 1 (I.c (yR A)) (aO (ak S 0) (aK aJ))) (aO aJ (aK aJ)))) aJ) (GL 4 (dA (cU S true 4 (bO S 7 (I.c (jq A)) (aO (ak S 1) (aO (ak S 3) (aO (ak S 4) (aO (ak S 2) (aK (bO S 1 (I.c (yR A)) (aO (ak S 0) (aK aJ)))))))))))) (dA (dj (bD (fC I.r) (bO S 6 (I.c (gL A)) (aO (bO S 1 (I.c (yR A)) (aO (ak S 0) (aK aJ))) (aO aJ (aK aJ)))) aJ) (dA (qm S true 4 8 rfl rfl rfl rfl (I.m (ml A)) (aO (dW S 4 rfl rfl) (aO (bO S 1 (I.c (yR A)) (aO (ak S 0) (aK aJ))) (aK (dN S 2 I.e.n0 (aK (bC (ak S 1) aJ)))))) (dB rfl) rfl rfl)) dz))) (bj (cU S false 5 (fV .leaf (aO (bO S 9 (I.c (mj A)) (aK (ak S 1))) (aO (vX S 10 rfl rfl I.e.n4 (ak S 2) (dk rfl)) (aO (vX S 10 rfl rfl I.e.n4 (ak S 3) (dk rfl)) (aK (iq S I.r I.rm.gd 11 rfl rfl I.e.n9 (ak S 4) (dk rfl) rfl))))))) (bj (cU S false 6 (bO S 12 (I.c (g0 A)) (aO (ak S 1) (aO (ak S 2) (aO (ak S 3) (aK (ak S 4))))))) (bj (nG S 7 rfl rfl y (fo S 13 rfl rfl I.e.n1 (aK aJ) (dk rfl)) (bj (cU S false 8 (bO S 14 (I.c (gZ A)) (aO (ak S 1) (aO (ak S 2) (aO (ak S 3) (aK (ak S 4))))))) (dA (dj (iZ (nF (sj (lx (sZ S 15 16 rfl rfl rfl rfl rfl Ca I.e.n10 I.e.n11 (ak S 8) (dB rfl) (dB rfl) rfl) (λ_=>rfl))) (nF (bD (d5 I.r) (ak S 8) (ak S 6)) (vR (bD (d5 I.r) (fV .leaf (aO (ak S 1) (aO (ak S 2) (aO (ak S 3) (aK (iq S I.r I.rm.gd 11 rfl rfl I.e.n9 (ak S 4) (dk rfl) rfl)))))) (ak S 5)))))) (cc jD) dz))) (λ_=>rfl)) (cc jD)))))))))
end
end KQ.F.B
open PySem PySem.W PyProof.Rows
def PySem.W.Fast.tw8568327610254804803:=0
def PySem.W.Fast.tw11560720271913743558:=0
def PySem.W.Fast.tw3790092646401737191:=0
def PySem.W.Fast.tw3675929280697209351:=0
def PySem.W.Fast.tw13386996845072005800:=0
def PySem.W.Fast.tw11589762787752224843:=0
def PySem.W.Fast.tw10767481667820720332:=0
def PySem.W.Fast.tw10800646542700188652:=0
def PySem.W.Fast.tw11508410577820777293:=0
def PySem.W.Fast.tw3808964515104322225:=0
def PySem.W.Fast.tw4810655279710609940:=0
def PySem.W.Fast.tw433128135229117782:=0
set_option maxRecDepth 100000 in
set_option maxHeartbeats 0 in
theorem PySem.Challenge.cw_foreseehall_k54_fair_papers_judged_holds : PySem.Challenge.rw_foreseehall_k54_fair_papers_judged.Holds := by
 w_on;o_law;k_head;(case hw=>w_witness2)
 k_fill
 refine T.walkG (j:=9) (l:=PySem.Challenge.rw_foreseehall_k54_fair_papers_judged) KQ.F.B.law_true ⟨rfl,by decide,by decide,rfl⟩ rfl rfl (λw h Y=>PySem.W.kIn_of Y) ?F
 case F=>
  intro w mg fa h KX G hmg;refine' KQ.F.B.o_law (.mk (.mk (T.gn KX G ?z0) (T.gn KX G ?z1) (T.gn KX G ?z2) (T.gn KX G ?z3) (T.gn KX G ?z4) (T.gn KX G ?z5) (T.gn KX G ?z6) (T.gn KX G ?z7) (T.gn KX G ?z8) (T.gn KX G ?z9) (T.gn KX G ?z10) (T.gn KX G ?z11) (T.gt KX G ?e0 ?q0 ?v0) (T.gi KX G ?e1) (T.gt KX G ?e2 ?q2 ?v2)) (T.ft KX G ?a0 ?l0 ?c0 ?k0) (T.ft KX G ?a1 ?l1 ?c1 ?k1) (T.ft KX G ?a2 ?l2 ?c2 ?k2) (T.ft KX G ?a3 ?l3 ?c3 ?k3) (T.ft KX G ?a4 ?l4 ?c4 ?k4) (T.ft KX G ?a5 ?l5 ?c5 ?k5) (T.ft KX G ?a6 ?l6 ?c6 ?k6) (T.ft KX G ?a7 ?l7 ?c7 ?k7) (T.ft KX G ?a8 ?l8 ?c8 ?k8) (T.ft KX G ?a9 ?l9 ?c9 ?k9) (T.ft KX G ?a10 ?l10 ?c10 ?k10) (T.ft KX G ?a11 ?l11 ?c11 ?k11) (T.ft KX G ?a12 ?l12 ?c12 ?k12) (T.ft KX G ?a13 ?l13 ?c13 ?k13) (T.ft KX G ?a14 ?l14 ?c14 ?k14) (T.ft KX G ?a15 ?l15 ?c15 ?k15) (T.ft KX G ?a16 ?l16 ?c16 ?k16) (T.ft KX G ?a17 ?l17 ?c17 ?k17) (T.ft KX G ?a18 ?l18 ?c18 ?k18) (T.ft KX G ?a19 ?l19 ?c19 ?k19) (T.ft KX G ?a20 ?l20 ?c20 ?k20) (T.ft KX G ?a21 ?l21 ?c21 ?k21) (T.ft KX G ?a22 ?l22 ?c22 ?k22) (T.ft KX G ?a23 ?l23 ?c23 ?k23) (T.ft KX G ?a24 ?l24 ?c24 ?k24) (T.ft KX G ?a25 ?l25 ?c25 ?k25) (T.ft KX G ?a26 ?l26 ?c26 ?k26) (T.ft KX G ?a27 ?l27 ?c27 ?k27) (T.ft KX G ?a28 ?l28 ?c28 ?k28) (T.ft KX G ?a29 ?l29 ?c29 ?k29) (T.ft KX G ?a30 ?l30 ?c30 ?k30) (T.ft KX G ?a31 ?l31 ?c31 ?k31) (T.ft KX G ?a32 ?l32 ?c32 ?k32) (T.ft KX G ?a33 ?l33 ?c33 ?k33) (T.ft KX G ?a34 ?l34 ?c34 ?k34) (T.ft KX G ?a35 ?l35 ?c35 ?k35) (T.ft KX G ?a36 ?l36 ?c36 ?k36) (T.ft KX G ?a37 ?l37 ?c37 ?k37)) hmg
  case a0|l0|c0|k0|a1|l1|c1|k1|a2|l2|c2|k2|a3|l3|c3|k3|a4|l4|c4|k4|a5|l5|c5|k5|a6|l6|c6|k6|a7|l7|c7|k7|a8|l8|c8|k8|a9|l9|c9|k9|a10|l10|c10|k10|a11|l11|c11|k11|a12|l12|c12|k12|a13|l13|c13|k13|a14|l14|c14|k14|a15|l15|c15|k15|a16|l16|c16|k16|a17|l17|c17|k17|a18|l18|c18|k18|a19|l19|c19|k19|a20|l20|c20|k20|a21|l21|c21|k21|a22|l22|c22|k22|a23|l23|c23|k23|a24|l24|c24|k24|a25|l25|c25|k25|a26|l26|c26|k26|a27|l27|c27|k27|a28|l28|c28|k28|a29|l29|c29|k29|a30|l30|c30|k30|a31|l31|c31|k31|a32|l32|c32|k32|a33|l33|c33|k33|a34|l34|c34|k34|a35|l35|c35|k35|a36|l36|c36|k36|a37|l37|c37|k37|z0|z1|z2|z3|z4|z5|z6|z7|z8|z9|z10|z11|e0|q0=>k_is
  case v0=>kernel_rfl
  case e1|e2|q2=>k_is
  case v2=>kernel_rfl
