import PyProof.Rows.All
import Wide.All
import OpenK.AllK
import Wide.FinOn
import Lean
import PyProof.EqAt
import PyProof.EqKinds
import PyProof.TupleCall
import PySem.Challenge.RW_mindchange_k66_whole_run_turns
set_option Elab.async false
set_option linter.all false
set_option maxRecDepth 100000
set_option maxHeartbeats 8000000
set_option Elab.async false
set_option linter.all false
set_option maxRecDepth 100000
abbrev qdt:=@decide_eq_true
abbrev qod:=@of_decide_eq_true
abbrev qdf:=@decide_eq_false
abbrev qnZ:=@if_neg
abbrev qp:=@if_pos
abbrev qbf:=@Bool.false_ne_true
abbrev qms:=@List.mem_cons_self
abbrev qmm:=@List.mem_cons_of_mem
abbrev qnt:=@Nat.le_trans
abbrev qmg:=@List.mem_of_getElem?
abbrev qal:=@List.mem_append_left
abbrev qar:=@List.mem_append_right
abbrev qsi:=@Option.some.inj
abbrev qen:=@Int.emod_nonneg
abbrev qel:=@Int.emod_lt_of_pos
abbrev qnb:=@Nat.le_of_ble_eq_true
abbrev qnr:=@Nat.le_refl
abbrev qnz:=@Nat.zero_le
abbrev qlm:=@List.length_map
abbrev qgm:=@List.getElem?_map
abbrev qta:=@List.take_add_one
namespace L2
open PySem PySem.Spec PyProof.Rows
abbrev Key:=Sum Int Str
def lE:Key->Value->Bool
 | .inl k,v=>Value.isInt k v
 | .inr x,v=>Value.isStrOf x v
def Mw(w:World):Key->Int
 | .inl k=>hashInt k
 | .inr x=>hashStr w x
theorem cF:∀{k:Key}{v:Value},lE k v=true->(∃ i t,k=Sum.inl i/\v=Value.int i t)\/(∃ x t,k=Sum.inr x/\v=Value.str x t)
 | .inl i,v,h=>by
  obtain⟨t,e⟩:=Value.isInt_shape (k:=i) (v:=v) h;exact .inl ⟨i,t,rfl,e⟩
 | .inr x,v,h=>by
  obtain⟨t,e⟩:=Value.isStrOf_shape (x:=x) (v:=v) h;exact .inr ⟨x,t,rfl,e⟩
theorem Ad(i:Int)(t:Tok):lE (.inl i) (.int i t)=true:=by simp[lE,Value.isInt]
theorem Ae(x:Str)(t:Tok):lE (.inr x) (.str x t)=true:=by simp[lE,Value.isStrOf]
theorem JR(a b:Int):decide ((Sum.inl a:Key)=Sum.inl b)=(a == b):=by
 by_cases e:a=b
 . subst e;simp
 . have h:¬ (Sum.inl a:Key)=Sum.inl b:=fun q=>e (Sum.inl.inj q)
   rw[qdf h];exact(beq_eq_false_iff_ne.mpr e).symm
theorem JS(a b:Str):decide ((Sum.inr a:Key)=Sum.inr b)=decide (a=b):=by
 by_cases e:a=b
 . subst e;simp
 . have h:¬ (Sum.inr a:Key)=Sum.inr b:=fun q=>e (Sum.inr.inj q)
   rw[qdf h,qdf e]
theorem JT(a:Int)(b:Str):decide ((Sum.inl a:Key)=Sum.inr b)=false:=qdf (fun q=>nomatch q)
theorem JV(a:Str)(b:Int):decide ((Sum.inr a:Key)=Sum.inl b)=false:=qdf (fun q=>nomatch q)
def bI(prog:Program)(w:World):PySem.KeyKind prog w Key where
 is:=lE
 hash:=Mw w
 inj := fun v a b ha hb=>by
  rcases cF ha with⟨i,t,rfl,rfl⟩|⟨x,t,rfl,rfl⟩
  . rcases cF hb with⟨j,u,rfl,e⟩|⟨y,u,rfl,e⟩
    . injection e with e1 _;rw[e1]
    . exact nomatch e
  . rcases cF hb with⟨j,u,rfl,e⟩|⟨y,u,rfl,e⟩
    . exact nomatch e
    . injection e with e1 _;rw[e1]
 byValue:=fun k v h=>by
  rcases cF h with⟨i,t,rfl,rfl⟩|⟨x,t,rfl,rfl⟩ <;> rfl
 pyHash:=fun hv h=>by
  rcases cF hv with⟨i,t,rfl,rfl⟩|⟨x,t,rfl,rfl⟩
  . exact wpAny_pyHash_int h
  . exact wpAny_pyHash_str h
 eqBool:=fun hu hv h=>by
  rcases cF hu with⟨i,t,rfl,rfl⟩|⟨x,t,rfl,rfl⟩
  . rcases cF hv with⟨j,u,rfl,rfl⟩|⟨y,u,rfl,rfl⟩
    . rw[JR]at h;exact wpAny_eqBool_int h
    . rw[JT]at h;exact SeqAt.EqAt.int_str i t y u _ _ _ _ h
  . rcases cF hv with⟨j,u,rfl,rfl⟩|⟨y,u,rfl,rfl⟩
    . rw[JV]at h;exact SeqAt.EqAt.str_int x t j u _ _ _ _ h
    . rw[JS]at h;exact wpAny_eqBool_str h
 «strs»:=fun k x t v h=>by
  rcases cF h with⟨i,u,rfl,e⟩|⟨y,u,rfl,e⟩
  . exact nomatch e
  . injection e with e1 _
    subst e1;cases v <;> rfl
theorem oN(prog:Program)(w:World)(i:Int)(t:Tok):(bI prog w).is (.inl i) (.int i t)=true:=Ad i t
theorem oO(prog:Program)(w:World)(x:Str)(t:Tok):(bI prog w).is (.inr x) (.str x t)=true:=Ae x t
end L2
namespace L2
open PySem PySem.Spec PyProof.Rows
inductive V where
 |non|bl (b:Bool)|int (i:Int)|str (x:Str)|byt (b:Array UInt8)|flt (b:UInt64)|ref (a:Addr)|ty (n:String)
 deriving DecidableEq
def RelV:V->Value->Prop
 | .non,u=>u=Value.none
 | .bl b,u=>u=Value.bool b
 | .int i,u=>∃ t,u=Value.int i t
 | .str x,u=>∃ t,u=Value.str x t
 | .byt b,u=>∃ t,u=Value.bytes b t
 | .flt b,u=>∃ t,u=Value.float b t
 | .ref a,u=>u=Value.ref a
 | .ty n,u=>u=Value.type n
abbrev Vals:List V->List Value->Prop:=Paired RelV
theorem Vals.length{xs:List V}{us:List Value}(r:Vals xs us):xs.length=us.length:=Paired.length r
theorem Vals.get:∀{xs:List V}{us:List Value}{i:Nat}{x:V},Vals xs us->xs[i]? = some x->∃ u,us[i]? = some u/\RelV x u
 |_,_,_,_,.nil,e=>by simp at e
 |_,_,0,_,.cons r _,e=>by simp at e;subst e;exact⟨_,rfl,r⟩
 | _,_,i+1,x,.cons _ t,e=>by
  obtain⟨u,h1,h2⟩:=Vals.get (i:=i) (x:=x) t (by simpa using e);exact⟨u,by simpa using h1,h2⟩
theorem Vals.append:∀{xs ys:List V}{us ws:List Value},Vals xs us->Vals ys ws->Vals (xs++ys) (us++ws)
 |_,_,_,_,.nil,s=>s
 |_,_,_,_,.cons r t,s=>.cons r (Vals.append t s)
theorem Vals.take:∀{xs:List V}{us:List Value}(n:Nat),Vals xs us->Vals (xs.take n) (us.take n)
 |_,_,0,_=>.nil
 |_,_,_+1,.nil=>.nil
 |_,_,n+1,.cons r t=>.cons r (Vals.take n t)
theorem Vals.drop:∀{xs:List V}{us:List Value}(n:Nat),Vals xs us->Vals (xs.drop n) (us.drop n)
 |_,_,0,r=>r
 |_,_,_+1,.nil=>.nil
 |_,_,n+1,.cons _ t=>Vals.drop n t
def RelO:Option V->Option Value->Prop
 |some v,some u=>RelV v u
 |none,none=>True
 |_,_=>False
def KV{κ:Type}:List (κ×V)->List (κ×Value)->Prop:=Paired fun(p:κ×V)(q:κ×Value)=>p.1=q.1/\RelV p.2 q.2
def kV:Key->V
 | .inl i=>.int i
 | .inr x=>.str x
inductive HO where
  |lst (xs:List V)
  |tup (xs:List V)
  |dK (kvs:List (Key×V))|dT (kvs:List (List Key×V))
  |set (S:Int->Bool) (n:Nat)
  |ins (C dx:Addr) (fs:List (Str×V))
  |own (x:Addr)
  |xd (fs:List (Str×V))
  |met (f x:Addr)
  |rng (lo hi:Int)
  |frz (o:Obj) (u:HO)
  |tbl (ps:Array Value)
  |ext (φ:Heap->Prop)
abbrev Hp:=Addr->Option HO
def upd(H:Hp)(a:Addr)(o:HO):Hp:=fun b=>if b=a then some o else H b
theorem au{H:Hp}{a:Addr}{o:HO}:upd H a o a=some o:=by unfold upd;rw[qp rfl]
theorem aC{H:Hp}{a b:Addr}{o:HO}(h:b≠a):upd H a o b=H b:=by unfold upd;rw[qnZ h]
theorem nU{H:Hp}{a:Addr}{o u:HO}:upd (upd H a o) a u=upd H a u:=by
 funext b;unfold upd;split <;> rfl
theorem bz{H:Hp}{a b:Addr}{o u:HO}(h:H a=some o)(h':H b=some u)(d:o≠u):a≠b:=by
 intro e;subst e;rw[h]at h';exact d (qsi h')
theorem aH{H:Hp}{a b:Addr}{o:HO}(h:H a=some o)(h':H b=none):a≠b:=by
 intro e;subst e;rw[h]at h';cases h'
def IsTupP(h:Heap)(a:Addr)(its:Array Value):Prop:=∃ o,h.get? a=some o/\o.cls = .type "tuple"/\∃ n,(o.data,o.dict)=(Data.seq its n,none)
theorem IsTupP.tup{h:Heap}{a:Addr}{its:Array Value}(x:IsTupP h a its):IsTup h a its:=let ⟨o,e,c,n,d⟩:=x;⟨o,e,c,n,congrArg Prod.fst d⟩
theorem IsTupP.new(h:Heap)(its:Array Value):IsTupP (h.push { cls:=.type "tuple",data:=.seq its }) h.objs.size its:=⟨_,Heap.get?_push_size _ rfl,rfl,_,rfl⟩
section
variable(P:Program)(w:World)
def ObjOk(H:Hp)(h:Heap)(a:Addr):HO->Prop
 | .lst xs=>xs.length<=sizeLine/\∃(its:List Value) (n:Nat),Vals xs its/\h.get? a=some { cls:=.type "list",data:=.seq its.toArray n }
 | .tup xs=>xs.length<=sizeLine/\∃ its:List Value,Vals xs its/\IsTupP h a its.toArray
 | .dK kvs=>kvs.length<=sizeLine/\(a == sysModules)=false/\∃ vs,KV kvs vs/\h.DictOf (bI P w) a vs
 | .dT kvs=>kvs.length<=sizeLine/\(a == sysModules)=false/\∃ xs:List (List Key×Addr×Value),
   Paired (fun(p:List Key×V)(q:List Key×Addr×Value)=>p.1=q.1/\H q.2.1=some (.tup (p.1.map kV))/\RelV p.2 q.2.2) kvs xs /\
   ∃ o es ep,h.get? a=some o/\o.ExactDict/\o.data = .dict es ep/\es.toList=xs.map (entryOfKey (tupleKind (bI P w)))/\(xs.map (·.1)).Nodup
 | .set S n=>h.SetOf (intKind P w) a S n
 | .ins C dx fs=>H dx=some (.own a)/\fs.length<=1000/\dx≠a/\h.get? a=some (W.instObj C dx) /\
   ∃ mA,h.Ns1 dx mA/\(∀ f,RelO (fs.lookup f) (mA f))/\PySem.Within mA (fs.map (·.1))
 | .own _=>∃ o,h.get? a=some o
 | .xd fs=>∃ mA,h.Ns1 a mA/\∀ f,RelO (fs.lookup f) (mA f)
 | .rng lo hi=>∃ t u v,h.get? a=some { cls:=.type "range",data:=.fields #[.int lo t,.int hi u,.int 1 v] }
 | .frz o u=>h.get? a=some o/\ObjOk H h a u
 | .tbl ps=>h.get? a=some { cls:=.none,data:=.fields ps }
 | .met f x=>h.get? a=some (W.methodObj (.ref f) (.ref x))
 | .ext φ=>φ h/\(∃ o,h.get? a=some o)/\∀ h1 h2:Heap,φ h1->(∀ o,h1.get? a=some o->h2.get? a=some o)->φ h2
def HOk(H:Hp)(h:Heap):Prop:=∀ a o,H a=some o->ObjOk P w H h a o
end
section
variable{P:Program}{w:World}{H H':Hp}{h h':Heap}{a:Addr}{o:HO}
theorem ObjOk.lt(x:ObjOk P w H h a o):a<h.objs.size:=by
 cases o with
 |lst xs=>obtain⟨_,_,_,_,e⟩:=x;exact Heap.lt_size e
 |tup xs=>obtain⟨_,_,_,p⟩:=x;exact p.tup.lt
 |dK kvs=>obtain⟨_,_,_,_,o,_,_,e,_⟩:=x;exact Heap.lt_size e
 |dT kvs=>obtain⟨_,_,_,_,o,_,_,e,_⟩:=x;exact Heap.lt_size e
 |set S n=>obtain⟨o,_,_,_,e,_⟩:=x;exact Heap.lt_size e
 |ins C dx fs=>obtain⟨_,_,_,e,_⟩:=x;exact Heap.lt_size e
 |own y=>obtain⟨_,e⟩:=x;exact Heap.lt_size e
 |xd fs=>obtain⟨_,⟨_,_,_,e,_⟩,_⟩:=x;exact Heap.lt_size e
 |rng lo hi=>obtain⟨_,_,_,e⟩:=x;exact Heap.lt_size e
 |frz ob u=>obtain⟨e,_⟩:=x;exact Heap.lt_size e
 |tbl ps=>exact Heap.lt_size (show h.get? a=some _ from x)
 |met f y=>exact Heap.lt_size (show h.get? a=some _ from x)
 |ext φ=>obtain⟨_,⟨_,e⟩,_⟩:=x;exact Heap.lt_size e
theorem Paired.mapP{α β:Type}{F G:α->β->Prop}:∀{l₁:List α}{l₂:List β},Paired F l₁ l₂->(∀ a b,F a b->G a b)->Paired G l₁ l₂
 |_,_,.nil,_=>.nil
 |_,_,.cons r t,f=>.cons (f _ _ r) (Paired.mapP t f)
theorem ObjOk.stay(x:ObjOk P w H h a o)(k:∀ b u,(b=a\/H b=some (.own a))->h.get? b=some u->h'.get? b=some u)
  (ho:∀ b,H b=some (.own a)->H' b=some (.own a)) (ht:∀ b xs,H b=some (.tup xs)->H' b=some (.tup xs)):ObjOk P w H' h' a o:=by
 induction o with
 |lst xs=>obtain⟨z,its,n,r,e⟩:=x;exact⟨z,its,n,r,k _ _ (.inl rfl) e⟩
 |tup xs=>obtain⟨z,its,r,ob,e,c⟩:=x;exact⟨z,its,r,ob,k _ _ (.inl rfl) e,c⟩
 |dK kvs=>obtain⟨z,y,vs,r,ob,es,ep,e,c⟩:=x;exact⟨z,y,vs,r,ob,es,ep,k _ _ (.inl rfl) e,c⟩
 | dT kvs =>
  obtain⟨z,y,xs,r,ob,es,ep,e,c⟩:=x;exact⟨z,y,xs,Paired.mapP r fun p q z=>⟨z.1,ht _ _ z.2.1,z.2.2⟩,ob,es,ep,k _ _ (.inl rfl) e,c⟩
 |set S n=>obtain⟨ob,es,ep,t,e,c⟩:=x;exact⟨ob,es,ep,t,k _ _ (.inl rfl) e,c⟩
 | ins C dx fs =>
  obtain⟨d,z,ne,e,mA,⟨od,es,ep,e2,c⟩,r⟩:=x;exact⟨ho _ d,z,ne,k _ _ (.inl rfl) e,mA,⟨od,es,ep,k _ _ (.inr d) e2,c⟩,r⟩
 |own y=>obtain⟨ob,e⟩:=x;exact⟨ob,k _ _ (.inl rfl) e⟩
 |xd fs=>obtain⟨mA,⟨od,es,ep,e,c⟩,r⟩:=x;exact⟨mA,⟨od,es,ep,k _ _ (.inl rfl) e,c⟩,r⟩
 |rng lo hi=>obtain⟨t,u,v,e⟩:=x;exact⟨t,u,v,k _ _ (.inl rfl) e⟩
 |frz ob u ih=>obtain⟨e,q⟩:=x;exact⟨k _ _ (.inl rfl) e,ih q⟩
 | tbl ps =>
  have e:h.get? a=some { cls:=.none,data:=.fields ps }:=x;show h'.get? a=some { cls:=.none,data:=.fields ps };exact k a _ (.inl rfl) e
 | met f y =>
  have e:h.get? a=some (W.methodObj (.ref f) (.ref y)):=x;show h'.get? a=some (W.methodObj (.ref f) (.ref y));exact k a _ (.inl rfl) e
 |ext φ=>obtain⟨p,⟨o,e⟩,st⟩:=x;exact⟨st _ _ p fun o q=>k _ _ (.inl rfl) q,⟨o,k _ _ (.inl rfl) e⟩,st⟩
theorem HOk.lt(x:HOk P w H h)(e:H a=some o):a<h.objs.size:=(x a o e).lt
theorem HOk.fresh(x:HOk P w H h)(e:h.objs.size<=a):H a=none:=by
 cases q:H a with
 |none=>rfl
 |some u=>exact absurd (Nat.lt_of_lt_of_le (x.lt q) e) (Nat.lt_irrefl _)
theorem HOk.kept(x:HOk P w H h)(k:∀ b u,h.get? b=some u->h'.get? b=some u):HOk P w H h':=fun a o e =>
 (x a o e).stay (fun b u _ q=>k b u q) (fun _ q=>q) fun _ _ q=>q
theorem HOk.laid(x:HOk P w H h)(k:∀ b u,h.get? b=some u->h'.get? b=some u)(hp:h.objs.size<=a)(new:ObjOk P w (upd H a o) h' a o):HOk P w (upd H a o) h':=fun b u e=>by
 have hn:=x.fresh hp
 by_cases hb:b=a
 . subst hb;rw[au]at e;cases e;exact new
 . rw[aC hb]at e
   exact(x b u e).stay (fun c v _ q=>k c v q) (fun c q=>by rw[aC (aH q hn)];exact q) fun c xs q=>by rw[aC (aH q hn)];exact q
end
def Rd(H:Hp)(a:Addr)(u:HO):Prop:=H a=some u\/∃ o,H a=some (.frz o u)
theorem Rd.ok{P:Program}{w:World}{H:Hp}{h:Heap}{a:Addr}{u:HO}(r:Rd H a u)(x:HOk P w H h):ObjOk P w H h a u:=by
 rcases r with r|⟨o,r⟩
 . exact x a u r
 . obtain⟨_,q⟩:=x a _ r
   exact q
def Mut:Option HO->Prop
 |some (.lst _)=>True
 |some (.dK _)=>True
 |some (.dT _)=>True
 |some (.set _ _)=>True
 |some (.ins _ _ _)=>True
 |some (.ext _)=>True
 |_=>False
section
variable{P:Program}{w:World}{H:Hp}{h h':Heap}{x e:Addr}{o':HO}
theorem HOk.write(ok:HOk P w H h)(mu:Mut (H x))(he:e=x\/H e=some (.own x))(k:∀ b u,b≠e->h.get? b=some u->h'.get? b=some u)(heo:∃ u,h'.get? e=some u)
  (new:ObjOk P w (upd H x o') h' x o'):HOk P w (upd H x o') h':=fun b u q=>by
 have nown:∀ c y,H c=some (.own y)->c≠x:=fun c y r z=>by subst z;rw[r]at mu;exact mu
 have ntup:∀ c xs,H c=some (.tup xs)->c≠x:=fun c xs r z=>by subst z;rw[r]at mu;exact mu
 by_cases hb:b=x
 . subst hb;rw[au]at q;cases q;exact new
 . rw [aC hb]at q
   by_cases hbe:b=e
   . have q':H b=some (.own x):=by
      rcases he with z|z
      . exact absurd (hbe.trans z) hb
      . rw[hbe];exact z
     rw[q]at q';cases q';obtain⟨v,hv⟩:=heo;exact⟨v,by rw[hbe];exact hv⟩
   . refine(ok b u q).stay (fun c v hc r=>k c v ?_ r) (fun c r=>by rw[aC (nown c b r)];exact r) fun c xs r=>by rw[aC (ntup c xs r)];exact r
     rcases hc with rfl|hc
     . exact hbe
     . rintro rfl
       rcases he with z|z
       . exact nown c b hc z
       . rw[hc]at z;cases z;exact hb rfl
end
structure Un(fs ex:List Addr)(H H':Hp)(h h':Heap):Prop where
 keep:∀ b o,h.get? b=some o->H b=none->b∉fs->b∉ex->h'.get? b=some o
 slot:∀ b o,h.get? b=some o->H b=none->b∈fs->b∉ex->∃ sl,h'.get? b=some { o with slots:=sl }
 free:∀ b o,h.get? b=some o->H b=none->b∉ex->H' b=none
 there:∀ b o,h.get? b=some o->b∉ex->∃ o',h'.get? b=some o'
 tups:∀ b xs,H b=some (.tup xs)->H' b=some (.tup xs)
 frzs:∀ b o u,H b=some (.frz o u)->H' b=some (.frz o u)
 tbls:∀ b ps,H b=some (.tbl ps)->∃ more,H' b=some (.tbl (ps++more))
section
variable{fs fs' ex ex':List Addr}{H H1 H2:Hp}{h h1 h2 h':Heap}{a x e:Addr}{o:HO}
theorem Un.any(u:Un fs ex H H1 h h1){b:Addr}{ob:Obj}(q:h.get? b=some ob)(n:H b=none)(hx:b∉ex):∃ sl,h1.get? b=some { ob with slots:=sl }:=by
 by_cases hb:b∈fs
 . exact u.slot b ob q n hb hx
 . exact⟨ob.slots,u.keep b ob q n hb hx⟩
theorem Un.kept(k:∀ b u,h.get? b=some u->h'.get? b=some u):Un fs ex H H h h' :=
 ⟨fun b ob q _ _ _=>k b ob q,fun b ob q _ _ _=>⟨ob.slots,k b ob q⟩,fun _ _ _ n _=>n,fun b ob q _=>⟨ob,k b ob q⟩,fun _ _ q=>q,fun _ _ _ q=>q,fun _ ps q=>⟨#[],by rw[q];simp⟩⟩
theorem Un.refl:Un fs ex H H h h:=Un.kept fun _ _ q=>q
theorem Un.laid(k:∀ b u,h.get? b=some u->h'.get? b=some u)(hp:h.objs.size<=a)(hn:H a=none):Un fs ex H (upd H a o) h h' where
 keep:=fun b u q _ _ _=>k b u q
 slot:=fun b u q _ _ _=>⟨u.slots,k b u q⟩
 free:=fun b u q n _=>by rw[aC (Nat.ne_of_lt (Nat.lt_of_lt_of_le (Heap.lt_size q) hp))];exact n
 there:=fun b u q _=>⟨u,k b u q⟩
 tups:=fun b xs q=>by rw[aC (aH q hn)];exact q
 frzs:=fun b u xs q=>by rw[aC (aH q hn)];exact q
 tbls:=fun b ps q=>⟨#[],by rw[aC (aH q hn),q];simp⟩
theorem Un.write(mu:Mut (H x))(he:e=x\/H e=some (.own x))(k:∀ b u,b≠e->h.get? b=some u->h'.get? b=some u)(heo:∃ u,h'.get? e=some u):Un fs ex H (upd H x o) h h':=by
 have hx:∀ b,H b=none->b≠x:=fun b n z=>by subst z;rw[n]at mu;exact mu
 have hb:∀ b,H b=none->b≠e:=fun b n z=>by
  subst z;rcases he with r|r
  . exact hx b n r
  . rw[n]at r;cases r
 have hm:∀ b u,H b=some u->¬ Mut (some u)->b≠x:=fun b u q nm z=>by subst z;rw[q]at mu;exact nm mu
 refine⟨fun b u q n _ _=>k b u (hb b n) q,fun b u q n _ _=>⟨u.slots,k b u (hb b n) q⟩,fun b u q n _=>by rw[aC (hx b n)];exact n,fun b u q _=>?_,
  fun b xs q=>by rw[aC (hm b _ q fun z=>z)];exact q,fun b u xs q=>by rw[aC (hm b _ q fun z=>z)];exact q,fun b ps q=>⟨#[],by rw[aC (hm b _ q fun z=>z),q];simp⟩⟩
 by_cases hbe:b=e
 . subst hbe;exact heo
 . exact⟨u,k b u hbe q⟩
end
def trk(h:Heap)(H:Hp):List Addr:=(List.range h.objs.size).filter fun a=>(H a).isSome
def lF(h:Heap)(H:Hp):Heap:=W.hideAll h (trk h H)
theorem Af(h:Heap)(H:Hp):(lF h H).objs.size=h.objs.size:=W.hideAll_size _ _
theorem DP{h:Heap}{H:Hp}{b:Addr}{o:Obj}(e:h.get? b=some o)(n:H b=none):(lF h H).get? b=some o :=
 W.hideAll_get _ e fun hm=>by
  have q:(H b).isSome=true:=(List.mem_filter.mp hm).2;rw[n]at q;simp at q
theorem HX{h:Heap}{H:Hp}{b:Addr}{o:Obj}(e:(lF h H).get? b=some o):h.get? b=some o/\H b=none:=by
 have e':h.get? b=some o:=W.of_hideAll (trk h H) e;refine⟨e',?_⟩;cases q:H b with
 |none=>rfl
 | some x =>
  have hm:b∈trk h H:=List.mem_filter.mpr ⟨List.mem_range.mpr (Heap.lt_size e'),by simp[q]⟩;have z:(lF h H).get? b=none:=W.hideAll_none (trk h H) hm;rw[z]at e;cases e
end L2
namespace L2
open PySem PySem.Spec PyProof.Rows
structure Mod(K:W.Frag)(mg:Str->Option Value)(base:Heap):Prop where
 kin:K.In base
 glob:base.Ns mainGlobals mg
 blt:∃ mb,base.Ns builtinsNs mb/\∀ x:Str,x≠"__name__"->mb x=bootBuiltins x
 nolimit:base.NoLimit
structure Cx where
 prog:Program
 w:World
 K:W.Frag
 mg:Str->Option Value
 base:Heap
 A:Around
 N:List Str
 s₀:Shared
 H₀:Hp
 env:Env
 outer:List Env
 stack:List Env
 ex:List Addr
 fn:Str->Bool
 calm:Bool
 pn:List (Addr×Obj)
 xe:Value->Shared->Prop
def frs(l:List Env):List Addr:=l.filterMap (·.frame)
abbrev Cx.fs(X:Cx):List Addr:=frs X.outer
def Vis(sc:Scope)(x:Str):Prop:=sc.names.lookup x=some .local \/ sc.names.lookup x=some .cell \/ sc.names.lookup x=some .free
def Loc(sc:Scope)(x:Str):Prop:=sc.names.lookup x=some .local \/ sc.names.lookup x=some .cell
def Look(env:Env)(h:Heap)(m:Str->Option Value)(x:Str)(u:Value):Prop :=
 (env.kindOf x=some .local /\ m x=some u)\/((env.kindOf x=some .cell \/ env.kindOf x=some .free)/\∃ c,env.cells.lookup x=some c/\h.IsCell c (some u))
structure Cx.Ok(X:Cx):Prop where
 mod:Mod X.K X.mg X.base
 kind:X.env.scope.kind = .function
 glob:X.env.globals=mainGlobals
 blt:X.env.builtins=builtinsNs
 above:X.s₀.heap.objs.size<=X.env.locals
 inj:∀ x y c,X.env.cells.lookup x=some c->X.env.cells.lookup y=some c->x=y
 has:∀ x,(X.env.kindOf x=some .cell \/ X.env.kindOf x=some .free)->∃ c,X.env.cells.lookup x=some c
 cab:∀ x c,X.fn x=true->X.env.cells.lookup x=some c->X.s₀.heap.objs.size<=c
 hd:X.calm=true->X.A.handled=none
 frames:X.A.frames=some X.stack
 stk:X.stack=X.outer\/(X.stack=X.env::X.outer/\X.env.frame=some X.env.locals)
 exf:∀ b∈X.ex,b≠X.env.locals/\∀ x c,X.env.cells.lookup x=some c->c≠b
 bs:∀ b o,X.base.get? b=some o->X.s₀.heap.get? b=some o/\X.H₀ b=none
 bsz:X.base.objs.size<=X.s₀.heap.objs.size
 noex:∀ b o,X.base.get? b=some o->b∉X.ex
 exfs:∀ b∈X.ex,b∉X.fs
 funs:X.s₀.heap.FunFrames X.base X.outer
 frf:∀ b∈X.fs,X.H₀ b=none
structure Inv(X:Cx)(pins:List (Addr×Obj))(σ:List (Option V))(H:Hp)(s:Shared):Prop where
 ok:X.Ok
 os:s.os=X.s₀.os
 bare:AllBare s.gens
 base:Un X.fs X.ex X.H₀ H X.s₀.heap s.heap
 loc:∃ m,s.heap.Ns X.env.locals m/\∀(i:Nat)(x:Str)(v:V),X.N[i]? = some x->σ[i]? = some (some v)->Vis X.env.scope x->∃ u,RelV v u/\Look X.env s.heap m x u
 cell:∀ x c,X.env.cells.lookup x=some c->∃ v,s.heap.IsCell c v
 free:H X.env.locals=none
 freeC:∀ x c,X.env.cells.lookup x=some c->H c=none
 pin:∀ p∈X.pn++pins,s.heap.get? p.1=some p.2/\H p.1=none/\p.1≠X.env.locals/\p.1∉X.fs/\∀ v,p.2.data≠.cell v
 hok:HOk X.prog X.w H s.heap
 len:σ.length=X.N.length
section
variable{X:Cx}{pins:List (Addr×Obj)}{σ:List (Option V)}{H H':Hp}{s:Shared}{h':Heap}
theorem Cx.Ok.nofr(ok:X.Ok){b:Addr}{o:Obj}(e:X.base.get? b=some o):b∉X.fs:=fun hb=>by
 have:=(ok.funs.mem hb).1;rw[e]at this;cases this
theorem Inv.bs(I:Inv X pins σ H s):∀ b o,X.base.get? b=some o->s.heap.get? b=some o/\H b=none:=fun b o e =>
 ⟨I.base.keep b o (I.ok.bs b o e).1 (I.ok.bs b o e).2 (I.ok.nofr e) (I.ok.noex b o e),I.base.free b o (I.ok.bs b o e).1 (I.ok.bs b o e).2 (I.ok.noex b o e)⟩
theorem Inv.bk(I:Inv X pins σ H s):∀ b o,X.base.get? b=some o->s.heap.get? b=some o:=fun b o e=>(I.bs b o e).1
theorem Inv.mod(I:Inv X pins σ H s):Mod X.K X.mg X.base:=I.ok.mod
theorem Inv.kIn(I:Inv X pins σ H s):X.K.In s.heap:=I.ok.mod.kin.keeps I.bk
theorem Inv.fr(I:Inv X pins σ H s):∃ m,Fr X.base X.env.locals s.heap m :=
 let ⟨m,hn,_⟩:=I.loc
 ⟨m,hn,I.bk,qnt I.ok.bsz I.ok.above⟩
theorem Inv.lt(I:Inv X pins σ H s):X.env.locals<s.heap.objs.size:=let ⟨_,hn,_⟩:=I.loc;hn.lt
theorem Inv.sz(I:Inv X pins σ H s):X.s₀.heap.objs.size<=s.heap.objs.size:=qnt I.ok.above (Nat.le_of_lt I.lt)
theorem Inv.nofs(I:Inv X pins σ H s){a:Addr}(h:s.heap.objs.size<=a):a∉X.fs:=fun hb=>by
 obtain⟨_,o,ho,_⟩:=I.ok.funs.mem hb;exact absurd (Nat.lt_of_lt_of_le (Heap.lt_size ho) (qnt I.sz h)) (Nat.lt_irrefl _)
theorem Inv.cne(I:Inv X pins σ H s):∀ x c,X.env.cells.lookup x=some c->c≠X.env.locals:=fun x c e z=>by
 obtain⟨v,o,ho,hd⟩:=I.cell x c e;obtain⟨m,⟨o',es,ep,ho',hd',_⟩,_⟩:=I.loc;rw[z,ho']at ho;cases ho;rw[hd']at hd;cases hd
theorem Inv.funs(I:Inv X pins σ H s):s.heap.FunFrames X.base X.outer:=by
 have all:∀(l:List Env),(∀ b∈frs l,b∈X.fs)->X.s₀.heap.FunFrames X.base l->s.heap.FunFrames X.base l:=by
  intro l
  induction l with
  |nil=>intro _ _;trivial
  | cons env r ih =>
   intro hs hl;obtain⟨hk,⟨L,o,hf,hn,ho,hd⟩,hr⟩:=hl;have hL:L∈X.fs:=hs L (by unfold frs;rw[List.filterMap_cons,hf];exact qms);obtain⟨sl,e⟩:=I.base.slot L o ho (I.ok.frf L hL) hL fun z=>I.ok.exfs L z hL
   exact⟨hk,⟨L,_,hf,hn,e,hd⟩,ih (fun b hb=>hs b (by unfold frs;rw[List.filterMap_cons,hf];exact qmm _ hb)) hr⟩
 exact all X.outer (fun _ hb=>hb) I.ok.funs
theorem Inv.stack(I:Inv X pins σ H s):s.heap.FunFrames X.base X.stack:=by
 rcases I.ok.stk with e|⟨e,hf⟩
 . rw[e];exact I.funs
 . rw[e]
   obtain⟨m,hn,_⟩:=I.loc;refine .cons (by rw[I.ok.kind];decide) hf hn ?_ I.funs;exact Heap.get?_none_of_le (qnt I.ok.bsz I.ok.above)
theorem Inv.stkSub(I:Inv X pins σ H s):∀ b∈frs X.stack,b∈X.env.locals::X.fs:=fun b hb=>by
 rcases I.ok.stk with e|⟨e,hf⟩
 . rw[e]at hb;exact qmm _ hb
 . rw[e]at hb
   unfold frs at hb;rw[List.filterMap_cons,hf]at hb;exact hb
theorem Inv.stkFree(I:Inv X pins σ H s):∀ b∈frs X.stack,H b=none:=fun b hb=>by
 rcases List.mem_cons.mp (I.stkSub b hb)with e|hb
 . rw[e];exact I.free
 . obtain⟨_,o,ho,_⟩:=I.ok.funs.mem hb
   exact I.base.free b o ho (I.ok.frf b hb) fun z=>I.ok.exfs b z hb
theorem Inv.step{g':Array GenState}{t':Nat}{d':Drawn}{ch:List Addr}(I:Inv X pins σ H s)
  (hch:∀ b∈ch,(b∈X.ex\/X.s₀.heap.objs.size<=b)/\b≠X.env.locals/\(∀ x c,X.env.cells.lookup x=some c->c≠b)/\∀ p∈X.pn++pins,p.1≠b)
  (keep:∀ b o,b≠X.env.locals->b∉X.fs->b∉ch->s.heap.get? b=some o->H b=none->h'.get? b=some o)
  (slot:∀ b o,b≠X.env.locals->b∈X.fs->b∉ch->s.heap.get? b=some o->H b=none->∃ sl,h'.get? b=some { o with slots:=sl }) (free:∀ b o,b∉ch->s.heap.get? b=some o->H b=none->H' b=none)
  (there:∀ b o,b∉ch->s.heap.get? b=some o->∃ o',h'.get? b=some o')
  (tups:∀ b xs,H b=some (.tup xs)->H' b=some (.tup xs)) (frzs:∀ b o u,H b=some (.frz o u)->H' b=some (.frz o u)) (tbls:∀ b ps,H b=some (.tbl ps)->∃ more,H' b=some (.tbl (ps++more)))
  (ns:∀ m,s.heap.Ns X.env.locals m->h'.Ns X.env.locals m) (hok:HOk X.prog X.w H' h') (hg:AllBare g'):
  Inv X pins σ H' { s with heap:=h',gens:=g',drawn:=d',toks:=t' }:=by
 have neL:∀ b o,X.s₀.heap.get? b=some o->b≠X.env.locals:=fun b o e=>Nat.ne_of_lt (Nat.lt_of_lt_of_le (Heap.lt_size e) I.ok.above)
 have neC:∀ b o,X.s₀.heap.get? b=some o->b∉X.ex->b∉ch:=fun b o e hx hb=>by
  rcases(hch b hb).1 with z|z
  . exact hx z
  . exact absurd (Nat.lt_of_lt_of_le (Heap.lt_size e) z) (Nat.lt_irrefl _)
 have cellK:∀ x c,X.env.cells.lookup x=some c->∀ v,s.heap.IsCell c v->h'.IsCell c v:=fun x c e v ⟨o,ho,hd⟩=>by
  have nch:c∉ch:=fun z=>(hch c z).2.2.1 x c e rfl
  by_cases hc:c∈X.fs
  . obtain⟨sl,q⟩:=slot c o (I.cne x c e) hc nch ho (I.freeC x c e)
    exact⟨_,q,hd⟩
  . exact⟨o,keep c o (I.cne x c e) hc nch ho (I.freeC x c e),hd⟩
 refine⟨I.ok,I.os,hg,⟨fun b o e n hb hx=>?_,fun b o e n hb hx=>?_,fun b o e n hx=>?_,fun b o e hx=>?_,fun b xs e=>tups b xs (I.base.tups b xs e),fun b o xs e=>frzs b o xs (I.base.frzs b o xs e),fun b ps e=>?_⟩,?_,fun x c e=>?_,?_,fun x c e=>?_,fun p hp=>?_,hok,I.len⟩
 . exact keep b o (neL b o e) hb (neC b o e hx) (I.base.keep b o e n hb hx) (I.base.free b o e n hx)
 . obtain⟨sl,e1⟩:=I.base.slot b o e n hb hx
   obtain⟨sl',e2⟩:=slot b _ (neL b o e) hb (neC b o e hx) e1 (I.base.free b o e n hx);exact⟨sl',e2⟩
 . obtain⟨o',e1⟩:=I.base.there b o e hx
   exact free b o' (neC b o e hx) e1 (I.base.free b o e n hx)
 . obtain⟨o',e1⟩:=I.base.there b o e hx
   exact there b o' (neC b o e hx) e1
 . obtain⟨m1,e1⟩:=I.base.tbls b ps e
   obtain⟨m2,e2⟩:=tbls b _ e1;exact⟨m1++m2,by rw[e2,Array.append_assoc]⟩
 . obtain⟨m,hn,hl⟩:=I.loc
   refine⟨m,ns m hn,fun i x v e1 e2 e3=>?_⟩;obtain⟨u,r,l⟩:=hl i x v e1 e2 e3;refine⟨u,r,?_⟩;rcases l with l|⟨k,c,e,z⟩
   . exact .inl l
   . exact .inr ⟨k,c,e,cellK x c e _ z⟩
 . obtain⟨v,z⟩:=I.cell x c e
   exact⟨v,cellK x c e v z⟩
 . obtain⟨m,⟨o,_,_,ho,_⟩,_⟩:=I.loc
   exact free _ o (fun z=>(hch _ z).2.1 rfl) ho I.free
 . obtain⟨v,o,ho,hd⟩:=I.cell x c e
   exact free c o (fun z=>(hch c z).2.2.1 x c e rfl) ho (I.freeC x c e)
 . obtain⟨e,n,ne,nf,d⟩:=I.pin p hp
   have nch:p.1∉ch:=fun z=>(hch p.1 z).2.2.2 p hp rfl
   exact⟨keep p.1 p.2 ne nf nch e n,free p.1 p.2 nch e n,ne,nf,d⟩
theorem Inv.un{t':Nat}(I:Inv X pins σ H s)(u:Un X.fs [] H H' s.heap h')(hok:HOk X.prog X.w H' h'):Inv X pins σ H' { s with heap:=h',toks:=t' }:=by
 obtain⟨m,⟨o,es,ep,ho,r⟩,_⟩:=id I.loc;obtain⟨sl,hL⟩:=u.any ho I.free (by simp)
 exact I.step (g':=s.gens) (d':=s.drawn) (ch:=[]) (fun _ z=>nomatch z) (fun b o _ hb _ e n=>u.keep b o e n hb (by simp)) (fun b o _ hb _ e n=>u.slot b o e n hb (by simp)) (fun b o _ e n=>u.free b o e n (by simp)) (fun b o _ e=>u.there b o e (by simp)) u.tups u.frzs u.tbls (fun m' hm=>by
  obtain⟨o',es',ep',ho',r'⟩:=hm;rw[ho]at ho';cases ho'
  exact⟨_,es',ep',hL,r'⟩) hok I.bare
theorem Inv.call{g':Array GenState}{t':Nat}{d':Drawn}{ch:List Addr}(I:Inv X pins σ H s)(u:Un (frs X.stack) ch H H' s.heap h')(hok:HOk X.prog X.w H' h')(hg:AllBare g')
  (hch:∀ b∈ch,(b∈X.ex\/X.s₀.heap.objs.size<=b)/\b≠X.env.locals/\(∀ x c,X.env.cells.lookup x=some c->c≠b)/\∀ p∈X.pn++pins,p.1≠b):
  Inv X pins σ H' { s with heap:=h',gens:=g',drawn:=d',toks:=t' }:=by
 obtain⟨m,⟨o,es,ep,ho,r⟩,_⟩:=id I.loc;obtain⟨sl,hL⟩:=u.any ho I.free fun z=>(hch _ z).2.1 rfl
 exact I.step (ch:=ch) hch (fun b o hL hb hc e n=>u.keep b o e n (fun z=>(List.mem_cons.mp (I.stkSub b z)).elim hL hb) hc) (fun b o _ _ hc e n=>u.any e n hc) (fun b o hc e n=>u.free b o e n hc) (fun b o hc e=>u.there b o e hc) u.tups u.frzs u.tbls (fun m' hm=>by
  obtain⟨o',es',ep',ho',r'⟩:=hm;rw[ho]at ho';cases ho'
  exact⟨_,es',ep',hL,r'⟩) hok hg
theorem Inv.turned{t':Nat}{it:Addr}(I:Inv X pins σ H s)(k:∀ b o,b≠it->s.heap.get? b=some o->h'.get? b=some o)(hn:H it=none)(hL:it≠X.env.locals)
  (h1:it∈X.ex\/X.s₀.heap.objs.size<=it) (h2:∀ x c,X.env.cells.lookup x=some c->c≠it) (h3:∀ p∈X.pn++pins,p.1≠it):Inv X pins σ H { s with heap:=h',toks:=t' }:=by
 have nit:∀ b u,H b=some u->b≠it:=fun b u e z=>by rw[z,hn]at e;cases e
 refine I.step (g':=s.gens) (d':=s.drawn) (ch:=[it]) (fun b hb=>?_) (fun b o _ _ hc e _=>k b o (fun z=>hc (by simp[z])) e) (fun b o _ _ hc e _=>⟨o.slots,k b o (fun z=>hc (by simp[z])) e⟩) (fun _ _ _ _ n=>n)
  (fun b o hc e=>⟨o,k b o (fun z=>hc (by simp[z])) e⟩) (fun _ _ e=>e) (fun _ _ _ e=>e) (fun b ps e=>⟨#[],by rw[e];simp⟩) (fun m hm=>?_) (fun b u e=>?_) I.bare
 . have e:b=it:=by simpa using hb
   subst e;exact⟨h1,hL,h2,h3⟩
 . obtain⟨o,es,ep,ho,r⟩:=hm
   exact⟨o,es,ep,k _ o (Ne.symm hL) ho,r⟩
 . refine(I.hok b u e).stay (fun c v hc q=>k c v ?_ q) (fun _ q=>q) fun _ _ q=>q
   rcases hc with z|z
   . rw[z];exact nit b u e
   . exact nit c _ z
theorem Inv.tok(I:Inv X pins σ H s)(t:Nat):Inv X pins σ H { s with toks:=t }:=I.un (h':=s.heap) (t':=t) Un.refl I.hok
theorem Inv.kept{t':Nat}(I:Inv X pins σ H s)(k:∀ b u,s.heap.get? b=some u->h'.get? b=some u):Inv X pins σ H { s with heap:=h',toks:=t' }:=I.un (Un.kept k) (I.hok.kept k)
theorem Inv.laid{a:Addr}{o:HO}{t':Nat}(I:Inv X pins σ H s)(k:∀ b u,s.heap.get? b=some u->h'.get? b=some u)(hp:s.heap.objs.size<=a)(new:ObjOk X.prog X.w (upd H a o) h' a o):
  Inv X pins σ (upd H a o) { s with heap:=h',toks:=t' }:=I.un (Un.laid k hp (I.hok.fresh hp)) (I.hok.laid k hp new)
theorem Inv.write{x e:Addr}{o:HO}{t':Nat}(I:Inv X pins σ H s)(mu:Mut (H x))(he:e=x\/H e=some (.own x))(k:∀ b u,b≠e->s.heap.get? b=some u->h'.get? b=some u)(heo:∃ u,h'.get? e=some u)
  (new:ObjOk X.prog X.w (upd H x o) h' x o):Inv X pins σ (upd H x o) { s with heap:=h',toks:=t' }:=I.un (Un.write mu he k heo) (I.hok.write mu he k heo new)
theorem Inv.weak{σ':List (Option V)}(I:Inv X pins σ H s)(hl:σ'.length=σ.length)(w:∀(i:Nat) v,σ'[i]? = some (some v)->σ[i]? = some (some v)):Inv X pins σ' H s :=
 ⟨I.ok,I.os,I.bare,I.base,let ⟨m,hn,hl'⟩:=I.loc;⟨m,hn,fun i x v e1 e2 e3=>hl' i x v e1 (w i v e2) e3⟩,I.cell,I.free,I.freeC,I.pin,I.hok,hl.trans I.len⟩
theorem Inv.pins_of{pins':List (Addr×Obj)}(I:Inv X pins σ H s)(h:∀ p∈pins',s.heap.get? p.1=some p.2/\H p.1=none/\p.1≠X.env.locals/\p.1∉X.fs/\∀ v,p.2.data≠.cell v):Inv X pins' σ H s :=
 ⟨I.ok,I.os,I.bare,I.base,I.loc,I.cell,I.free,I.freeC,fun p hp=>(List.mem_append.mp hp).elim (fun z=>I.pin p (qal _ z)) (h p),I.hok,I.len⟩
theorem uq{N:List Str}(hN:N.Nodup){i j:Nat}{x:Str}(a:N[i]? = some x)(b:N[j]? = some x):i=j:=by
 obtain⟨h1,e1⟩:=List.getElem?_eq_some_iff.mp a;obtain⟨h2,e2⟩:=List.getElem?_eq_some_iff.mp b;exact(List.getElem_inj hN).mp (e1.trans e2.symm)
theorem rM{M:Model}{A:Around}{E:Value->Shared->Prop}{i:Nat}{x:Str}{v:V}{u:Value}{Q:Unit->Shared->Prop}(I:Inv X pins σ H s)(hN:X.N.Nodup)(hi:X.N[i]? = some x)(hx:Loc X.env.scope x)(r:RelV v u)
  (h:∀ s',Inv X pins (σ.set i (some v)) H s'->(∃ a,Heap.SameBut a s.heap s'.heap/\(a=X.env.locals\/X.env.cells.lookup x=some a))->Q () s') (hf:X.fn x=true\/X.env.scope.names.lookup x=some .local:=by first|exact .inl rfl|exact .inr rfl|assumption):wpAny M A (storeName X.env x u) Q E s:=by
 obtain⟨m,hn,hl⟩:=id I.loc;have hcls:(X.env.scope.kind == .class || (X.env.scope.kind == .module && X.env.locals != X.env.globals))=false:=by rw[I.ok.kind];rfl
 have hiσ:i<σ.length:=by rw[I.len];exact(List.getElem?_eq_some_iff.mp hi).1
 have cne:=I.cne
 have tracked:∀{a:Addr}{h':Heap},(∃ o,s.heap.get? a=some o/\H a=none)->Heap.SameBut a s.heap h'->HOk X.prog X.w H h':=fun {a h'} ha hs b ob e=>by
  obtain⟨_,_,hfree⟩:=ha;refine(I.hok b ob e).stay (fun c w' hc q=>(hs.2 c ?_).trans q) (fun _ q=>q) fun _ _ q=>q
  rintro rfl;rcases hc with rfl|hc
  . rw[hfree]at e;cases e
  . rw[hfree]at hc;cases hc
 rcases hx with hk|hk
 . refine wpAny_storeName_local hk hn (fun h' hn' hs=>?_) hcls
   obtain⟨oL,_,_,hoL,_⟩:=id hn;refine h _ ⟨I.ok,I.os,I.bare,⟨fun b o e n hb hx=>?_,fun b o e n hb hx=>?_,I.base.free,fun b o e hx=>?_,I.base.tups,I.base.frzs,I.base.tbls⟩,⟨_,hn',fun j y v' e1 e2 e3=>?_⟩,fun y c e=>?_,I.free,I.freeC,fun p hp=>?_,tracked ⟨oL,hoL,I.free⟩ hs,by simpa using I.len⟩ ⟨_,hs,.inl rfl⟩
   . exact(hs.2 b (Nat.ne_of_lt (Nat.lt_of_lt_of_le (Heap.lt_size e) I.ok.above))).trans (I.base.keep b o e n hb hx)
   . obtain⟨sl,e1⟩:=I.base.slot b o e n hb hx
     exact⟨sl,(hs.2 b (Nat.ne_of_lt (Nat.lt_of_lt_of_le (Heap.lt_size e) I.ok.above))).trans e1⟩
   . obtain⟨o',e1⟩:=I.base.there b o e hx
     exact⟨o',(hs.2 b (Nat.ne_of_lt (Nat.lt_of_lt_of_le (Heap.lt_size e) I.ok.above))).trans e1⟩
   . by_cases hj:j=i
     . subst hj
       rw[hi]at e1;cases e1;rw[List.getElem?_set_self hiσ]at e2;cases e2;exact⟨u,r,.inl ⟨hk,by simp⟩⟩
     . rw[List.getElem?_set_ne (Ne.symm hj)]at e2
       obtain⟨u',r',q⟩:=hl j y v' e1 e2 e3;refine⟨u',r',?_⟩;rcases q with⟨k,e⟩|⟨k,c,e,z⟩
       . refine .inl ⟨k,?_⟩
         have:y≠x:=fun e=>hj (uq hN e1 (e ▸ hi))
         simp[this,e]
       . exact .inr ⟨k,c,e,z.sameBut hs (cne y c e)⟩
   . obtain⟨w',z⟩:=I.cell y c e
     exact⟨w',z.sameBut hs (cne y c e)⟩
   . obtain⟨e,n,ne,nf,d⟩:=I.pin p hp
     exact⟨(hs.2 p.1 ne).trans e,n,ne,nf,d⟩
 . have hfn:X.fn x=true:=by
    rcases hf with z|z
    . exact z
    . rw[z]at hk;cases hk
   obtain⟨c,hc⟩:=I.ok.has x (.inl hk);obtain⟨w',z⟩:=I.cell x c hc;refine wpAny_storeName_cell I.ok.kind hk hc z (fun h' hc' hs=>?_);obtain⟨oc,hoc,hocd⟩:=id z;refine h { s with heap:=h' } ⟨I.ok,I.os,I.bare,⟨fun b o e n hb hx=>?_,fun b o e n hb hx=>?_,I.base.free,fun b o e hx=>?_,I.base.tups,I.base.frzs,I.base.tbls⟩,⟨m,hn.sameBut hs (Ne.symm (cne x c hc)),fun j y v' e1 e2 e3=>?_⟩,fun y c' e=>?_,I.free,I.freeC,fun p hp=>?_,tracked ⟨oc,hoc,I.freeC x c hc⟩ hs,by simpa using I.len⟩ ⟨c,hs,.inr hc⟩
   . exact(hs.2 b (Nat.ne_of_lt (Nat.lt_of_lt_of_le (Heap.lt_size e) (I.ok.cab x c hfn hc)))).trans (I.base.keep b o e n hb hx)
   . obtain⟨sl,e1⟩:=I.base.slot b o e n hb hx
     exact⟨sl,(hs.2 b (Nat.ne_of_lt (Nat.lt_of_lt_of_le (Heap.lt_size e) (I.ok.cab x c hfn hc)))).trans e1⟩
   . obtain⟨o',e1⟩:=I.base.there b o e hx
     exact⟨o',(hs.2 b (Nat.ne_of_lt (Nat.lt_of_lt_of_le (Heap.lt_size e) (I.ok.cab x c hfn hc)))).trans e1⟩
   . by_cases hj:j=i
     . subst hj
       rw[hi]at e1;cases e1;rw[List.getElem?_set_self hiσ]at e2;cases e2;exact⟨u,r,.inr ⟨.inl hk,c,hc,hc'⟩⟩
     . rw[List.getElem?_set_ne (Ne.symm hj)]at e2
       obtain⟨u',r',q⟩:=hl j y v' e1 e2 e3;refine⟨u',r',?_⟩;rcases q with q|⟨k,c',e,z'⟩
       . exact .inl q
       . refine .inr ⟨k,c',e,z'.sameBut hs ?_⟩
         rintro rfl;exact hj (uq hN e1 (I.ok.inj _ _ _ e hc ▸ hi))
   . by_cases hcc:c'=c
     . subst hcc;exact⟨_,hc'⟩
     . obtain⟨w2,z2⟩:=I.cell y c' e
       exact⟨w2,z2.sameBut hs hcc⟩
   . obtain⟨e,n,ne,nf,d⟩:=I.pin p hp
     refine⟨(hs.2 p.1 ?_).trans e,n,ne,nf,d⟩;intro q;rw[q,hoc]at e;have q':oc=p.2:=qsi e;exact d w' (by rw[<- q'];exact hocd)
theorem lG{M:Model}{A:Around}{E:Value->Shared->Prop}{i:Nat}{x:Str}{v:V}{u:Value}{Q:Unit->Shared->Prop}(I:Inv X pins σ H s)(hN:X.N.Nodup)(hi:X.N[i]? = some x)(hx:Loc X.env.scope x)(r:RelV v u)
  (h:∀ s',Inv X pins (σ.set i (some v)) H s'->Q () s') (hf:X.fn x=true\/X.env.scope.names.lookup x=some .local:=by first|exact .inl rfl|exact .inr rfl|assumption):wpAny M A (storeName X.env x u) Q E s :=
 rM I hN hi hx r (fun s' I' _=>h s' I') hf
theorem Inv.call'{s':Shared}{ch:List Addr}(I:Inv X pins σ H s)(ho:s'.os=s.os)(u:Un (frs X.stack) ch H H' s.heap s'.heap)(hok:HOk X.prog X.w H' s'.heap)(hg:AllBare s'.gens)
  (hch:∀ b∈ch,(b∈X.ex\/X.s₀.heap.objs.size<=b)/\b≠X.env.locals/\(∀ x c,X.env.cells.lookup x=some c->c≠b)/\∀ p∈X.pn++pins,p.1≠b):Inv X pins σ H' s':=by
 obtain⟨h',g',d',t',o'⟩:=s';have e:o'=s.os:=ho;subst e;exact I.call (g':=g') (t':=t') (d':=d') u hok hg hch
end
abbrev XK:=Value->Option Addr->Hp->Prop
abbrev St:=List (Option V)
abbrev VK:=V->Hp->Prop
abbrev TE:=St->Hp->VK->Prop
abbrev TT:=St->Hp->(Bool->Hp->Prop)->Prop
abbrev TA:=St->Hp->(List V->Hp->Prop)->Prop
structure Ends where
 nx:St->Hp->Prop
 rt:VK
 bk:St->Hp->Prop:=fun _ _=>False
 ct:St->Hp->Prop:=fun _ _=>False
abbrev TS:=Ends->St->Hp->Prop
def EP(X:Cx)(pins:List (Addr×Obj))(σ:St)(Q:VK)(u:Value)(s':Shared):Prop:=∃ v H',Inv X pins σ H' s'/\RelV v u/\Q v H'
def TP(X:Cx)(pins:List (Addr×Obj))(σ:St)(Q:Bool->Hp->Prop)(b:Bool)(s':Shared):Prop:=∃ H',Inv X pins σ H' s'/\Q b H'
def AP(X:Cx)(pins:List (Addr×Obj))(σ:St)(Q:List V->Hp->Prop)(us:List Value)(s':Shared):Prop:=∃ vs H',Inv X pins σ H' s'/\Vals vs us/\Q vs H'
def SP(X:Cx)(pins:List (Addr×Obj))(D:Ends)(f:Flow)(s':Shared):Prop :=
 match f with
 | .next=>∃ σ' H',Inv X pins σ' H' s'/\D.nx σ' H'
 | .brk=>∃ σ' H',Inv X pins σ' H' s'/\D.bk σ' H'
 | .cont=>∃ σ' H',Inv X pins σ' H' s'/\D.ct σ' H'
 | .ret u=>∃ v σ' H',Inv X pins σ' H' s'/\RelV v u/\D.rt v H'
def PE(X:Cx)(e:Expr)(t:TE):Prop :=
 ∀(pins:List (Addr×Obj))(s:Shared)(σ:St)(H:Hp)(Q:VK),Inv X pins σ H s->t σ H Q->wpAny (model X.prog X.w) X.A (eval e X.env) (EP X pins σ Q) X.xe s
def PT(X:Cx)(e:Expr)(t:TT):Prop :=
 ∀(pins:List (Addr×Obj))(s:Shared)(σ:St)(H:Hp)(Q:Bool->Hp->Prop),Inv X pins σ H s->t σ H Q->wpAny (model X.prog X.w) X.A (isTrue e X.env (eval e X.env)) (TP X pins σ Q) X.xe s
def PW(X:Cx)(e:Expr)(t:TT):Prop :=
 ∀(whole:Sem Value)(pins:List (Addr×Obj))(s:Shared)(σ:St)(H:Hp)(Q:Bool->Hp->Prop),Inv X pins σ H s->t σ H Q->wpAny (model X.prog X.w) X.A (isTrue e X.env whole) (TP X pins σ Q) X.xe s
theorem PW.pt{X:Cx}{e:Expr}{t:TT}(h:PW X e t):PT X e t:=h _
def PA(X:Cx)(es:List Expr)(t:TA):Prop :=
 ∀(pos:Pos)(pins:List (Addr×Obj))(s:Shared)(σ:St)(H:Hp)(Q:List V->Hp->Prop),Inv X pins σ H s->t σ H Q->wpAny (model X.prog X.w) X.A (spliced (backTo pos (starEach es X.env))) (AP X pins σ Q) X.xe s
def PS(X:Cx)(st:Stmt)(t:TS):Prop :=
 ∀(pins:List (Addr×Obj))(s:Shared)(σ:St)(H:Hp)(D:Ends),Inv X pins σ H s->t D σ H->wpAny (model X.prog X.w) X.A (exec st X.env) (SP X pins D) X.xe s
def PSs(X:Cx)(st:List Stmt)(t:TS):Prop :=
 ∀(pins:List (Addr×Obj))(s:Shared)(σ:St)(H:Hp)(D:Ends),Inv X pins σ H s->t D σ H->wpAny (model X.prog X.w) X.A (execs st X.env) (SP X pins D) X.xe s
theorem thn{α:Type}{t:Sem α}{Q Q':α->Shared->Prop}{M:Model}{A:Around}{E:Value->Shared->Prop}{s:Shared}(h:wpAny M A t Q E s)(hQ:∀ a s,Q a s->Q' a s):wpAny M A t Q' E s:=wpAny_mono h hQ fun _ _ x=>x
end L2
namespace L2
open PySem PySem.Spec PyProof.Rows
section
variable{X:Cx}
theorem bin{a b:Expr}{ta tb:TE}(ha:PE X a ta)(hb:PE X b tb){pins:List (Addr×Obj)}{s:Shared}{σ:St}{H:Hp}{R:V->V->Hp->Prop}(I:Inv X pins σ H s)(h:ta σ H fun x H1=>tb σ H1 fun y H2=>R x y H2)
  {α:Type} {Q:α->Shared->Prop} {f:Value->Value->Sem α}
  (hf:∀ v u s2 x y H2,Inv X pins σ H2 s2->RelV x v->RelV y u->R x y H2->wpAny (model X.prog X.w) X.A (f v u) Q X.xe s2):
  wpAny (model X.prog X.w) X.A (eval a X.env) (fun v s₁=>wpAny (model X.prog X.w) X.A (eval b X.env) (fun u s₂=>wpAny (model X.prog X.w) X.A (f v u) Q X.xe s₂) X.xe s₁) X.xe s:=by
 refine thn (ha pins s σ H _ I h) fun v s1 ⟨x,H1,I1,r1,q1⟩=>?_
 refine thn (hb pins s1 σ H1 _ I1 q1) fun u s2 ⟨y,H2,I2,r2,q2⟩=>?_
 exact hf v u s2 x y H2 I2 r1 r2 q2
inductive tVar(i:Nat)(σ:St)(H:Hp)(Q:VK):Prop
 |mk (v) (_:σ[i]? = some (some v)) (_:Q v H)
def tC(v:V):TE:=fun _ H Q=>Q v H
theorem ut {i:Nat} {x:Str} {pos:Pos} (hN:X.N[i]? = some x) (hv:Vis X.env.scope x) (hd:(x == ("__debug__":Str))=false:=by decide) (hcd:(x == ("__classdict__":Str))=false:=by decide):PE X (.Name x pos) (tVar i):=by
 intro pins s σ H Q I h;obtain⟨v,e,h⟩:=h;obtain⟨m,hn,hl⟩:=I.loc;obtain⟨u,r,l⟩:=hl i x v hN e hv;have fin:EP X pins σ Q u s:=⟨v,H,I,r,h⟩
 rcases l with⟨hk,hm⟩|⟨hk,c,hc,hcell⟩
 . exact wpAny_Name (wpAny_loadName_local I.ok.kind hk hn hm fin) hd
 . rcases hk with hk|hk
   . exact wpAny_Name (wpAny_loadName_cell I.ok.kind hk hc hcell fin) hd
   . exact wpAny_Name (wpAny_loadName_free I.ok.kind hk hc hcell fin hcd) hd
theorem ao{i j pos}:PE X (.Constant (.int i) j pos) (tC (.int i)):=fun _ _ _ H _ I h=>wpAny_Constant_int ⟨.int i,H,I.tok _,⟨_,rfl⟩,h⟩
theorem dR{b j pos}:PE X (.Constant (.bool b) j pos) (tC (.bl b)):=fun _ _ _ H _ I h=>Constant_bool ⟨.bl b,H,I,rfl,h⟩
theorem bH{j pos}:PE X (.Constant .none j pos) (tC .non):=fun _ _ _ H _ I h=>Constant_none ⟨.non,H,I,rfl,h⟩
theorem az{x j pos}:PE X (.Constant (.str x) j pos) (tC (.str x)):=fun _ _ _ H _ I h=>Calls.Constant_str ⟨.str x,H,I.tok _,⟨_,rfl⟩,h⟩
def Gl(X:Cx)(x:Str):Prop:=X.env.kindOf x=some .globalImplicit
theorem iy{E:Value->Shared->Prop}{pins:List (Addr×Obj)}{s:Shared}{σ:St}{H:Hp}{x:Str}{u:Value}{pos:Pos}{Q:Value->Shared->Prop}(I:Inv X pins σ H s)(hg:Gl X x)(hm:X.mg x=some u)(h:Q u s)
  (hd:(x == ("__debug__":Str))=false:=by decide):wpAny (model X.prog X.w) X.A (eval (.Name x pos) X.env) Q E s :=
 Calls.Name_function_global I.ok.kind hg (Calls.loadGlobal_global (by rw[I.ok.glob];exact I.mod.glob.keeps I.bk) hm h) hd
theorem jr{E:Value->Shared->Prop}{pins:List (Addr×Obj)}{s:Shared}{σ:St}{H:Hp}{x:Str}{u:Value}{pos:Pos}{Q:Value->Shared->Prop}(I:Inv X pins σ H s)(hg:Gl X x)(hm:X.mg x=none)(hv:bootBuiltins x=some u)(h:Q u s)
  (hn:x≠"__name__":=by decide) (hd:(x == ("__debug__":Str))=false:=by decide):wpAny (model X.prog X.w) X.A (eval (.Name x pos) X.env) Q E s:=by
 obtain⟨mb,h1,h2⟩:=I.mod.blt;exact Calls.Name_function_global I.ok.kind hg (Calls.loadGlobal_builtin (by rw[I.ok.glob];exact I.mod.glob.keeps I.bk) hm (by rw[I.ok.blt];exact h1.keeps I.bk) ((h2 x hn).trans hv) h) hd
theorem HY {x:Str} {v:V} {u:Value} {pos:Pos} (hg:Gl X x) (hm:X.mg x=some u) (r:RelV v u) (hd:(x == ("__debug__":Str))=false:=by decide):PE X (.Name x pos) (tC v):=
 fun _ _ _ H _ I h=>iy I hg hm ⟨v,H,I,r,h⟩ hd
theorem Ia {x:Str} {v:V} {u:Value} {pos:Pos} (hg:Gl X x) (hm:X.mg x=none) (hv:bootBuiltins x=some u) (r:RelV v u) (hn:x≠"__name__":=by decide) (hd:(x == ("__debug__":Str))=false:=by decide):PE X (.Name x pos) (tC v):=
 fun _ _ _ H _ I h=>jr I hg hm hv ⟨v,H,I,r,h⟩ hn hd
variable{a b:Expr}{ta tb:TE}{pos:Pos}
def PC(X:Cx)(op:CmpOp)(a b:Expr)(t:TE):Prop :=
 ∀(pins:List (Addr×Obj))(s:Shared)(σ:St)(H:Hp)(Q:VK),Inv X pins σ H s->t σ H Q ->
  wpAny (model X.prog X.w) X.A (eval a X.env) (fun v s₁=>wpAny (model X.prog X.w) X.A (eval b X.env) (fun u s₂=>wpAny (model X.prog X.w) X.A (compareOp op v u) (EP X pins σ Q) X.xe s₂) X.xe s₁) X.xe s
inductive iB(Q:Bool->Hp->Prop)(x:V)(H:Hp):Prop
 |mk (c:Bool) (_:x = .bl c) (_:Q c H)
def tB(t:TE):TT:=fun σ H Q=>t σ H fun x H1=>iB Q x H1
theorem p8{op:CmpOp}{t:TE}(h:PC X op a b t)(h1:behindInMarks op b=false:=by first|exact nobehind _ (by decide) (by decide)|rfl):PT X (.Compare a [op] [b] pos) (tB t):=by
 intro pins s σ H Q I hw;refine wpAny_isTrue_Compare1 (thn (h pins s σ H _ I hw) fun v s1 h1=>thn h1 fun u s2 h2=>thn h2 fun c s3 ⟨x,H1,I1,r1,q1⟩=>?_) h1;obtain⟨d,rfl,q⟩:=q1;cases r1;exact wpAny_truthy_bool ⟨H1,I1,q⟩
theorem b7{e:Expr}{t:TE}(h:PE X e t)(he:∀ whole,isTrue e X.env whole=(do let v <- whole;standAt e.pos;holding [v] (truthy v)):=by intro _;rfl):PT X e (tB t):=by
 intro pins s σ H Q I hw;refine isTrue_plain (thn (h pins s σ H _ I hw) fun v s1 ⟨x,H1,I1,r1,q1⟩=>?_) (he _);obtain⟨d,rfl,q⟩:=q1;cases r1;exact wpAny_truthy_bool ⟨H1,I1,q⟩
variable{tA tB':TT}{rest:List Expr}
def Mx(t u:TT):TT:=fun σ H Q=>t σ H fun c H1=>if c=true then u σ H1 Q else Q false H1
def tOr(t u:TT):TT:=fun σ H Q=>t σ H fun c H1=>if c=true then Q true H1 else u σ H1 Q
def My(t:TT):TT:=fun σ H Q=>t σ H fun c H1=>Q (!c) H1
theorem eX(ha:PT X a tA):PW X (.BoolOp .And [a] pos) tA:=by
 intro wh pins s σ H Q I h;refine isTrue_and (thn (ha pins s σ H Q I h) fun c s1 e=>?_);cases c with
 |true=>exact isTrue_and_nil e
 |false=>exact e
theorem dZ(ha:PT X a tA):PW X (.BoolOp .Or [a] pos) tA:=by
 intro wh pins s σ H Q I h;refine isTrue_or (thn (ha pins s σ H Q I h) fun c s1 e=>?_);cases c with
 |false=>exact isTrue_or_nil e
 |true=>exact e
theorem fY(ha:PT X a tA)(hb:PW X (.BoolOp .And (b::rest) pos) tB'):PW X (.BoolOp .And (a::b::rest) pos) (Mx tA tB'):=by
 intro wh pins s σ H Q I h;refine isTrue_and (thn (ha pins s σ H _ I h) fun c s1 ⟨H1,I1,q1⟩=>?_);cases c with
 |true=>exact hb wh pins s1 σ H1 Q I1 q1
 |false=>exact⟨H1,I1,q1⟩
theorem dB(ha:PT X a tA)(hb:PW X (.BoolOp .Or (b::rest) pos) tB'):PW X (.BoolOp .Or (a::b::rest) pos) (tOr tA tB'):=by
 intro wh pins s σ H Q I h;refine isTrue_or (thn (ha pins s σ H _ I h) fun c s1 ⟨H1,I1,q1⟩=>?_);cases c with
 |true=>exact⟨H1,I1,q1⟩
 |false=>exact hb wh pins s1 σ H1 Q I1 q1
theorem cV(ha:PT X a tA):PT X (.UnaryOp .Not a pos) (My tA):=by
 intro pins s σ H Q I h;exact isTrue_not (ha pins s σ H (fun c H1=>Q (!c) H1) I h)
def K9(ta tb:TE):TE:=fun σ H Q=>ta σ H fun x H1=>∃ c,x = .bl c/\if c=true then tb σ H1 Q else Q (.bl false) H1
def Mz(ta tb:TE):TE:=fun σ H Q=>ta σ H fun x H1=>∃ c,x = .bl c/\if c=true then Q (.bl true) H1 else tb σ H1 Q
def La(ta:TE):TE:=fun σ H Q=>ta σ H fun x H1=>∃ c,x = .bl c/\Q (.bl (!c)) H1
theorem jt{op}{t:TE}(h:PE X a t):PE X (.BoolOp op [a] pos) t:=fun pins s σ H Q I hw=>BoolOp_one (h pins s σ H Q I hw)
theorem kJ(ha:PE X a ta)(hb:PE X (.BoolOp .And (b::rest) pos) tb):PE X (.BoolOp .And (a::b::rest) pos) (K9 ta tb):=by
 intro pins s σ H Q I h;refine BoolOp_and (thn (ha pins s σ H _ I h) fun v s1 ⟨x,H1,I1,r1,q1⟩=>?_);obtain⟨c,rfl,q1⟩:=q1;cases r1;refine wpAny_truthy_bool ?_;cases c with
 |true=>exact hb pins s1 σ H1 Q I1 q1
 |false=>exact⟨.bl false,H1,I1,rfl,q1⟩
theorem Lb(ha:PE X a ta)(hb:PE X (.BoolOp .Or (b::rest) pos) tb):PE X (.BoolOp .Or (a::b::rest) pos) (Mz ta tb):=by
 intro pins s σ H Q I h;refine BoolOp_or (thn (ha pins s σ H _ I h) fun v s1 ⟨x,H1,I1,r1,q1⟩=>?_);obtain⟨c,rfl,q1⟩:=q1;cases r1;refine wpAny_truthy_bool ?_;cases c with
 |false=>exact hb pins s1 σ H1 Q I1 q1
 |true=>exact⟨.bl true,H1,I1,rfl,q1⟩
theorem JW(ha:PE X a ta):PE X (.UnaryOp .Not a pos) (La ta):=by
 intro pins s σ H Q I h;refine UnaryOp_ (thn (ha pins s σ H _ I h) fun v s1 ⟨x,H1,I1,r1,q1⟩=>?_);obtain⟨c,rfl,q1⟩:=q1;cases r1;exact not_of (wpAny_truthy_bool ⟨.bl (!c),H1,I1,rfl,q1⟩)
def tIf(t:TT)(ta tb:TE):TE:=fun σ H Q=>t σ H fun c H1=>if c=true then ta σ H1 Q else tb σ H1 Q
theorem eF{c:Expr}(hc:PT X c tA)(ha:PE X a ta)(hb:PE X b tb):PE X (.IfExp c a b pos) (tIf tA ta tb):=by
 intro pins s σ H Q I h;refine wpAny_IfExp (thn (hc pins s σ H _ I h) fun d s1 ⟨H1,I1,q1⟩=>?_);cases d with
 |true=>exact ha pins s1 σ H1 Q I1 q1
 |false=>exact hb pins s1 σ H1 Q I1 q1
end
end L2
namespace L2
open PySem PySem.Spec PyProof.Rows
def SqL(K:W.Frag)(H:Hp)(a:Addr)(xs:List V):Prop :=
 Rd H a (.lst xs) \/
  ∃(o:Obj) (its:Array Value) (n:Nat),K.lookup a=some o/\o.cls = .type "list"/\o.dict=none/\o.data = .seq its n/\its.size<=sizeLine/\Vals xs its.toList
def SqT(K:W.Frag)(H:Hp)(a:Addr)(xs:List V):Prop :=
 Rd H a (.tup xs) \/
  ∃(o:Obj) (its:Array Value) (n:Nat),K.lookup a=some o/\o.cls = .type "tuple"/\o.data = .seq its n/\its.size<=sizeLine/\Vals xs its.toList
def MF:Value->Option V
 | .none=>some .non
 | .bool b=>some (.bl b)
 | .int i _=>some (.int i)
 | .str x _=>some (.str x)
 | .bytes b _=>some (.byt b)
 | .float b _=>some (.flt b)
 | .ref a=>some (.ref a)
 | .type n=>some (.ty n)
 |_=>none
theorem RelV.abs{x:V}{u:Value}(r:RelV x u):MF u=some x:=by
 cases x with
 |non=>cases r;rfl
 |bl _=>cases r;rfl
 |int _=>obtain⟨t,rfl⟩:=r;rfl
 |str _=>obtain⟨t,rfl⟩:=r;rfl
 |byt _=>obtain⟨t,rfl⟩:=r;rfl
 |flt _=>obtain⟨t,rfl⟩:=r;rfl
 |ref _=>cases r;rfl
 |ty _=>cases r;rfl
theorem RelV.inj{x y:V}{u:Value}(r:RelV x u)(q:RelV y u):x=y:=qsi (r.abs.symm.trans q.abs)
theorem Vals.inj:∀{xs ys:List V}{us:List Value},Vals xs us->Vals ys us->xs=ys
 |_,_,_,.nil,.nil=>rfl
 |_,_,_,.cons r t,.cons r' t'=>by rw[r.inj r',Vals.inj t t']
section
variable{X:Cx}{pins:List (Addr×Obj)}{σ:St}{H:Hp}{s:Shared}{a:Addr}{xs ys:List V}
theorem SqL.of{K:W.Frag}(h:H a=some (.lst xs)):SqL K H a xs:=.inl (.inl h)
theorem SqT.of{K:W.Frag}(h:H a=some (.tup xs)):SqT K H a xs:=.inl (.inl h)
theorem Inv.list(I:Inv X pins σ H s)(h:SqL X.K H a xs):∃ its:List Value,Vals xs its/\PlainL s.heap a its.toArray/\xs.length<=sizeLine:=by
 rcases h with h|⟨o,its,n,hk,hc,hd,hs,hz,r⟩
 . obtain⟨z,its,n,r,e⟩:=h.ok I.hok
   exact⟨its,r,⟨_,n,e,rfl,rfl,rfl⟩,z⟩
 . refine⟨its.toList,r,⟨o,n,I.kIn a o hk,hc,hd,by simpa using hs⟩,?_⟩
   have e:=r.length;simp only[Array.length_toList]at e;omega
theorem Inv.tuple(I:Inv X pins σ H s)(h:SqT X.K H a xs):∃ its:List Value,Vals xs its/\IsTup s.heap a its.toArray/\xs.length<=sizeLine:=by
 rcases h with h|⟨o,its,n,hk,hc,hs,hz,r⟩
 . obtain⟨z,its,r,p⟩:=h.ok I.hok
   exact⟨its,r,p.tup,z⟩
 . refine⟨its.toList,r,⟨o,I.kIn a o hk,hc,n,by simpa using hs⟩,?_⟩
   have e:=r.length;simp only[Array.length_toList]at e;omega
theorem Inv.list_inj(I:Inv X pins σ H s)(h:SqL X.K H a xs)(h':SqL X.K H a ys):xs=ys:=by
 obtain⟨its,r,⟨o,n,e,_,_,d⟩,_⟩:=I.list h;obtain⟨its',r',⟨o',n',e',_,_,d'⟩,_⟩:=I.list h';rw[e]at e';cases e';rw[d]at d'
 injection d' with d1 _
 have:its=its':=by simpa using congrArg Array.toList d1
 subst this;exact r.inj r'
theorem Inv.tuple_inj(I:Inv X pins σ H s)(h:SqT X.K H a xs)(h':SqT X.K H a ys):xs=ys:=by
 obtain⟨its,r,⟨o,e,_,n,d⟩,_⟩:=I.tuple h;obtain⟨its',r',⟨o',e',_,n',d'⟩,_⟩:=I.tuple h';rw[e]at e';cases e';rw[d]at d'
 injection d' with d1 _
 have:its=its':=by simpa using congrArg Array.toList d1
 subst this;exact r.inj r'
end
abbrev Cx.wish(X:Cx)(E:Value->Shared->Prop):Cx:={ X with xe:=E }
abbrev Cx.nox(X:Cx):Cx:=X.wish fun _ _=>False
theorem Cx.Ok.wish{X:Cx}(ok:X.Ok)(E:Value->Shared->Prop):(X.wish E).Ok :=
 ⟨ok.mod,ok.kind,ok.glob,ok.blt,ok.above,ok.inj,ok.has,ok.cab,ok.hd,ok.frames,ok.stk,ok.exf,ok.bs,ok.bsz,ok.noex,ok.exfs,ok.funs,ok.frf⟩
theorem Cx.Ok.unwish{X:Cx}{E:Value->Shared->Prop}(ok:(X.wish E).Ok):X.Ok :=
 ⟨ok.mod,ok.kind,ok.glob,ok.blt,ok.above,ok.inj,ok.has,ok.cab,ok.hd,ok.frames,ok.stk,ok.exf,ok.bs,ok.bsz,ok.noex,ok.exfs,ok.funs,ok.frf⟩
section
variable{X:Cx}{pins:List (Addr×Obj)}{σ:St}{H:Hp}{s:Shared}{E:Value->Shared->Prop}
theorem Inv.wish(I:Inv X pins σ H s)(E:Value->Shared->Prop):Inv (X.wish E) pins σ H s:=⟨I.ok.wish E,I.os,I.bare,I.base,I.loc,I.cell,I.free,I.freeC,I.pin,I.hok,I.len⟩
theorem Inv.unwish(I:Inv (X.wish E) pins σ H s):Inv X pins σ H s:=⟨I.ok.unwish,I.os,I.bare,I.base,I.loc,I.cell,I.free,I.freeC,I.pin,I.hok,I.len⟩
end
section
variable{X:Cx}{st:Stmt}{rest:List Stmt}{t u:TS}{e:Expr}{te:TE}{pos:Pos}
def Ld:TS:=fun D σ H=>D.nx σ H
def JX(t u:TS):TS:=fun D σ H=>t { D with nx:=u D } σ H
theorem aN:PSs X [] Ld:=fun _ _ σ H _ I h=>wpAny_execs_nil ⟨σ,H,I,h⟩
theorem ak(h1:PS X st t)(h2:PSs X rest u):PSs X (st::rest) (JX t u):=by
 intro pins s σ H D I h;refine wpAny_execs_cons (thn (h1 pins s σ H { D with nx:=u D } I h) fun f s1 q=>?_);cases f with
 | next =>
  obtain⟨σ',H',I',q⟩:=q;exact h2 pins s1 σ' H' D I' q
 |ret v=>exact q
 |brk=>exact q
 |cont=>exact q
theorem aq(h1:PS X st t):PSs X [st] t:=by
 intro pins s σ H D I h;refine wpAny_execs_cons (thn (h1 pins s σ H D I h) fun f s1 q=>?_);cases f with
 |next=>exact wpAny_execs_nil q
 |ret v=>exact q
 |brk=>exact q
 |cont=>exact q
def Le:TS:=fun D σ H=>D.ct σ H
theorem vW:PS X (.Continue pos) Le:=fun _ _ σ H _ I h=>wpAny_Continue ⟨σ,H,I,h⟩
theorem Inv.quiet{pins:List (Addr×Obj)}{σ:St}{H:Hp}{s:Shared}(I:Inv X pins σ H s):interactive X.env=false:=by simp[interactive,I.ok.kind]
def Lf(te:TE):TS:=fun D σ H=>te σ H fun _ H1=>D.nx σ H1
theorem bF(he:PE X e te)(hs:swapsWith e none pos.line X.env=pure false:=by rfl):PS X (.Expr e pos) (Lf te):=by
 intro pins s σ H D I h;exact wpAny_Expr_any (thn (he pins s σ H _ I h) fun v s1 ⟨x,H1,I1,r1,q1⟩=>⟨σ,H1,I1,q1⟩) I.quiet hs
def MJ(te:TE):TS:=fun D σ H=>te σ H D.rt
theorem aA(he:PE X e te):PS X (.Return (some e) pos) (MJ te):=by
 intro pins s σ H D I h;exact wpAny_Return_some (thn (he pins s σ H _ I h) fun v s1 ⟨x,H1,I1,r1,q1⟩=>⟨x,σ,H1,I1,r1,q1⟩)
def Lg:TS:=fun D _ H=>D.rt .non H
theorem Ib:PS X (.Return none pos) Lg:=fun _ _ σ H _ I h=>wpAny_Return_none ⟨.non,σ,H,I,rfl,h⟩
def MK(c:TT)(t u:TS):TS:=fun D σ H=>c σ H fun b H1=>if b=true then t D σ H1 else u D σ H1
theorem aR{c:Expr}{a b:List Stmt}{tc:TT}(hc:PT X c tc)(ha:PSs X a t)(hb:PSs X b u):PS X (.If c a b pos) (MK tc t u):=by
 intro pins s σ H D I h;refine wpAny_If (thn (hc pins s σ H _ I h) fun d s1 ⟨H1,I1,q1⟩=>?_);cases d with
 |true=>exact ha pins s1 σ H1 D I1 q1
 |false=>exact hb pins s1 σ H1 D I1 q1
def Ag:TS:=fun _ _ _=>False
theorem ph:PS X st Ag:=fun _ _ _ _ _ _ h=>h.elim
theorem gK{sts:List Stmt}:PSs X sts Ag:=fun _ _ _ _ _ _ h=>h.elim
end
abbrev TG:=V->St->Hp->(St->Hp->Prop)->Prop
abbrev TGs:=List V->St->Hp->(St->Hp->Prop)->Prop
def PG(X:Cx)(target:Expr)(t:TG):Prop :=
 ∀(pins:List (Addr×Obj))(s:Shared)(σ:St)(H:Hp)(v:V)(u:Value)(Q:St->Hp->Prop),Inv X pins σ H s->RelV v u->t v σ H Q ->
  wpAny (model X.prog X.w) X.A (assign target X.env u) (fun _ s'=>∃ σ' H',Inv X pins σ' H' s'/\Q σ' H') X.xe s
def PGs(X:Cx)(ts:List Expr)(t:TGs):Prop :=
 ∀(pins:List (Addr×Obj))(s:Shared)(σ:St)(H:Hp)(vs:List V)(us:List Value)(Q:St->Hp->Prop),Inv X pins σ H s->Vals vs us->t vs σ H Q ->
  wpAny (model X.prog X.w) X.A (assignInOrder ((assignEach ts X.env).map (·.2)) us) (fun _ s'=>∃ σ' H',Inv X pins σ' H' s'/\Q σ' H') X.xe s
abbrev TIp:=V->V->Hp->VK->Prop
def PIp(X:Cx)(op:Operator)(t:TIp):Prop :=
 ∀(pins:List (Addr×Obj))(s:Shared)(σ:St)(H:Hp)(x y:V)(v u:Value)(Q:VK),Inv X pins σ H s->RelV x v->RelV y u->t x y H Q ->
  wpAny (model X.prog X.w) X.A (inplaceOp op v u) (EP X pins σ Q) X.xe s
section
variable{X:Cx}{pos:Pos}
def jN(i:Nat):TG:=fun v σ H Q=>Q (σ.set i (some v)) H
theorem qR{i:Nat}{x:Str}(hN:X.N.Nodup)(hi:X.N[i]? = some x)(hx:Loc X.env.scope x)(hf:X.fn x=true\/X.env.scope.names.lookup x=some .local:=by first|exact .inl rfl|exact .inr rfl|assumption):PG X (.Name x pos) (jN i):=by
 intro pins s σ H v u Q I r h;exact wpAny_assign_Name (lG I hN hi hx r (fun s' I'=>⟨_,H,I',h⟩) hf)
def MN:TGs:=fun vs σ H Q=>vs=[]/\Q σ H
def Lh(t:TG)(u:TGs):TGs:=fun vs σ H Q=>∃ v r,vs=v::r/\t v σ H fun σ' H'=>u r σ' H' Q
theorem gf:PGs X [] MN:=by
 intro pins s σ H vs us Q I r h;obtain⟨e,h⟩:=h;subst e;cases r;exact assignInOrder_nil ⟨σ,H,I,h⟩
theorem bT{e:Expr}{es:List Expr}{t:TG}{u:TGs}(h1:PG X e t)(h2:PGs X es u)
  (hs:(assignEach (e::es) X.env).map (·.2)=assign e X.env::(assignEach es X.env).map (·.2):=by rfl):PGs X (e::es) (Lh t u):=by
 intro pins s σ H vs us Q I r h;obtain⟨v,vr,e1,h⟩:=h;subst e1;cases r with
 | cons r rr =>
  rw[hs];refine assignInOrder_cons (thn (h1 pins s σ H _ _ _ I r h) fun _ s1 ⟨σ1,H1,I1,q1⟩=>?_);exact h2 pins s1 σ1 H1 _ _ Q I1 rr q1
def JZ(K:W.Frag)(n:Nat)(t:TGs):TG:=fun v σ H Q=>∃ a xs,v = .ref a/\SqT K H a xs/\xs.length=n/\t xs σ H Q
theorem mQ{es:List Expr}{k:Nat}{t:TGs}{n:Nat}(hc:X.calm=true)(h:PGs X es t)
  (hn:(assignEach es X.env).length=n:=by rfl) (hst:(assignEach es X.env).findIdx? (·.1)=none:=by rfl):PG X (.Tuple es k pos) (JZ X.K n t):=by
 intro pins s σ H v u Q I r hw;obtain⟨a,xs,e1,hq,hl,hw⟩:=hw;subst e1;cases r;obtain⟨its,rv,ht,hz⟩:=I.tuple hq;refine assign_Tuple_tuple (I.ok.hd hc) ht (by simp[hn,<- hl,rv.length]) hst fun h' hx=>?_
 have I1:Inv X pins σ H { s with heap:=h' }:=I.kept (t':=s.toks) fun b o e=>hx b o (Nat.ne_of_lt (Heap.lt_size e)) e
 exact h pins _ σ H xs _ Q I1 (by simpa using rv) hw
def xN(te:TE)(g:TG):TS:=fun D σ H=>te σ H fun x H1=>g x σ H1 D.nx
theorem gZ{i:Nat}{x:Str}{e:Expr}{te:TE}{pos':Pos}(hN:X.N.Nodup)(hi:X.N[i]? = some x)(hx:Loc X.env.scope x)(he:PE X e te)(hs:swapsWith e (some (.Name x pos')) pos.line X.env=pure false:=by rfl)(hf:X.fn x=true\/X.env.scope.names.lookup x=some .local:=by first|exact .inl rfl|exact .inr rfl|assumption):
  PS X (.Assign [.Name x pos'] e pos) (xN te (jN i)):=by
 intro pins s σ H D I h;refine wpAny_Assign_Name (thn (he pins s σ H _ I h) fun v s1 ⟨y,H1,I1,r1,q1⟩=>?_) hs;exact lG I1 hN hi hx r1 (fun s2 I2=>⟨_,H1,I2,q1⟩) hf
def J0(i:Nat)(te:TE)(ti:TIp):TS:=fun D σ H=>∃ x,σ[i]? = some (some x)/\te σ H fun y H1=>ti x y H1 fun z H2=>D.nx (σ.set i (some z)) H2
theorem Ah{i:Nat}{x:Str}{e:Expr}{te:TE}{op:Operator}{ti:TIp}{pos':Pos}(hN:X.N.Nodup)(hi:X.N[i]? = some x)(hx:Loc X.env.scope x)(he:PE X e te)(ho:PIp X op ti)(hf:X.fn x=true\/X.env.scope.names.lookup x=some .local:=by first|exact .inl rfl|exact .inr rfl|assumption):
  PS X (.AugAssign (.Name x pos') op e pos) (J0 i te ti):=by
 intro pins s σ H D I h;obtain⟨v,e1,h⟩:=h;obtain⟨m,hn,hl⟩:=I.loc;have vis:Vis X.env.scope x:=by rcases hx with k|k;exact .inl k;exact .inr (.inl k)
 obtain⟨u,r,l⟩:=hl i x v hi e1 vis;refine wpAny_AugAssign_Name ?_
 have go:wpAny (model X.prog X.w) X.A (eval e X.env) (fun w s₂=>wpAny (model X.prog X.w) X.A (inplaceOp op u w) (fun r s₃=>wpAny (model X.prog X.w) X.A (storeName X.env x r) (fun _=>SP X pins D .next) X.xe s₃) X.xe s₂) X.xe s:=by
  refine thn (he pins s σ H _ I h) fun w s1 ⟨y,H1,I1,r1,q1⟩=>?_
  refine thn (ho pins s1 σ H1 v y u w _ I1 r r1 q1) fun z s2 ⟨zv,H2,I2,r2,q2⟩=>?_
  exact lG I2 hN hi hx r2 (fun s3 I3=>⟨_,H2,I3,q2⟩) hf
 rcases l with⟨hk,hm⟩|⟨hk,c,hc,hcell⟩
 . exact wpAny_loadName_local I.ok.kind hk hn hm go
 . rcases hk with hk|hk
   . exact wpAny_loadName_cell I.ok.kind hk hc hcell go
   . rcases hx with k|k
     . have:X.env.scope.names.lookup x=some .free:=hk
       rw[k]at this;cases this
     . have:X.env.scope.names.lookup x=some .free:=hk
       rw[k]at this;cases this
def ipI(f:Int->Int->Int):TIp:=fun x y H Q=>∃ i j,x = .int i/\y = .int j/\Q (.int (f i j)) H
theorem J1:PIp X .Add (ipI fun i j=>i+j):=by
 intro pins s σ H x y v u Q I r1 r2 h;obtain⟨i,j,e1,e2,q⟩:=h;subst e1;subst e2;obtain⟨t,rfl⟩:=r1;obtain⟨t',rfl⟩:=r2;exact iadd_int ⟨.int _,H,I.tok _,⟨_,rfl⟩,q⟩
end
section
variable{X:Cx}{pos:Pos}
def J2(c:TT)(tb:TS):TS:=fun D σ H=>∃ W:Nat->St->Hp->Prop,(∃ m,W m σ H)/\∀ m σ H,W m σ H ->
 c σ H fun b H1=>if b=true then ∃ N:St->Hp->Prop,(∀ σ' H',N σ' H'->∃ m',m'<m/\W m' σ' H')/\tb { D with nx:=N,ct:=N,bk:=D.nx } σ H1 else D.nx σ H1
theorem ju{c:Expr}{body:List Stmt}{tc:TT}{tb:TS}(hp:PassesOwn (model X.prog X.w) X.A X.env X.xe)(hc:PT X c tc)(hb:PSs X body tb):PS X (.While c body [] pos) (J2 tc tb):=by
 intro pins s σ H D I h;obtain⟨W,⟨m0,w0⟩,turn⟩:=h;refine wpAny_While (codeAny_whileLoop (fun n s'=>∃ σ' H',Inv X pins σ' H' s'/\W n σ' H') ?_ m0 ⟨σ,H,I,w0⟩);rintro n s1 ⟨σ1,H1,I1,w1⟩;refine wpAny_passesOwn hp (thn (hc pins s1 σ1 H1 _ I1 (turn n σ1 H1 w1)) fun b s2 ⟨H2,I2,q2⟩=>?_);cases b with
 | true =>
  obtain⟨N,hN,q2⟩:=q2;rw[qp rfl];refine wpAny_passesOwn hp (thn (hb pins s2 σ1 H2 _ I2 q2) fun f s3 q3=>?_);cases f with
  | next =>
   obtain⟨σ3,H3,I3,n3⟩:=q3;obtain⟨m',hm,w3⟩:=hN σ3 H3 n3;exact⟨m',hm,σ3,H3,I3,w3⟩
  | cont =>
   obtain⟨σ3,H3,I3,n3⟩:=q3;obtain⟨m',hm,w3⟩:=hN σ3 H3 n3;exact⟨m',hm,σ3,H3,I3,w3⟩
  |brk=>exact q3
  |ret v=>exact q3
 | false =>
  rw[qnZ qbf];exact wpAny_execs_nil ⟨σ1,H2,I2,q2⟩
end
structure It where
 go:Nat->Hp->Prop
 yld:Nat->Hp->V->Hp->Prop
 stop:Nat->Hp->Prop
def iz(X:Cx)(pins:List (Addr×Obj))(H:Hp)(b:Addr):Prop :=
 H b=none/\b≠X.env.locals/\b∉X.fs/\(b∈X.ex\/X.s₀.heap.objs.size<=b)/\(∀ x c,X.env.cells.lookup x=some c->c≠b)/\∀ p∈X.pn++pins,p.1≠b
theorem Inv.fpOk{X:Cx}{pins:List (Addr×Obj)}{σ:St}{H H':Hp}{s:Shared}{b:Addr}(I:Inv X pins σ H s)(hb:s.heap.objs.size<=b)(hn:H' b=none):iz X pins H' b:=by
 refine⟨hn,Nat.ne_of_gt (Nat.lt_of_lt_of_le I.lt hb),I.nofs hb,.inr (qnt I.sz hb),fun x c e z=>?_,fun p hp z=>?_⟩
 . obtain⟨v,q⟩:=I.cell x c e
   exact absurd (Nat.lt_of_lt_of_le q.lt (by rw[z];exact hb)) (Nat.lt_irrefl _)
 . exact absurd (Nat.lt_of_lt_of_le (Heap.lt_size (I.pin p hp).1) (by rw[z];exact hb)) (Nat.lt_irrefl _)
structure Turn(P:Program)(w:World)(K:W.Frag)(tg:Expr)(J:It)(fp:List Addr)(it:Addr)(tn:Nat->Heap->Prop):Prop where
 mem:it∈fp
 obj:∀ i h,tn i h->∀ b∈fp,∃ o,h.get? b=some o/\∀ v,o.data≠.cell v
 keep:∀ i h h',tn i h->(∀ b∈fp,∀ o,h.get? b=some o->h'.get? b=some o)->tn i h'
 item:∀(X:Cx),X.prog=P->X.w=w->X.K=K->X.calm=true->∀(i:Nat)(pins:List (Addr×Obj))(s:Shared)(σ:St)(H:Hp)(E:Value->Shared->Prop),Inv X pins σ H s->(∀ b∈fp,iz X pins H b)->tn i s.heap->J.go i H ->
  wpAny (model P w) X.A (pyNext (.ref it)) (fun r s1=>∃ u,r=some u /\
   wpAny (model P w) X.A (letOwnedTupleGo tg (.ref it) u) (fun _ s2=>∃ x H',Inv X pins σ H' s2/\RelV x u/\J.yld i H x H'/\tn (i+1) s2.heap/\∀ b∈fp,H' b=none) E s1) E s
 done:∀(X:Cx),X.prog=P->X.w=w->X.K=K->X.calm=true->∀(i:Nat)(pins:List (Addr×Obj))(s:Shared)(σ:St)(H:Hp)(E:Value->Shared->Prop),Inv X pins σ H s->(∀ b∈fp,iz X pins H b)->tn i s.heap->J.stop i H ->
  wpAny (model P w) X.A (pyNext (.ref it)) (fun r s1=>r=none/\Inv X pins σ H s1) E s
 self:∀(A:Around)(i:Nat)(s:Shared)(Q:Value->Shared->Prop)(E:Value->Shared->Prop),tn i s.heap->Q (.ref it) s->wpAny (model P w) A (pyIter (.ref it)) Q E s
abbrev TI:=St->Hp->(It->Hp->Prop)->Prop
def PIE(X:Cx)(pins:List (Addr×Obj))(σ:St)(tg:Expr)(R:It->Hp->Prop)(itv:Value)(s2:Shared):Prop :=
 ∃(it:Addr)(fp:List Addr)(tn:Nat->Heap->Prop)(J:It)(H':Hp),itv = .ref it/\Inv X pins σ H' s2/\Turn X.prog X.w X.K tg J fp it tn/\tn 0 s2.heap/\(∀ b∈fp,iz X pins H' b)/\R J H'
def PI(X:Cx)(tg iter:Expr)(wi:TI):Prop :=
 ∀(pins:List (Addr×Obj))(s:Shared)(σ:St)(H:Hp)(R:It->Hp->Prop),Inv X pins σ H s->wi σ H R ->
  wpAny (model X.prog X.w) X.A (eval iter X.env) (fun v s1=>wpAny (model X.prog X.w) X.A (pyIter v) (PIE X pins σ tg R) X.xe s1) X.xe s
theorem t6{M:Model}{A:Around}{E:Value->Shared->Prop}{s:Shared}{tg:Expr}{it:Addr}{u:Value}{o:Obj}{n:String}{vs:Array Value}{Q:Unit->Shared->Prop}(ho:s.heap.get? it=some o)(hc:o.cls = .type n)(hd:o.data = .fields vs)
  (hn:["enumerate","zip","dict_itemiterator","dict_reverseitemiterator","odict_iterator","itertools.zip_longest","itertools.pairwise"].contains n=false) (hQ:Q () s):wpAny M A (letOwnedTupleGo tg (.ref it) u) Q E s:=by
 unfold letOwnedTupleGo
 cases tg <;> first
  |exact wpAny_pure hQ
  | (cases u <;> first
    |exact wpAny_pure hQ
    | (refine wpAny_bind (wpAny_load ho ?_)
       rw[hc,hd];show wpAny M A (if (["enumerate","zip","dict_itemiterator","dict_reverseitemiterator","odict_iterator","itertools.zip_longest","itertools.pairwise"].contains n && vs[0]? == some (rawInt _))=true then _ else _) Q E s;rw[qnZ (by intro h;rw[hn,Bool.false_and]at h;cases h)]
       exact wpAny_pure hQ))
def Itl(K:W.Frag)(a:Addr):It :=
 ⟨fun i H=>∃ xs x,SqL K H a xs/\xs[i]? = some x,fun i H x H'=>H'=H/\∀ xs,SqL K H a xs->xs[i]? = some x,fun i H=>∃ xs,SqL K H a xs/\xs.length<=i⟩
def Itt(K:W.Frag)(a:Addr):It :=
 ⟨fun i H=>∃ xs x,SqT K H a xs/\xs[i]? = some x,fun i H x H'=>H'=H/\∀ xs,SqT K H a xs->xs[i]? = some x,fun i H=>∃ xs,SqT K H a xs/\xs.length<=i⟩
def Itr(lo:Int)(n:Nat):It:=⟨fun i _=>i<n,fun i H x H'=>H'=H/\x = .int (lo+i),fun i _=>n<=i⟩
theorem Ai{P:Program}{w:World}{K:W.Frag}{tg:Expr}(a it:Addr):Turn P w K tg (Itl K a) [it] it (fun i h=>h.IsListIter it a i) where
 mem:=by simp
 obj:=fun i h st b hb=>by
  have e:b=it:=by simpa using hb
  subst e;obtain⟨o,e,c,d⟩:=st;exact⟨o,e,fun v z=>by rw[d]at z;cases z⟩
 keep:=fun i h h' st k=>st.at fun o e=>k it (by simp) o e
 item:=by
  intro X hP hw hK hc i pins s σ H E I hf st hg;subst hP hw hK;obtain⟨xs,x,hq,hx⟩:=hg;obtain⟨its,rv,p,hz⟩:=I.list hq;obtain⟨u,hu,ru⟩:=rv.get hx;obtain⟨f0,f1,f2,f3,f4,f5⟩:=hf it (by simp);refine wpAny_pyNext_list_item st p.isList (x:=u) (by simpa using hu) fun h' st' sb=>?_
  have I1:Inv X pins σ H { s with heap:=h' }:=I.turned (t':=s.toks) (fun b o hb e=>(sb.2 b hb).trans e) f0 f1 f3 f4 f5;obtain⟨o,e,c,d⟩:=id st';exact⟨u,rfl,t6 (s:={ s with heap:=h' }) e c d (by decide) ⟨x,H,I1,ru,⟨rfl,fun ys hy=>by rw[I.list_inj hy hq];exact hx⟩,st',fun b hb=>(hf b hb).1⟩⟩
 done:=by
  intro X hP hw hK hc i pins s σ H E I hf st hg;subst hP hw hK;obtain⟨xs,hq,hx⟩:=hg;obtain⟨its,rv,p,hz⟩:=I.list hq;obtain⟨f0,f1,f2,f3,f4,f5⟩:=hf it (by simp);have hl:=rv.length;exact wpAny_pyNext_list_end (I.ok.hd hc) st p.isList (by simp;omega) fun h' eb=>⟨rfl,I.turned (t':=s.toks) (fun b o hb e=>eb b o hb e) f0 f1 f3 f4 f5⟩
 self:=fun _ _ _ _ _ st h=>wpAny_pyIter_listiter st h
theorem xO{P:Program}{w:World}{K:W.Frag}{tg:Expr}(a it:Addr):Turn P w K tg (Itt K a) [it] it (fun i h=>h.IsTupleIter it a i) where
 mem:=by simp
 obj:=fun i h st b hb=>by
  have e:b=it:=by simpa using hb
  subst e;obtain⟨o,e,c,d⟩:=st;exact⟨o,e,fun v z=>by rw[d]at z;cases z⟩
 keep:=fun i h h' st k=>st.at fun o e=>k it (by simp) o e
 item:=by
  intro X hP hw hK hc i pins s σ H E I hf st hg;subst hP hw hK;obtain⟨xs,x,hq,hx⟩:=hg;obtain⟨its,rv,p,hz⟩:=I.tuple hq;obtain⟨u,hu,ru⟩:=rv.get hx;obtain⟨f0,f1,f2,f3,f4,f5⟩:=hf it (by simp);refine wpAny_pyNext_tuple_item st (show s.heap.IsTuple a its.toArray from p) (x:=u) (by simpa using hu) fun h' st' sb=>?_
  have I1:Inv X pins σ H { s with heap:=h' }:=I.turned (t':=s.toks) (fun b o hb e=>(sb.2 b hb).trans e) f0 f1 f3 f4 f5;obtain⟨o,e,c,d⟩:=id st';exact⟨u,rfl,t6 (s:={ s with heap:=h' }) e c d (by decide) ⟨x,H,I1,ru,⟨rfl,fun ys hy=>by rw[I.tuple_inj hy hq];exact hx⟩,st',fun b hb=>(hf b hb).1⟩⟩
 done:=by
  intro X hP hw hK hc i pins s σ H E I hf st hg;subst hP hw hK;obtain⟨xs,hq,hx⟩:=hg;obtain⟨its,rv,p,hz⟩:=I.tuple hq;obtain⟨f0,f1,f2,f3,f4,f5⟩:=hf it (by simp);have hl:=rv.length;exact wpAny_pyNext_tuple_end (I.ok.hd hc) st (show s.heap.IsTuple a its.toArray from p) (by simp;omega) fun h' eb=>⟨rfl,I.turned (t':=s.toks) (fun b o hb e=>eb b o hb e) f0 f1 f3 f4 f5⟩
 self:=fun _ _ _ _ _ st h=>wpAny_pyIter_tupleiter st h
theorem xP{P:Program}{w:World}{K:W.Frag}{tg:Expr}(it:Addr)(lo:Int)(n:Nat):Turn P w K tg (Itr lo n) [it] it (fun i h=>IsRangeIter h it (lo+(i:Nat) * 1) ((n:Int) - (i:Nat)) 1) where
 mem:=by simp
 obj := fun i h st b hb=>by
  have e:b=it:=by simpa using hb
  subst e
  exact⟨_,st,fun v z=>by
   have z':Data.fields _=Data.cell v:=z
   cases z'⟩
 keep:=fun i h h' st k=>k it (by simp) _ st
 item:=by
  intro X hP hw hK hc i pins s σ H E I hf st hg;subst hP hw hK;obtain⟨f0,f1,f2,f3,f4,f5⟩:=hf it (by simp);have W:=Walks.range (prog:=X.prog) (w:=X.w) (I.ok.hd hc) it lo 1 n;refine W.item i s _ _ hg st fun v h' tk hv st' kk=>?_
  obtain⟨t,rfl⟩:=hv;have I1:Inv X pins σ H { s with heap:=h',toks:=tk }:=I.turned (fun b o hb e=>kk b o (by simpa using hb) e) f0 f1 f3 f4 f5;refine⟨_,rfl,t6 (s:={ s with heap:=h',toks:=tk }) (n := "range_iterator") st' rfl rfl (by decide) ⟨.int (lo+i),H,I1,⟨t,?_⟩,⟨rfl,rfl⟩,st',fun b hb=>(hf b hb).1⟩⟩;rw[Int.mul_one]
 done:=by
  intro X hP hw hK hc i pins s σ H E I hf st hg;subst hP hw hK;obtain⟨f0,f1,f2,f3,f4,f5⟩:=hf it (by simp);exact wpAny_pyNext_range_end (I.ok.hd hc) st (by have:n<=i:=hg;omega) fun h' eb=>⟨rfl,I.turned (t':=s.toks) (fun b o hb e=>eb b o hb e) f0 f1 f3 f4 f5⟩
 self:=fun _ _ _ _ _ st h=>wpAny_pyIter_rangeiter st h
end L2
namespace L2
open PySem PySem.Spec PyProof.Rows
section
variable{X:Cx}{tg:Expr}
def Li(K:W.Frag)(tl:TE):TI:=fun σ H R=>tl σ H fun x H1=>∃ a,x = .ref a/\(∃ xs,SqL K H1 a xs)/\R (Itl K a) H1
def MP(K:W.Frag)(tl:TE):TI:=fun σ H R=>tl σ H fun x H1=>∃ a,x = .ref a/\(∃ xs,SqT K H1 a xs)/\R (Itt K a) H1
theorem dX{l:Expr}{tl:TE}(hl:PE X l tl):PI X tg l (Li X.K tl):=by
 intro pins s σ H R I h;refine thn (hl pins s σ H _ I h) fun v s1 ⟨x,H1,I1,r1,q1⟩=>?_
 obtain⟨a,e,⟨xs,hq⟩,q⟩:=q1;subst e;cases r1;obtain⟨its,rv,p,hz⟩:=I1.list hq;refine wpAny_pyIter_list p.isList ?_;refine⟨s1.heap.objs.size,[s1.heap.objs.size],_,_,H1,rfl,I1.kept (t':=s1.toks) fun b o e=>Heap.get?_push_of_some _ e,Ai a _,⟨_,Heap.get?_push_size _ rfl,rfl,rfl⟩,fun b hb=>?_,q⟩;have e:b=s1.heap.objs.size:=by simpa using hb
 subst e;exact I1.fpOk (qnr _) (I1.hok.fresh (qnr _))
theorem J3{l:Expr}{tl:TE}(hl:PE X l tl):PI X tg l (MP X.K tl):=by
 intro pins s σ H R I h;refine thn (hl pins s σ H _ I h) fun v s1 ⟨x,H1,I1,r1,q1⟩=>?_
 obtain⟨a,e,⟨xs,hq⟩,q⟩:=q1;subst e;cases r1;obtain⟨its,rv,p,hz⟩:=I1.tuple hq;refine wpAny_pyIter_tuple (show s1.heap.IsTuple a its.toArray from p) ?_;refine⟨s1.heap.objs.size,[s1.heap.objs.size],_,_,H1,rfl,I1.kept (t':=s1.toks) fun b o e=>Heap.get?_push_of_some _ e,xO a _,⟨_,Heap.get?_push_size _ rfl,rfl,rfl⟩,fun b hb=>?_,q⟩;have e:b=s1.heap.objs.size:=by simpa using hb
 subst e;exact I1.fpOk (qnr _) (I1.hok.fresh (qnr _))
theorem DQ{pins:List (Addr×Obj)}{σ:St}{H:Hp}{s:Shared}{R:It->Hp->Prop}{E:Value->Shared->Prop}{lo hi:Int}{t u v:Tok}{tk:Nat}(I:Inv X pins σ H s)(h1 : -(2 ^ 62)<=lo)(h2:lo<2 ^ 62)(h3 : -(2 ^ 62)<=hi)(h4:hi<2 ^ 62)
  (q:R (Itr lo (hi - lo).toNat) H):wpAny (model X.prog X.w) X.A (pyIter (.ref s.heap.objs.size)) (PIE X pins σ tg R) E { s with heap:=s.heap.push { cls:=.type "range",data:=.fields #[.int lo t,.int hi u,.int 1 v] },toks:=tk }:=by
 refine wpAny_pyIter_range (IsRange.new ..) (small_one h1 h2 h3 h4) ?_;have I1:Inv X pins σ H { s with heap:=s.heap.push { cls:=.type "range",data:=.fields #[.int lo t,.int hi u,.int 1 v] },toks:=tk }:=I.kept fun b o e=>Heap.get?_push_of_some _ e
 refine⟨(s.heap.push { cls:=.type "range",data:=.fields #[.int lo t,.int hi u,.int 1 v] }).objs.size,[(s.heap.push { cls:=.type "range",data:=.fields #[.int lo t,.int hi u,.int 1 v] }).objs.size],_,_,H,rfl,
  I1.kept (t':=tk) fun b o e=>Heap.get?_push_of_some _ e,xP _ lo (hi - lo).toNat,?_,fun b hb=>?_,q⟩
 . have e1:lo+((0:Nat):Int) * 1=lo:=by simp
   have e2:(((hi - lo).toNat:Nat):Int) - ((0:Nat):Int)=Builtin.Range.rangeSize lo hi 1:=by rw[rangeSize_one];split <;> omega
   show IsRangeIter _ _ (lo+((0:Nat):Int) * 1) ((((hi - lo).toNat:Nat):Int) - ((0:Nat):Int)) 1;rw[e1,e2];exact Heap.get?_push_size _ rfl
 . have e:b=(s.heap.push { cls:=.type "range",data:=.fields #[.int lo t,.int hi u,.int 1 v] }).objs.size:=by simpa using hb
   subst e;exact I1.fpOk (qnr _) (I1.hok.fresh (qnr _))
def Hk(ta:TA):TI:=fun σ H R=>ta σ H fun vs H1=>∃ j:Int,vs=[.int j]/\-(2 ^ 62)<=j/\j<2 ^ 62/\R (Itr 0 j.toNat) H1
theorem Aj {a:Expr} {ta:TA} {p pos:Pos} (hg:Gl X "range") (hm:X.mg "range"=none) (ha:PA X [a] ta) (hs:starEach [a] X.env=[(false,eval a X.env)]:=by rfl):PI X tg (.Call (.Name "range" p) [a] [] pos) (Hk ta):=by
 intro pins s σ H R I h;refine Call_ (jr I hg hm boot_range (PyProof.Rows.callWith_type1 (thn (ha pos pins s σ H _ I h) fun us s1 ⟨vs,H1,I1,r1,q1⟩=>?_) hs rfl));obtain⟨j,e,q1,q2,q⟩:=q1;subst e;cases r1 with
 | cons r rr =>
  cases rr;obtain⟨t,rfl⟩:=r;exact call_range_1 (DQ I1 (by omega) (by omega) q1 q2 (by simpa using q))
def MT(wi:TI)(g:TG)(tb:TS):TS:=fun D σ H=>wi σ H fun J H1=>∃ W:Nat->Nat->St->Hp->Prop,(∃ m,W 0 m σ H1)/\∀ i m σ H,W i m σ H ->
 (J.stop i H/\D.nx σ H)\/(J.go i H/\∃ N:St->Hp->Prop,(∀ σ' H',N σ' H'->∃ m',m'<m/\W (i+1) m' σ' H')/\∀ x H',J.yld i H x H'->g x σ H' fun σ2 H2=>tb { D with nx:=N,ct:=N,bk:=D.nx } σ2 H2)
def jw(fp:List Addr)(h:Heap):List (Addr×Obj):=fp.filterMap fun b=>(h.get? b).map fun o=>(b,o)
theorem jg{fp:List Addr}{h:Heap}{b:Addr}{o:Obj}(hb:b∈fp)(e:h.get? b=some o):(b,o)∈jw fp h:=List.mem_filterMap.mpr ⟨b,hb,by rw[e];rfl⟩
theorem rN{fp:List Addr}{h:Heap}{p:Addr×Obj}(hp:p∈jw fp h):p.1∈fp/\h.get? p.1=some p.2:=by
 obtain⟨b,hb,e⟩:=List.mem_filterMap.mp hp;cases q:h.get? b with
 |none=>rw[q]at e;cases e
 | some o =>
  rw[q]at e;have e':(b,o)=p:=qsi e;subst e';exact⟨hb,q⟩
theorem Inv.pinned{pins:List (Addr×Obj)}{σ:St}{H:Hp}{s:Shared}{fp:List Addr}(I:Inv X pins σ H s)(hf:∀ b∈fp,iz X pins H b)(ho:∀ b∈fp,∃ o,s.heap.get? b=some o/\∀ v,o.data≠.cell v):Inv X (pins++jw fp s.heap) σ H s :=
 I.pins_of fun p hp=>(List.mem_append.mp hp).elim (fun z=>I.pin p (qar _ z)) fun z=>by
  obtain⟨hb,e⟩:=rN z;obtain⟨f0,f1,f2,_⟩:=hf p.1 hb;obtain⟨o,e',d⟩:=ho p.1 hb;rw[e]at e';cases e';exact⟨e,f0,f1,f2,d⟩
theorem Inv.unpinned{pins pl:List (Addr×Obj)}{σ:St}{H:Hp}{s:Shared}(I:Inv X (pins++pl) σ H s):Inv X pins σ H s:=I.pins_of fun p hp=>I.pin p (qar _ (qal _ hp))
theorem fL{iter:Expr}{body:List Stmt}{wi:TI}{g:TG}{tb:TS}{pos:Pos}(hp:PassesOwn (model X.prog X.w) X.A X.env X.xe)(hc:X.calm=true)(hi:PI X tg iter wi)(hg:PG X tg g)(hb:PSs X body tb)
  (hs:∀ x,foldedSetIterable iter X.env x=pure x:=by intro _;rfl):PS X (.For tg iter body [] pos) (MT wi g tb):=by
 intro pins s σ H D I h;refine wpAny_For (thn (hi pins s σ H _ I h) fun v s1 h1=>thn h1 fun itv s2 h2=>?_) hs;obtain⟨it,fp,tn,J,H2,e,I2,T,st2,f2,W,⟨m0,w0⟩,turn⟩:=h2;subst e;have stat:∀{H':Hp},(∀ b∈fp,H' b=none)->∀ b∈fp,iz X pins H' b:=fun hn b hb=>⟨hn b hb,(f2 b hb).2⟩
 refine codeAny_forLoop_any (fun n s'=>∃ i σ' H',Inv X pins σ' H' s'/\tn i s'.heap/\(∀ b∈fp,H' b=none)/\W i n σ' H') ?_ m0 ⟨0,σ,H2,I2,st2,fun b hb=>(f2 b hb).1,w0⟩;rintro n s3 ⟨i,σ3,H3,I3,st3,fr3,w3⟩;rcases turn i n σ3 H3 w3 with⟨stop,qn⟩|⟨go,N,hN,step⟩
 . refine wpAny_passesOwn hp (thn (T.done X rfl rfl rfl hc i pins s3 σ3 H3 X.xe I3 (stat fr3) st3 stop) fun r s4 ⟨hr,I4⟩=>?_)
   subst hr;exact wpAny_execs_nil ⟨σ3,H3,I4,qn⟩
 . refine wpAny_passesOwn hp (thn (T.item X rfl rfl rfl hc i pins s3 σ3 H3 X.xe I3 (stat fr3) st3 go) fun r s4 ⟨u,hr,h4⟩=>?_)
   subst hr;refine wpAny_passesOwn hp (thn h4 fun _ s5 ⟨x,H5,I5,r5,y5,st5,fr5⟩=>?_);have I5':=I5.pinned (stat fr5) (T.obj _ _ st5);refine wpAny_passesOwn hp (thn (hg _ s5 σ3 H5 x u _ I5' r5 (step x H5 y5)) fun _ s6 ⟨σ6,H6,I6,q6⟩=>?_);refine wpAny_passesOwn hp (thn (hb _ s6 σ6 H6 _ I6 q6) fun f s7 q7=>?_)
   have again:∀{σ7:St}{H7:Hp},Inv X (pins++jw fp s5.heap) σ7 H7 s7->N σ7 H7->∃ m,m<n/\∃ i σ' H',Inv X pins σ' H' s7/\tn i s7.heap/\(∀ b∈fp,H' b=none)/\W i m σ' H':=fun {σ7 H7} I7 n7=>by
    obtain⟨m',hm,w7⟩:=hN σ7 H7 n7;refine⟨m',hm,i+1,σ7,H7,I7.unpinned,T.keep _ _ _ st5 fun b hb o e=>(I7.pin (b,o) (qar _ (qar _ (jg hb e)))).1,fun b hb=>?_,w7⟩;obtain⟨o,e,d⟩:=T.obj _ _ st5 b hb;exact(I7.pin (b,o) (qar _ (qar _ (jg hb e)))).2.1
   cases f with
   |next=>obtain⟨σ7,H7,I7,n7⟩:=q7;exact again I7 n7
   |cont=>obtain⟨σ7,H7,I7,n7⟩:=q7;exact again I7 n7
   |brk=>obtain⟨σ7,H7,I7,q7⟩:=q7;exact⟨σ7,H7,I7.unpinned,q7⟩
   |ret v=>obtain⟨x7,σ7,H7,I7,r7,q7⟩:=q7;exact⟨x7,σ7,H7,I7.unpinned,r7,q7⟩
end
theorem iC{K:W.Frag}{a:Addr}{xs:List V}{g:TG}{tb:TS}{D:Ends}{σ:St}{H:Hp}(Pv:Nat->St->Hp->Prop)(h0:Pv 0 σ H)(hl:∀ i σ H,i<=xs.length->Pv i σ H->SqL K H a xs)
  (hs:∀ i x σ H,xs[i]? = some x->Pv i σ H->g x σ H fun σ2 H2=>tb { D with nx:=Pv (i+1),ct:=Pv (i+1),bk:=D.nx } σ2 H2) (hd:∀ σ H,Pv xs.length σ H->D.nx σ H):
  ∃ W:Nat->Nat->St->Hp->Prop,(∃ m,W 0 m σ H)/\∀ i m σ H,W i m σ H ->
   ((Itl K a).stop i H/\D.nx σ H)\/((Itl K a).go i H/\∃ N:St->Hp->Prop,(∀ σ' H',N σ' H'->∃ m',m'<m/\W (i+1) m' σ' H')/\∀ x H',(Itl K a).yld i H x H'->g x σ H' fun σ2 H2=>tb { D with nx:=N,ct:=N,bk:=D.nx } σ2 H2):=by
 refine⟨fun i m σ H=>m=xs.length - i/\i<=xs.length/\Pv i σ H,⟨xs.length,by simp,qnz _,h0⟩,?_⟩;rintro i m σ H ⟨rfl,hi,p⟩;have q:=hl i σ H hi p
 by_cases hlt:i<xs.length
 . refine .inr ⟨⟨xs,xs[i],q,by simp[hlt]⟩,Pv (i+1),fun σ' H' p'=>⟨xs.length - (i+1),by omega,rfl,hlt,p'⟩,fun x H' y=>?_⟩
   obtain⟨e,y⟩:=y;subst e;exact hs i x σ _ (y xs q) p
 . have e:i=xs.length:=by omega
   subst e;exact .inl ⟨⟨xs,q,qnr _⟩,hd σ H p⟩
theorem Ie{K:W.Frag}{a:Addr}{xs:List V}{g:TG}{tb:TS}{D:Ends}{σ:St}{H:Hp}(Pv:Nat->St->Hp->Prop)(h0:Pv 0 σ H)(hl:∀ i σ H,i<=xs.length->Pv i σ H->SqT K H a xs)
  (hs:∀ i x σ H,xs[i]? = some x->Pv i σ H->g x σ H fun σ2 H2=>tb { D with nx:=Pv (i+1),ct:=Pv (i+1),bk:=D.nx } σ2 H2) (hd:∀ σ H,Pv xs.length σ H->D.nx σ H):
  ∃ W:Nat->Nat->St->Hp->Prop,(∃ m,W 0 m σ H)/\∀ i m σ H,W i m σ H ->
   ((Itt K a).stop i H/\D.nx σ H)\/((Itt K a).go i H/\∃ N:St->Hp->Prop,(∀ σ' H',N σ' H'->∃ m',m'<m/\W (i+1) m' σ' H')/\∀ x H',(Itt K a).yld i H x H'->g x σ H' fun σ2 H2=>tb { D with nx:=N,ct:=N,bk:=D.nx } σ2 H2):=by
 refine⟨fun i m σ H=>m=xs.length - i/\i<=xs.length/\Pv i σ H,⟨xs.length,by simp,qnz _,h0⟩,?_⟩;rintro i m σ H ⟨rfl,hi,p⟩;have q:=hl i σ H hi p
 by_cases hlt:i<xs.length
 . refine .inr ⟨⟨xs,xs[i],q,by simp[hlt]⟩,Pv (i+1),fun σ' H' p'=>⟨xs.length - (i+1),by omega,rfl,hlt,p'⟩,fun x H' y=>?_⟩
   obtain⟨e,y⟩:=y;subst e;exact hs i x σ _ (y xs q) p
 . have e:i=xs.length:=by omega
   subst e;exact .inl ⟨⟨xs,q,qnr _⟩,hd σ H p⟩
theorem Ak{lo:Int}{n:Nat}{g:TG}{tb:TS}{D:Ends}{σ:St}{H:Hp}(Pv:Nat->St->Hp->Prop)(h0:Pv 0 σ H)
  (hs:∀ i σ H,i<n->Pv i σ H->g (.int (lo+i)) σ H fun σ2 H2=>tb { D with nx:=Pv (i+1),ct:=Pv (i+1),bk:=D.nx } σ2 H2) (hd:∀ σ H,Pv n σ H->D.nx σ H):
  ∃ W:Nat->Nat->St->Hp->Prop,(∃ m,W 0 m σ H)/\∀ i m σ H,W i m σ H ->
   ((Itr lo n).stop i H/\D.nx σ H)\/((Itr lo n).go i H/\∃ N:St->Hp->Prop,(∀ σ' H',N σ' H'->∃ m',m'<m/\W (i+1) m' σ' H')/\∀ x H',(Itr lo n).yld i H x H'->g x σ H' fun σ2 H2=>tb { D with nx:=N,ct:=N,bk:=D.nx } σ2 H2):=by
 refine⟨fun i m σ H=>m=n - i/\i<=n/\Pv i σ H,⟨n,by simp,qnz _,h0⟩,?_⟩;rintro i m σ H ⟨rfl,hi,p⟩
 by_cases hlt:i<n
 . refine .inr ⟨hlt,Pv (i+1),fun σ' H' p'=>⟨n - (i+1),by omega,rfl,hlt,p'⟩,fun x H' y=>?_⟩
   obtain⟨e,y⟩:=y;subst e y;exact hs i σ _ hlt p
 . have e:i=n:=by omega
   subst e;exact .inl ⟨qnr _,hd σ H p⟩
end L2
namespace L2
open PySem PySem.Spec PyProof.Rows
abbrev R2:=V->V->Hp->VK->Prop
def OpR(X:Cx)(f:Value->Value->Sem Value)(r:R2):Prop :=
 ∀(pins:List (Addr×Obj))(s:Shared)(σ:St)(H:Hp)(x y:V)(v u:Value)(Q:VK),Inv X pins σ H s->RelV x v->RelV y u->r x y H Q ->
  wpAny (model X.prog X.w) X.A (f v u) (EP X pins σ Q) X.xe s
def UnR(X:Cx)(f:Value->Sem Value)(r:V->Hp->VK->Prop):Prop :=
 ∀(pins:List (Addr×Obj))(s:Shared)(σ:St)(H:Hp)(x:V)(v:Value)(Q:VK),Inv X pins σ H s->RelV x v->r x H Q ->
  wpAny (model X.prog X.w) X.A (f v) (EP X pins σ Q) X.xe s
def dC(X:Cx)(f:Value)(r:List V->Hp->VK->Prop):Prop :=
 ∀(pins:List (Addr×Obj))(s:Shared)(σ:St)(H:Hp)(xs:List V)(us:List Value)(Q:VK),Inv X pins σ H s->Vals xs us->r xs H Q ->
  wpAny (model X.prog X.w) X.A (call f us) (EP X pins σ Q) X.xe s
def M3(X:Cx)(r:V->Hp->(Bool->Hp->Prop)->Prop):Prop :=
 ∀(pins:List (Addr×Obj))(s:Shared)(σ:St)(H:Hp)(x:V)(v:Value)(Q:Bool->Hp->Prop),Inv X pins σ H s->RelV x v->r x H Q ->
  wpAny (model X.prog X.w) X.A (truthy v) (TP X pins σ Q) X.xe s
def tOp(r:R2)(ta tb:TE):TE:=fun σ H Q=>ta σ H fun x H1=>tb σ H1 fun y H2=>r x y H2 Q
def tUn(r:V->Hp->VK->Prop)(ta:TE):TE:=fun σ H Q=>ta σ H fun x H1=>r x H1 Q
inductive rI(C:Int->Int->Prop)(g:Int->Int->V)(x:V)(y:V)(H:Hp)(Q:VK):Prop
 |mk (i j) (_:x = .int i) (_:y = .int j) (_:C i j) (_:Q (g i j) H)
inductive rI0(g:Int->Int->V)(x:V)(y:V)(H:Hp)(Q:VK):Prop
 |mk (i j) (_:x = .int i) (_:y = .int j) (_:Q (g i j) H)
def rU(g:Int->V):V->Hp->VK->Prop:=fun x H Q=>∃ i,x = .int i/\Q (g i) H
section
variable{X:Cx}{a b c:Expr}{ta tb tc:TE}{pos:Pos}
theorem DR(ha:PE X a ta)(hb:PE X b tb){pins:List (Addr×Obj)}{s:Shared}{σ:St}{H:Hp}{R:V->V->Hp->Prop}(I:Inv X pins σ H s)
  (h:ta σ H fun x H1=>tb σ H1 fun y H2=>R x y H2) {Q:Value->Shared->Prop} {f:Value->Value->Sem Value}
  (hf:∀ v u s2 x y H2,Inv X pins σ H2 s2->RelV x v->RelV y u->R x y H2->wpAny (model X.prog X.w) X.A (f v u) Q X.xe s2):
  wpAny (model X.prog X.w) X.A (eval a X.env) (fun v s₁=>wpAny (model X.prog X.w) X.A (eval b X.env) (fun u s₂=>wpAny (model X.prog X.w) X.A (f v u) Q X.xe s₂) X.xe s₁) X.xe s:=by
 refine thn (ha pins s σ H _ I h) fun v s1 ⟨x,H1,I1,r1,q1⟩=>?_
 refine thn (hb pins s1 σ H1 _ I1 q1) fun u s2 ⟨y,H2,I2,r2,q2⟩=>?_
 exact hf v u s2 x y H2 I2 r1 r2 q2
theorem aF{op:Operator}{r:R2}(ho:OpR X (binaryOp op) r)(ha:PE X a ta)(hb:PE X b tb):PE X (.BinOp a op b pos) (tOp r ta tb):=by
 intro pins s σ H Q I h;exact wpAny_BinOp (DR ha hb I h fun v u s2 x y H2 I2 rx ry q=>ho pins s2 σ H2 x y v u Q I2 rx ry q)
theorem lH{op:UnaryOp}{r:V->Hp->VK->Prop}(ho:UnR X (unaryOp op) r)(ha:PE X a ta):PE X (.UnaryOp op a pos) (tUn r ta):=by
 intro pins s σ H Q I h;exact UnaryOp_ (thn (ha pins s σ H _ I h) fun v s1 ⟨x,H1,I1,r1,q1⟩=>ho pins s1 σ H1 x v Q I1 r1 q1)
theorem opI{f:Value->Value->Sem Value}{C:Int->Int->Prop}{g:Int->Int->Int}
  (rule:∀(i j:Int)(t u:Tok)(s:Shared)(Q:Value->Shared->Prop)(E:Value->Shared->Prop),C i j->Q (.int (g i j) s.toks) { s with toks:=s.toks+1 }->wpAny (model X.prog X.w) X.A (f (.int i t) (.int j u)) Q E s):
  OpR X f (rI C fun i j=>.int (g i j)):=by
 intro pins s σ H x y v u Q I rx ry h;obtain⟨i,j,rfl,rfl,hc,q⟩:=h;obtain⟨t,rfl⟩:=rx;obtain⟨t',rfl⟩:=ry;exact rule i j t t' s _ _ hc ⟨.int (g i j),H,I.tok _,⟨_,rfl⟩,q⟩
theorem uv{f:Value->Value->Sem Value}{g:Int->Int->Int}
  (rule:∀(i j:Int)(t u:Tok)(s:Shared)(Q:Value->Shared->Prop)(E:Value->Shared->Prop),Q (.int (g i j) s.toks) { s with toks:=s.toks+1 }->wpAny (model X.prog X.w) X.A (f (.int i t) (.int j u)) Q E s):
  OpR X f (rI0 fun i j=>.int (g i j)):=by
 intro pins s σ H x y v u Q I rx ry h;obtain⟨i,j,rfl,rfl,q⟩:=h;obtain⟨t,rfl⟩:=rx;obtain⟨t',rfl⟩:=ry;exact rule i j t t' s _ _ ⟨.int (g i j),H,I.tok _,⟨_,rfl⟩,q⟩
theorem DW{f:Value->Value->Sem Value}{g:Int->Int->Bool}
  (rule:∀(i j:Int)(t u:Tok)(s:Shared)(Q:Value->Shared->Prop)(E:Value->Shared->Prop),Q (.bool (g i j)) s->wpAny (model X.prog X.w) X.A (f (.int i t) (.int j u)) Q E s):
  OpR X f (rI0 fun i j=>.bl (g i j)):=by
 intro pins s σ H x y v u Q I rx ry h;obtain⟨i,j,rfl,rfl,q⟩:=h;obtain⟨t,rfl⟩:=rx;obtain⟨t',rfl⟩:=ry;exact rule i j t t' s _ _ ⟨.bl (g i j),H,I,rfl,q⟩
def M4(i j:Int):Prop:=0<j/\j<1073741824
def mR(i j:Int):Prop:=0<=j/\j<=1000000/\i.natAbs<2 ^ 64
def CMul(i j:Int):Prop:=(-(2 ^ 64)<i/\i<2 ^ 64)\/(-(2 ^ 64)<j/\j<2 ^ 64)
theorem CMul.ok{i j:Int}(h:CMul i j):IntMulOk i j:=by
 rcases h with⟨h1,h2⟩|⟨h1,h2⟩
 . exact .of_left (intBits_le_64 h1 h2)
 . exact .of_right (intBits_le_64 h1 h2)
theorem xQ(k:Nat):(0:Int)<=2 ^ k:=by
 rw[two_pow_cast];exact Int.natCast_nonneg _
theorem cW:OpR X (binaryOp .Add) (rI0 fun i j=>.int (i+j)):=uv fun _ _ _ _ _ _ _ q=>add_int q
theorem cP:OpR X (binaryOp .Sub) (rI0 fun i j=>.int (i - j)):=uv fun _ _ _ _ _ _ _ q=>sub_int q
theorem fZ:OpR X (binaryOp .Mult) (rI CMul fun i j=>.int (i * j)):=opI fun _ _ _ _ _ _ _ hc q=>mul_int q hc.ok
theorem fM:OpR X (binaryOp .FloorDiv) (rI M4 fun i j=>.int (i / j)):=opI fun i j _ _ _ _ _ hc q=>by
 have h1:(0:Int)<j:=hc.1;have h2:j<1073741824:=hc.2;exact floordiv_int (by omega) (by rw[Int.fdiv_eq_ediv_of_nonneg i (by omega)];exact q) (.inl (PyProof.noPylong_small (by omega)))
theorem bU:OpR X (binaryOp .Mod) (rI (fun _ j=>0<j) fun i j=>.int (i % j)):=opI fun i j _ _ _ _ _ hc q=>by
 have h1:(0:Int)<j:=hc;exact mod_int' (by omega) (by rw[Int.fmod_eq_emod_of_nonneg i (by omega)];exact q)
theorem uw:OpR X (binaryOp .Pow) (rI mR fun i j=>.int (i ^ j.toNat)):=opI fun _ _ _ _ _ _ _ hc q=>pow_int_small hc.1 hc.2.1 hc.2.2 q
theorem gb:OpR X (binaryOp .LShift) (rI mR fun i j=>.int (i * 2 ^ j.toNat)):=opI fun _ _ _ _ _ _ _ hc q=>lshift_int_small hc.1 hc.2.1 hc.2.2 q
theorem ux:OpR X (binaryOp .RShift) (rI (fun _ j=>0<=j) fun i j=>.int (i / 2 ^ j.toNat)):=opI fun i j _ _ _ _ _ hc q =>
 rshift_int hc (by rw[Int.fdiv_eq_ediv_of_nonneg i (xQ _)];exact q)
theorem gn:OpR X (binaryOp .BitAnd) (rI0 fun i j=>.int (Builtin.bitAnd i j)):=uv fun _ _ _ _ _ _ _ q=>and_int q
theorem lJ:OpR X (binaryOp .BitOr) (rI0 fun i j=>.int (Builtin.bitOr i j)):=uv fun _ _ _ _ _ _ _ q=>or_int q
theorem kW:OpR X (binaryOp .BitXor) (rI0 fun i j=>.int (Builtin.bitXor i j)):=uv fun _ _ _ _ _ _ _ q=>xor_int q
theorem unI{f:Value->Sem Value}{g:Int->Int}
  (rule:∀(i:Int)(t:Tok)(s:Shared)(Q:Value->Shared->Prop)(E:Value->Shared->Prop),Q (.int (g i) s.toks) { s with toks:=s.toks+1 }->wpAny (model X.prog X.w) X.A (f (.int i t)) Q E s):
  UnR X f (rU fun i=>.int (g i)):=by
 intro pins s σ H x v Q I rx h;obtain⟨i,rfl,q⟩:=h;obtain⟨t,rfl⟩:=rx;exact rule i t s _ _ ⟨.int (g i),H,I.tok _,⟨_,rfl⟩,q⟩
theorem jx:UnR X (unaryOp .USub) (rU fun i=>.int (-i)):=unI fun _ _ _ _ _ q=>neg_int q
end
def J4:V->V->Bool
 | .non,.non=>true | .non,.int _=>true | .int _,.non=>true | .non,.bl _=>true | .bl _,.non=>true | .non,.str _=>true | .str _,.non=>true
 | .int _,.int _=>true | .bl _,.bl _=>true | .str _,.str _=>true | .byt _,.byt _=>true
 | .int _,.str _=>true | .str _,.int _=>true | .bl _,.str _=>true | .str _,.bl _=>true
 |_,_=>false
def rEq:R2:=fun x y H Q=>J4 x y=true/\Q (.bl (decide (x=y))) H
def rNe:R2:=fun x y H Q=>J4 x y=true/\Q (.bl (!decide (x=y))) H
theorem wH{i j:Int}:decide (V.int i=V.int j)=(i == j):=by
 rw[Bool.eq_iff_iff];simp
theorem Al{i j:Bool}:decide (V.bl i=V.bl j)=(i == j):=by
 rw[Bool.eq_iff_iff];simp
theorem wI{i j:Str}:decide (V.str i=V.str j)=(i == j):=by
 rw[Bool.eq_iff_iff];simp
theorem wJ{i j:Array UInt8}:decide (V.byt i=V.byt j)=(i.toList == j.toList):=by
 rw[Bool.eq_iff_iff];cases i;cases j;simp
section
variable{X:Cx}{a b c:Expr}{ta tb tc:TE}{pos:Pos}
theorem bB{pins:List (Addr×Obj)}{σ:St}{H:Hp}{s:Shared}{Q:VK}{k k':Bool}(I:Inv X pins σ H s)(q:Q (.bl k) H)(e:k=k'):EP X pins σ Q (.bool k') s:=by
 subst e;exact⟨.bl k,H,I,rfl,q⟩
theorem aW:OpR X (compareOp .Eq) rEq:=by
 intro pins s σ H x y v u Q I rx ry h;obtain⟨hs,q⟩:=h;cases x with
 | non =>
  cases rx;cases y with
  |non=>cases ry;exact PySem.EqNone.eq_none_none (bB I q (by simp))
  |bl j=>cases ry;exact PySem.EqNone.eq_none_bool (bB I q (by simp))
  |int j=>obtain⟨t',rfl⟩:=ry;exact PySem.EqNone.eq_none_int (bB I q (by simp))
  |str j=>obtain⟨t',rfl⟩:=ry;exact PySem.EqNone.eq_none_str (bB I q (by simp))
  |_=>exact absurd (show false=true from hs) qbf
 | bl i =>
  cases rx;cases y with
  |non=>cases ry;exact PySem.EqNone.eq_bool_none (bB I q (by simp))
  |bl j=>cases ry;exact eq_bool (bB I q Al)
  |str j=>obtain⟨t',rfl⟩:=ry;exact PySem.EqMixed.eq_bool_str (bB I q (by simp))
  |_=>exact absurd (show false=true from hs) qbf
 | int i =>
  obtain⟨t,rfl⟩:=rx;cases y with
  |non=>cases ry;exact PySem.EqNone.eq_int_none (bB I q (by simp))
  |int j=>obtain⟨t',rfl⟩:=ry;exact eq_int (bB I q wH)
  |str j=>obtain⟨t',rfl⟩:=ry;exact PySem.EqMixed.eq_int_str (bB I q (by simp))
  |_=>exact absurd (show false=true from hs) qbf
 | str i =>
  obtain⟨t,rfl⟩:=rx;cases y with
  |non=>cases ry;exact PySem.EqNone.eq_str_none (bB I q (by simp))
  |bl j=>cases ry;exact PySem.EqMixed.eq_str_bool (bB I q (by simp))
  |int j=>obtain⟨t',rfl⟩:=ry;exact PySem.EqMixed.eq_str_int (bB I q (by simp))
  |str j=>obtain⟨t',rfl⟩:=ry;exact eq_str (bB I q wI)
  |_=>exact absurd (show false=true from hs) qbf
 | byt i =>
  obtain⟨t,rfl⟩:=rx;cases y with
  |byt j=>obtain⟨t',rfl⟩:=ry;exact W.eq_bytes (bB I q wJ)
  |_=>exact absurd (show false=true from hs) qbf
 |_=>cases y <;> exact absurd (show false=true from hs) qbf
theorem gh:OpR X (compareOp .NotEq) rNe:=by
 intro pins s σ H x y v u Q I rx ry h;obtain⟨hs,q⟩:=h;cases x with
 | non =>
  cases rx;cases y with
  |non=>cases ry;exact PySem.EqNone.ne_none_none (bB I q (by simp))
  |bl j=>cases ry;exact PySem.EqNone.ne_none_bool (bB I q (by simp))
  |int j=>obtain⟨t',rfl⟩:=ry;exact PySem.EqNone.ne_none_int (bB I q (by simp))
  |str j=>obtain⟨t',rfl⟩:=ry;exact PySem.EqNone.ne_none_str (bB I q (by simp))
  |_=>exact absurd (show false=true from hs) qbf
 | bl i =>
  cases rx;cases y with
  |non=>cases ry;exact PySem.EqNone.ne_bool_none (bB I q (by simp))
  |bl j=>cases ry;exact ne_bool (bB I q (congrArg not Al))
  |str j=>obtain⟨t',rfl⟩:=ry;exact PySem.EqMixed.ne_bool_str (bB I q (by simp))
  |_=>exact absurd (show false=true from hs) qbf
 | int i =>
  obtain⟨t,rfl⟩:=rx;cases y with
  |non=>cases ry;exact PySem.EqNone.ne_int_none (bB I q (by simp))
  |int j=>obtain⟨t',rfl⟩:=ry;exact ne_int (bB I q (congrArg not wH))
  |str j=>obtain⟨t',rfl⟩:=ry;exact PySem.EqMixed.ne_int_str (bB I q (by simp))
  |_=>exact absurd (show false=true from hs) qbf
 | str i =>
  obtain⟨t,rfl⟩:=rx;cases y with
  |non=>cases ry;exact PySem.EqNone.ne_str_none (bB I q (by simp))
  |bl j=>cases ry;exact PySem.EqMixed.ne_str_bool (bB I q (by simp))
  |int j=>obtain⟨t',rfl⟩:=ry;exact PySem.EqMixed.ne_str_int (bB I q (by simp))
  |str j=>obtain⟨t',rfl⟩:=ry;exact ne_str (bB I q (congrArg not wI))
  |_=>exact absurd (show false=true from hs) qbf
 | byt i =>
  obtain⟨t,rfl⟩:=rx;cases y with
  |byt j=>obtain⟨t',rfl⟩:=ry;exact W.ne_bytes (bB I q (congrArg not wJ))
  |_=>exact absurd (show false=true from hs) qbf
 |_=>cases y <;> exact absurd (show false=true from hs) qbf
theorem nW:OpR X (compareOp .Lt) (rI0 fun i j=>.bl (decide (i<j))):=DW fun _ _ _ _ _ _ _ q=>lt_int q
theorem nY:OpR X (compareOp .LtE) (rI0 fun i j=>.bl (decide (i<=j))):=DW fun _ _ _ _ _ _ _ q=>le_int q
theorem nZ:OpR X (compareOp .Gt) (rI0 fun i j=>.bl (decide (j<i))):=DW fun _ _ _ _ _ _ _ q=>gt_int q
theorem gq:OpR X (compareOp .Is) (fun x y H Q=>y = .non /\ Q (.bl (decide (x = .non))) H):=by
 intro pins s σ H x y v u Q I rx ry h;obtain⟨rfl,q⟩:=h;cases ry;refine is_none_gen (bB I q ?_)
 cases x <;> first
  |(cases rx;rfl)
  |(obtain⟨t,rfl⟩:=rx;rfl)
theorem Ig:OpR X (compareOp .IsNot) (fun x y H Q=>y = .non /\ Q (.bl (!decide (x = .non))) H):=by
 intro pins s σ H x y v u Q I rx ry h;obtain⟨rfl,q⟩:=h;cases ry;refine isnot_none_gen (bB I q ?_)
 cases x <;> first
  |(cases rx;rfl)
  |(obtain⟨t,rfl⟩:=rx;rfl)
theorem aJ(b:Expr){op:CmpOp}(h:op≠.In:=by decide)(h2:op≠.NotIn:=by decide):behindInMarks op b=false:=by
 have e1:(op == CmpOp.In)=false:=by cases op <;> first|rfl|exact absurd rfl h
 have e2:(op == CmpOp.NotIn)=false:=by cases op <;> first|rfl|exact absurd rfl h2
 cases b <;> simp[behindInMarks,e1,e2]
theorem dY{op:CmpOp}{r:R2}(ho:OpR X (compareOp op) r)(ha:PE X a ta)(hb:PE X b tb)(hm:behindInMarks op b=false):PE X (.Compare a [op] [b] pos) (tOp r ta tb):=by
 intro pins s σ H Q I h;exact wpAny_Compare1 (DR ha hb I h fun v u s2 x y H2 I2 rx ry q=>ho pins s2 σ H2 x y v u Q I2 rx ry q) hm
def Hl(t:TE):TT:=fun σ H Q=>t σ H fun x H'=>iB Q x H'
theorem aG{op:CmpOp}{r:R2}(ho:OpR X (compareOp op) r)(ha:PE X a ta)(hb:PE X b tb)(hm:behindInMarks op b=false):PT X (.Compare a [op] [b] pos) (Hl (tOp r ta tb)):=by
 intro pins s σ H Q I h
 refine wpAny_isTrue_Compare1 (thn (ha pins s σ H _ I h) fun v s1 ⟨x,H1,I1,r1,q1⟩=>thn (hb pins s1 σ H1 _ I1 q1) fun u s2 ⟨y,H2,I2,r2,q2⟩ =>
  thn (ho pins s2 σ H2 x y v u _ I2 r1 r2 q2) fun c s3 ⟨z,H3,I3,r3,k,e,q3⟩=>?_) hm
 subst e;cases r3;exact wpAny_truthy_bool ⟨H3,I3,q3⟩
def Am(r r':R2)(ta tb tc:TE):TE:=fun σ H Q=>ta σ H fun x H1=>tb σ H1 fun y H2=>r x y H2 fun z H3=>∃ k,z = .bl k /\
 (if k=true then tc σ H3 fun w' H4=>r' y w' H4 Q else Q (.bl false) H3)
theorem pq{op op':CmpOp}{r r':R2}(ho:OpR X (compareOp op) r)(ho':OpR X (compareOp op') r')(ha:PE X a ta)(hb:PE X b tb)(hc:PE X c tc)
  (hm:lastMarks [op,op'] [b,c]=false:=by with_unfolding_all rfl):PE X (.Compare a [op,op'] [b,c] pos) (Am r r' ta tb tc):=by
 intro pins s σ H Q I h
 refine Compare_chain (thn (ha pins s σ H _ I h) fun v s1 ⟨x,H1,I1,r1,q1⟩=>chain_link (thn (hb pins s1 σ H1 _ I1 q1) fun u s2 ⟨y,H2,I2,r2,q2⟩ =>
  thn (ho pins s2 σ H2 x y v u _ I2 r1 r2 q2) fun d s3 ⟨z,H3,I3,r3,k,e,q3⟩=>?_)) hm
 subst e;cases r3;refine wpAny_truthy_bool ?_;cases k with
 |false=>exact ite_ff ⟨.bl false,H3,I3,rfl,q3⟩
 |true=>exact ite_tt (chain_last (thn (hc pins s3 σ H3 _ I3 q3) fun w' s4 ⟨z',H4,I4,r4,q4⟩=>ho' pins s4 σ H4 y z' u w' Q I4 r2 r4 q4))
theorem uy{op op':CmpOp}{r r':R2}(ho:OpR X (compareOp op) r)(ho':OpR X (compareOp op') r')(ha:PE X a ta)(hb:PE X b tb)(hc:PE X c tc)
  (hm:lastMarks [op,op'] [b,c]=false:=by with_unfolding_all rfl):PT X (.Compare a [op,op'] [b,c] pos) (Hl (Am r r' ta tb tc)):=by
 intro pins s σ H Q I h
 refine isTrue_chain (thn (ha pins s σ H _ I h) fun v s1 ⟨x,H1,I1,r1,q1⟩=>test_link (thn (hb pins s1 σ H1 _ I1 q1) fun u s2 ⟨y,H2,I2,r2,q2⟩ =>
  thn (ho pins s2 σ H2 x y v u _ I2 r1 r2 q2) fun d s3 ⟨z,H3,I3,r3,k,e,q3⟩=>?_)) hm
 subst e;cases r3;refine wpAny_truthy_bool ?_;cases k with
 | false =>
  obtain⟨k',e',q'⟩:=q3;cases e';exact ite_ff ⟨H3,I3,q'⟩
 | true =>
  refine ite_tt (test_last (thn (hc pins s3 σ H3 _ I3 q3) fun w' s4 ⟨z',H4,I4,r4,q4⟩=>thn (ho' pins s4 σ H4 y z' u w' _ I4 r2 r4 q4) fun d' s5 ⟨z2,H5,I5,r5,k2,e2,q5⟩=>?_));subst e2;cases r5;exact wpAny_truthy_bool ⟨H5,I5,q5⟩
def J5(K:W.Frag)(x:V)(H:Hp)(k:Bool):Prop :=
 match x with
 | .non=>k=false
 | .bl b=>k=b
 | .int i=>k=(i != 0)
 | .str y=>y.length<=sizeLine/\k=((y.length:Int) != 0)
 | .byt y=>y.size<=sizeLine/\k=((y.size:Int) != 0)
 | .ref p=>(∃ xs,SqL K H p xs/\k = !xs.isEmpty)\/(∃ xs,SqT K H p xs/\k = !xs.isEmpty)\/∃ kvs,H p=some (.dK kvs)/\k = !kvs.isEmpty
 |_=>False
theorem xR{κ:Type}{kvs:List (κ×V)}{vs:List (κ×Value)}(r:KV kvs vs):(!vs.isEmpty) = !kvs.isEmpty:=by
 cases r <;> rfl
theorem qb{xs:List V}{its:List Value}(r:Vals xs its):(!its.toArray.isEmpty) = !xs.isEmpty:=by
 cases r <;> simp
theorem kY:(sizeLine:Nat)<2 ^ 63:=by rw[sizeLine_eq];decide
theorem J6:M3 X (fun x H Q=>∃ k,J5 X.K x H k/\Q k H):=by
 intro pins s σ H x v Q I rx h;obtain⟨k,e,q⟩:=h;have hl:=kY;have hs:sizeLine=16777216:=sizeLine_eq;cases x with
 | non =>
  cases rx;have e':k=false:=e;subst e';exact truthy_none ⟨H,I,q⟩
 | bl b =>
  cases rx;have e':k=b:=e;subst e';exact wpAny_truthy_bool ⟨H,I,q⟩
 | int i =>
  obtain⟨t,rfl⟩:=rx;have e':k=(i != 0):=e;subst e';exact PySem.P.truthy_int ⟨H,I,q⟩
 | str y =>
  obtain⟨t,rfl⟩:=rx;obtain⟨hy,e'⟩:y.length<=sizeLine/\k=((y.length:Int) != 0):=e;subst e';exact PySem.P.truthy_str (by omega) ⟨H,I.tok _,q⟩
 | byt y =>
  obtain⟨t,rfl⟩:=rx;obtain⟨hy,e'⟩:y.size<=sizeLine/\k=((y.size:Int) != 0):=e;subst e';exact W.truthy_bytes (by omega) ⟨H,I.tok _,q⟩
 | ref p =>
  cases rx;have e':(∃ xs,SqL X.K H p xs/\k = !xs.isEmpty)\/(∃ xs,SqT X.K H p xs/\k = !xs.isEmpty)\/∃ kvs,H p=some (.dK kvs)/\k = !kvs.isEmpty:=e;rcases e' with⟨xs,hx,e'⟩|⟨xs,hx,e'⟩|⟨kvs,hx,e'⟩
  . subst e'
    obtain⟨its,r,pl,hz⟩:=I.list hx;have hlen:=r.length;exact wpAny_truthy_list pl.isList (by simp only[List.size_toArray];omega) ⟨H,I.tok _,by rw[qb r];exact q⟩
  . subst e'
    obtain⟨its,r,pl,hz⟩:=I.tuple hx;have hlen:=r.length;exact truthy_tuple pl (by simp only[List.size_toArray];omega) ⟨H,I.tok _,by rw[qb r];exact q⟩
  . subst e'
    obtain⟨hz,hS,vs,r,m⟩:kvs.length<=sizeLine/\(p == sysModules)=false/\∃ vs,KV kvs vs/\s.heap.DictOf (bI X.prog X.w) p vs:=I.hok p _ hx;have hlen:kvs.length=vs.length:=Paired.length r;exact wpAny_truthy_dict hS m (by omega) ⟨H,I.tok _,by rw[xR r];exact q⟩
 |_=>exact(show False from e).elim
theorem gB(ha:PE X a ta)(he:∀ whole,isTrue a X.env whole=(do let v <- whole;standAt a.pos;holding [v] (truthy v))):
  PT X a (fun σ H Q=>ta σ H fun x H'=>∃ k,J5 X.K x H' k/\Q k H'):=by
 intro pins s σ H Q I h;exact isTrue_plain (thn (ha pins s σ H _ I h) fun v s1 ⟨x,H1,I1,r1,q1⟩=>J6 pins s1 σ H1 x v Q I1 r1 q1) (he _)
theorem bA:OpR X (binaryOp .Add) (fun x y H Q=>∃ i j,x = .str i/\y = .str j/\i.length+j.length<=sizeLine/\Q (.str (i++j)) H):=by
 intro pins s σ H x y v u Q I rx ry h;obtain⟨i,j,rfl,rfl,hz,q⟩:=h;obtain⟨t,rfl⟩:=rx;obtain⟨t',rfl⟩:=ry;exact add_str (fun t' tk=>⟨.str (i++j),H,I.tok _,⟨_,rfl⟩,q⟩) hz
theorem vX:OpR X (inplaceOp .Add) (fun x y H Q=>∃ i j,x = .str i/\y = .str j/\i.length+j.length<=sizeLine/\Q (.str (i++j)) H):=by
 intro pins s σ H x y v u Q I rx ry h;obtain⟨i,j,rfl,rfl,hz,q⟩:=h;obtain⟨t,rfl⟩:=rx;obtain⟨t',rfl⟩:=ry;exact iadd_str (fun t' tk=>⟨.str (i++j),H,I.tok _,⟨_,rfl⟩,q⟩) hz
theorem vals1{x:V}{us:List Value}(r:Vals [x] us):∃ u,us=[u]/\RelV x u:=by
 cases r with
 |cons r1 r2=>cases r2;exact⟨_,rfl,r1⟩
theorem vals2{x y:V}{us:List Value}(r:Vals [x,y] us):∃ u w',us=[u,w']/\RelV x u/\RelV y w':=by
 cases r with
 | cons r1 r2 =>
  cases r2 with
  |cons r3 r4=>cases r4;exact⟨_,_,rfl,r1,r3⟩
theorem jO(hc:X.calm=true):dC X (.builtin "max") (fun xs H Q=>∃ i j,xs=[.int i,.int j]/\Q (.int (if j > i then j else i)) H):=by
 intro pins s σ H xs us Q I r h;obtain⟨i,j,rfl,q⟩:=h;obtain⟨u,w',rfl,⟨t,rfl⟩,⟨t',rfl⟩⟩:=vals2 r;refine max_two_ints (I.ok.hd hc) fun h' tk k=>⟨_,H,I.kept k,?_,q⟩
 by_cases hj:j > i
 . rw[qp hj,qp hj];exact⟨_,rfl⟩
 . rw[qnZ hj,qnZ hj];exact⟨_,rfl⟩
theorem rO:dC X (.type "int") (fun xs H Q=>(∃ i,xs=[.int i]/\Q (.int i) H)\/∃ k,xs=[.bl k]/\Q (.int (if k then 1 else 0)) H):=by
 intro pins s σ H xs us Q I r h;rcases h with⟨i,rfl,q⟩|⟨k,rfl,q⟩
 . obtain⟨u,rfl,t,rfl⟩:=vals1 r
   exact call_int_int ⟨.int i,H,I,⟨_,rfl⟩,q⟩
 . obtain⟨u,rfl,r1⟩:=vals1 r
   cases r1;exact call_int_bool ⟨.int (if k then 1 else 0),H,I.tok _,⟨_,rfl⟩,q⟩
end
end L2
namespace L2
open PySem PySem.Spec PyProof.Rows
structure ObjM(h:Heap)(x dx C:Addr)(mA:Str->Option Value):Prop where
 obj:h.get? x=some (W.instObj C dx)
 ns:h.Ns1 dx mA
 ne:dx≠x
theorem An{h:Heap}{dx:Addr}{mA:Str->Option Value}(n:h.Ns1 dx mA):∃ od,h.get? dx=some od/\∀ name,W.lookIn name od=some (mA name):=by
 obtain⟨o,es,ep,ho,hd,hk,_,hm⟩:=n;refine⟨o,ho,fun name=>?_⟩;have e:=hm name;unfold nsFind findBy at e;rw[<- Array.find?_toList]at e;unfold W.lookIn;rw[hd];dsimp only
 split
 . rename_i y q
   rw[q]at e;exact congrArg some e
 . rename_i q
   rw[q]at e
   have a:es.toList.any (·.refKey)=false:=by
    rw[List.any_eq_false];intro y hy;obtain⟨z,t,hkey⟩:=hk y (Array.mem_toList_iff.mp hy);simp[DictEntry.refKey,hkey]
   have a':¬ es.toList.any (·.refKey)=true:=by rw[a];exact qbf
   rw[qnZ a'];exact congrArg some e
theorem ObjM.look{h:Heap}{x dx C:Addr}{mA:Str->Option Value}(I:ObjM h x dx C mA):∃ od,W.InstAt h x (W.instObj C dx) C (some od)/\∀ name,W.lookIn name od=some (mA name):=
 let ⟨od,ho,hl⟩:=An I.ns
 ⟨od,⟨I.obj,rfl,rfl,ho⟩,hl⟩
section
variable{prog:Program}{w:World}{A:Around}{E:Value->Shared->Prop}{s:Shared}{K:W.Frag}{x dx C f:Addr}{mA:Str->Option Value}{name:Str}{v:Value}
theorem Ih{expr:Bool}{Q:Value->Shared->Prop}(X:K.In s.heap)(I:ObjM s.heap x dx C mA)(hg:W.plainGet K C name=true)(hh:W.hasDictIn K C=true)
  (ha:W.findIn K (.ref C) name=some none) (hv:mA name=some v) (hv':W.handedIn v=true) (h:Q v { s with toks:=s.toks+1 }):
  wpAny (model prog w) A (getAttr (.ref x) name expr) Q E s:=by
 obtain⟨od,J,hl⟩:=I.look;exact W.get_value X J (W.plainGet_of hg).1 (W.findObj_own hh ha rfl (by rw[hl,hv])) hv' h
theorem DX{pl:Sem Bool}{Q:Value×List Value->Shared->Prop}(X:K.In s.heap)(I:ObjM s.heap x dx C mA)(hg:W.plainGet K C name=true)
  (hf:W.findIn K (.ref C) name=some (some (.ref f))) (ht:W.isFn K (.ref f)=true) (hv:mA name=none) (h:Q (.ref f,[.ref x]) s):
  wpAny (model prog w) A (getMethod (.ref x) name pl) Q E s:=by
 obtain⟨od,J,hl⟩:=I.look;exact W.method_fn X J (W.plainGet_of hg).1 (W.plainGet_of hg).2 hf (beq_iff_eq.mp ht) (by show(W.lookIn name od).map (·.isSome)=some false;rw[hl,hv];rfl) h
theorem Ii{ns:List Str}{Q:Unit->Shared->Prop}(X:K.In s.heap)(I:ObjM s.heap x dx C mA)
  (hs:W.findIn K (.ref C) "__setattr__"=some (some (.builtin "object.__setattr__"))) (hp:W.plainOver K C=true) (ht:W.takerIn K C name=some none) (hh:W.hasDictIn K C=true)
  (hw:PySem.Within mA ns) (hsz:ns.length<=sizeLine)
  (h:∀ h',ObjM h' x dx C (fun y=>if y=name then some v else mA y)->Heap.SameBut dx s.heap h'->Q () { s with heap:=h',toks:=s.toks+2 }):
  wpAny (model prog w) A (setAttr (.ref x) name v) Q E s:=by
 obtain⟨od,J,hl⟩:=I.look;refine W.set_plain X J hs (W.osa_open (s:={ s with toks:=s.toks+1 }) (r:=none) X J hp ht fun b=>?_);obtain⟨cd,hc,hd'⟩:=W.any_some hh;have hx:s.heap.get? x=some ⟨.ref C,some dx,.plain,#[]⟩:=I.obj;refine wpAny_bind (wpAny_pure (wpAny_bind (wpAny_bind (wpAny_loadPart hx (wpAny_bind (W.Looks.here (s:={ s with toks:=s.toks+1 }) (W.looks_clsIn X hc) ?_))))));rw[hd'];refine wpAny_pure (a:=some dx) (wpAny_bind (wpAny_pure (wpAny_bind ?_)));refine wpAny_nsSet1 (s:={ s with toks:=s.toks+1 }) I.ns fun h' hn2 hs2=>?_
 obtain⟨oD,esD,epD,hoD,hdD,hcD⟩:=hn2.count (PySem.Within.cons name v hw);refine wpAny_bind (wpAny_lookBehind hoD (by rw[hdD];exact pastItsLine_dict (qnt hcD (by rw[List.length_cons];omega))) ?_);exact wpAny_pure (h _ ⟨(hs2.2 _ (Ne.symm I.ne)).trans I.obj,hn2,I.ne⟩ hs2)
theorem DY{R:Result->Shared->Prop}{vs:List Value}{kw:List (Str×Value)}(X:K.In s.heap)(hm:W.makesIn K C=true)
  (hi:W.findIn K (.ref C) "__init__"=some (some (.ref f))) (hf:W.typeIn K (.ref f)=some (.type "function"))
  (h:codeAny (model prog w) (A.under (.builtin "type.__call__" ⟨.ref C::vs,kw⟩)) (.call (.ref f) ⟨.ref (s.heap.objs.size+1):: vs,kw⟩) (W.InitBack (s.heap.objs.size+1) R)
   { s with heap:=(s.heap.push W.emptyDict).push (W.instObj C s.heap.objs.size) }):
  codeAny (model prog w) A (.call (.ref C) ⟨vs,kw⟩) R s:=by
 obtain⟨hh,g,d,t,os⟩:=s;exact W.make_core (W.makes_of X hm) (W.looks_findIn X hi) (fun self=>W.bind_fn X self hf) (.inl rfl) h
end
def bc(f:Str)(v:V):List (Str×V)->List (Str×V)
 |[]=>[(f,v)]
 |(g,x):: r=>if g=f then(g,v):: r else(g,x):: bc f v r
theorem bu(f g:Str)(v:V):∀ fs:List (Str×V),(bc f v fs).lookup g=if g=f then some v else fs.lookup g
 | []=>by
  show List.lookup g [(f,v)]=_
  by_cases h:g=f
  . have hb:(g == f)=true:=beq_iff_eq.mpr h
    simp only[List.lookup,hb,qp h]
  . have hb:(g == f)=false:=beq_eq_false_iff_ne.mpr h
    simp only[List.lookup,hb,qnZ h]
 | (k, x):: r=>by
  have ih:=bu f g v r;rw[show bc f v ((k,x):: r)=(if k=f then(k,v):: r else(k,x):: bc f v r)from rfl]
  by_cases hk:k=f
  . rw[qp hk]
    by_cases h:g=k
    . have hb:(g == k)=true:=beq_iff_eq.mpr h
      simp only[List.lookup,hb,qp (h.trans hk)]
    . have hb:(g == k)=false:=beq_eq_false_iff_ne.mpr h
      simp only[List.lookup,hb,qnZ (fun e:g=f=>h (e.trans hk.symm))]
  . rw[qnZ hk]
    by_cases h:g=k
    . have hb:(g == k)=true:=beq_iff_eq.mpr h
      simp only[List.lookup,hb,qnZ (fun e:g=f=>hk (h.symm.trans e))]
    . have hb:(g == k)=false:=beq_eq_false_iff_ne.mpr h
      simp only[List.lookup,hb];exact ih
theorem mU(f:Str)(v:V):∀ fs:List (Str×V),f∈(bc f v fs).map (·.1)/\∀ g,g∈fs.map (·.1)->g∈(bc f v fs).map (·.1)
 |[]=>⟨by simp[bc],fun g h=>by simp at h⟩
 | (k, x):: r=>by
  obtain⟨i1,i2⟩:=mU f v r;rw[show bc f v ((k,x):: r)=(if k=f then(k,v):: r else(k,x):: bc f v r)from rfl]
  by_cases hk:k=f
  . rw[qp hk]
    subst hk;exact⟨by simp,fun g h=>by simpa using h⟩
  . rw[qnZ hk]
    refine⟨?_,fun g h=>?_⟩
    . rw[List.map_cons]
      exact qmm _ i1
    . rw[List.map_cons]at h ⊢
      rcases List.mem_cons.mp h with e|e
      . exact List.mem_cons.mpr (.inl e)
      . exact qmm _ (i2 g e)
theorem oR(f:Str)(v:V):∀ fs:List (Str×V),(bc f v fs).length <= fs.length+1
 |[]=>by simp[bc]
 | (k,x):: r=>by
  have ih:=oR f v r;rw[show bc f v ((k,x):: r)=(if k=f then(k,v):: r else(k,x):: bc f v r)from rfl]
  by_cases hk:k=f
  . rw[qp hk,List.length_cons,List.length_cons];omega
  . rw[qnZ hk,List.length_cons,List.length_cons];omega
theorem RelO.some_of{v:V}{o:Option Value}(r:RelO (some v) o):∃ u,o=some u/\RelV v u:=by
 cases o with
 |none=>exact(show False from r).elim
 |some u=>exact⟨u,rfl,r⟩
theorem RelO.none_of{o:Option Value}(r:RelO none o):o=none:=by
 cases o with
 |none=>rfl
 |some u=>exact(show False from r).elim
theorem Ao{v:V}{u:Value}(r:RelV v u):W.handedIn u=true:=by
 cases v with
 |non=>cases(show u=Value.none from r);rfl
 |bl b=>cases(show u=Value.bool b from r);rfl
 |int i=>obtain⟨t,e⟩:=(show ∃ t,u=Value.int i t from r);cases e;rfl
 |str x=>obtain⟨t,e⟩:=(show ∃ t,u=Value.str x t from r);cases e;rfl
 |byt b=>obtain⟨t,e⟩:=(show ∃ t,u=Value.bytes b t from r);cases e;rfl
 |flt b=>obtain⟨t,e⟩:=(show ∃ t,u=Value.float b t from r);cases e;rfl
 |ref a=>cases(show u=Value.ref a from r);rfl
 |ty n=>cases(show u=Value.type n from r);rfl
section
variable{P:Program}{w:World}{H H':Hp}{h h':Heap}{a C dx:Addr}{fs fs':List (Str×V)}
theorem oh(hok:HOk P w H h)(e:H a=some (.ins C dx fs)):∃ mA,ObjM h a dx C mA/\(∀ f,RelO (fs.lookup f) (mA f))/\PySem.Within mA (fs.map (·.1))/\fs.length<=1000/\H dx=some (.own a):=by
 obtain⟨d,z,ne,ob,mA,n,r,q⟩:=(show ObjOk P w H h a (.ins C dx fs)from hok a _ e)
 exact⟨mA,⟨ob,n,ne⟩,r,q,z,d⟩
end
structure Cls(K:W.Frag)(C:Addr):Prop where
 pg:W.plainGet K C Str.empty=true
 hd:W.hasDictIn K C=true
 po:W.plainOver K C=true
 sa:W.findIn K (.ref C) "__setattr__"=some (some (.builtin "object.__setattr__"))
theorem Cls.get{K:W.Frag}{C:Addr}(c:Cls K C)(f:Str):W.plainGet K C f=true:=c.pg
def NoAttr(K:W.Frag)(C:Addr)(f:Str):Prop:=W.findIn K (.ref C) f=some none
theorem NoAttr.taker{K:W.Frag}{C:Addr}{f:Str}(n:NoAttr K C f):W.takerIn K C f=some none:=by
 unfold W.takerIn;rw[show W.findIn K (.ref C) f=some none from n]
 rfl
structure Meth(K:W.Frag)(C:Addr)(m:Str)(f:Addr):Prop where
 at_:W.findIn K (.ref C) m=some (some (.ref f))
 fn:W.isFn K (.ref f)=true
 kp:W.keepIn K (.ref f)=true
section
variable{X:Cx}{pins:List (Addr×Obj)}{σ:St}{H:Hp}{s:Shared}{a C dx:Addr}{fs:List (Str×V)}{f:Str}{v:V}{A:Around}{E:Value->Shared->Prop}
theorem xT{b:Bool}{Q:Value->Shared->Prop}(I:Inv X pins σ H s)(e:H a=some (.ins C dx fs))(c:Cls X.K C)(n:NoAttr X.K C f)(l:fs.lookup f=some v)
  (h:∀ u s',Inv X pins σ H s'->RelV v u->Q u s'):wpAny (model X.prog X.w) A (getAttr (.ref a) f b) Q E s:=by
 obtain⟨mA,O,r,_,_,_⟩:=oh I.hok e;obtain⟨u,hu,ru⟩:=RelO.some_of (v:=v) (o:=mA f) (by rw[<- l];exact r f);exact Ih I.kIn O (c.get f) c.hd n hu (Ao ru) (h u _ (I.tok _) ru)
theorem qd{m:Str}{g:Addr}{pl:Sem Bool}{Q:Value×List Value->Shared->Prop}(I:Inv X pins σ H s)(e:H a=some (.ins C dx fs))(c:Cls X.K C)(k:Meth X.K C m g)(l:fs.lookup m=none)
  (h:Q (.ref g,[.ref a]) s):wpAny (model X.prog X.w) A (getMethod (.ref a) m pl) Q E s:=by
 obtain⟨mA,O,r,_,_,_⟩:=oh I.hok e;have hn:mA m=none:=RelO.none_of (by rw[<- l];exact r m);exact DX I.kIn O (c.get m) k.at_ k.fn hn h
theorem xU{y:V}{u:Value}{Q:Unit->Shared->Prop}(I:Inv X pins σ H s)(e:H a=some (.ins C dx fs))(c:Cls X.K C)(n:NoAttr X.K C f)(hl:fs.length<1000)(ry:RelV y u)
  (h:∀ s',Inv X pins σ (upd H a (.ins C dx (bc f y fs))) s'->Q () s'):wpAny (model X.prog X.w) A (setAttr (.ref a) f u) Q E s:=by
 obtain⟨mA,O,r,wi,_,ho⟩:=oh I.hok e;have hz:(fs.map (·.1)).length <= sizeLine:=by rw[qlm,sizeLine_eq];omega
 refine Ii I.kIn O c.sa c.po n.taker c.hd wi hz fun h' O' sb=>h _ ?_
 have hd:∃ o,h'.get? dx=some o:=let ⟨o,_,_,e',_⟩:=O'.ns;⟨o,e'⟩;refine I.write (x:=a) (e:=dx) (by rw[e];exact True.intro) (.inr ho) (fun b q hb z=>(sb.2 b hb).trans z) hd ?_;refine⟨by rw[aC O.ne];exact ho,?_,O.ne,O'.obj,_,O'.ns,fun g=>?_,fun g hg=>?_⟩
 . have:=oR f y fs;omega
 . show RelO ((bc f y fs).lookup g) (if g=f then some u else mA g)
   rw[bu]
   by_cases q:g=f
   . rw[qp q,qp q];exact ry
   . rw[qnZ q,qnZ q];exact r g
 . by_cases q:g=f
   . rw[q];exact(mU f y fs).1
   . refine(mU f y fs).2 g (wi g fun z=>hg ?_)
     show(if g=f then some u else mA g)=none;rw[qnZ q];exact z
theorem Inv.made(I:Inv X pins σ H s):Inv X pins σ (upd (upd H s.heap.objs.size (.own (s.heap.objs.size+1))) (s.heap.objs.size+1) (.ins C s.heap.objs.size []))
  { s with heap:=(s.heap.push W.emptyDict).push (W.instObj C s.heap.objs.size) }:=by
 have e1:(s.heap.push W.emptyDict).get? s.heap.objs.size=some W.emptyDict:=Heap.get?_push_size s.heap rfl
 have e2:((s.heap.push W.emptyDict).push (W.instObj C s.heap.objs.size)).get? (s.heap.objs.size+1)=some (W.instObj C s.heap.objs.size):=by
  have:=Heap.get?_push_size (s.heap.push W.emptyDict) (o:=W.instObj C s.heap.objs.size) rfl
  rwa [Heap.size_push]at this
 have e3:(s.heap.push W.emptyDict).Ns s.heap.objs.size (fun _=>none):=⟨W.emptyDict,#[],_,e1,rfl,(fun e he=>absurd he (by simp)),fun _=>rfl⟩
 have I1:=I.laid (a:=s.heap.objs.size) (o:=.own (s.heap.objs.size+1)) (h':=s.heap.push W.emptyDict) (t':=s.toks) (fun b u q=>Heap.get?_push_of_some _ q) (qnr _) ⟨_,e1⟩;refine I1.laid (a:=s.heap.objs.size+1) (o:=.ins C s.heap.objs.size []) (t':=s.toks) (fun b u q=>Heap.get?_push_of_some _ q) (Nat.le_of_eq (Heap.size_push _ _)) ?_;have ne:s.heap.objs.size≠s.heap.objs.size+1:=Nat.ne_of_lt (Nat.lt_succ_self _);refine⟨by rw[aC ne,au],qnz _,ne,e2,fun _=>none,(Heap.Ns1.of_empty e3).at fun o q=>Heap.get?_push_of_some _ q,fun _=>True.intro,fun y hy=>absurd rfl hy⟩
theorem Ij{prog:Program}{w:World}{env:Env}{e:Expr}{f:Str}{pos:Pos}{s:Shared}{Q:Value->Shared->Prop}(hb:attributeBase e f env (eval e env)=eval e env)
  (h:wpAny (model prog w) A (eval e env) (fun o s₁=>wpAny (model prog w) A (getAttr o f true) Q E s₁) E s):wpAny (model prog w) A (eval (.Attribute e f pos) env) Q E s :=
 Attribute_any_ h (by rw[arm_eval_Attribute,hb])
end
inductive iFld(K:W.Frag)(f:Str)(Q:VK)(x:V)(H:Hp):Prop
 |mk (a C dx:Addr) (fs:List (Str×V)) (v:V) (_:x = .ref a) (_:H a=some (.ins C dx fs)) (_:Cls K C) (_:NoAttr K C f) (_:fs.lookup f=some v) (_:Q v H)
def M5(K:W.Frag)(ta:TE)(f:Str):TE:=fun σ H Q=>ta σ H fun x H1=>iFld K f Q x H1
def M6(K:W.Frag)(ta tv:TE)(f:Str):TS:=fun D σ H=>tv σ H fun y H1=>ta σ H1 fun x H2=>∃ a C dx fs,x = .ref a/\H2 a=some (.ins C dx fs)/\Cls K C/\NoAttr K C f/\fs.length<1000 /\
 D.nx σ (upd H2 a (.ins C dx (bc f y fs)))
section
variable{X:Cx}{o e value:Expr}{f:Str}{pos pos' tpos:Pos}{ta tv:TE}
theorem bK(he:PE X e ta)(hb:attributeBase e f X.env (eval e X.env)=eval e X.env):PE X (.Attribute e f pos) (M5 X.K ta f):=by
 intro pins s σ H Q I h;refine Ij hb (thn (he pins s σ H _ I h) fun u s1 ⟨x,H1,I1,rx,a,C,dx,fs,v,ex,ea,c,n,l,q⟩=>?_);subst ex;obtain rfl:u=Value.ref a:=rx;exact xT I1 ea c n l fun u' s2 I2 ru=>⟨v,H1,I2,ru,q⟩
theorem g8(ha:PE X o ta)(hv:PE X value tv)(hs:swapsWith value (some (.Attribute o f pos')) pos.line X.env=pure false):PS X (.Assign [.Attribute o f pos'] value pos) (M6 X.K ta tv f):=by
 intro pins s σ H D I h;refine plainObj_wpAny_Assign_Attribute (thn (hv pins s σ H _ I h) fun u s1 ⟨y,H1,I1,ry,q⟩=>thn (ha pins s1 σ H1 _ I1 q) fun ov s2 ⟨x,H2,I2,rx,a,C,dx,fs,ex,ea,c,n,l,q2⟩=>?_) hs;subst ex;obtain rfl:ov=Value.ref a:=rx;exact xU I2 ea c n l ry fun s3 I3=>⟨σ,_,I3,q2⟩
end
section
variable{X:Cx}{pins:List (Addr×Obj)}{σ:St}{H:Hp}{s:Shared}{A:Around}{E:Value->Shared->Prop}{Q:Value->Shared->Prop}{c:Value}{b:Bool}
inductive TyOf(K:W.Frag)(H:Hp):V->Value->Prop where
 |non:TyOf K H .non (.type "NoneType")
 |bl (x:Bool):TyOf K H (.bl x) (.type "bool")
 |int (i:Int):TyOf K H (.int i) (.type "int")
 |str (x:Str):TyOf K H (.str x) (.type "str")
 |flt (x:UInt64):TyOf K H (.flt x) (.type "float")
 |lst {a:Addr} {xs:List V} (e:H a=some (.lst xs)):TyOf K H (.ref a) (.type "list")
 |frz {a:Addr} {o:Obj} {xs:List V} (e:H a=some (.frz o (.lst xs))):TyOf K H (.ref a) (.type "list")
 |tup {a:Addr} {xs:List V} (e:H a=some (.tup xs)):TyOf K H (.ref a) (.type "tuple")
 |dK {a:Addr} {kvs:List (Key×V)} (e:H a=some (.dK kvs)):TyOf K H (.ref a) (.type "dict")
 |dT {a:Addr} {kvs:List (List Key×V)} (e:H a=some (.dT kvs)):TyOf K H (.ref a) (.type "dict")
 | ins {a C dx:Addr} {fs:List (Str×V)} (e:H a=some (.ins C dx fs)) (cl:Cls K C) (ha:W.findIn K (.ref C) "__class__"=some (some (.builtin "object.__class__")))
   (hn:W.specialIn K (.builtin "object.__class__") "__get__"=some (some (.builtin "getset_descriptor.__get__"))) (htk:W.takesIn K (.builtin "object.__class__")=some true)
   (hm:W.mroIn K C (.type "object")=some true):TyOf K H (.ref a) (.ref C)
theorem Aq{x:V}{u t:Value}(I:Inv X pins σ H s)(rx:RelV x u)(ty:TyOf X.K H x t)(e:W.kitOne X.K t c=some b)(h:∀ tk,Q (.bool b) { s with toks:=tk }):
  wpAny (model X.prog X.w) A (call (.builtin "isinstance") [u,c]) Q E s:=by
 cases ty with
 |non=>cases(show u=Value.none from rx);exact W.kia_one W.kitx_none I.kIn True.intro e (fun z=>nomatch z) h
 |bl y=>cases(show u=Value.bool y from rx);exact W.kia_one W.kitx_bool I.kIn True.intro e (fun z=>nomatch z) h
 |int i=>obtain⟨t,q⟩:=(show ∃ t,u=Value.int i t from rx);cases q;exact W.kia_one W.kitx_int I.kIn True.intro e (fun z=>nomatch z) h
 |str y=>obtain⟨t,q⟩:=(show ∃ t,u=Value.str y t from rx);cases q;exact W.kia_one W.kitx_str I.kIn True.intro e (fun z=>nomatch z) h
 |flt y=>obtain⟨t,q⟩:=(show ∃ t,u=Value.float y t from rx);cases q;exact W.kia_one W.kitx_float I.kIn True.intro e (fun z=>nomatch z) h
 | @lst a xs ea =>
  cases(show u=Value.ref a from rx);obtain⟨_,_,n,_,h1⟩:=(show ObjOk X.prog X.w H s.heap a (.lst xs)from I.hok a _ ea)
  exact W.kia_one W.kitx_list I.kIn ⟨_,h1,rfl⟩ e (fun z=>nomatch z) h
 | @frz a ob xs ea =>
  cases(show u=Value.ref a from rx);obtain⟨_,_,_,n,_,h1⟩:=(show ObjOk X.prog X.w H s.heap a (.frz ob (.lst xs))from I.hok a _ ea)
  exact W.kia_one W.kitx_list I.kIn ⟨_,h1,rfl⟩ e (fun z=>nomatch z) h
 | @tup a xs ea =>
  cases(show u=Value.ref a from rx);obtain⟨_,_,_,p⟩:=(show ObjOk X.prog X.w H s.heap a (.tup xs)from I.hok a _ ea)
  obtain⟨o,h1,h2,_⟩:=p;exact W.kia_one W.kitx_tuple I.kIn ⟨o,h1,h2⟩ e (fun z=>nomatch z) h
 | @dK a kvs ea =>
  cases(show u=Value.ref a from rx);obtain⟨_,_,vs,_,p⟩:=(show ObjOk X.prog X.w H s.heap a (.dK kvs)from I.hok a _ ea)
  obtain⟨o,es,ep,h1,h2,_⟩:=p;exact W.kia_one W.kitx_dict I.kIn ⟨o,h1,h2.1⟩ e (fun z=>nomatch z) h
 | @dT a kvs ea =>
  cases(show u=Value.ref a from rx);obtain⟨_,_,xs,_,o,es,ep,h1,h2,_⟩:=(show ObjOk X.prog X.w H s.heap a (.dT kvs)from I.hok a _ ea)
  exact W.kia_one W.kitx_dict I.kIn ⟨o,h1,h2.1⟩ e (fun z=>nomatch z) h
 | @ins a C dx fs ea cl ha hn htk hm =>
  cases(show u=Value.ref a from rx);obtain⟨mA,O,_⟩:=oh I.hok ea;obtain⟨od,J,_⟩:=O.look;exact W.kia_one (W.kitx_own (cl.get _) cl.hd ha hn htk hm) I.kIn J e (fun z=>nomatch z) h
end
end L2
namespace L2
open PySem PySem.Spec PyProof.Rows
structure Room(k:Nat)(A:Around):Prop where
 hd:A.handled=none
 dp:A.depth+3 * k+5<recursionLimit
 un:A.units+16 * k+200<cLine
theorem Room.mono{j k:Nat}{A:Around}(r:Room k A)(h:j<=k):Room j A:=⟨r.hd,by have:=r.dp;omega,by have:=r.un;omega⟩
theorem Room.deeper{k:Nat}{A:Around}(r:Room (k+1) A)(env:Env):Room k (A.deeper env):=
 ⟨r.hd,by have:=r.dp;show A.depth+1+3 * k+5<_;omega,by have:=r.un;show A.units+3+16 * k+200<_;omega⟩
theorem xV{A:Around}{C:Addr}{us:List Value}{kw:List (Str×Value)}:(A.under (.builtin "type.__call__" ⟨.ref C::us,kw⟩)).depth=A.depth+1:=by
 first|rfl|simp[Around.under,Code.weight,Code.isCreation,Code.isGuard,Code.isCaller,Code.frames,Code.isFrame,guardIds]
theorem xW{A:Around}{C:Addr}{us:List Value}{kw:List (Str×Value)}:(A.under (.builtin "type.__call__" ⟨.ref C::us,kw⟩)).units=A.units+1:=by
 first|rfl|simp[Around.under,Code.cUnits,Code.frames,Code.isFrame]
theorem Room.make{k:Nat}{A:Around}(r:Room (k+1) A)(C:Addr)(us:List Value)(kw:List (Str×Value)):Room k (A.under (.builtin "type.__call__" ⟨.ref C::us,kw⟩)):=
 ⟨r.hd,by have:=r.dp;rw[xV];omega,by have:=r.un;rw[xW];omega⟩
theorem Room.depth{k:Nat}{A:Around}(r:Room k A):A.depth<recursionLimit:=by have:=r.dp;omega
theorem Room.units{k:Nat}{A:Around}(r:Room k A):A.units+64<cLine:=by have:=r.un;omega
def pA:TA:=fun _ H Q=>Q [] H
def t7(ta:TE)(tr:TA):TA:=fun σ H Q=>ta σ H fun x H1=>tr σ H1 fun xs H2=>Q (x::xs) H2
section
variable{X:Cx}{e:Expr}{es:List Expr}{te:TE}{t:TA}{pos:Pos}
theorem aj:PA X [] pA:=fun _ _ _ _ H Q I h=>Calls.spliced_nil ⟨[],H,I,.nil,h⟩
theorem aa(ha:PE X e te)(hr:PA X es t)(hs:starEach (e::es) X.env=(false,eval e X.env):: starEach es X.env:=by rfl):PA X (e::es) (t7 te t):=by
 intro pos pins s σ H Q I h;rw[hs];show wpAny _ _ (spliced ((false,eval e X.env):: backTo pos (starEach es X.env))) _ _ s;refine Calls.spliced_cons (thn (ha pins s σ H _ I h) fun u s1 ⟨x,H1,I1,r1,q1⟩=>?_);exact thn (hr pos pins s1 σ H1 _ I1 q1) fun us s2 ⟨xs,H2,I2,r2,q2⟩=>⟨x::xs,H2,I2,.cons r1 r2,q2⟩
def M7(t:TA):TE:=fun σ H Q=>t σ H fun xs H1=>xs.length<=sizeLine/\∀ p,H1 p=none->Q (.ref p) (upd H1 p (.tup xs))
def M8(t:TA):TE:=fun σ H Q=>t σ H fun xs H1=>xs.length<=sizeLine/\∀ p,H1 p=none->Q (.ref p) (upd H1 p (.lst xs))
theorem bh{x1}(h:PA X es t):PE X (.Tuple es x1 pos) (M7 t):=by
 intro pins s σ H Q I hq;refine wpAny_Tuple_spliced (thn (h pos pins s σ H _ I hq) fun us s1 ⟨xs,H1,I1,r,z,q⟩=>⟨by rw[<- r.length];exact z,?_⟩);have hf:H1 s1.heap.objs.size=none:=I1.hok.fresh (qnr _);refine⟨.ref s1.heap.objs.size,upd H1 s1.heap.objs.size (.tup xs),I1.laid (t':=s1.toks) (fun b u e=>Heap.get?_push_of_some _ e) (qnr _) ?_,rfl,q _ hf⟩;exact⟨z,us,r,⟨_,Heap.get?_push_size _ rfl,rfl,_,rfl⟩⟩
theorem bC(h:PA X es t):PE X (.List es pos) (M8 t):=by
 intro pins s σ H Q I hq;refine wpAny_List_spliced (thn (h pos pins s σ H _ I hq) fun us s1 ⟨xs,H1,I1,r,z,q⟩=>⟨by rw[<- r.length];exact z,?_⟩);have hf:H1 s1.heap.objs.size=none:=I1.hok.fresh (qnr _);refine⟨.ref s1.heap.objs.size,upd H1 s1.heap.objs.size (.lst xs),I1.laid (t':=s1.toks) (fun b u e=>Heap.get?_push_of_some _ e) (qnr _) ?_,rfl,q _ hf⟩;exact⟨z,us,0,r,Heap.get?_push_size _ rfl⟩
end
abbrev Sp:=List V->Hp->VK->XK->Prop
abbrev CXT:=List Env->Hp->Shared->XK->Value->Shared->Prop
structure Env0(P:Program)(w:World)(K:W.Frag)(mg:Str->Option Value)(base:Heap)(A:Around)(outer:List Env)(s:Shared)(H:Hp):Prop where
 frames:A.frames=some outer
 mod:Mod K mg base
 bs:∀ b o,base.get? b=some o->s.heap.get? b=some o/\H b=none
 bsz:base.objs.size<=s.heap.objs.size
 funs:s.heap.FunFrames base outer
 frf:∀ b∈frs outer,H b=none
 hok:HOk P w H s.heap
 bare:AllBare s.gens
def CE(outer:List Env)(P:Program)(w:World)(H:Hp)(s:Shared)(Q:VK)(u:Value)(s':Shared):Prop :=
 ∃ v H',s'.os=s.os/\AllBare s'.gens/\Un (frs outer) [] H H' s.heap s'.heap/\HOk P w H' s'.heap/\RelV v u/\Q v H'
def CR(CX:CXT)(outer:List Env)(P:Program)(w:World)(H:Hp)(s:Shared)(Q:VK)(E:XK)(r:Result)(s':Shared):Prop :=
 match r with
 | .ok (.ret u)=>CE outer P w H s Q u s'
 | .ok _=>False
 | .error e=>CX outer H s E e s'
structure FnOk(P:Program)(w:World)(K:W.Frag)(mg:Str->Option Value)(base:Heap)(CX:CXT)(k:Nat)(f:Addr)(fd:FuncData)(ps:List Str)(sp:Sp):Prop where
 len:∀ vs H Q E,sp vs H Q E->vs.length=ps.length
 run:∀(A:Around)(outer:List Env)(s:Shared)(H:Hp)(args:Args)(us:List Value)(vs:List V)(Q:VK)(E:XK),Room k A->Env0 P w K mg base A outer s H->BindsTo s fd args (ps.zip us)->Vals vs us->sp vs H Q E ->
  codeAny (model P w) A (.call (.ref f) args) (CR CX outer P w H s Q E) s
theorem FnOk.mono{P:Program}{w:World}{K:W.Frag}{mg:Str->Option Value}{base:Heap}{CX:CXT}{j k:Nat}{f:Addr}{fd:FuncData}{ps:List Str}{sp:Sp}(F:FnOk P w K mg base CX j f fd ps sp)(h:j<=k):
  FnOk P w K mg base CX k f fd ps sp:=⟨F.len,fun A outer s H args us vs Q E hr=>F.run A outer s H args us vs Q E (hr.mono h)⟩
theorem FnOk.imp{P:Program}{w:World}{K:W.Frag}{mg:Str->Option Value}{base:Heap}{CX:CXT}{k:Nat}{f:Addr}{fd:FuncData}{ps:List Str}{sp sp':Sp}(F:FnOk P w K mg base CX k f fd ps sp)
  (h:∀ vs H Q E,sp' vs H Q E->sp vs H Q E):FnOk P w K mg base CX k f fd ps sp' :=
 ⟨fun vs H Q E q=>F.len vs H Q E (h _ _ _ _ q),fun A outer s H args us vs Q E hr he hb hv hs=>F.run A outer s H args us vs Q E hr he hb hv (h _ _ _ _ hs)⟩
theorem Env0.make{P:Program}{w:World}{K:W.Frag}{mg:Str->Option Value}{base:Heap}{A:Around}{outer:List Env}{s:Shared}{H:Hp}(e:Env0 P w K mg base A outer s H)(C:Addr)(us:List Value)(kw:List (Str×Value)):
  Env0 P w K mg base (A.under (.builtin "type.__call__" ⟨.ref C::us,kw⟩)) outer s H:=⟨by first|exact e.frames | (simpa[Around.under,Code.envs,Code.isFrame,pushEnvs]using e.frames),e.mod,e.bs,e.bsz,e.funs,e.frf,e.hok,e.bare⟩
section
variable{X:Cx}{pins:List (Addr×Obj)}{σ:St}{H:Hp}{s s':Shared}
theorem Inv.env0(I:Inv X pins σ H s):Env0 X.prog X.w X.K X.mg X.base X.A X.stack s H :=
 ⟨I.ok.frames,I.ok.mod,I.bs,qnt I.ok.bsz I.sz,I.stack,I.stkFree,I.hok,I.bare⟩
theorem Inv.after{Q:VK}{u:Value}(I:Inv X pins σ H s)(h:CE X.stack X.prog X.w H s Q u s'):EP X pins σ Q u s':=by
 obtain⟨v,H',os,bare,un,hok,r,q⟩:=h;obtain⟨hh,g,d,t,os'⟩:=s';obtain rfl:os'=s.os:=os;exact⟨v,H',I.call (h':=hh) (g':=g) (d':=d) (t':=t) (ch:=[]) un hok bare (fun b z=>absurd z (by simp)),r,q⟩
end
def Hm(sp:Sp)(dvs:List V)(E:XK)(t:TA):TE:=fun σ H Q=>t σ H fun vs H1=>sp (vs++dvs) H1 Q E
inductive iMeth(C:Addr)(m:Str)(x:V)(H:Hp)(R:Prop):Prop
 |mk (a dx:Addr) (fs:List (Str×V)) (_:x = .ref a) (_:H a=some (.ins C dx fs)) (_:fs.lookup m=none) (_:R)
def Hn(C:Addr)(m:Str)(sp:Sp)(dvs:List V)(E:XK)(ta:TE)(t:TA):TE:=fun σ H Q=>ta σ H fun x H1=>iMeth C m x H1 (t σ H1 fun vs H2=>sp (x::(vs++dvs)) H2 Q E)
def t8(C:Addr)(sp:Sp)(dvs:List V)(E:XK)(t:TA):TE:=fun σ H Q=>t σ H fun vs H1=>∀ x dx,H1 x=none->H1 dx=none->dx≠x ->
 sp (.ref x::(vs++dvs)) (upd (upd H1 dx (.own x)) x (.ins C dx [])) (fun v H2=>v = .non /\ Q (.ref x) H2) E
def Binds(K:W.Frag)(fd:FuncData)(ps:List Str)(ds:List Value):Prop :=
 ∀(s:Shared)(us:List Value),K.In s.heap->(us++ds).length=ps.length->BindsTo s fd ⟨us,[]⟩ (ps.zip (us++ds))
theorem Binds.all{K:W.Frag}{fd:FuncData}{ps:List Str}(h:∀ us:List Value,us.length=ps.length->bindArgs fd ⟨us,[]⟩=pure (ps.zip us)):Binds K fd ps []:=fun s us _ hl=>by
 rw[List.append_nil]at hl ⊢;exact .of_eq (h us hl)
def eY(CX:CXT)(X:Cx)(E:XK):Prop:=∀(pins:List (Addr×Obj))(σ:St)(H:Hp)(s:Shared)(e:Value)(s':Shared),Inv X pins σ H s->CX X.stack H s E e s'->X.xe e s'
section
variable{X:Cx}{CX:CXT}{k:Nat}{f C:Addr}{fd:FuncData}{ps:List Str}{sp:Sp}{dvs:List V}{ds:List Value}{E:XK}{x m:Str}{p pos apos:Pos}{e o:Expr}{es:List Expr}{ta:TE}{t:TA}
theorem qg{pins:List (Addr×Obj)}{σ:St}{H:Hp}{s:Shared}{Q:VK}{us:List Value}{vs:List V}(F:FnOk X.prog X.w X.K X.mg X.base CX k f fd ps sp)(hr:Room k X.A)(hb:Binds X.K fd ps ds)(hd:Vals dvs ds)(hx:eY CX X E)
  (I:Inv X pins σ H s) (r:Vals vs us) (h:sp (vs++dvs) H Q E):wpAny (model X.prog X.w) X.A (call (.ref f) us) (EP X pins σ Q) X.xe s:=by
 have r2:Vals (vs++dvs) (us++ds):=r.append hd;have hl:(us++ds).length=ps.length:=by rw[<- r2.length];exact F.len _ _ _ _ h
 refine wpAny_call (codeAny_mono (F.run X.A X.stack s H ⟨us,[]⟩ (us++ds) (vs++dvs) Q E hr I.env0 (hb s us I.kIn hl) r2 h) fun r s' hq=>?_);cases r with
 |error e=>exact hx pins σ H s e s' I hq
 | ok fl =>
  cases fl with
  |ret u=>exact I.after hq
  |next=>exact False.elim hq
  |brk=>exact False.elim hq
  |cont=>exact False.elim hq
theorem ou(F:FnOk X.prog X.w X.K X.mg X.base CX k f fd ps sp)(hr:Room k X.A)(hg:Gl X x)(hm:X.mg x=some (.ref f))(hk:W.keepIn X.K (.ref f)=true)(hb:Binds X.K fd ps ds)(hd:Vals dvs ds)(hx:eY CX X E)
  (ha:PA X (e::es) t) (hdb:(x == ("__debug__":Str))=false:=by decide) (he:starEach (e::es) X.env=(false,eval e X.env):: starEach es X.env:=by rfl) (hpl:(backTo pos (starEach es X.env)).any (·.1)=false:=by rfl):
  PE X (.Call (.Name x p) (e::es) [] pos) (Hm sp dvs E t):=by
 intro pins s σ H Q I h;refine wpAny_Call_Name_kw (iy I hg hm ?_ hdb);refine W.callWith_K (h₀:=X.base) I.ok.mod.kin hk (thn (ha pos pins s σ H _ I h) fun us s1 ⟨vs,H1,I1,r,q⟩=>⟨I1.kIn,?_⟩) he hpl;exact qg F hr hb hd hx I1 r q
theorem gM{pl:Sem Bool}(he:PE X o ta)(c:Cls X.K C)(hm:Meth X.K C m f)(F:FnOk X.prog X.w X.K X.mg X.base CX k f fd ps sp)(hr:Room k X.A)(hb:Binds X.K fd ps ds)(hd:Vals dvs ds)(hx:eY CX X E)(ha:PA X (e::es) t)
  (hst:starEach (e::es) X.env=(false,eval e X.env):: starEach es X.env:=by rfl) (hpl:(backTo pos (starEach es X.env)).any (·.1)=false:=by rfl)
  (ht:eval (.Call (.Attribute o m apos) (e::es) [] pos) X.env=(do
   let ov <- eval o X.env
   standAt apos.atName
   let (f,first) <- holding [ov] (getMethod ov m pl)
   callWith pos f first (backTo pos (starEach (e::es) X.env)) (backToKw pos (keywordEach [] X.env))):=by rfl):
  PE X (.Call (.Attribute o m apos) (e::es) [] pos) (Hn C m sp dvs E ta t):=by
 intro pins s σ H Q I h;refine W.methodCall_KW (pl:=pl) (thn (he pins s σ H _ I h) fun u s1 ⟨x,H1,I1,rx,a,dx,fs,ex,ea,l,q⟩=>?_) ht;subst ex;obtain rfl:u=Value.ref a:=rx;refine qd I1 ea c hm l ?_;refine W.callWith_K (first:=[.ref a]) (h₀:=X.base) I.ok.mod.kin hm.kp (thn (ha pos pins s1 σ H1 _ I1 q) fun us s2 ⟨vs,H2,I2,r,q2⟩=>⟨I2.kIn,?_⟩) hst hpl;exact qg (us:=.ref a::us) (vs:=.ref a::vs) F hr hb hd hx I2 (.cons rfl r) q2
theorem dj{pl:Sem Bool}(he:PE X o ta)(c:Cls X.K C)(hm:Meth X.K C m f)(F:FnOk X.prog X.w X.K X.mg X.base CX k f fd ps sp)(hr:Room k X.A)(hb:Binds X.K fd ps ds)(hd:Vals dvs ds)(hx:eY CX X E)
  (ht:eval (.Call (.Attribute o m apos) [] [] pos) X.env=(do
   let ov <- eval o X.env
   standAt apos.atName
   let (f,first) <- holding [ov] (getMethod ov m pl)
   callWith pos f first (backTo pos (starEach [] X.env)) (backToKw pos (keywordEach [] X.env))):=by rfl):
  PE X (.Call (.Attribute o m apos) [] [] pos) (Hn C m sp dvs E ta pA):=by
 intro pins s σ H Q I h;refine W.methodCall_KW (pl:=pl) (thn (he pins s σ H _ I h) fun u s1 ⟨x,H1,I1,rx,a,dx,fs,ex,ea,l,q⟩=>?_) ht;subst ex;obtain rfl:u=Value.ref a:=rx;refine qd I1 ea c hm l ?_;exact W.callWith_K0 (first:=[.ref a]) I1.kIn hm.kp (qg (us:=[.ref a]) (vs:=[.ref a]) F hr hb hd hx I1 (.cons rfl .nil) q)
structure Mk(K:W.Frag)(C f:Addr):Prop where
 makes:W.makesIn K C=true
 init:W.findIn K (.ref C) "__init__"=some (some (.ref f))
 fn:W.isFn K (.ref f)=true
 kp:W.keepIn K (.ref C)=true
theorem uz{pins:List (Addr×Obj)}{σ:St}{H:Hp}{s:Shared}{Q:VK}{us:List Value}{vs:List V}(M:Mk X.K C f)(F:FnOk X.prog X.w X.K X.mg X.base CX k f fd ps sp)(hr:Room (k+1) X.A)(hb:Binds X.K fd ps ds)(hd:Vals dvs ds)
  (hx:eY CX X E) (I:Inv X pins σ H s) (r:Vals vs us)
  (h:∀ x dx,H x=none->H dx=none->dx≠x->sp (.ref x::(vs++dvs)) (upd (upd H dx (.own x)) x (.ins C dx [])) (fun v H2=>v = .non /\ Q (.ref x) H2) E):
  wpAny (model X.prog X.w) X.A (call (.ref C) us) (EP X pins σ Q) X.xe s:=by
 have hq:=h (s.heap.objs.size+1) s.heap.objs.size (I.hok.fresh (Nat.le_succ _)) (I.hok.fresh (qnr _)) (Nat.ne_of_lt (Nat.lt_succ_self _));have I2:=Inv.made (C:=C) I;have r2:Vals (V.ref (s.heap.objs.size+1):: (vs++dvs)) (Value.ref (s.heap.objs.size+1):: (us++ds)):=.cons rfl (r.append hd)
 have hl:(Value.ref (s.heap.objs.size+1):: us++ds).length=ps.length:=by
  have e:=r2.length;rw[F.len _ _ _ _ hq]at e;exact e.symm
 refine wpAny_call (DY (f:=f) I.kIn M.makes M.init (beq_iff_eq.mp M.fn) (codeAny_mono (F.run _ X.stack _ _ ⟨Value.ref (s.heap.objs.size+1):: us,[]⟩ (Value.ref (s.heap.objs.size+1):: (us++ds)) _ _ E (hr.make C us [])
  (I2.env0.make C us []) (hb _ (Value.ref (s.heap.objs.size+1):: us) I2.kIn hl) r2 hq) fun r s' hq'=>?_))
 cases r with
 |error e=>exact hx pins σ _ _ e s' I2 hq'
 | ok fl =>
  cases fl with
  | ret u =>
   obtain⟨v,H',I3,rv,ev,q3⟩:=I2.after hq';subst ev;exact⟨rv,⟨V.ref (s.heap.objs.size+1),H',I3,rfl,q3⟩⟩
  |next=>exact False.elim hq'
  |brk=>exact False.elim hq'
  |cont=>exact False.elim hq'
theorem Ik(M:Mk X.K C f)(F:FnOk X.prog X.w X.K X.mg X.base CX k f fd ps sp)(hr:Room (k+1) X.A)(hg:Gl X x)(hm:X.mg x=some (.ref C))(hb:Binds X.K fd ps ds)(hd:Vals dvs ds)(hx:eY CX X E)
  (ha:PA X (e::es) t) (hdb:(x == ("__debug__":Str))=false:=by decide) (he:starEach (e::es) X.env=(false,eval e X.env):: starEach es X.env:=by rfl) (hpl:(backTo pos (starEach es X.env)).any (·.1)=false:=by rfl):
  PE X (.Call (.Name x p) (e::es) [] pos) (t8 C sp dvs E t):=by
 intro pins s σ H Q I h;refine wpAny_Call_Name_kw (iy I hg hm ?_ hdb);refine W.callWith_K (h₀:=X.base) I.ok.mod.kin M.kp (thn (ha pos pins s σ H _ I h) fun us s1 ⟨vs,H1,I1,r,q⟩=>⟨I1.kIn,?_⟩) he hpl;exact uz M F hr hb hd hx I1 r q
theorem Ea(M:Mk X.K C f)(F:FnOk X.prog X.w X.K X.mg X.base CX k f fd ps sp)(hr:Room (k+1) X.A)(hg:Gl X x)(hm:X.mg x=some (.ref C))(hb:Binds X.K fd ps ds)(hd:Vals dvs ds)(hx:eY CX X E)
  (hdb:(x == ("__debug__":Str))=false:=by decide):PE X (.Call (.Name x p) [] [] pos) (t8 C sp dvs E pA):=by
 intro pins s σ H Q I h;refine wpAny_Call_Name_kw (iy I hg hm ?_ hdb);exact W.callWith_K0 I.kIn M.kp (uz (us:=[]) M F hr hb hd hx I .nil h)
end
section
variable{X:Cx}{CX:CXT}{k:Nat}{f C:Addr}{fd:FuncData}{ps ks:List Str}{sp:Sp}{E:XK}{x m:Str}{p pos apos kpos:Pos}{e o:Expr}{es:List Expr}{kws:List Keyword}{te ta:TE}{t tk:TA}{nm:Option Str}
variable{g:List Value->List Value->List Value}{gV:List V->List V->List V}
end
structure FnScope(N P:List Str)(sc:Scope):Prop where
 kind:sc.kind = .function
 co:sc.isCoroutine=false
 gen:sc.isGenerator=false
 nd:N.Nodup
 pre:N.take P.length=P
 par:∀ x∈P,sc.names.lookup x=some .local \/ sc.names.lookup x=some .cell
 nofree:∀ y∈sc.names,y.2≠.free
theorem ndS{l:List Str}(h:l.Nodup:=by decide +kernel):l.Nodup:=h
theorem mkS{N P:List Str}{sc:Scope}(h1:sc.kind = .function:=by rfl)(h2:sc.isCoroutine=false:=by rfl)(h3:sc.isGenerator=false:=by rfl)(h4:N.Nodup:=by decide +kernel)(h5:N.take P.length=P:=by rfl)(h6:∀ x∈P,sc.names.lookup x=some .local \/ sc.names.lookup x=some .cell:=by decide +kernel)(h7:∀ y∈sc.names,y.2≠.free:=by decide +kernel):FnScope N P sc:=⟨h1,h2,h3,h4,h5,h6,h7⟩
theorem rP{kindOf:Str->Option NameKind}{x:Str}:∀{binds:List (Str×Value)}{m:Str->Option Value},(∀ v,(x,v)∉binds)->bindL kindOf binds m x=m x
 |[],_,_=>rfl
 | (n,v):: r,m,h=>by
  unfold bindL;rw[rP fun w hw=>h w (qmm _ hw)]
  split
  . have:x≠n:=by rintro rfl;exact h v qms
    simp[this]
  . rfl
theorem rQ{kindOf:Str->Option NameKind}{x:Str}:∀{binds:List (Str×Value)}{m:Str->Option Value},(∀ v,(x,v)∉binds)->bindC kindOf binds m x=m x
 |[],_,_=>rfl
 | (n,v):: r,m,h=>by
  unfold bindC;rw[rQ fun w hw=>h w (qmm _ hw)]
  split
  . rfl
  . have:x≠n:=by rintro rfl;exact h v qms
    simp[this]
theorem rR{kindOf:Str->Option NameKind}{x:Str}{v:Value}:∀{P:List Str}{vs:List Value}{i:Nat}{m:Str->Option Value},P.Nodup->P[i]? = some x->vs[i]? = some v->kindOf x=some .local ->
  bindL kindOf (P.zip vs) m x=some v
 |[],_,_,_,_,h,_,_=>by simp at h
 |_::_,[],_,_,_,_,h,_=>by simp at h
 | p::P,w::vs,0,m,nd,h1,h2,hk=>by
  simp at h1 h2;subst h1;subst h2;show bindL kindOf ((p,w):: P.zip vs) m p=_;unfold bindL;rw[rP fun v hv=>(List.nodup_cons.mp nd).1 (List.of_mem_zip hv).1,qp hk];simp
 | p::P,w::vs,i+1,m,nd,h1,h2,hk=>by
  show bindL kindOf ((p,w):: P.zip vs) m x=_;unfold bindL;exact rR (i:=i) (List.nodup_cons.mp nd).2 (by simpa using h1) (by simpa using h2) hk
theorem rT{kindOf:Str->Option NameKind}{x:Str}{v:Value}:∀{P:List Str}{vs:List Value}{i:Nat}{m:Str->Option Value},P.Nodup->P[i]? = some x->vs[i]? = some v->kindOf x≠some .local ->
  bindC kindOf (P.zip vs) m x=some v
 |[],_,_,_,_,h,_,_=>by simp at h
 |_::_,[],_,_,_,_,h,_=>by simp at h
 | p::P,w::vs,0,m,nd,h1,h2,hk=>by
  simp at h1 h2;subst h1;subst h2;show bindC kindOf ((p,w):: P.zip vs) m p=_;unfold bindC;rw[rQ fun v hv=>(List.nodup_cons.mp nd).1 (List.of_mem_zip hv).1,qnZ hk];simp
 | p::P,w::vs,i+1,m,nd,h1,h2,hk=>by
  show bindC kindOf ((p,w):: P.zip vs) m x=_;unfold bindC;exact rT (i:=i) (List.nodup_cons.mp nd).2 (by simpa using h1) (by simpa using h2) hk
def start(N:List Str)(vs:List V):St:=vs.map some++List.replicate (N.length - vs.length) none
def bQ(CX:CXT)(P:Program)(w:World)(K:W.Frag)(mg:Str->Option Value)(base:Heap)(N:List Str)(qual:Str)(scope:Scope)(f:Addr)(cd:Value)(A:Around)(outer:List Env)(s:Shared)(H:Hp)(E:XK):Cx where
 prog:=P
 w:=w
 K:=K
 mg:=mg
 base:=base
 A:=A.deeper (envOfC qual scope s.heap.objs.size f cd)
 N:=N
 s₀:=s
 H₀:=H
 env:=envOfC qual scope s.heap.objs.size f cd
 outer:=outer
 stack:=envOfC qual scope s.heap.objs.size f cd::outer
 ex:=[]
 calm:=true
 fn:=fun _=>true
 pn:=[]
 xe:=fun e s'=>wpAny (model P w) (A.deeper (envOfC qual scope s.heap.objs.size f cd)) (leaving (envOfC qual scope s.heap.objs.size f cd) e) (fun _ s''=>CX outer H s E e s'') (fun e' s''=>CX outer H s E e' s'') s'
theorem uA{sc:Scope}{n:Nat}{x:Str}(h:sc.names.lookup x=some .cell):∃ c,(cellsFrom n sc.names []).lookup x=some c:=by
 have q:=W.cellsFrom_some sc.names n [] (.inl h);exact Option.isSome_iff_exists.mp q
theorem Ar{CX:CXT}{P:Program}{w:World}{K:W.Frag}{mg:Str->Option Value}{base:Heap}{N ps:List Str}{qual:Str}{scope:Scope}{f:Addr}{cd:Value}{A:Around}{outer:List Env}{s s1:Shared}{H:Hp}{E:XK}{us:List Value}{vs:List V}
  (S:FnScope N ps scope) (hd:A.handled=none) (e0:Env0 P w K mg base A outer s H) (hl:vs.length=ps.length) (r:Vals vs us)
  (x:InCallC s s.heap.objs.size (bindL (envOfC qual scope s.heap.objs.size f cd).kindOf (ps.zip us) fun _=>none) (cellsFrom (s.heap.objs.size+1) scope.names []) (bindC (envOfC qual scope s.heap.objs.size f cd).kindOf (ps.zip us) fun _=>none) s1):
  Inv (bQ CX P w K mg base N qual scope f cd A outer s H E) [] (start N vs) H s1:=by
 have hpl:ps.length<=N.length:=by have:=congrArg List.length S.pre;rw[List.length_take]at this;omega
 obtain⟨h1,tk,rfl,hk⟩:=x.done;have noA:∀ b:Addr,b∉(bQ CX P w K mg base N qual scope f cd A outer s H E).ex:=fun b z=>absurd (show b∈([]:List Addr)from z) (by simp)
 refine⟨⟨e0.mod,S.kind,rfl,rfl,qnr _,fun y z c h1 h2=>?_,fun y hy=>?_,fun y c _ h=>?_,fun _=>hd,Around.frames_deeper e0.frames,.inr ⟨rfl,rfl⟩,fun b z=>absurd z (noA b),e0.bs,e0.bsz,fun b _ _=>noA b,fun b z=>absurd z (noA b),e0.funs,e0.frf⟩,
  rfl,e0.bare,Un.kept hk,⟨_,x.toInCall.ns,fun i y v h1 h2 h3=>?_⟩,fun y c h=>⟨_,x.cell y c h⟩,e0.hok.fresh (qnr _),fun y c h=>?_,fun p hp=>absurd (show p∈([]:List (Addr×Obj))from hp) (by simp),e0.hok.kept hk,?_⟩
 . exact name_of_addr x.apart (PySem.mem_of_lookup h1) (PySem.mem_of_lookup h2)
 . have hy:scope.names.lookup y=some .cell \/ scope.names.lookup y=some .free:=hy
   rcases hy with hy|hy
   . exact uA hy
   . exact absurd rfl (S.nofree _ (PySem.mem_of_lookup hy))
 . exact Nat.le_of_lt (x.above y c (PySem.mem_of_lookup h))
 . have hi:i<vs.length:=by
    unfold start at h2
    by_cases hi:i<vs.length
    . exact hi
    . rw[List.getElem?_append_right (by simpa using hi)]at h2
      rw[List.getElem?_replicate]at h2
      split at h2 <;> cases h2
   have ha:vs[i]? = some v:=by
    unfold start at h2;rw[List.getElem?_append_left (by simpa using hi),qgm]at h2;cases e:vs[i]? with
    |none=>rw[e]at h2;cases h2
    |some a=>rw[e]at h2;cases h2;rfl
   obtain⟨u,hu,rv⟩:=r.get ha
   have hp:ps[i]? = some y:=by
    rw[<- S.pre,List.getElem?_take_of_lt (by omega)];exact h1
   have ndP:ps.Nodup:=by rw[<- S.pre];exact S.nd.sublist (List.take_sublist _ _)
   refine⟨u,rv,?_⟩;rcases S.par y (qmg hp)with k|k
   . exact .inl ⟨k,rR ndP hp hu k⟩
   . obtain⟨c,e⟩:=uA (n:=s.heap.objs.size+1) k
     refine .inr ⟨.inl k,c,e,?_⟩;have q:=x.cell y c e;rw[rT ndP hp hu (by show scope.names.lookup y≠_;rw[k];decide)]at q;exact q
 . exact e0.hok.fresh (Nat.le_of_lt (x.above y c (PySem.mem_of_lookup h)))
 . unfold start
   show _=N.length;rw[List.length_append,qlm,List.length_replicate];omega
theorem Lj{CX:CXT}{P:Program}{w:World}{K:W.Frag}{mg:Str->Option Value}{base:Heap}{k:Nat}{f:Addr}{name qual:Str}{params:Arguments}{body:List Stmt}{scope:Scope}{dV kV doc pm cdv ct oc:Value}{an od:Option Addr}
  {osl:Array (Option Value)} {N ps:List Str} {sp:Sp} (lk:K.lookup f=some ⟨oc,od,.func (W.fnOf name qual params body scope dV kV doc pm an cdv ct),osl⟩) (hcd:W.codeIn K cdv qual=true) (S:FnScope N ps scope)
  (len:∀ vs H Q E,sp vs H Q E->vs.length=ps.length)
  (hbody:∀(A:Around)(outer:List Env)(s:Shared)(H:Hp)(vs:List V)(Q:VK)(E:XK),Room k (A.deeper (envOfC qual scope s.heap.objs.size f cdv))->sp vs H Q E ->
   ∃ t,PSs (bQ CX P w K mg base N qual scope f cdv A outer s H E) body t/\t { nx:=fun _ H'=>Q .non H',rt:=Q } (start N vs) H):
  FnOk P w K mg base CX (k+1) f (W.fnOf name qual params body scope dV kV doc pm an cdv ct) ps sp:=by
 refine⟨len,fun A outer s H args us vs Q E hr e0 hb r hsp=>?_⟩;have hl:=len _ _ _ _ hsp;have KX:K.In s.heap:=e0.mod.kin.keeps fun b o e=>(e0.bs b o e).1
 have lim:s.heap.NoLimit:=e0.mod.nolimit.keeps fun b o e=>(e0.bs b o e).1
 have hkind:∀ y∈ps.zip us,scope.names.lookup y.1=some .local \/ (scope.names.lookup y.1=some .cell /\ ((cellsFrom (s.heap.objs.size+1) scope.names []).lookup y.1).isSome=true):=fun⟨n,v⟩ hy=>by
  rcases S.par n (List.of_mem_zip hy).1 with q|q
  . exact .inl q
  . exact .inr ⟨q,W.cellsFrom_some _ _ _ (.inl q)⟩
 refine codeAny_call_function hr.depth (KX _ _ lk) rfl S.co S.gen rfl (W.codeRec_of KX hcd) (hb _ _ _ _ ?_);refine wpAny_newFunctionEnv_cells S.kind hkind fun env he s1 x=>?_
 subst he;refine⟨lim.keeps x.toInCall.keep,codeAny_func ?_⟩;obtain⟨t,ht,hq⟩:=hbody A outer s H vs Q E (hr.deeper _) hsp;have I:Inv (bQ CX P w K mg base N qual scope f cdv A outer s H E) [] (start N vs) H s1:=Ar S hr.hd e0 hl r x;refine wpAny_mono (ht [] s1 (start N vs) H _ I hq) (fun fl s' hs=>?_) fun e s' hs=>hs
 have fin:∀{σ':St}{H':Hp}{v:V}{u:Value},Inv (bQ CX P w K mg base N qual scope f cdv A outer s H E) [] σ' H' s'->RelV v u->Q v H'->CE outer P w H s Q u s' :=
  fun {σ' H' v u} J rv q=>⟨v,H',J.os,J.bare,J.base,J.hok,rv,q⟩
 cases fl with
 | ret u =>
  obtain⟨v,σ',H',J,rv,q⟩:=hs;exact fin J rv q
 | next =>
  obtain⟨σ',H',J,q⟩:=hs;exact fin (v:=V.non) (u:=Value.none) J rfl q
 | brk =>
  obtain⟨_,_,_,q⟩:=hs;exact False.elim q
 | cont =>
  obtain⟨_,_,_,q⟩:=hs;exact False.elim q
end L2
namespace L2
open PySem PySem.Spec PyProof.Rows
section
variable{X:Cx}{x:Str}{p pos:Pos}{e:Expr}{es:List Expr}{t:TA}{id T:String}{r:List V->Hp->VK->Prop}
def tCB(r:List V->Hp->VK->Prop)(t:TA):TE:=fun σ H Q=>t σ H fun vs H1=>r vs H1 Q
theorem uB (hc:dC X (.builtin id) r) (hg:Gl X x) (hm:X.mg x=none) (hv:bootBuiltins x=some (.builtin id)) (ha:PA X (e::es) t) (hn:x≠"__name__":=by decide) (hdb:(x == ("__debug__":Str))=false:=by decide)
  (he:starEach (e::es) X.env=(false,eval e X.env):: starEach es X.env:=by rfl) (hpl:(backTo pos (starEach es X.env)).any (·.1)=false:=by rfl):PE X (.Call (.Name x p) (e::es) [] pos) (tCB r t):=by
 intro pins s σ H Q I h;refine wpAny_Call_Name_kw (jr I hg hm hv ?_ hn hdb);exact PyProof.Rows.callWith_builtin1 (thn (ha pos pins s σ H _ I h) fun us s1 ⟨vs,H1,I1,r1,q1⟩=>hc pins s1 σ H1 vs us Q I1 r1 q1) he hpl
theorem rW (hc:dC X (.type T) r) (hg:Gl X x) (hm:X.mg x=none) (hv:bootBuiltins x=some (.type T)) (ha:PA X (e::es) t) (hn:x≠"__name__":=by decide) (hdb:(x == ("__debug__":Str))=false:=by decide)
  (he:starEach (e::es) X.env=(false,eval e X.env):: starEach es X.env:=by rfl) (hpl:(backTo pos (starEach es X.env)).any (·.1)=false:=by rfl):PE X (.Call (.Name x p) (e::es) [] pos) (tCB r t):=by
 intro pins s σ H Q I h;refine wpAny_Call_Name_kw (jr I hg hm hv ?_ hn hdb);exact PyProof.Rows.callWith_type1 (thn (ha pos pins s σ H _ I h) fun us s1 ⟨vs,H1,I1,r1,q1⟩=>hc pins s1 σ H1 vs us Q I1 r1 q1) he hpl
end
end L2
namespace HT
open PySem PyProof.Rows
section
open PySem.SeqAt
open PySem.AutoSeq1 (wpAny_loadPart')
open PySem.MeetsSeq PySem.MeetsSeq2 PySem.MeetsSeq3
end
section
variable{prog:Program}{w:World}{A:Around}{E:Value->Shared->Prop}{s:Shared}
theorem cat_tup{t b:Addr}{vs ws:List Value}{Q:Value->Shared->Prop}(ht:IsTup s.heap t vs.toArray)(hb:IsTup s.heap b ws.toArray)(hv:vs≠[])
  (h1:ws=[]->Q (.ref t) s) (h2:ws≠[]->Q (.ref s.heap.objs.size) { s with heap:=s.heap.push { cls:=.type "tuple",data:=.seq (vs++ws).toArray } })
  (hsz:vs.length+ws.length<=sizeLine):wpAny (model prog w) A (binaryOp .Add (.ref t) (.ref b)) Q E s:=by
 obtain⟨⟨cls,dd,data,sl⟩,ho,hc,n,hd⟩:=id ht;obtain⟨⟨cls2,dd2,data2,sl2⟩,ho2,hc2,n2,hd2⟩:=id hb;simp only at hc hd hc2 hd2;subst hc hd hc2 hd2;have e:vs.toArray++ws.toArray=(vs++ws).toArray:=by simp
 by_cases hw:ws=[]
 . exact concat_meets ⟨_,ho,rfl⟩ ⟨_,ho2,rfl⟩ noFill_tuple_add seq_tuple_add PySem.F.slot_tuple_add PySem.F.entry_tuple_add (PySem.F.args_tuple_add_2 _ _)
    (tuple_addW1 t b vs.toArray ws.toArray n n2 dd dd2 sl sl2 (by simpa using hv) (by simp[hw])) ⟨ho,ho2,h1 hw⟩
 . refine concat_meets ⟨_,ho,rfl⟩ ⟨_,ho2,rfl⟩ noFill_tuple_add seq_tuple_add PySem.F.slot_tuple_add PySem.F.entry_tuple_add (PySem.F.args_tuple_add_2 _ _)
    (tuple_addW2 t b vs.toArray ws.toArray n n2 dd dd2 sl sl2 (by simpa using hv) (by simpa using hw) (by rw[List.size_toArray,List.size_toArray];exact hsz)) ⟨ho,ho2,?_⟩
   rw[e];exact h2 hw
def sIx(n d:Nat):Option Int->Nat
 |none=>d
 |some v=>if v<0 then(v+(n:Int)).toNat else min v.toNat n
theorem sIx_le(n d:Nat)(hd:d<=n)(o:Option Int):sIx n d o<=n:=by
 cases o with
 |none=>exact hd
 | some v =>
  show(if v<0 then(v+(n:Int)).toNat else min v.toNat n)<=n
  by_cases hv:v<0
  . rw[qp hv];omega
  . rw[qnZ hv];exact Nat.min_le_right _ _
theorem wK(v:Int)(n d:Nat):(if v<0 then max (v+(n:Int)) 0 else min v (n:Int))=((sIx n d (some v):Nat):Int):=by
 show(if v<0 then max (v+(n:Int)) 0 else min v (n:Int))=(((if v<0 then(v+(n:Int)).toNat else min v.toNat n):Nat):Int)
 by_cases hv:v<0
 . simp only[qp hv];omega
 . simp only[qnZ hv];omega
theorem xX(lo hi:Option Int)(n:Nat):Builtin.Slice.sliceAdjust lo hi 1 (n:Int)=(((sIx n 0 lo:Nat):Int),((sIx n n hi:Nat):Int)):=by
 have h1:¬ ((1:Int)<0):=by omega
 unfold Builtin.Slice.sliceAdjust;simp only[h1,if_false];refine Prod.ext ?_ ?_
 . cases lo with
   |none=>rfl
   |some v=>exact wK v n 0
 . cases hi with
   |none=>rfl
   |some v=>exact wK v n n
theorem xY(i j:Nat):Builtin.Slice.slicePlaces (i:Int) (j:Int) 1=j - i:=by
 unfold Builtin.Slice.slicePlaces;have h1:(1:Int) > 0:=by omega
 simp only[h1,if_true,Int.ediv_one]
 split <;> omega
theorem qi{v:Value}{o:Option Int}{Q:Option Int->Shared->Prop}(p:IsPart v o)(h:Q o s):wpAny (model prog w) A (Builtin.Slice.slicePartIndex v) Q E s:=by
 cases p with
 |none=>exact slicePart_none h
 |int i t=>exact slicePart_int h
theorem pB{sl:Addr}{vl vu:Value}{lo hi:Option Int}{n:Nat}{Q:Int×Int×Nat->Shared->Prop}(hs:s.heap.IsSliceOf sl vl vu .none)(pl:IsPart vl lo)(pu:IsPart vu hi)
  (h:Q (((sIx n 0 lo:Nat):Int),1,sIx n n hi - sIx n 0 lo) s):wpAny (model prog w) A (Builtin.Slice.sliceApplied (.ref sl) (pure (n:Int))) Q E s:=by
 obtain⟨os,hos,hcs,hds⟩:=id hs;unfold Builtin.Slice.sliceApplied Builtin.Slice.sliceFields;refine wpAny_bind (wpAny_bind (wpAny_field hos hds (x:=vl) rfl (wpAny_bind (wpAny_field hos hds (x:=vu) rfl (wpAny_bind (wpAny_field hos hds (x:=.none) rfl (wpAny_pure ?_)))))));refine wpAny_bind (slicePart_none ?_);show wpAny _ _ (if ((1:Int) == 0)=true then _ else _) _ _ s;rw[qnZ (by decide)];refine wpAny_bind (qi pl (wpAny_bind (qi pu (wpAny_bind (wpAny_pure ?_)))));show wpAny _ _ (match Builtin.Slice.sliceAdjust lo hi 1 (n:Int)with | (lo,hi)=>pure (lo,(1:Int),Builtin.Slice.slicePlaces lo hi 1)) _ _ s;rw[xX lo hi n];show wpAny _ _ (pure (((sIx n 0 lo:Nat):Int),(1:Int),Builtin.Slice.slicePlaces ((sIx n 0 lo:Nat):Int) ((sIx n n hi:Nat):Int) 1)) _ _ s;rw[xY];exact wpAny_pure h
theorem Eb(xs:Array Value)(i k:Nat):((List.range k).filterMap fun(m:Nat)=>xs[((i:Int)+(m:Int) * 1).toNat]?).toArray=((xs.toList.drop i).take k).toArray:=by
 have e:(fun(m:Nat)=>xs[((i:Int)+(m:Int) * 1).toNat]?)=fun m=>xs[i+m]?:=by
  funext m
  have:((i:Int)+(m:Int) * 1).toNat=i+m:=by omega
  rw[this]
 rw[e];have:=pick_run xs i k;rw[List.filterMap_map]at this;have e2:((fun x=>xs[x]?) ∘ fun x=>i+x)=fun m=>xs[i+m]?:=rfl
 rw[e2]at this;rw[this]
theorem getItem_tuple_cut{t sl:Addr}{items:Array Value}{vl vu:Value}{lo hi:Option Int}{Q:Value->Shared->Prop}(ht:IsTup s.heap t items)(hs:s.heap.IsSliceOf sl vl vu .none)(pl:IsPart vl lo)(pu:IsPart vu hi)
  (hw:¬ (sIx items.size 0 lo=0/\sIx items.size items.size hi=items.size))
  (h:Q (.ref s.heap.objs.size) { s with heap:=s.heap.push { cls:=.type "tuple",data:=.seq ((items.toList.drop (sIx items.size 0 lo)).take (sIx items.size items.size hi - sIx items.size 0 lo)).toArray } })
  (hsz:items.size<=sizeLine):wpAny (model prog w) A (getItem (.ref t) (.ref sl)) Q E s:=by
 have htake:sizeOk (.seq ((items.toList.drop (sIx items.size 0 lo)).take (sIx items.size items.size hi - sIx items.size 0 lo)).toArray):=by
  show((items.toList.drop (sIx items.size 0 lo)).take (sIx items.size items.size hi - sIx items.size 0 lo)).toArray.size<=sizeLine;rw[List.size_toArray,List.length_take,List.length_drop,Array.length_toList];omega
 have hj:sIx items.size items.size hi<=items.size:=sIx_le _ _ (qnr _) hi;obtain⟨os,hos,hcs,hds⟩:=id hs;have hTs:s.TypeIs (.ref sl) "slice":=⟨os,hos,hcs⟩
 unfold getItem
 try with_reducible refine wpAny_holding ?_
 first|refine wpAny_bind (wpAny_pure ?_)|skip
 refine wpAny_bind (wpAny_sequenceKey ht.typeIs (by decide) ?_)
 refine wpAny_bind (wpAny_callSpecial?_slot (name:=Str.ofString "__getitem__") ht.typeIs PyProof.Rows.slot_tuple_getitem
  (wpAny_call_entry PyProof.Rows.slot_tuple_getitem ht.typeIs entry_tuple_getitem ?_ (args_tuple_getitem _ _)))
 show wpAny _ _ (Builtin.Tuple.tupleItemsOf (.ref t) >>= _) _ _ s;refine wpAny_bind (tupleItemsOf_ ht ?_);refine wpAny_bind (wpAny_typeOf hTs ?_);rw[qp (by decide)];refine wpAny_bind (pB hs pl pu ?_)
 have hno:¬ ((((sIx items.size 0 lo:Nat):Int) == 0 && (1:Int) == 1 && (sIx items.size items.size hi - sIx items.size 0 lo) == items.size)=true):=by
  intro q;rw[Bool.and_eq_true,Bool.and_eq_true]at q;have q1:((sIx items.size 0 lo:Nat):Int)=0:=eq_of_beq q.1.1;have q2:sIx items.size items.size hi - sIx items.size 0 lo=items.size:=eq_of_beq q.2;exact hw ⟨by omega,by omega⟩
 show wpAny _ _ (if (((sIx items.size 0 lo:Nat):Int) == 0 && (1:Int) == 1 && (sIx items.size items.size hi - sIx items.size 0 lo) == items.size)=true then _ else _) _ _ s;rw[qnZ hno,Eb]
 first
  |exact wpAny_bind (m:=Builtin.Tuple.tupleExact _) (wpAny_newObj_type (wpAny_pure ⟨_,rfl,wpAny_pure h⟩) htake)
  |exact wpAny_bind (m:=Builtin.Tuple.tupleExact _) (wpAny_newObj_type (wpAny_bind (wpAny_pure (wpAny_pure ⟨_,rfl,wpAny_pure h⟩))) htake)
  |exact wpAny_bind (wpAny_bind (m:=Builtin.Tuple.tupleExact _) (wpAny_newObj_type (wpAny_pure (wpAny_pure ⟨_,rfl,wpAny_pure h⟩)) htake))
  |exact wpAny_bind (wpAny_bind (m:=Builtin.Tuple.tupleExact _) (wpAny_newObj_type (wpAny_pure ⟨_,rfl,wpAny_pure h⟩) htake))
end
end HT
namespace L2
open PySem PySem.Spec PyProof.Rows
abbrev TO:=St->Hp->(Option Int->Hp->Prop)->Prop
def PO(X:Cx)(e:Option Expr)(t:TO):Prop :=
 ∀(pins:List (Addr×Obj))(s:Shared)(σ:St)(H:Hp)(Q:Option Int->Hp->Prop),Inv X pins σ H s->t σ H Q ->
  wpAny (model X.prog X.w) X.A (evalPart e X.env) (fun u s'=>∃ o H',Inv X pins σ H' s'/\IsPart u o/\Q o H') X.xe s
def Il:TO:=fun _ H Q=>Q none H
def Lk(t:TE):TO:=fun σ H Q=>t σ H fun x H1=>∃ i,x = .int i/\Q (some i) H1
theorem intsAre_of{ns:List Int}:∀{us:List Value},Vals (ns.map V.int) us->IntsAre us ns:=by
 induction ns with
 |nil=>intro us r;rw[List.map_nil]at r;cases r;exact .nil
 | cons n ns ih =>
  intro us r;rw[List.map_cons]at r;cases r with
  | cons r1 r2 =>
   obtain⟨t,e⟩:=r1;subst e;exact .cons n t (ih r2)
section
variable{X:Cx}{e:Expr}{te:TE}{lo hi:Option Expr}{tl th:TO}{pos p2:Pos}
theorem jo:PO X none Il:=by
 intro pins s σ H Q I h;rw[evalPart_none];exact wpAny_pure ⟨none,H,I,.none,h⟩
theorem gO(h:PE X e te):PO X (some e) (Lk te):=by
 intro pins s σ H Q I hw;rw[evalPart_some];refine thn (h pins s σ H _ I hw) fun u s1 ⟨x,H1,I1,r1,q1⟩=>?_
 obtain⟨i,rfl,q⟩:=q1;obtain⟨t,rfl⟩:=r1;exact⟨some i,H1,I1,.int i t,q⟩
def SlR(X:Cx)(r:V->Option Int->Option Int->Hp->VK->Prop):Prop :=
 ∀(pins:List (Addr×Obj))(s:Shared)(σ:St)(H:Hp)(x:V)(v vl vu:Value)(lo hi:Option Int)(sl:Addr)(Q:VK),Inv X pins σ H s->RelV x v->s.heap.IsSliceOf sl vl vu .none -> IsPart vl lo->IsPart vu hi->r x lo hi H Q ->
  ∃ T id,typeLookup (.type T) "__getitem__"=pure (some (.builtin id))/\s.TypeIs v T/\wpAny (model X.prog X.w) X.A (getItem v (.ref sl)) (EP X pins σ Q) X.xe s
def tSl(r:V->Option Int->Option Int->Hp->VK->Prop)(te:TE)(tl th:TO):TE:=fun σ H Q=>te σ H fun x H1=>tl σ H1 fun l H2=>th σ H2 fun u H3=>r x l u H3 Q
theorem gC{r:V->Option Int->Option Int->Hp->VK->Prop}(hr:SlR X r)(he:PE X e te)(hl:PO X lo tl)(hu:PO X hi th):PE X (.Subscript e (.Slice lo hi none p2) pos) (tSl r te tl th):=by
 intro pins s σ H Q I h;refine Subscript_ (thn (he pins s σ H _ I h) fun v s1 ⟨x,H1,I1,r1,q1⟩=>?_);refine wpAny_Slice (thn (hl pins s1 σ H1 _ I1 q1) fun vl s2 ⟨l,H2,I2,pl,q2⟩=>thn (hu pins s2 σ H2 _ I2 q2) fun vu s3 ⟨u,H3,I3,pu,q3⟩=>?_);rw[evalPart_none];refine wpAny_pure ?_;have I4:Inv X pins σ H3 { s3 with heap:=s3.heap.push { cls:=.type "slice",data:=.fields #[vl,vu,.none] } }:=I3.kept (t':=s3.toks) fun b ob q=>Heap.get?_push_of_some _ q
 obtain⟨T,id,hT,ht,hg⟩:=hr pins { s3 with heap:=s3.heap.push { cls:=.type "slice",data:=.fields #[vl,vu,.none] } } σ H3 x v vl vu l u s3.heap.objs.size Q I4 r1 (Heap.IsSliceOf.new ..) pl pu q3;show wpAny (model X.prog X.w) X.A (subscriptTail e (.Slice lo hi none p2) v (.ref s3.heap.objs.size)) (EP X pins σ Q) X.xe { s3 with heap:=s3.heap.push { cls:=.type "slice",data:=.fields #[vl,vu,.none] } };exact tail_any (ops:=[.ref s3.heap.objs.size,v]) ht hT hg (by with_unfolding_all rfl)
def gD(xs:List V)(lo hi:Option Int):List V:=(xs.drop (HT.sIx xs.length 0 lo)).take (HT.sIx xs.length xs.length hi - HT.sIx xs.length 0 lo)
theorem oU(xs:List V)(lo hi:Option Int):(gD xs lo hi).length <= xs.length:=by
 unfold gD;rw[List.length_take,List.length_drop];omega
def M9(K:W.Frag):V->Option Int->Option Int->Hp->VK->Prop:=fun x lo hi H Q=>∃ a xs,x = .ref a/\SqT K H a xs /\
 ¬ (HT.sIx xs.length 0 lo=0/\HT.sIx xs.length xs.length hi=xs.length)/\∀ p,H p=none->Q (.ref p) (upd H p (.tup (gD xs lo hi)))
theorem J7:SlR X (M9 X.K):=by
 intro pins s σ H x v vl vu lo hi sl Q I rx hs pl pu h;obtain⟨a,xs,rfl,hx,hw,q⟩:=h;cases rx;obtain⟨its,r,ht,hz⟩:=I.tuple hx;have hlen:its.toArray.size=xs.length:=by rw[List.size_toArray];exact r.length.symm
 refine⟨"tuple",_,PyProof.Rows.slot_tuple_getitem.lookup,ht.typeIs,?_⟩;refine HT.getItem_tuple_cut ht hs pl pu (by rw[hlen];exact hw) ?_ (by rw[hlen];exact hz);rw[hlen];refine⟨.ref s.heap.objs.size,_,I.laid (t':=s.toks) (o:=.tup (gD xs lo hi)) (fun b ob q=>Heap.get?_push_of_some _ q) (qnr _) ?_,rfl,q _ (I.hok.fresh (qnr _))⟩;exact⟨qnt (oU xs lo hi) hz,_,(r.drop (HT.sIx xs.length 0 lo)).take (HT.sIx xs.length xs.length hi - HT.sIx xs.length 0 lo),IsTupP.new _ _⟩
inductive rCatT(K:W.Frag)(x:V)(y:V)(H:Hp)(Q:VK):Prop
 |mk (a b xs ys) (_:x = .ref a) (_:y = .ref b) (_:SqT K H a xs) (_:SqT K H b ys) (_:xs≠[]) (_:xs.length+ys.length<=sizeLine) (_:(ys=[]->Q (.ref a) H)) (_:(ys≠[]->∀ p,H p=none->Q (.ref p) (upd H p (.tup (xs++ys)))))
theorem Vals.nil_iff{xs:List V}{us:List Value}(r:Vals xs us):us=[]↔xs=[]:=by
 cases r with
 |nil=>simp
 |cons _ _=>simp
theorem Im:OpR X (binaryOp .Add) (rCatT X.K):=by
 intro pins s σ H x y v u Q I rx ry h;obtain⟨a,b,xs,ys,rfl,rfl,ha,hb,hx,hz,q1,q2⟩:=h;cases rx;cases ry;obtain⟨its,r1,p1,_⟩:=I.tuple ha;obtain⟨its2,r2,p2,_⟩:=I.tuple hb;refine HT.cat_tup p1 p2 (fun z=>hx (r1.nil_iff.mp z)) (fun z=>⟨.ref a,H,I,rfl,q1 (r2.nil_iff.mp z)⟩) (fun z=>?_) (by rw[<- r1.length,<- r2.length];exact hz);refine⟨.ref s.heap.objs.size,_,I.laid (t':=s.toks) (o:=.tup (xs++ys)) (fun b ob q=>Heap.get?_push_of_some _ q) (qnr _) ?_,rfl,q2 (fun w=>z (r2.nil_iff.mpr w)) _ (I.hok.fresh (qnr _))⟩;exact⟨by rw[List.length_append];exact hz,_,r1.append r2,IsTupP.new _ _⟩
end
end L2
namespace L2
open PySem PySem.Spec PyProof.Rows
def ixN(n:Nat)(i:Int):Option Nat:=if 0<=i then(if i<n then some i.toNat else none)else if -(n:Int)<=i then some (i+n).toNat else none
def atI{α:Type}(xs:List α)(i:Int):Option α:=(ixN xs.length i).bind fun j=>xs[j]?
theorem Io{n:Nat}{i:Int}{j:Nat}(h:ixN n i=some j):seqIndex? i n=some j/\j<n/\-(n:Int)<=i/\i<n:=by
 unfold ixN at h
 by_cases h0:0<=i
 . rw[qp h0]at h
   by_cases h1:i<n
   . rw[qp h1]at h
     have e:i.toNat=j:=qsi h;exact⟨by rw[seqIndex_of h0 h1,e],by omega,by omega,h1⟩
   . rw[qnZ h1]at h;cases h
 . rw[qnZ h0]at h
   by_cases h1 : -(n:Int)<=i
   . rw[qp h1]at h
     have e:(i+n).toNat=j:=qsi h;exact⟨by rw[seqIndex_neg (by omega) h1,e],by omega,h1,by omega⟩
   . rw[qnZ h1]at h;cases h
theorem qU{α:Type}{xs:List α}{i:Int}{v:α}(h:atI xs i=some v):∃ j,seqIndex? i xs.length=some j/\xs[j]? = some v/\j<xs.length/\-(xs.length:Int)<=i/\i<xs.length:=by
 unfold atI at h;cases e:ixN xs.length i with
 |none=>rw[e]at h;cases h
 | some j =>
  rw[e]at h;obtain⟨h1,h2,h3,h4⟩:=Io e;exact⟨j,h1,h,h2,h3,h4⟩
theorem cM{α:Type}{xs:List α}{j:Nat}{v:α}(h:xs[j]? = some v):atI xs (j:Int)=some v:=by
 have hj:j<xs.length:=(List.getElem?_eq_some_iff.mp h).1
 have e:ixN xs.length (j:Int)=some j:=by
  unfold ixN;rw[qp (by omega),qp (by omega)];simp
 unfold atI;rw[e];exact h
theorem pC{α:Type}(xs:List α)(v:α):atI (xs++[v]) (-1)=some v:=by
 have hl:(xs++[v]).length=xs.length+1:=by simp
 have e:ixN (xs++[v]).length (-1)=some xs.length:=by
  unfold ixN;rw[hl,qnZ (by decide),qp (by omega)]
  congr 1
  omega
 unfold atI;rw[e];show(xs++[v])[xs.length]? = some v;simp
def wL(b:Expr):Prop:=∀ o i,subscripted b false o i=operate [o,i] (getItem o i)
def IxR(X:Cx)(r:R2):Prop :=
 ∀(value slice:Expr)(pins:List (Addr×Obj))(s:Shared)(σ:St)(H:Hp)(x y:V)(v u:Value)(Q:VK),Inv X pins σ H s->RelV x v->RelV y u->r x y H Q ->
  subscripted slice false v u=operate [v,u] (getItem v u)->wpAny (model X.prog X.w) X.A (subscriptTail value slice v u) (EP X pins σ Q) X.xe s
def MtR(X:Cx)(id:String)(r:V->List V->Hp->VK->Prop):Prop :=
 ∀(pins:List (Addr×Obj))(s:Shared)(σ:St)(H:Hp)(x:V)(xs:List V)(v:Value)(us:List Value)(Q:VK),Inv X pins σ H s->RelV x v->Vals xs us->r x xs H Q ->
  wpAny (model X.prog X.w) X.A (call (.builtin id) (v::us)) (EP X pins σ Q) X.xe s
section
variable{X:Cx}{a b:Expr}{ta tb:TE}{pos:Pos}
theorem Ln{r:R2}(hr:IxR X r)(ha:PE X a ta)(hb:PE X b tb)(hs:wL b):PE X (.Subscript a b pos) (tOp r ta tb):=by
 intro pins s σ H Q I h;exact Subscript_ (DR ha hb I h fun v u s2 x y H2 I2 rx ry q=>hr a b pins s2 σ H2 x y v u Q I2 rx ry q (hs _ _))
theorem pix{r:R2}(hr:IxR X r)(ha:PE X a ta)(hb:PE X b tb)(hs:wL b:=by exact fun _ _=>rfl):PE X (.Subscript a b pos) (tOp r ta tb):=Ln hr ha hb hs
inductive rIxL(K:W.Frag)(x:V)(y:V)(H:Hp)(Q:VK):Prop
 |mk (p xs i v) (_:x = .ref p) (_:y = .int i) (_:SqL K H p xs) (_:atI xs i=some v) (_:Q v H)
inductive rIxT(K:W.Frag)(x:V)(y:V)(H:Hp)(Q:VK):Prop
 |mk (p xs i v) (_:x = .ref p) (_:y = .int i) (_:SqT K H p xs) (_:atI xs i=some v) (_:Q v H)
inductive rIxS(x:V)(y:V)(H:Hp)(Q:VK):Prop
 |mk (z i c) (_:x = .str z) (_:y = .int i) (_:z.length<=sizeLine) (_:atI z.cps.toList i=some c) (_:Q (.str ⟨#[c]⟩) H)
theorem bN:IxR X (rIxL X.K):=by
 intro value slice pins s σ H x y v u Q I rx ry h hs;obtain⟨p,xs,i,z,rfl,rfl,hq,he,q⟩:=h;cases rx;obtain⟨t,rfl⟩:=ry;obtain⟨its,r,pl,hz⟩:=I.list hq;obtain⟨j,h1,h2,h3,h4,h5⟩:=qU he;obtain⟨w,ew,rw'⟩:=r.get h2;have hl:=r.length;have hn:=kY;have fin:EP X pins σ Q w s:=⟨z,H,I,rw',q⟩
 by_cases h0:0<=i
 . have hj:i.toNat=j:=by
    rw[seqIndex_of h0 h5]at h1;exact qsi h1
   exact item_listR pl.isList h0 (by omega) (by rw[hj];simpa using ew) fin hs
 . have hj:(i+(its.toArray.size:Int)).toNat=j:=by
    rw[seqIndex_neg (by omega) h4]at h1;rw[List.size_toArray,<- hl];exact qsi h1
   exact subscriptTail_builtinR (x:=w) pl.isList.typeIs slot_list_getitem.lookup
    (wpAny_getItem_list_neg (Q:=fun r s'=>r=w/\EP X pins σ Q r s') pl.isList (by omega) (by rw[List.size_toArray] <;> omega) (by omega) (by rw[hj];simpa using ew) ⟨rfl,fin⟩) hs
theorem aM:IxR X (rIxT X.K):=by
 intro value slice pins s σ H x y v u Q I rx ry h hs;obtain⟨p,xs,i,z,rfl,rfl,hq,he,q⟩:=h;cases rx;obtain⟨t,rfl⟩:=ry;obtain⟨its,r,pl,hz⟩:=I.tuple hq;obtain⟨j,h1,h2,h3,h4,h5⟩:=qU he;obtain⟨w,ew,rw'⟩:=r.get h2;have hl:=r.length;have hn:=kY;have fin:EP X pins σ Q w s:=⟨z,H,I,rw',q⟩
 exact subscriptTail_builtinR (x:=w) pl.typeIs slot_tuple_getitem.lookup
  (getItem_tuple (j:=j) (Q:=fun r s'=>r=w/\EP X pins σ Q r s') pl (by omega) (by omega) (by rw[List.size_toArray,<- hl];exact h1) (by simpa using ew) ⟨rfl,fin⟩) hs
theorem mV:IxR X rIxS:=by
 intro value slice pins s σ H x y v u Q I rx ry h hs;obtain⟨z,i,c,rfl,rfl,hz,he,q⟩:=h;obtain⟨t,rfl⟩:=rx;obtain⟨t',rfl⟩:=ry;obtain⟨j,h1,h2,h3,h4,h5⟩:=qU he;have hl:z.cps.toList.length=z.length:=by simp[Str.length]
 rw[hl]at h1 h4 h5;have hn:=kY
 exact tail_any (typeIs_str s z t) slot_str_getitem.lookup (getItem_str (c:=c) (by
  have e1:decide (i < -(2 ^ 63:Int))=false:=qdf (by omega);have e2:decide (i ≥ 2 ^ 63)=false:=qdf (by omega)
  rw[e1,e2,Bool.or_false]) (by rw[h1];simpa using h2) ⟨.str ⟨#[c]⟩,H,I.tok _,⟨_,rfl⟩,q⟩) hs
theorem uC(lo hi:Option Int)(n:Nat):(sliceBounds lo hi none n).1=((HT.sIx n 0 lo:Nat):Int)/\(sliceBounds lo hi none n).2.1=((HT.sIx n n hi:Nat):Int)/\(sliceBounds lo hi none n).2.2=1:=by
 refine⟨?_,?_,rfl⟩
 . cases lo with
   |none=>simp[sliceBounds,HT.sIx]
   | some i =>
    simp only[sliceBounds,HT.sIx,Option.getD_none,show(1:Int) > 0 by decide,if_true]
    by_cases h:i<0
    . simp only[h,if_true] <;> omega
    . simp only[h,if_false] <;> omega
 . cases hi with
   |none=>simp[sliceBounds,HT.sIx]
   | some i =>
    simp only[sliceBounds,HT.sIx,Option.getD_none,show(1:Int) > 0 by decide,if_true]
    by_cases h:i<0
    . simp only[h,if_true] <;> omega
    . simp only[h,if_false] <;> omega
theorem tR(its:List Value)(lo hi:Option Int):slicePick its.toArray lo hi none=((its.drop (HT.sIx its.length 0 lo)).take (HT.sIx its.length its.length hi - HT.sIx its.length 0 lo)).toArray:=by
 obtain⟨h1,h2,h3⟩:=uC lo hi its.toArray.size;unfold slicePick;rw[h1,h2,h3];simp only[sliceRange_one,pick_run,List.size_toArray] <;> rfl
def Nb(K:W.Frag):V->Option Int->Option Int->Hp->VK->Prop:=fun x lo hi H Q=>∃ a xs,x = .ref a/\SqL K H a xs/\∀ p,H p=none->Q (.ref p) (upd H p (.lst (gD xs lo hi)))
theorem qW:SlR X (Nb X.K):=by
 intro pins s σ H x v vl vu lo hi sl Q I rx hs pl pu h;obtain⟨a,xs,rfl,hx,q⟩:=h;cases rx;obtain⟨its,r,ht,hz⟩:=I.list hx;have hlen:=r.length;refine⟨"list",_,slot_list_getitem.lookup,ht.isList.typeIs,?_⟩;refine wpAny_getItem_list_slice ht.isList hs pl pu .none (by simp) ?_ (by rw[List.size_toArray] <;> omega);rw[tR,<- hlen];refine⟨.ref s.heap.objs.size,_,I.laid (t':=s.toks) (o:=.lst (gD xs lo hi)) (fun b ob q=>Heap.get?_push_of_some _ q) (qnr _) ?_,rfl,q _ (I.hok.fresh (qnr _))⟩;exact⟨qnt (oU xs lo hi) hz,_,0,(r.drop (HT.sIx xs.length 0 lo)).take (HT.sIx xs.length xs.length hi - HT.sIx xs.length 0 lo),Heap.get?_push_size _ rfl⟩
def eQ:V->Bool
 | .non=>true
 | .bl _=>true
 | .int _=>true
 | .str _=>true
 |_=>false
def eqV:V->V->Bool
 | .non,.non=>true
 | .bl a,.bl b=>a == b
 | .bl a,.int b=>(if a then 1 else 0) == b
 | .int a,.bl b=>a == (if b then 1 else 0)
 | .int a,.int b=>a == b
 | .str a,.str b=>a == b
 |_,_=>false
theorem J8{A:Around}{s:Shared}{y x:V}{u v:Value}(ry:RelV y u)(rx:RelV x v)(fy:eQ y=true)(fx:eQ x=true):SeqAt.EqAt A s u v (eqV y x):=by
 cases y with
 | non =>
  cases ry;cases x with
  |non=>cases rx;exact SeqAt.EqAt.same _
  |bl b=>cases rx;exact SeqAt.EqAt.none_bool b
  |int b=>obtain⟨t,rfl⟩:=rx;exact SeqAt.EqAt.none_int b t
  |str b=>obtain⟨t,rfl⟩:=rx;exact SeqAt.EqAt.none_str b t
  |_=>exact absurd (show false=true from fx) qbf
 | bl a =>
  cases ry;cases x with
  |non=>cases rx;exact SeqAt.EqAt.bool_none a
  |bl b=>cases rx;exact SeqAt.EqAt.bool_bool a b
  |int b=>obtain⟨t,rfl⟩:=rx;exact SeqAt.EqAt.bool_int a b t
  |str b=>obtain⟨t,rfl⟩:=rx;exact SeqAt.EqAt.bool_str a b t
  |_=>exact absurd (show false=true from fx) qbf
 | int a =>
  obtain⟨t',rfl⟩:=ry;cases x with
  |non=>cases rx;exact SeqAt.EqAt.int_none a t'
  |bl b=>cases rx;exact SeqAt.EqAt.int_bool a t' b
  |int b=>obtain⟨t,rfl⟩:=rx;exact SeqAt.EqAt.int_int a t' b t
  |str b=>obtain⟨t,rfl⟩:=rx;exact SeqAt.EqAt.int_str a t' b t
  |_=>exact absurd (show false=true from fx) qbf
 | str a =>
  obtain⟨t',rfl⟩:=ry;cases x with
  |non=>cases rx;exact SeqAt.EqAt.str_none a t'
  |bl b=>cases rx;exact SeqAt.EqAt.str_bool a t' b
  |int b=>obtain⟨t,rfl⟩:=rx;exact SeqAt.EqAt.str_int a t' b t
  |str b=>obtain⟨t,rfl⟩:=rx;exact SeqAt.EqAt.str_str a t' b t
  |_=>exact absurd (show false=true from fx) qbf
 |_=>exact absurd (show false=true from fy) qbf
def eqU(x:V)(u:Value):Bool:=match u with
 | .none=>eqV .non x
 | .bool b=>eqV (.bl b) x
 | .int i _=>eqV (.int i) x
 | .str z _=>eqV (.str z) x
 |_=>false
theorem qj{x y:V}{u:Value}(r:RelV y u)(f:eQ y=true):eqU x u=eqV y x:=by
 cases y with
 |non=>cases r;rfl
 |bl b=>cases r;rfl
 |int i=>obtain⟨t,rfl⟩:=r;rfl
 |str z=>obtain⟨t,rfl⟩:=r;rfl
 |_=>exact absurd (show false=true from f) qbf
theorem kZ{x:V}:∀{xs:List V}{us:List Value},Vals xs us->xs.all eQ=true->us.any (eqU x)=xs.any fun y=>eqV y x
 |_,_,.nil,_=>rfl
 | y::xs,u::us,.cons r t,f=>by
  rw[List.all_cons,Bool.and_eq_true]at f;rw[List.any_cons,List.any_cons,qj r f.1,kZ t f.2]
theorem gF{A:Around}{s:Shared}{x:V}{v:Value}(rx:RelV x v)(fx:eQ x=true):∀{xs:List V}{us:List Value},Vals xs us->xs.all eQ=true->∀ u∈us,SeqAt.EqAt A s u v (eqU x u)
 |_,_,.nil,_=>fun u hu=>by cases hu
 | y::xs,u::us,.cons r t,f=>fun u' hu=>by
  rw[List.all_cons,Bool.and_eq_true]at f;rcases List.mem_cons.mp hu with rfl|hu
  . rw[qj r f.1];exact J8 r rx f.1 fx
  . exact gF rx fx t f.2 u' hu
def inV(x:V)(xs:List V):Bool:=xs.any fun y=>eqV y x
inductive rIn(K:W.Frag)(neg:Bool)(x:V)(y:V)(H:Hp)(Q:VK):Prop
 |mk (p xs) (_:y = .ref p) (_:(SqL K H p xs\/SqT K H p xs)) (_:eQ x=true) (_:xs.all eQ=true) (_:Q (.bl (if neg then !inV x xs else inV x xs)) H)
theorem iW:OpR X (compareOp .In) (rIn X.K false):=by
 intro pins s σ H x y v u Q I rx ry h;obtain⟨p,xs,rfl,hq,fx,fs,q⟩:=h;cases ry;rcases hq with hq|hq
 . obtain⟨its,r,pl,hz⟩:=I.list hq
   refine SeqAt.in_listAt (eqU x) pl.isList (fun w hw=>gF rx fx r fs w (by simpa using hw)) ⟨.bl _,H,I,rfl,?_⟩;rw[show its.toArray.any (eqU x)=its.any (eqU x)by simp,kZ r fs];exact q
 . obtain⟨its,r,pl,hz⟩:=I.tuple hq
   refine SeqAt.in_tupleAt (eqU x) pl (fun w hw=>gF rx fx r fs w (by simpa using hw)) ⟨.bl _,H,I,rfl,?_⟩;rw[show its.toArray.any (eqU x)=its.any (eqU x)by simp,kZ r fs];exact q
theorem uD:OpR X (compareOp .NotIn) (rIn X.K true):=by
 intro pins s σ H x y v u Q I rx ry h;obtain⟨p,xs,rfl,hq,fx,fs,q⟩:=h;cases ry;rcases hq with hq|hq
 . obtain⟨its,r,pl,hz⟩:=I.list hq
   refine SeqAt.notIn_listAt (eqU x) pl.isList (fun w hw=>gF rx fx r fs w (by simpa using hw)) ⟨.bl _,H,I,rfl,?_⟩;rw[show its.toArray.any (eqU x)=its.any (eqU x)by simp,kZ r fs];exact q
 . obtain⟨its,r,pl,hz⟩:=I.tuple hq
   refine SeqAt.notIn_tupleAt (eqU x) pl (fun w hw=>gF rx fx r fs w (by simpa using hw)) ⟨.bl _,H,I,rfl,?_⟩;rw[show its.toArray.any (eqU x)=its.any (eqU x)by simp,kZ r fs];exact q
theorem aZ:dC X (.builtin "len") (fun xs H Q=>∃ p ys,xs=[.ref p]/\(SqL X.K H p ys\/SqT X.K H p ys)/\Q (.int ys.length) H):=by
 intro pins s σ H xs us Q I r h;obtain⟨p,ys,rfl,hq,q⟩:=h;obtain⟨u,rfl,rx⟩:=vals1 r;cases rx;have hn:=kY;rcases hq with hq|hq
 . obtain⟨its,r',pl,hz⟩:=I.list hq
   have hlen:=r'.length;exact Calls.call_len_list pl.isList (by simp only[List.size_toArray] <;> omega) ⟨.int ys.length,H,I.tok _,⟨s.toks+1,by rw[List.size_toArray,hlen]⟩,q⟩
 . obtain⟨its,r',pl,hz⟩:=I.tuple hq
   have hlen:=r'.length;exact len_tuple pl (by simp only[List.size_toArray] <;> omega) ⟨.int ys.length,H,I.tok _,⟨s.toks+1,by rw[List.size_toArray,hlen]⟩,q⟩
theorem jy:dC X (.builtin "len") (fun xs H Q=>∃ z,xs=[.str z]/\z.length<=sizeLine/\Q (.int z.length) H):=by
 intro pins s σ H xs us Q I r h;obtain⟨z,rfl,hz,q⟩:=h;obtain⟨u,rfl,t,rfl⟩:=vals1 r;have hn:=kY;exact len_str (by omega) ⟨.int z.length,H,I.tok _,⟨_,rfl⟩,q⟩
theorem uE:dC X (.type "list") (fun xs H Q=>∃ p ys,xs=[.ref p]/\(SqL X.K H p ys\/SqT X.K H p ys)/\∀ l,H l=none->Q (.ref l) (upd H l (.lst ys))):=by
 intro pins s σ H xs us Q I r h;obtain⟨p,ys,rfl,hq,q⟩:=h;obtain⟨u,rfl,rx⟩:=vals1 r;cases rx
 have fin:∀(its:List Value),Vals ys its->ys.length<=sizeLine->∀(h':Heap)(c':Nat),(∀ b o',s.heap.get? b=some o'->h'.get? b=some o') ->
   h'.get? s.heap.objs.size=some { cls:=.type "list",dict:=none,data:=.seq its.toArray c',slots:=#[] }->EP X pins σ Q (.ref s.heap.objs.size) { s with heap:=h' }:=fun its r' hz h' c' kp e =>
  ⟨.ref s.heap.objs.size,_,I.laid (t':=s.toks) kp (qnr _) (show ObjOk X.prog X.w _ h' _ (.lst ys)from⟨hz,its,c',r',e⟩),rfl,q _ (I.hok.fresh (qnr _))⟩
 rcases hq with hq|hq
 . obtain⟨its,r',pl,hz⟩:=I.list hq
   have hlen:=r'.length;obtain⟨o,ho,hc,n,hd⟩:=pl.isList;exact call_list_seq p (.inl rfl) ho hc hd (fun h' c' kp e=>fin its r' hz h' c' kp e) (by simp only[List.size_toArray] <;> omega)
 . obtain⟨its,r',pl,hz⟩:=I.tuple hq
   have hlen:=r'.length;obtain⟨o,ho,hc,n,hd⟩:=pl;exact call_list_seq p (.inr rfl) ho hc hd (fun h' c' kp e=>fin its r' hz h' c' kp e) (by simp only[List.size_toArray] <;> omega)
theorem dm:dC X (.type "tuple") (fun xs H Q=>∃ p ys,xs=[.ref p]/\((SqL X.K H p ys/\∀ l,H l=none->Q (.ref l) (upd H l (.tup ys)))\/(SqT X.K H p ys/\Q (.ref p) H))):=by
 intro pins s σ H xs us Q I r h;obtain⟨p,ys,rfl,h⟩:=h;obtain⟨u,rfl,rx⟩:=vals1 r;cases rx;rcases h with⟨hq,q⟩|⟨hq,q⟩
 . obtain⟨its,r',pl,hz⟩:=I.list hq
   have hlen:=r'.length;refine call_tuple_list pl.isList (fun h' kp=>?_) (by simp only[List.size_toArray] <;> omega);have I1:Inv X pins σ H { s with heap:=h' }:=I.kept (t':=s.toks) kp
   have I2:Inv X pins σ (upd H h'.objs.size (.tup ys)) { s with heap:=h'.push { cls:=.type "tuple",data:=.seq its.toArray } } :=
    I1.laid (t':=s.toks) (fun b o e=>Heap.get?_push_of_some _ e) (qnr _) (show ObjOk X.prog X.w _ _ _ (.tup ys)from⟨hz,its,r',IsTupP.new _ _⟩)
   exact⟨.ref h'.objs.size,_,I2,rfl,q _ (I1.hok.fresh (qnr _))⟩
 . obtain⟨its,r',pl,hz⟩:=I.tuple hq
   exact call_tuple_same pl ⟨.ref p,H,I,rfl,q⟩
def tyV(K:W.Frag)(T:String)(x:V)(H:Hp):Prop:=match x with
 | .str _=>T="str"
 | .int _=>T="int"
 | .ref p=>(T="list"/\∃ xs,SqL K H p xs)\/(T="tuple"/\∃ o,K.lookup p=some o/\o.cls = .type "tuple"/\o.dict=none) \/
   (T="dict"/\((∃ kvs,H p=some (.dK kvs))\/∃ kvs,H p=some (.dT kvs)))\/(T="set"/\∃ S n,H p=some (.set S n))
 |_=>False
theorem Av{pins:List (Addr×Obj)}{σ:St}{H:Hp}{s:Shared}{T:String}{x:V}{v:Value}(I:Inv X pins σ H s)(r:RelV x v)(ty:tyV X.K T x H):
  s.TypeIs v T/\∀ a,v = .ref a->∃ ob,s.heap.get? a=some ob/\ob.dict=none:=by
 cases x with
 | str z =>
  obtain⟨t,rfl⟩:=r;cases(show T="str" from ty);exact⟨typeIs_str s z t,fun _ e=>nomatch e⟩
 | int i =>
  obtain⟨t,rfl⟩:=r;cases(show T="int" from ty);exact⟨typeIs_int s i t,fun _ e=>nomatch e⟩
 | ref p =>
  cases r;rcases ty with⟨rfl,xs,hq⟩|⟨rfl,o,hk,hc,hd⟩|⟨rfl,hk⟩|⟨rfl,S,n,hk⟩
  . obtain⟨its,_,pl,_⟩:=I.list hq
    refine⟨pl.isList.typeIs,fun a e=>?_⟩;cases e;obtain⟨o,n,e,c,hd,_⟩:=pl;exact⟨o,e,hd⟩
  . refine⟨⟨o,I.kIn p o hk,hc⟩,fun a e=>?_⟩
    cases e;exact⟨o,I.kIn _ o hk,hd⟩
  . have z:∃ o,s.heap.get? p=some o/\o.ExactDict:=by
     rcases hk with⟨kvs,hk⟩|⟨kvs,hk⟩
     . obtain⟨_,_,_,_,o,_,_,e,ex,_⟩:=I.hok p _ hk
       exact⟨o,e,ex⟩
     . obtain⟨_,_,_,_,o,_,_,e,ex,_⟩:=I.hok p _ hk
       exact⟨o,e,ex⟩
    obtain⟨o,e,ex⟩:=z;refine⟨⟨o,e,ex.1⟩,fun a e2=>?_⟩;cases e2;exact⟨o,e,ex.2.1⟩
  . obtain⟨o,_,_,_,e,ex,_⟩:=I.hok p _ hk
    refine⟨⟨o,e,ex.1⟩,fun a e2=>?_⟩;cases e2;exact⟨o,e,ex.2.1⟩
 |_=>exact False.elim ty
def Nf(K:W.Frag)(T:String)(r:V->List V->Hp->VK->Prop)(to:TE):TE:=fun σ H Q=>to σ H fun x H1=>tyV K T x H1/\r x [] H1 Q
def tBM(K:W.Frag)(T:String)(r:V->List V->Hp->VK->Prop)(to:TE)(t:TA):TE:=fun σ H Q=>to σ H fun x H1=>tyV K T x H1/\t σ H1 fun xs H2=>r x xs H2 Q
variable{o e:Expr}{es:List Expr}{to:TE}{t:TA}{name:Str}{apos cpos:Pos}{T id:String}{r:V->List V->Hp->VK->Prop}
theorem mW (pa:PlainAttrs T) (slot:Slot T name id) (hty:typeOf (.builtin id)=pure (.type "method_descriptor")) (hm:MtR X id r) (ho:PE X o to)
  (hbase:attributeBase o name X.env (eval o X.env)=eval o X.env:=by rfl) (hline:(apos.endLine == cpos.line)=true:=by rfl):PE X (.Call (.Attribute o name apos) [] [] cpos) (Nf X.K T r to):=by
 intro pins s σ H Q I h;refine wpAny_Call_method0_late hbase hline (thn (ho pins s σ H _ I h) fun v s1 ⟨x,H1,I1,r1,ty,q1⟩=>?_);obtain⟨h1,h2⟩:=Av I1 r1 ty;exact⟨T,id,pa,slot,hty,h1,h2,Calls.callWith_builtin rfl (PySem.evalArgs_none (hm pins s1 σ H1 x [] v [] Q I1 r1 .nil q1))⟩
theorem cu (pa:PlainAttrs T) (slot:Slot T name id) (hty:typeOf (.builtin id)=pure (.type "method_descriptor")) (hm:MtR X id r) (ho:PE X o to) (ha:PA X (e::es) t)
  (hbase:attributeBase o name X.env (eval o X.env)=eval o X.env:=by rfl)
  (hfew:((backTo cpos (starEach (e::es) X.env)).all (fun x=>!x.1) && (backToKw cpos (keywordEach [] X.env)).all (fun x=>x.1.isSome)
   && decide ((e::es).length+([]:List Keyword).length+(if ([]:List Keyword).isEmpty then 0 else 1)<30))=true:=by rfl)
  (hline:(apos.endLine == cpos.line)=true:=by rfl) (hs:starEach (e::es) X.env=(false,eval e X.env):: starEach es X.env:=by rfl) (hplain:(backTo cpos (starEach es X.env)).any (·.1)=false:=by rfl):
  PE X (.Call (.Attribute o name apos) (e::es) [] cpos) (tBM X.K T r to t):=by
 intro pins s σ H Q I h;refine wpAny_Call_method_late hbase hfew hline rfl (thn (ho pins s σ H _ I h) fun v s1 ⟨x,H1,I1,r1,ty,q1⟩=>?_);obtain⟨h1,h2⟩:=Av I1 r1 ty;refine⟨T,id,pa,slot,hty,h1,h2,?_⟩;have hA:=ha cpos pins s1 σ H1 _ I1 q1;rw[hs]at hA ⊢;refine Calls.callWith_builtin (by show(false || (backTo cpos (starEach es X.env)).any (·.1))=false;rw[hplain] <;> rfl) (Calls.evalArgs_plain ?_);exact thn hA fun us s2 ⟨vs,H2,I2,r2,q2⟩=>hm pins s2 σ H2 x vs v us Q I2 r1 r2 q2
/- xs.append(e),list.index on a module's tuple .. are MtR facts of 06m -/
end
end L2
namespace L2
open PySem PySem.Spec PyProof.Rows
def MtM(X:Cx)(id:String)(r:V->List V->Hp->VK->Prop):Prop :=
 ∀(pins:List (Addr×Obj))(s:Shared)(σ:St)(H:Hp)(x:V)(xs:List V)(v:Value)(us:List Value)(Q:VK),Inv X pins σ H s->RelV x v->Vals xs us->r x xs H Q ->
  wpAny (model X.prog X.w) X.A (call (.builtin id) (v::us)) (EP X pins σ Q) X.xe s
theorem Vals.one:∀{x:V}{us:List Value},Vals [x] us->∃ u,us=[u]/\RelV x u
 |_,_,.cons r .nil=>⟨_,rfl,r⟩
theorem Vals.zero:∀{us:List Value},Vals [] us->us=[]
 |_,.nil=>rfl
theorem Vals.dropLast{xs:List V}{us:List Value}(h:Vals xs us):Vals xs.dropLast us.dropLast:=by
 induction h with
 |nil=>exact .nil
 | cons r t ih =>
  cases t with
  |nil=>exact .nil
  |cons q t'=>exact .cons r ih
theorem Vals.rep{xs:List V}{us:List Value}(h:Vals xs us):∀ k:Nat,Vals (List.replicate k xs).flatten (List.replicate k us).flatten
 | 0=>.nil
 | k+1=>by
  rw[List.replicate_succ,List.replicate_succ,List.flatten_cons,List.flatten_cons];exact Vals.append h (Vals.rep h k)
theorem xZ{α:Type}(l:List α):l.eraseIdx (l.length - 1)=l.dropLast:=by
 induction l with
 |nil=>rfl
 | cons a r ih =>
  cases r with
  |nil=>rfl
  | cons b r =>
   have e:(a::b::r).length - 1=((b::r).length - 1)+1:=by
    have h1:(a::b::r).length=r.length+2:=rfl;have h2:(b::r).length=r.length+1:=rfl;omega
   rw[e,List.eraseIdx_cons_succ,ih]
   all_goals rfl
theorem foldl_rep(its:List Value):∀(k:Nat)(acc:List Value),
  List.foldl (fun x1 x2=>x1++x2) acc.toArray (List.replicate k its.toArray)=(acc++(List.replicate k its).flatten).toArray
 | 0,acc=>by simp
 | k + 1,acc=>by
  have e:acc.toArray++its.toArray=(acc++its).toArray:=by simp
  have e2:(acc++its)++(List.replicate k its).flatten=acc++(List.replicate (k+1) its).flatten:=by
   rw[List.replicate_succ,List.flatten_cons,List.append_assoc]
  rw[<- e2,<- foldl_rep its k (acc++its),<- e,List.replicate_succ,List.foldl_cons]
section
variable{X:Cx}{pins:List (Addr×Obj)}{σ:St}{H:Hp}{s:Shared}{l b:Addr}{xs ys zs:List V}
theorem Inv.lset{its its':List Value}{n:Nat}{f:Array Value->Array Value}{t':Nat}(I:Inv X pins σ H s)(hH:H l=some (.lst xs))
  (e:s.heap.get? l=some { cls:=.type "list",data:=.seq its.toArray n }) (hf:f its.toArray=its'.toArray) (hv:Vals ys its') (hz:ys.length<=sizeLine):
  Inv X pins σ (upd H l (.lst ys)) { s with heap:=s.heap.update l (Obj.mapSeq f),toks:=t' }:=by
 have q:=PySem.IsL.update e f;rw[hf]at q;refine I.write (x:=l) (e:=l) (by rw[hH];exact trivial) (.inl rfl) (fun b' u hb hu=>(Heap.get?_update_other s.heap (Obj.mapSeq f) (Ne.symm hb)).trans hu) ⟨_,q⟩ ?_;exact⟨hz,its',_,hv,q⟩
theorem Inv.lnew{its:List Value}{t':Nat}(I:Inv X pins σ H s)(hv:Vals ys its)(hz:ys.length<=sizeLine):
  Inv X pins σ (upd H s.heap.objs.size (.lst ys)) { s with heap:=s.heap.push { cls:=.type "list",data:=.seq its.toArray },toks:=t' } :=
 I.laid (fun _ _ q=>Heap.get?_push_of_some _ q) (qnr _) ⟨hz,its,0,hv,Heap.get?_push_size _ rfl⟩
theorem Inv.fresh(I:Inv X pins σ H s):H s.heap.objs.size=none:=I.hok.fresh (qnr _)
theorem Inv.lstM(I:Inv X pins σ H s)(hH:H l=some (.lst xs)):xs.length<=sizeLine/\∃(its:List Value) (n:Nat),Vals xs its/\xs.length=its.length/\s.heap.get? l=some { cls:=.type "list",data:=.seq its.toArray n }:=by
 obtain⟨z,its,n,r,e⟩:=I.hok l _ hH;exact⟨z,its,n,r,r.length,e⟩
theorem uF{n:Nat}(h:n<=sizeLine):Builtin.List.listTooLong n=false:=by
 unfold Builtin.List.listTooLong;exact qdf (by omega)
end
section
variable{X:Cx}
inductive rAppend(x:V)(vs:List V)(H:Hp)(Q:VK):Prop
 |mk (l xs y) (_:x = .ref l) (_:vs=[y]) (_:H l=some (.lst xs)) (_:xs.length<sizeLine) (_:Q .non (upd H l (.lst (xs++[y]))))
theorem cX:MtM X "list.append" rAppend:=by
 intro pins s σ H x vs v us Q I rx rv h;obtain⟨l,xs,y,rfl,rfl,hH,hz,q⟩:=h;cases rx;obtain⟨u,rfl,ru⟩:=rv.one;obtain⟨z,its,n,r,hl,e⟩:=I.lstM hH;refine call_meets F.slot_list_append ⟨_,e,rfl⟩ F.entry_list_append (F.args_list_append_2 _ _) (PySem.list_append l its.toArray n u (by rw[List.size_toArray];omega)) ⟨e,?_⟩;refine⟨.non,_,I.lset (its':=its++[u]) hH e (by simp) (r.append (.cons ru .nil)) ?_,rfl,q⟩;rw[List.length_append,List.length_singleton];omega
inductive rExtend(x:V)(vs:List V)(H:Hp)(Q:VK):Prop
 |mk (l b xs zs) (_:x = .ref l) (_:vs=[.ref b]) (_:H l=some (.lst xs)) (_:H b=some (.lst zs)) (_:xs.length+zs.length<=sizeLine) (_:Q .non (upd H l (.lst (xs++zs))))
theorem Aw:MtM X "list.extend" rExtend:=by
 intro pins s σ H x vs v us Q I rx rv h;obtain⟨l,b,xs,zs,rfl,rfl,hH,hB,hz,q⟩:=h;cases rx;obtain⟨u,rfl,ru⟩:=rv.one;cases ru;obtain⟨z,its,n,r,hl,e⟩:=I.lstM hH;obtain⟨z2,its2,n2,r2,hl2,e2⟩:=I.lstM hB;have hsz:its.toArray.size+its2.toArray.size<=sizeLine:=by rw[List.size_toArray,List.size_toArray];omega
 have hlong:¬ (!its.toArray.isEmpty && Builtin.List.listTooLong (its.toArray.size+its2.toArray.size))=true:=by
  rw[uF hsz,Bool.and_false];exact qbf
 refine call_meets F.slot_list_extend ⟨_,e,rfl⟩ F.entry_list_extend (F.args_list_extend_2 _ _)
  (AutoSeq1.list_extend_list_list_0 l its.toArray n b its2.toArray n2 hlong (by rw[List.size_toArray];omega) (by omega)) ⟨e,e2,?_⟩
 refine⟨.non,_,I.lset (its':=its++its2) hH e (by simp) (r.append r2) ?_,rfl,q⟩;rw[List.length_append];omega
inductive rPop(x:V)(vs:List V)(H:Hp)(Q:VK):Prop
 |mk (l xs y) (_:x = .ref l) (_:vs=[]) (_:H l=some (.lst xs)) (_:xs[xs.length - 1]? = some y) (_:Q y (upd H l (.lst xs.dropLast)))
theorem mX:MtM X "list.pop" rPop:=by
 intro pins s σ H x vs v us Q I rx rv h;obtain⟨l,xs,y,rfl,rfl,hH,hy,q⟩:=h;cases rx;have hus:=rv.zero;subst hus;obtain⟨z,its,n,r,hl,e⟩:=I.lstM hH;obtain⟨u,hu,ru⟩:=r.get hy
 have hy':its.toArray[its.toArray.size - 1]? = some u:=by
  show its.toArray[its.length - 1]? = some u;rw[<- Array.getElem?_toList,<- hl];exact hu
 refine call_meets F.slot_list_pop ⟨_,e,rfl⟩ F.entry_list_pop (F.args_list_pop_1 _) (MeetsSeq.list_pop_last l its.toArray n u hy' (by rw[List.size_toArray];omega)) ⟨e,?_⟩;refine⟨y,_,I.lset (its':=its.dropLast) hH e ?_ r.dropLast ?_,ru,q⟩
 . show its.toArray.eraseIdxIfInBounds (its.toArray.size - 1)=its.dropLast.toArray
   rw[List.size_toArray,List.eraseIdxIfInBounds_toArray,xZ]
 . rw[List.length_dropLast]
   omega
inductive rCat(x:V)(y:V)(H:Hp)(Q:VK):Prop
 |mk (l b xs zs) (_:x = .ref l) (_:y = .ref b) (_:H l=some (.lst xs)) (_:H b=some (.lst zs)) (_:xs.length+zs.length<=sizeLine) (_:∀ p,H p=none->Q (.ref p) (upd H p (.lst (xs++zs))))
theorem Ax:OpR X (binaryOp .Add) rCat:=by
 intro pins s σ H x y v u Q I rx ry h;obtain⟨l,b,xs,zs,rfl,rfl,hH,hB,hz,q⟩:=h;cases rx;cases ry;obtain⟨z,its,n,r,hl,e⟩:=I.lstM hH;obtain⟨z2,its2,n2,r2,hl2,e2⟩:=I.lstM hB;refine PySem.P.add_list e e2 ?_ (by rw[List.size_toArray,List.size_toArray];omega);have ea:its.toArray++its2.toArray=(its++its2).toArray:=by simp
 rw[ea];exact⟨.ref _,_,I.lnew (t':=s.toks) (r.append r2) (by rw[List.length_append];omega),rfl,q _ I.fresh⟩
inductive rRep(x:V)(y:V)(H:Hp)(Q:VK):Prop
 |mk (l k xs) (_:x = .ref l) (_:y = .int k) (_:H l=some (.lst xs)) (_ : -(2 ^ 63)<=k) (_:k<2 ^ 63) (_:xs.length * k.toNat<=sizeLine) (_:∀ p,H p=none->Q (.ref p) (upd H p (.lst (List.replicate k.toNat xs).flatten)))
theorem len_rep{α:Type}(xs:List α)(k:Nat):(List.replicate k xs).flatten.length=k * xs.length:=by
 induction k with
 |zero=>simp
 |succ k ih=>rw[List.replicate_succ,List.flatten_cons,List.length_append,ih,Nat.succ_mul,Nat.add_comm]
theorem J9:OpR X (binaryOp .Mult) rRep:=by
 intro pins s σ H x y v u Q I rx ry h;obtain⟨l,k,xs,rfl,rfl,hH,h1,h2,hz,q⟩:=h;cases rx;obtain⟨t,rfl⟩:=ry;obtain⟨z,its,n,r,hl,e⟩:=I.lstM hH;have hlen:its.toArray.size * k.toNat<=sizeLine:=by rw[List.size_toArray,<- hl];exact hz
 have hcap:¬ its.toArray.size * k.toNat > (2 ^ 63 - 1) / 8:=by
  have:(sizeLine:Nat)<=(2 ^ 63 - 1) / 8:=by decide
  omega
 have hfit:¬ (!Builtin.List.listFitsIndex k)=true:=by
  rw[fitsIndex_both h1 h2];exact qbf
 have hlong:¬ Builtin.List.listTooLong (its.toArray.size * k.toNat)=true:=by
  rw[uF hlen];exact qbf
 have hnew:List.foldl (fun x1 x2=>x1++x2) #[] (List.replicate (if its.toArray.isEmpty=true then 0 else k.toNat) its.toArray)=(List.replicate k.toNat its).flatten.toArray:=by
  have f0:∀ m:Nat,List.foldl (fun x1 x2=>x1++x2) #[] (List.replicate m its.toArray)=(List.replicate m its).flatten.toArray:=fun m=>by
   have:=foldl_rep its m [];rw[List.nil_append]at this;exact this
  rw[f0];cases its with
  |nil=>simp
  |cons a r'=>rw[qnZ (by simp)]
 refine wpAny_binaryOp_repeat_ref (T := "list") (U := "int") (by decide) ⟨_,e,rfl⟩ (fun s'=>typeIs_int s' k t) noFill_list_mul F.fills_int_mul F.slot_int_rmul repeat_list F.slot_int_index.lookup
  (call_meets F.slot_int_rmul (typeIs_int s k t) F.entry_int_rmul (F.args_int_rmul_2 _ _) (int___rmul___int_list k t l its.toArray n)
   ⟨e,rfl,⟨_,e,rfl⟩,call_meets F.slot_list_mul ⟨_,e,rfl⟩ F.entry_list_mul (F.args_list_mul_2 _ _) (AutoListH.list___mul___list_int_3 l its.toArray n k t hfit hcap hlong) ⟨e,?_⟩⟩)
 rw[hnew];exact⟨.ref _,_,I.lnew (t':=s.toks) (r.rep k.toNat) (by rw[len_rep,Nat.mul_comm];exact hz),rfl,q _ I.fresh⟩
end
section
variable{prog:Program}{w:World}{A:Around}{E:Value->Shared->Prop}{s:Shared}
set_option maxRecDepth 100000 in
end
section
variable{X:Cx}
end
end L2
namespace Att
open PySem PySem.W PySem.Calls PyProof.Rows
theorem ql{P:Params}{h:Heap}:∀(ns:List Int)(vs:List Value),WellAll P h vs (ns.map WData.int)->IntsAre vs ns:=by
 intro ns
 induction ns with
 | nil =>
  intro vs w;rw[List.map_nil]at w;cases w;exact .nil
 | cons n ns ih =>
  intro vs w;rw[List.map_cons]at w;cases w with
  | cons a b =>
   cases a;exact .cons _ _ (ih _ b)
theorem Ay{l:OpenLaw}{n:Nat}(hn:l.most=some n){P:Params}{h:Heap}{args:List WData}{vals:List Value}
  (hpre:l.row.toRowW.claim.pre args=true) (hwl:WellAll P h vals args):
  ∃ a vs ns,vals=[Value.ref a]/\args=[WData.list (ns.map WData.int)]/\h.get? a=some { cls:=.type "list",data:=.seq vs.toArray }/\IntsAre vs ns/\ns.length<=n:=by
 have hsh:WShape.hasAll [] args [.list .int]=true:=(pre_splitW hpre).1;have hc:l.pre.holds [] { args:=args }=true:=(pre_splitW hpre).2;obtain⟨d,r,rfl,h1,h2⟩:=hasAllW_cons hsh;obtain rfl:=hasAllW_nil h2;obtain⟨xs,rfl,h3⟩:=hasW_list h1;obtain⟨ns,rfl⟩:=items_int h3
 have hlen:ns.length<=n:=by
  unfold OpenLaw.pre at hc
  have h4:(WTm.not (.lt (.lit (.int (n:Int))) (.len (.arg 0)))).holds [] { args:=[.list (ns.map .int)] }=true:=by
   have h4:=(holds_andW hc).1;rw[hn]at h4;exact h4
  have h5:=condW_of h4 (w_not (w_lt w_lit (w_len_list (w_arg rfl))));rw[qlm]at h5;refine Nat.le_of_not_lt fun q=>?_
  have q':(n:Int)<((ns.length:Nat):Int):=by omega
  first
   |(rw[qdt q']at h5;exact absurd h5 (by decide))
   |(simp at h5;omega)
 cases hwl with
 | cons w1 w2 =>
  cases w2;cases w1 with
  |list ho hall=>exact⟨_,_,ns,rfl,rfl,ho,ql ns _ hall,hlen⟩
theorem Az(l:OpenLaw)(args:List WData):l.row.toRowW.claim.post args (.bool true) args=true :=
 postW_of (r:=l.row.toRowW) (X:=(true == true))
  (show WShape.has [] (.bool true) .bool=true by first|rfl|decide|simp[WShape.has,WShape.arms,WShape.armsAll])
  (show(WTm.eq .res (.lit (.bool true))).value [] { args:=args,res:=some (.bool true),after:=args }=some (.bool (true == true))from w_eq_bool (w_res rfl) w_lit) rfl
theorem attach_call{l:OpenLaw}{n:Nat}{q:Program}{loose:List Str}{XP:(Str->Option Value)->Heap->Prop}{YP:World->Heap->Prop}{d:DefRec}
  (hn:l.most=some n) (hdf:d.params.defaults=[])
  (call:∀(w:World)(s₀ s₁:Shared)(mg mb:Str->Option Value)(fa:Addr)(o:Obj)(pm cd doc:Value)(a:Addr)(vs:List Value)(ns:List Int),
   Ground q loose [] XP w s₀ mg mb s₁.heap->YP w s₁.heap ->
   s₁.heap.get? fa=some o->o.data = .func (docDef d.name d.params d.body d.scope pm cd doc)->s₁.heap.CodeRec cd d.name->mg d.name=some (.ref fa) ->
   s₁.heap.get? a=some { cls:=.type "list",data:=.seq vs.toArray }->IntsAre vs ns->ns.length<=n->s₁.gens = #[] ->
   codeAny (model l.prog w) callerA (.call (.ref fa) ⟨[.ref a],[]⟩) (fun r s'=>r = .ok (.ret (.bool true))/\OldK s₁.heap s'.heap/\s'.os=s₁.os/\AllBare s'.gens) s₁):
  WalkO q loose XP YP l.row.toRowW d [] (fun f vs=>PySem.call f vs):=by
 intro w s₀ s₁ mg mb G Y fa o pm cd doc dV kV ho hd hcd hD hmg hg args vals as hpre hlay hrd hwl hlo;obtain rfl:dV = .none:=Dflts.none hD hdf;obtain rfl:kV = .none:=Dflts.noKw hD;obtain⟨a,vs,ns,rfl,rfl,hobj,hints,hlen⟩:=Ay hn hpre hwl;refine enter_call (codeAny_mono (call w s₀ s₁ mg mb fa o pm cd doc a vs ns G Y ho (fd_plain hd) hcd hmg hobj hints hlen hg) fun r s' hq=>?_);obtain⟨rfl,h2,h3,h4⟩:=hq;exact⟨.inl ⟨.bool true,.bool true,[],rfl,fun _=>rfl,.bool true,Az l _,fun _=>⟨List.Pairwise.nil,fun _ hm=>(nomatch hm)⟩⟩,h2,h3,h4⟩
section
variable{prog:Program}{w:World}{A:Around}{E:Value->Shared->Prop}{s:Shared}{K:Frag}
end
end Att
namespace L2
open PySem PySem.Spec PyProof.Rows
theorem rY:∀{vs:List Value}{ns:List Int},IntsAre vs ns->Vals (ns.map V.int) vs
 |_,_,.nil=>.nil
 |_,_,.cons n t h=>.cons ⟨t,rfl⟩ (rY h)
def Only(H:Hp):Prop:=∀ b,H b=none\/∃ o xs,H b=some (.frz o (.lst xs))
theorem Ec{P:Program}{w:World}{K:W.Frag}{mg mb:Str->Option Value}{CX:CXT}{k:Nat}{fa a:Addr}{fd:FuncData}{x:Str}{sp:Sp}{s₁:Shared}{vs:List Value}{ns:List Int}
  (KX:K.In s₁.heap) (hns:s₁.heap.Ns mainGlobals mg) (hb:s₁.heap.Ns builtinsNs mb) (hbb:∀ x:Str,x≠"__name__"->mb x=bootBuiltins x) (hlim:s₁.heap.NoLimit) (hg:s₁.gens = #[])
  (ha:s₁.heap.get? a=some { cls:=.type "list",data:=.seq vs.toArray }) (hi:IntsAre vs ns) (hl:ns.length<=sizeLine) (hr:Room k callerA)
  (F:∀ base:Heap,K.In base->base.Ns mainGlobals mg->FnOk P w K mg base CX k fa fd [x] sp) (hbind:∀(s:Shared)(u:Value),BindsTo s fd ⟨[u],[]⟩ [(x,u)])
  (hsp:∀ H:Hp,Only H->SqL K H a (ns.map V.int)->sp [.ref a] H (fun v _=>v = .bl true) fun _ _ _=>False)
  (hCX:∀ H e s',CX [] H s₁ (fun _ _ _=>False) e s'->False):
  codeAny (model P w) callerA (.call (.ref fa) ⟨[.ref a],[]⟩) (fun r s'=>r = .ok (.ret (.bool true))/\OldK s₁.heap s'.heap/\s'.os=s₁.os/\AllBare s'.gens) s₁:=by
 have rv:=rY hi;have lenV:=hi.length
 have core:∀ H:Hp,Only H->SqL K H a (ns.map V.int)->HOk P w H s₁.heap->(∀ b,H b≠none->b=a)->(H a≠none->K.lookup a=none) ->
   codeAny (model P w) callerA (.call (.ref fa) ⟨[.ref a],[]⟩) (fun r s'=>r = .ok (.ret (.bool true))/\OldK s₁.heap s'.heap/\s'.os=s₁.os/\AllBare s'.gens) s₁:=by
  intro H hO hS hok hA hK;have base_of:∀{b:Addr}{o:Obj},s₁.heap.get? b=some o->H b=none->(lF s₁.heap H).get? b=some o:=fun e n=>DP e n
  have noA:∀{b:Addr}{o:Obj}{es:Array DictEntry}{ep:Nat},s₁.heap.get? b=some o->o.data = .dict es ep->H b=none:=fun {b o es ep} e d=>by
   cases q:H b with
   |none=>rfl
   | some u =>
    have e':b=a:=hA b (by rw[q];simp);subst e';rw[ha]at e;cases e;have d':Data.seq vs.toArray _=Data.dict es ep:=d;cases d'
  have nsK:∀{b:Addr}{m:Str->Option Value},s₁.heap.Ns b m->(lF s₁.heap H).Ns b m:=fun {b m} ⟨o,es,ep,e,d,r⟩=>⟨o,es,ep,base_of e (noA e d),d,r⟩
  have hKb:K.In (lF s₁.heap H):=fun b o e=>base_of (KX b o e) (by
   cases q:H b with
   |none=>rfl
   | some u =>
    have e':b=a:=hA b (by rw[q];simp);subst e'
    rw[hK (by rw[q];simp)]at e;cases e)
  have hM:Mod K mg (lF s₁.heap H):=⟨hKb,nsK hns,⟨mb,nsK hb,hbb⟩,let ⟨mc,h1,h2⟩:=hlim;⟨mc,nsK h1,h2⟩⟩
  have e0:Env0 P w K mg (lF s₁.heap H) callerA [] s₁ H:=⟨rfl,hM,fun b o e=>HX e,Nat.le_of_eq (Af _ _),trivial,fun b hb=>absurd (show b∈([]:List Addr)from hb) (by simp),hok,.of_eq hg⟩
  refine codeAny_mono ((F _ hKb (nsK hns)).run callerA [] s₁ H ⟨[.ref a],[]⟩ [.ref a] [.ref a] _ _ hr e0 (hbind s₁ (.ref a)) (.cons rfl .nil) (hsp H hO hS)) fun r s' h=>?_
  cases r with
  |error e=>exact(hCX H e s' h).elim
  | ok fl =>
   cases fl with
   |next=>exact False.elim h
   |brk=>exact False.elim h
   |cont=>exact False.elim h
   | ret u =>
    obtain⟨v,H',os,bare,un,hok',r',q⟩:=h;have q':v = .bl true:=q;subst q';obtain rfl:u=Value.bool true:=r';refine⟨rfl,OldK.of_keep fun b o e=>?_,os,bare⟩;cases q:H b with
    |none=>exact un.keep b o e q (by intro z;exact absurd (show b∈([]:List Addr)from z) (by simp)) (by simp)
    | some u =>
     rcases hO b with z|⟨ob,xs,z⟩
     . rw[q]at z;cases z
     . have z2:=un.frzs b ob _ z
       obtain⟨e1,_⟩:=hok b _ z;obtain⟨e2,_⟩:=hok' b _ z2;rw[e]at e1;cases e1;exact e2
 cases hk:K.lookup a with
 | some o =>
  have e:=KX a o hk;rw[ha]at e;cases e;refine core (fun _=>none) (fun _=>.inl rfl) (.inr ⟨_,vs.toArray,_,hk,rfl,rfl,rfl,by rw[List.size_toArray,lenV];exact hl,by simpa using rv⟩) (fun b u z=>by have z':(none:Option HO)=some u:=z;cases z') (fun b z=>absurd rfl z) fun z=>absurd rfl z
 | none =>
  refine core (fun b=>if b=a then some (.frz { cls:=.type "list",data:=.seq vs.toArray } (.lst (ns.map V.int)))else none) (fun b=>?_) (.inl (.inr ⟨{ cls:=.type "list",data:=.seq vs.toArray },qp rfl⟩)) (fun b u z=>?_) (fun b z=>?_) fun _=>hk
  . by_cases hb:b=a
    . exact .inr ⟨_,_,qp hb⟩
    . exact .inl (qnZ hb)
  . by_cases hb:b=a
    . have z':=(qp hb).symm.trans z
      cases z';subst hb;exact⟨ha,by rw[qlm];exact hl,vs,_,rv,ha⟩
    . have z':=(qnZ hb).symm.trans z
      cases z'
  . by_cases hb:b=a
    . exact hb
    . exact absurd (qnZ hb) z
end L2
namespace L2
open PySem PySem.Spec PyProof.Rows
abbrev KOf{K:W.Frag}{h:Heap}(_:K.In h):W.Frag:=K
theorem Ip{l:W.OpenLaw}{n k:Nat}{q:Program}{loose:List Str}{XP:(Str->Option Value)->Heap->Prop}{YP:World->Heap->Prop}{d:DefRec}{K:Params->W.Frag}{CX:World->CXT}{sp:World->Sp}{x:Str}
  (hn:l.most=some n) (hn2:n<=sizeLine) (hdf:d.params.defaults=[]) (hr:Room k callerA)
  (hY:∀(w:World)(h:Heap),YP w h->(K w.params).In h)
  (F:∀(w:World)(mg:Str->Option Value)(fa:Addr)(h:Heap),(K w.params).In h->h.Ns mainGlobals mg->mg d.name=some (.ref fa) ->
   ∃ fd:FuncData,(∀(s:Shared)(u:Value),BindsTo s fd ⟨[u],[]⟩ [(x,u)]) /\
    ∀ base:Heap,(K w.params).In base->base.Ns mainGlobals mg->FnOk l.prog w (K w.params) mg base (CX w) k fa fd [x] (sp w))
  (hsp:∀(w:World)(H:Hp)(a:Addr)(ns:List Int),ns.length<=n->Only H->SqL (K w.params) H a (ns.map V.int)->sp w [.ref a] H (fun v _=>v = .bl true) fun _ _ _=>False)
  (hCX:∀(w:World)(H:Hp)(s:Shared)(e:Value)(s':Shared),CX w [] H s (fun _ _ _=>False) e s'->False):
  W.WalkO q loose XP YP l.row.toRowW d [] (fun f vs=>PySem.call f vs):=by
 refine Att.attach_call hn hdf fun w s₀ s₁ mg mb fa o pm cd doc a vs ns G Y ho hd hcd hmg hobj hints hlen hg=>?_
 have KX:=hY w _ Y;obtain⟨fd,hb,hF⟩:=F w mg fa _ KX G.T.g hmg;exact Ec KX G.T.g G.T.b G.T.builtins G.T.nolimit hg hobj hints (qnt hlen hn2) hr hF hb (fun H hO hS=>hsp w H a ns hlen hO hS) fun H e s'=>hCX w H s₁ e s'
end L2
namespace L2
open PySem PySem.Spec PyProof.Rows
def inClass(s:Stmt)(j:Nat):Stmt:=match s with
 | .ClassDef _ _ _ body _ _ _ _ _ _ _=>body.getD j (.Pass ⟨0,0,0,0⟩)
 |_=>.Pass ⟨0,0,0,0⟩
def gP(s:Stmt):Arguments:=match s with
 | .FunctionDef _ a _ _ _ _ _ _ _ _=>a
 |_=>{ posonlyargs:=[],args:=[],vararg:=none,kwonlyargs:=[],kw_defaults:=[],kwarg:=none,defaults:=[] }
def fO(s:Stmt):List Stmt:=match s with
 | .FunctionDef _ _ b _ _ _ _ _ _ _=>b
 |_=>[]
def aB(s:Stmt):Scope:=match s with
 | .FunctionDef _ _ _ _ _ _ sc _ _ _=>sc
 |_=>{ kind:=.function,names:=[],isGenerator:=false,isCoroutine:=false }
abbrev CX0:CXT:=fun _ _ _ _ _ _=>False
abbrev E0:XK:=fun _ _ _=>False
structure Fun(K:W.Frag)(x qual:Str)(st:Stmt)(f:Addr)(fd:FuncData):Prop where
 ex:∃(oc:Value)(od:Option Addr)(kV doc pm:Value)(an:Option Addr)(cdv ct:Value)(osl:Array (Option Value)),
  fd=W.fnOf x qual (gP st) (fO st) (aB st) .none kV doc pm an cdv ct/\K.lookup f=some ⟨oc,od,.func fd,osl⟩/\W.codeIn K cdv qual=true
 kp:W.keepIn K (.ref f)=true
section
variable{P:Program}{w:World}{K:W.Frag}{mg:Str->Option Value}{base:Heap}
theorem Fun.binds{x qual:Str}{st:Stmt}{f:Addr}{fd:FuncData}{ps:List Str}(F:Fun K x qual st f fd)
  (h:∀(kV doc pm:Value)(an:Option Addr)(cdv ct:Value)(us:List Value),us.length=ps.length->bindArgs (W.fnOf x qual (gP st) (fO st) (aB st) .none kV doc pm an cdv ct) ⟨us,[]⟩=pure (ps.zip us)):Binds K fd ps []:=by
 obtain⟨oc,od,kV,doc,pm,an,cdv,ct,osl,rfl,lk,hcd⟩:=F.ex;exact .all (h kV doc pm an cdv ct)
theorem Ba{x qual:Str}{st:Stmt}{f:Addr}{oc:Value}{od an:Option Addr}{osl:Array (Option Value)}{kV doc pm cdv ct:Value}(l:K.lookup f=some ⟨oc,od,.func (W.fnOf x qual (gP st) (fO st) (aB st) .none kV doc pm an cdv ct),osl⟩)
  (c:W.codeIn K cdv qual=true) (k:W.keepIn K (.ref f)=true):Fun K x qual st f (W.fnOf x qual (gP st) (fO st) (aB st) .none kV doc pm an cdv ct):=⟨⟨oc,od,kV,doc,pm,an,cdv,ct,osl,rfl,l,c⟩,k⟩
end
theorem Room.mo{A:Around}{j k:Nat}(hr:Room k A)(h:j<=k:=by first|decide|omega):Room j A:=hr.mono h
theorem gj{A:Around}{k:Nat}(hr:Room k A):A.units+1<cLine:=Nat.lt_of_le_of_lt (Nat.add_le_add_left (by decide:1<=64) _) hr.units
theorem fB{n:Nat}(h:n<=1000):n<sizeLine:=Nat.lt_of_le_of_lt h (by decide)
section
variable{X:Cx}
theorem pv (i:Nat) {x:Str} {pos:Pos} (hN:X.N[i]? = some x:=by rfl) (hv:Vis X.env.scope x:=by first|exact Or.inl rfl|exact Or.inr (Or.inl rfl)|exact Or.inr (Or.inr rfl)) (hd:(x == ("__debug__":Str))=false:=by decide)
  (hcd:(x == ("__classdict__":Str))=false:=by decide):PE X (.Name x pos) (tVar i):=ut hN hv hd hcd
end
theorem bj{A B:Prop}(h:B):if false=true then A else B:=by
 rw[qnZ qbf];exact h
theorem bO{A B:Prop}(h:A):if true=true then A else B:=by
 rw[qp rfl];exact h
theorem aU{c A B:Prop}[Decidable c](h1:c->A)(h2:¬ c->B):if c then A else B:=by
 by_cases h:c
 . rw[qp h]
   exact h1 h
 . rw[qnZ h]
   exact h2 h
def Same(H H':Hp):Prop:=∀ b o,H b=some o->H' b=some o
theorem Same.refl(H:Hp):Same H H:=fun _ _ h=>h
theorem Same.trans{H H1 H2:Hp}(a:Same H H1)(b:Same H1 H2):Same H H2:=fun c o h=>b c o (a c o h)
theorem Same.free{H H':Hp}(e:Same H H'){l:Addr}(h:H' l=Option.none):H l=Option.none:=by
 cases q:H l with
 |none=>rfl
 | some o =>
  rw[e l o q]at h;cases h
theorem Same.seq{K:W.Frag}{H H':Hp}{a:Addr}{xs:List V}(e:Same H H')(h:SqL K H a xs):SqL K H' a xs:=by
 rcases h with(h|⟨o,h⟩)|h
 . exact .inl (.inl (e _ _ h))
 . exact .inl (.inr ⟨o,e _ _ h⟩)
 . exact .inr h
end L2
set_option Elab.async false
set_option linter.all false
set_option maxRecDepth 100000
namespace L2
open PySem PySem.Spec PyProof.Rows
end L2
namespace L2
open PySem PySem.Spec PyProof.Rows
section
variable(P:Program)(w:World)
end
section
variable{P:Program}{w:World}{H H':Hp}{h h':Heap}{a:Addr}{o:HO}
end
section
variable{P:Program}{w:World}{H:Hp}{h h':Heap}{x e:Addr}{o':HO}
end
section
variable{fs fs' ex ex':List Addr}{H H1 H2:Hp}{h h1 h2 h':Heap}{a x e:Addr}{o:HO}
end
end L2
namespace L2
open PySem PySem.Spec PyProof.Rows
section
variable{X:Cx}{pins:List (Addr×Obj)}{σ:List (Option V)}{H H':Hp}{s:Shared}{h':Heap}
end
end L2
namespace L2
open PySem PySem.Spec PyProof.Rows
section
variable{X:Cx}
variable{a b:Expr}{ta tb:TE}{pos:Pos}
variable{tA tB':TT}{rest:List Expr}
end
end L2
namespace L2
open PySem PySem.Spec PyProof.Rows
section
variable{X:Cx}{pins:List (Addr×Obj)}{σ:St}{H:Hp}{s:Shared}{a:Addr}{xs ys:List V}
end
section
variable{X:Cx}{pins:List (Addr×Obj)}{σ:St}{H:Hp}{s:Shared}{E:Value->Shared->Prop}
end
section
variable{X:Cx}{st:Stmt}{rest:List Stmt}{t u:TS}{e:Expr}{te:TE}{pos:Pos}
end
section
variable{X:Cx}{pos:Pos}
end
section
variable{X:Cx}{pos:Pos}
end
end L2
namespace L2
open PySem PySem.Spec PyProof.Rows
section
variable{X:Cx}{tg:Expr}
end
end L2
namespace L2
open PySem PySem.Spec PyProof.Rows
section
variable{X:Cx}{a b c:Expr}{ta tb tc:TE}{pos:Pos}
end
section
variable{X:Cx}{a b c:Expr}{ta tb tc:TE}{pos:Pos}
end
end L2
namespace L2
open PySem PySem.Spec PyProof.Rows
section
variable{prog:Program}{w:World}{A:Around}{E:Value->Shared->Prop}{s:Shared}{K:W.Frag}{x dx C f:Addr}{mA:Str->Option Value}{name:Str}{v:Value}
end
section
variable{P:Program}{w:World}{H H':Hp}{h h':Heap}{a C dx:Addr}{fs fs':List (Str×V)}
end
section
variable{X:Cx}{pins:List (Addr×Obj)}{σ:St}{H:Hp}{s:Shared}{a C dx:Addr}{fs:List (Str×V)}{f:Str}{v:V}{A:Around}{E:Value->Shared->Prop}
end
section
variable{X:Cx}{o e value:Expr}{f:Str}{pos pos' tpos:Pos}{ta tv:TE}
end
section
variable{X:Cx}{pins:List (Addr×Obj)}{σ:St}{H:Hp}{s:Shared}{A:Around}{E:Value->Shared->Prop}{Q:Value->Shared->Prop}{c:Value}{b:Bool}
end
end L2
namespace L2
open PySem PySem.Spec PyProof.Rows
section
variable{X:Cx}{e:Expr}{es:List Expr}{te:TE}{t:TA}{pos:Pos}
end
section
variable{X:Cx}{pins:List (Addr×Obj)}{σ:St}{H:Hp}{s s':Shared}
end
section
variable{X:Cx}{CX:CXT}{k:Nat}{f C:Addr}{fd:FuncData}{ps:List Str}{sp:Sp}{dvs:List V}{ds:List Value}{E:XK}{x m:Str}{p pos apos:Pos}{e o:Expr}{es:List Expr}{ta:TE}{t:TA}
end
section
variable{X:Cx}{CX:CXT}{k:Nat}{f C:Addr}{fd:FuncData}{ps ks:List Str}{sp:Sp}{E:XK}{x m:Str}{p pos apos kpos:Pos}{e o:Expr}{es:List Expr}{kws:List Keyword}{te ta:TE}{t tk:TA}{nm:Option Str}
variable{g:List Value->List Value->List Value}{gV:List V->List V->List V}
end
end L2
namespace L2
open PySem PySem.Spec PyProof.Rows
section
variable{X:Cx}{x:Str}{p pos:Pos}{e:Expr}{es:List Expr}{t:TA}{id T:String}{r:List V->Hp->VK->Prop}
end
end L2
namespace L2
open PySem PySem.Spec PyProof.Rows
section
variable{κ:Type}[DecidableEq κ]
def bR(kvs:List (κ×V))(k:κ):Option V:=(kvs.find? fun kv=>decide (kv.1=k)).map (·.2)
def putK(kvs:List (κ×V))(k:κ)(v:V):List (κ×V):=
 if (kvs.any fun kv=>decide (kv.1=k))=true then kvs.map (fun kv=>if kv.1=k then(kv.1,v)else kv)else kvs++[(k,v)]
theorem dH{p:κ×V}{r:List (κ×V)}{k:κ}(e:p.1=k):bR (p::r) k=some p.2:=by simp[bR,List.find?_cons,e]
theorem dI{p:κ×V}{r:List (κ×V)}{k:κ}(e:¬ p.1=k):bR (p::r) k=bR r k:=by simp[bR,List.find?_cons,e]
theorem lK(k:κ):∀ kvs:List (κ×V),(kvs.any fun kv=>decide (kv.1=k))=(bR kvs k).isSome
 |[]=>rfl
 | p::r=>by
  rw[List.any_cons]
  by_cases e:p.1=k
  . simp only[dH e,qdt e,Bool.true_or,Option.isSome_some]
  . rw[dI e,qdf e,Bool.false_or];exact lK k r
theorem uG(k j:κ)(y:V):∀ kvs:List (κ×V),bR (kvs.map fun kv=>if kv.1=k then(kv.1,y)else kv) j=(bR kvs j).map fun x=>if j=k then y else x
 |[]=>rfl
 | p::r=>by
  have ih:=uG k j y r;rw[List.map_cons]
  by_cases h:p.1=k
  . rw[qp h]
    by_cases e:p.1=j
    . rw[dH (p:=(p.1,y)) e,dH e,Option.map_some,qp (e.symm.trans h)]
    . rw[dI (p:=(p.1,y)) e,dI e,ih]
  . rw[qnZ h]
    by_cases e:p.1=j
    . rw[dH (p:=p) e,dH e,Option.map_some,qnZ (fun z=>h (e.trans z))]
    . rw[dI (p:=p) e,dI e,ih]
theorem rZ(k j:κ)(y:V):∀ kvs:List (κ×V),bR kvs k=none->bR (kvs++[(k,y)]) j=if j=k then some y else bR kvs j
 | [],_=>by
  by_cases e:k=j
  . rw[qp e.symm];exact dH (p:=(k,y)) e
  . rw[qnZ (fun z=>e z.symm)];exact dI (p:=(k,y)) e
 | p::r,hn=>by
  rw[List.cons_append];have hk:¬ p.1=k:=fun z=>by rw[dH z]at hn;cases hn
  rw[dI hk]at hn;have ih:=rZ k j y r hn
  by_cases e:p.1=j
  . rw[dH e,dH e,qnZ (fun z=>hk (e.trans z))]
  . rw[dI e,dI e,ih]
theorem Ed(kvs:List (κ×V))(k j:κ)(y:V):bR (putK kvs k y) j=if j=k then some y else bR kvs j:=by
 unfold putK
 by_cases a:(kvs.any fun kv=>decide (kv.1=k))=true
 . rw[qp a,uG]
   rw[lK]at a
   by_cases e:j=k
   . obtain⟨x,hx⟩:=Option.isSome_iff_exists.mp a
     rw[qp e,e,hx,Option.map_some,qp rfl]
   . rw[qnZ e]
     cases bR kvs j with
     |none=>rfl
     |some x=>rw[Option.map_some,qnZ e]
 . rw[qnZ a]
   refine rZ k j y kvs ?_;rw[lK]at a;cases q:bR kvs k with
   |none=>rfl
   |some x=>rw[q]at a;exact(a rfl).elim
theorem iR(kvs:List (κ×V))(k:κ)(v:V):(putK kvs k v).length <= kvs.length+1:=by
 unfold putK
 split
 . rw[qlm];omega
 . rw[List.length_append,List.length_cons,List.length_nil];omega
theorem RelO.isSome_eq{o:Option V}{u:Option Value}(r:RelO o u):o.isSome=u.isSome:=by
 cases o with
 | none=>cases u with
  |none=>rfl
  |some _=>exact(show False from r).elim
 | some _=>cases u with
  |none=>exact(show False from r).elim
  |some _=>rfl
theorem KV.val{kvs:List (κ×V)}{vs:List (κ×Value)}(r:KV kvs vs)(k:κ):RelO (bR kvs k) (valueAt vs k):=by
 unfold KV at r
 induction r with
 |nil=>exact True.intro
 | @cons p q ps qs h t ih =>
  obtain⟨h1,h2⟩:=h
  by_cases e:p.1=k
  . have e':q.1=k:=h1.symm.trans e
    have b:valueAt (q::qs) k=some q.2:=by simp[valueAt,List.find?_cons,e']
    rw[dH e,b];exact h2
  . have e':¬ q.1=k:=fun z=>e (h1.trans z)
    have b:valueAt (q::qs) k=valueAt qs k:=by simp[valueAt,List.find?_cons,e']
    rw[dI e,b];exact ih
theorem KV.any{kvs:List (κ×V)}{vs:List (κ×Value)}(r:KV kvs vs)(k:κ):(kvs.any fun kv=>decide (kv.1=k))=vs.any fun kv=>decide (kv.1=k):=by
 unfold KV at r
 induction r with
 |nil=>rfl
 |cons h t ih=>rw[List.any_cons,List.any_cons,ih,h.1]
theorem KV.repl{kvs:List (κ×V)}{vs:List (κ×Value)}(r:KV kvs vs)(k:κ){y:V}{u:Value}(ry:RelV y u):
  KV (kvs.map fun kv=>if kv.1=k then(kv.1,y)else kv) (vs.map fun kv=>if kv.1=k then(kv.1,u)else kv):=by
 unfold KV at r ⊢
 induction r with
 |nil=>exact .nil
 | @cons p q ps qs h t ih =>
  rw[List.map_cons,List.map_cons];refine .cons ?_ ih;obtain⟨h1,h2⟩:=h
  by_cases e:p.1=k
  . rw[qp e,qp (h1.symm.trans e)];exact⟨h1,ry⟩
  . rw[qnZ e,qnZ (fun z=>e (h1.trans z))];exact⟨h1,h2⟩
theorem KV.put{kvs:List (κ×V)}{vs:List (κ×Value)}(r:KV kvs vs)(k:κ){y:V}{u:Value}(ry:RelV y u):KV (putK kvs k y) (stored vs k u):=by
 unfold putK stored;rw[r.any k]
 by_cases e:(vs.any fun kv=>decide (kv.1=k))=true
 . rw[qp e,qp e];exact r.repl k ry
 . rw[qnZ e,qnZ e];exact Paired.snoc r ⟨rfl,ry⟩
theorem KV.length{kvs:List (κ×V)}{vs:List (κ×Value)}(r:KV kvs vs):kvs.length=vs.length:=Paired.length r
end
theorem lL{P:Program}{w:World}{k:Key}{u:Value}(r:RelV (kV k) u):(bI P w).is k u=true:=by
 cases k with
 |inl i=>obtain⟨t,e⟩:=(show ∃ t,u=Value.int i t from r);subst e;exact oN P w i t
 |inr x=>obtain⟨t,e⟩:=(show ∃ t,u=Value.str x t from r);subst e;exact oO P w x t
theorem sr{P:Program}{w:World}:∀{ks:List Key}{us:List Value},Vals (ks.map kV) us->ItemsAre (bI P w) ks us
 |[],_,r=>by rw[List.map_nil]at r;cases r;exact .nil
 | k::ks,_,r=>by
  rw[List.map_cons]at r;cases r with
  |cons h t=>exact .cons (lL h) (sr t)
abbrev KT(H:Hp):List (List Key×V)->List (List Key×Addr×Value)->Prop:=Paired fun p q=>p.1=q.1/\H q.2.1=some (.tup (p.1.map kV))/\RelV p.2 q.2.2
theorem KT.val{H:Hp}{kvs:List (List Key×V)}{xs:List (List Key×Addr×Value)}(r:KT H kvs xs)(k:List Key):RelO (bR kvs k) ((atKey xs k).map (·.2)):=by
 induction r with
 |nil=>exact True.intro
 | @cons p q ps qs h t ih =>
  obtain⟨h1,_,h2⟩:=h
  by_cases e:p.1=k
  . have e':q.1=k:=h1.symm.trans e
    have b:atKey (q::qs) k=some q.2:=by simp[atKey,List.find?_cons,e']
    rw[dH e,b];exact h2
  . have e':¬ q.1=k:=fun z=>e (h1.trans z)
    have b:atKey (q::qs) k=atKey qs k:=by simp[atKey,List.find?_cons,e']
    rw[dI e,b];exact ih
theorem KT.repl{H:Hp}{kvs:List (List Key×V)}{xs:List (List Key×Addr×Value)}(r:KT H kvs xs)(k:List Key){y:V}{u:Value}(ry:RelV y u):
  KT H (kvs.map fun kv=>if kv.1=k then(kv.1,y)else kv) (xs.map (putAt k u)):=by
 induction r with
 |nil=>exact .nil
 | @cons p q ps qs h t ih =>
  rw[List.map_cons,List.map_cons];refine .cons ?_ ih;obtain⟨h1,h2,h3⟩:=h;unfold putAt
  by_cases e:p.1=k
  . rw[qp e,qp (h1.symm.trans e)];exact⟨h1,h2,ry⟩
  . rw[qnZ e,qnZ (fun z=>e (h1.trans z))];exact⟨h1,h2,h3⟩
theorem KT.put{H:Hp}{kvs:List (List Key×V)}{xs:List (List Key×Addr×Value)}(r:KT H kvs xs)(k:List Key){b:Addr}{y:V}{u:Value}(hb:H b=some (.tup (k.map kV)))(ry:RelV y u):
  KT H (putK kvs k y) (storedH xs k b u):=by
 have e:(kvs.any fun kv=>decide (kv.1=k))=(atKey xs k).isSome:=by
  rw[lK,(r.val k).isSome_eq,Option.isSome_map]
 unfold putK storedH;rw[e]
 by_cases q:(atKey xs k).isSome=true
 . rw[qp q,qp q];exact r.repl k ry
 . rw[qnZ q,qnZ q];exact Paired.snoc r ⟨rfl,hb,ry⟩
theorem KT.keeps{H H':Hp}{kvs:List (List Key×V)}{xs:List (List Key×Addr×Value)}(r:KT H kvs xs)(ht:∀ b ys,H b=some (.tup ys)->H' b=some (.tup ys)):KT H' kvs xs :=
 Paired.mapP r fun _ _ z=>⟨z.1,ht _ _ z.2.1,z.2.2⟩
section
variable{P:Program}{w:World}{H:Hp}{h:Heap}{a:Addr}
theorem Ho{u:HO}(ok:HOk P w H h)(e:Rd H a u):ObjOk P w H h a u:=e.ok ok
theorem yc{kvs:List (Key×V)}(ok:HOk P w H h)(e:Rd H a (.dK kvs)):kvs.length<=sizeLine/\(a == sysModules)=false/\∃ vs,KV kvs vs/\h.DictOf (bI P w) a vs :=
 show ObjOk P w H h a (.dK kvs)from Ho ok e
theorem Hq{kvs:List (Key×V)}(ok:HOk P w H h)(e:H a=some (.dK kvs)):kvs.length<=sizeLine/\(a == sysModules)=false/\∃ vs,KV kvs vs/\h.DictOf (bI P w) a vs:=yc ok (.inl e)
theorem uH{ks:List Key}(ok:HOk P w H h)(e:H a=some (.tup (ks.map kV))):(tupleKind (bI P w)).is h ks a:=by
 obtain⟨_,its,r,o,h1,h2,n,h3⟩:=(show ObjOk P w H h a (.tup (ks.map kV))from ok a _ e)
 exact⟨o,its.toArray,n,h1,h2,congrArg Prod.fst h3,by simpa using sr r⟩
theorem yd{kvs:List (List Key×V)}(ok:HOk P w H h)(e:Rd H a (.dT kvs)):kvs.length<=sizeLine/\(a == sysModules)=false /\
  ∃ xs,KT H kvs xs/\h.DictOfH (tupleKind (bI P w)) a xs:=by
 obtain⟨z,y,xs,r,o,es,ep,h1,h2,h3,h4,h5⟩:=(show ObjOk P w H h a (.dT kvs)from Ho ok e)
 refine⟨z,y,xs,r,o,es,ep,h1,h2,h3,h4,fun x hx=>?_,h5⟩
 have all:∀{l:List (List Key×V)}{m:List (List Key×Addr×Value)},KT H l m->∀ x∈m,(tupleKind (bI P w)).is h x.1 x.2.1:=by
  intro l m q
  induction q with
  |nil=>intro x hx;exact nomatch hx
  | @cons p q ps qs hq t ih =>
   intro x hx;rcases List.mem_cons.mp hx with e|hx
   . subst e
     exact uH ok (by rw[<- hq.1];exact hq.2.1)
   . exact ih x hx
 exact all r x hx
theorem Lp{kvs:List (List Key×V)}(ok:HOk P w H h)(e:H a=some (.dT kvs)):kvs.length<=sizeLine/\(a == sysModules)=false /\
  ∃ xs,KT H kvs xs/\h.DictOfH (tupleKind (bI P w)) a xs:=yd ok (.inl e)
end
def DGet(H:Hp)(a:Addr)(y:V)(r:Option V):Prop :=
 (∃ kvs k,Rd H a (.dK kvs)/\y=kV k/\r=bR kvs k)\/∃ kvs k b,Rd H a (.dT kvs)/\y = .ref b/\H b=some (.tup (k.map kV))/\r=bR kvs k
def DPut(H:Hp)(a:Addr)(y v:V)(H':Hp):Prop :=
 (∃ kvs k,H a=some (.dK kvs)/\y=kV k/\kvs.length<sizeLine/\H'=upd H a (.dK (putK kvs k v))) \/
 ∃ kvs k b,H a=some (.dT kvs)/\y = .ref b/\H b=some (.tup (k.map kV))/\kvs.length<sizeLine/\H'=upd H a (.dT (putK kvs k v))
theorem DGet.k{H:Hp}{a:Addr}{kvs:List (Key×V)}{k:Key}(e:H a=some (.dK kvs)):DGet H a (kV k) (bR kvs k):=.inl ⟨kvs,k,.inl e,rfl,rfl⟩
theorem DPut.k{H:Hp}{a:Addr}{kvs:List (Key×V)}{k:Key}{v:V}(e:H a=some (.dK kvs))(hl:kvs.length<sizeLine):DPut H a (kV k) v (upd H a (.dK (putK kvs k v))):=.inl ⟨kvs,k,e,rfl,hl,rfl⟩
section
variable{X:Cx}{pins:List (Addr×Obj)}{σ:St}{H:Hp}{s:Shared}{a:Addr}{y v:V}{u r:Value}{o:Option V}{A:Around}{E:Value->Shared->Prop}
theorem Inv.big(I:Inv X pins σ H s):sysModules<s.heap.objs.size:=by
 have h:mainGlobals<s.heap.objs.size:=(I.mod.glob.keeps I.bk).lt;exact Nat.lt_trans (by decide) h
theorem Bb{Q:Value->Shared->Prop}(hu:A.units+1<cLine)(I:Inv X pins σ H s)(g:DGet H a y (some v))(ry:RelV y u)(h:∀ w' s',Inv X pins σ H s'->RelV v w'->Q w' s'):
  wpAny (model X.prog X.w) A (getItem (.ref a) u) Q E s:=by
 rcases g with⟨kvs,k,e,ey,l⟩|⟨kvs,k,b,e,ey,eb,l⟩
 . subst ey
   obtain⟨z,hd,vs,rel,dd⟩:=yc I.hok e;obtain⟨w',hw,rw'⟩:=RelO.some_of (v:=v) (o:=valueAt vs k) (by rw[l];exact rel.val k);exact wpAny_getItem_of (lL ry) dd.mapOf hw (h w' _ (I.tok _) rw')
 . subst ey
   cases(show u=Value.ref b from ry);obtain⟨z,hd,xs,rel,dd⟩:=yd I.hok e;obtain⟨w',hw,rw'⟩:=RelO.some_of (v:=v) (o:=(atKey xs k).map (·.2)) (by rw[l];exact rel.val k);obtain⟨p,hp,hp2⟩:=Option.map_eq_some_iff.mp hw;refine wpAny_getItem_heap (tupleKind_room_in1 hu) (uH I.hok eb) dd hp ?_;rw[hp2];exact h w' _ (I.tok _) rw'
theorem qX{h':Heap}{t':Nat}{ob:HO}(I:Inv X pins σ H s)(mu:Mut (H a))(hs:Heap.SameBut a s.heap h')(he:∃ q,h'.get? a=some q)(new:ObjOk X.prog X.w (upd H a ob) h' a ob):
  Inv X pins σ (upd H a ob) { s with heap:=h',toks:=t' } :=
 I.write (x:=a) (e:=a) mu (.inl rfl) (fun b q hb z=>(hs.2 b hb).trans z) he new
theorem Bc{P:Program}{w:World}{H':Hp}{h':Heap}{kvs:List (Key×V)}{vs:List (Key×Value)}(z:kvs.length<=sizeLine)(hd:(a == sysModules)=false)(rel:KV kvs vs)(dd:h'.DictOf (bI P w) a vs):
  ObjOk P w H' h' a (.dK kvs):=⟨z,hd,vs,rel,dd⟩
theorem Bd{H':Hp}{Q:Unit->Shared->Prop}(hu:A.units+1<cLine)(I:Inv X pins σ H s)(g:DPut H a y v H')(ry:RelV y u)(rv:RelV v r)(h:∀ s',Inv X pins σ H' s'->Q () s'):
  wpAny (model X.prog X.w) A (setItem (.ref a) u r) Q E s:=by
 rcases g with⟨kvs,k,e,ey,l,eH⟩|⟨kvs,k,b,e,ey,eb,l,eH⟩
 . subst ey eH
   obtain⟨z,hd,vs,rel,dd⟩:=Hq I.hok e;have hz:vs.length<=sizeLine:=by rw[<- rel.length];exact z
   have hl:(putK kvs k v).length <= sizeLine:=by have:=iR kvs k v;omega
   refine wpAny_setItem_pairs (hsz:=hz) (lL ry) dd fun h' dd' hs=>h _ ?_
   have he:∃ q,h'.get? a=some q:=let ⟨q,_,_,hq,_⟩:=dd';⟨q,hq⟩;exact qX I (by rw[e];exact True.intro) hs he (Bc hl hd (rel.put k rv) dd')
 . subst ey eH
   cases(show u=Value.ref b from ry);obtain⟨z,hd,xs,rel,dd⟩:=Lp I.hok e;have hz:xs.length<=sizeLine:=by rw[<- Paired.length rel];exact z
   have hl:(putK kvs k v).length <= sizeLine:=by have:=iR kvs k v;omega
   refine wpAny_setItem_heap (hsz:=hz) (tupleKind_room_in1 hu) (uH I.hok eb) dd fun h' dd' hs=>h _ ?_
   obtain⟨q,es,ep,hq,h2,h3,h4,_,h5⟩:=dd';refine qX I (by rw[e];exact True.intro) hs ⟨q,hq⟩ ⟨hl,hd,_,(rel.put k eb rv).keeps fun c ys ec=>?_,q,es,ep,hq,h2,h3,h4,h5⟩;rw[aC (bz ec e (fun z=>nomatch z))];exact ec
end
section
variable{X:Cx}{pins:List (Addr×Obj)}{σ:St}{H:Hp}{s:Shared}{a:Addr}{kvs:List (Key×V)}{k:Key}{u:Value}{A:Around}{E:Value->Shared->Prop}
end
def Ef(i:Expr):Prop:=∀ ov iv,subscripted i false ov iv=operate [ov,iv] (getItem ov iv)
theorem wM{prog:Program}{w:World}{A:Around}{E:Value->Shared->Prop}{s:Shared}{env:Env}{value slice:Expr}{pos:Pos}{T id:String}{Q:Value->Shared->Prop}
  (hl:typeLookup (.type T) "__getitem__"=pure (some (.builtin id))) (hs:Ef slice)
  (h:wpAny (model prog w) A (eval value env) (fun o s₁=>wpAny (model prog w) A (eval slice env) (fun i s₂=>s₂.TypeIs o T/\wpAny (model prog w) A (getItem o i) Q E s₂) E s₁) E s):
  wpAny (model prog w) A (eval (.Subscript value slice pos) env) Q E s:=by
 refine Subscript_ (wpAny_mono h (fun o s₁ h₁=>wpAny_mono h₁ (fun i s₂ h₂=>?_) fun _ _ x=>x) fun _ _ x=>x);obtain⟨hT,h₂⟩:=h₂;unfold subscriptTail;refine wpAny_bind ?_;rw[getitemInPython_of_ne hT.not_modules];refine wpAny_bind (wpAny_specialOf hT hl ?_)
 have fin:wpAny (model prog w) A (subscripted slice false o i) (fun r s₃=>wpAny (model prog w) A (letTemporaryGo value o r >>= fun _=>pure r) Q E s₃) E s₂:=by
  rw[hs o i];exact wpAny_operating (wpAny_mono h₂ (fun r s₃ h₃=>wpAny_bind (wpAny_letTemporaryGo (wpAny_pure h₃))) fun _ _ x=>x)
 first
  |exact wpAny_pure (wpAny_bind fin)
  |exact wpAny_bind (wpAny_pure (wpAny_bind fin))
  |exact wpAny_bind fin
theorem vY{X:Cx}{pins:List (Addr×Obj)}{σ:St}{H:Hp}{s:Shared}{a:Addr}{y:V}{o:Option V}(I:Inv X pins σ H s)(g:DGet H a y o):s.TypeIs (.ref a) "dict":=by
 rcases g with⟨kvs,k,e,_,_⟩|⟨kvs,k,b,e,_,_,_⟩
 . obtain⟨_,_,vs,_,dd⟩:=yc I.hok e
   exact dd.typeIs
 . obtain⟨_,_,xs,_,dd⟩:=yd I.hok e
   exact dd.typeIs
def Lq(td ty:TE):TE:=fun σ H Q=>td σ H fun x H1=>ty σ H1 fun y H2=>∃ a v,x = .ref a/\DGet H2 a y (some v)/\Q v H2
def Lr(td ty tv:TE):TS:=fun D σ H=>tv σ H fun v H1=>td σ H1 fun x H2=>ty σ H2 fun y H3=>∃ a H4,x = .ref a/\DPut H3 a y v H4/\D.nx σ H4
section
variable{X:Cx}{o i e value:Expr}{pos pos' tpos:Pos}{td ty tv:TE}
theorem wN(hu:X.A.units+1<cLine)(ho:PE X o td)(hi:PE X i ty)(hs:Ef i):PE X (.Subscript o i pos) (Lq td ty):=by
 intro pins s σ H Q I h;refine wM PySem.F.slot_dict_getitem.lookup hs (thn (ho pins s σ H _ I h) fun u s1 ⟨x,H1,I1,rx,q1⟩=>thn (hi pins s1 σ H1 _ I1 q1) fun iv s2 ⟨y,H2,I2,ry,a,v,ex,g,q2⟩=>?_);subst ex;obtain rfl:u=Value.ref a:=rx;exact⟨vY I2 g,Bb hu I2 g ry fun w' s3 I3 rw'=>⟨v,H2,I3,rw',q2⟩⟩
theorem qY(hu:X.A.units+1<cLine)(ho:PE X o td)(hi:PE X i ty)(hv:PE X value tv)(hs:swapsWith value (some (.Subscript o i pos')) pos.line X.env=pure false):
  PS X (.Assign [.Subscript o i pos'] value pos) (Lr td ty tv):=by
 intro pins s σ H D I h;refine wpAny_Assign_Subscript (thn (hv pins s σ H _ I h) fun r s1 ⟨v,H1,I1,rv,q1⟩=>thn (ho pins s1 σ H1 _ I1 q1) fun u s2 ⟨x,H2,I2,rx,q2⟩=>thn (hi pins s2 σ H2 _ I2 q2) fun iv s3 ⟨y,H3,I3,ry,a,H4,ex,g,q3⟩=>?_) hs;subst ex;obtain rfl:u=Value.ref a:=rx;exact Bd hu I3 g ry rv fun s4 I4=>⟨σ,H4,I4,q3⟩
end
theorem uI{P:Program}{w:World}{H:Hp}(h:Heap)(hb:sysModules<h.objs.size):ObjOk P w H (h.push { cls:=.type "dict",data:=.dict #[] }) h.objs.size (.dK []):=
 ⟨qnz _,beq_eq_false_iff_ne.mpr (Ne.symm (Nat.ne_of_lt hb)),[],.nil,Heap.DictOf.new h⟩
def Ka:TE:=fun _ H Q=>∀ p,H p=none->Q (.ref p) (upd H p (.dK []))
section
variable{X:Cx}{pos:Pos}
theorem pF:PE X (.Dict [] [] pos) Ka:=fun pins s σ H Q I h =>
 wpAny_Dict_empty ⟨.ref s.heap.objs.size,_,I.laid (a:=s.heap.objs.size) (o:=.dK []) (t':=s.toks) (fun _ _ q=>Heap.get?_push_of_some _ q) (qnr _) (uI s.heap I.big),rfl,h _ (I.hok.fresh (qnr _))⟩
end
def uJ:List (TE×TE)->St->Hp->(List (V×V)->Hp->Prop)->Prop
 |[],_,H,Q=>Q [] H
 |(tk,tv):: r,σ,H,Q=>tk σ H fun x H1=>tv σ H1 fun y H2=>uJ r σ H2 fun ps H3=>Q ((x,y):: ps) H3
abbrev VV:List (V×V)->List (Value×Value)->Prop:=Paired fun p q=>RelV p.1 q.1/\RelV p.2 q.2
def PPs(X:Cx)(pos:Pos)(keys:List (Option Expr))(values:List Expr)(trs:List (TE×TE)):Prop :=
 ∀(pins:List (Addr×Obj))(s:Shared)(σ:St)(H:Hp)(Q:List (V×V)->Hp->Prop),Inv X pins σ H s->uJ trs σ H Q ->
  wpAny (model X.prog X.w) X.A (evalPairs (pairTrees keys values X.env pos)) (fun vs s'=>∃ ps H',Inv X pins σ H' s'/\VV ps vs/\Q ps H') X.xe s
theorem Ir{X:Cx}{pos:Pos}:PPs X pos [] [] []:=fun pins s σ H Q I h=>pairTrees_nil_walk ⟨[],H,I,.nil,h⟩
theorem lM{X:Cx}{pos:Pos}{k v:Expr}{ks:List (Option Expr)}{vs:List Expr}{tk tv:TE}{trs:List (TE×TE)}(hk:PE X k tk)(hv:PE X v tv)(hr:PPs X pos ks vs trs):
  PPs X pos (some k::ks) (v::vs) ((tk,tv):: trs):=fun pins s σ H Q I h =>
 pairTrees_cons_walk (thn (hk pins s σ H _ I h) fun u s1 ⟨x,H1,I1,rx,q1⟩=>thn (hv pins s1 σ H1 _ I1 q1) fun w2 s2 ⟨y,H2,I2,ry,q2⟩ =>
  thn (hr pins s2 σ H2 _ I2 q2) fun ws s3 ⟨ps,H3,I3,rel,q3⟩=>⟨(x,y):: ps,H3,I3,.cons ⟨rx,ry⟩ rel,q3⟩)
def jz(kvs more:List (Key×V)):List (Key×V):=more.foldl (fun acc kv=>putK acc kv.1 kv.2) kvs
theorem KV.merge:∀{more:List (Key×V)}{rs:List (Key×Value)}{kvs:List (Key×V)}{vs:List (Key×Value)},KV more rs->KV kvs vs->KV (jz kvs more) (merged vs rs):=by
 intro more rs kvs vs r;unfold KV at r
 induction r generalizing kvs vs with
 |nil=>intro q;exact q
 | @cons p q ps qs h t ih =>
  intro r0
  have e:KV (putK kvs p.1 p.2) (stored vs q.1 q.2):=by
   have:=r0.put p.1 h.2;rw[<- h.1];exact this
  exact ih e
theorem mJ:∀(more kvs:List (Key×V)),(jz kvs more).length <= kvs.length+more.length
 |[],kvs=>by show kvs.length<=kvs.length+0;omega
 | p::r,kvs=>by
  have h1:=mJ r (putK kvs p.1 p.2);have h2:=iR kvs p.1 p.2;show(jz (putK kvs p.1 p.2) r).length <= _;rw[List.length_cons];omega
theorem qm{P:Program}{w:World}:∀{kvs:List (Key×V)}{ws:List (Value×Value)},VV (kvs.map fun kv=>(kV kv.1,kv.2)) ws->∃ rs,Carries (bI P w) ws rs/\KV kvs rs
 |[],_,r=>by rw[List.map_nil]at r;cases r;exact⟨[],True.intro,.nil⟩
 | p::kvs,_,r=>by
  rw[List.map_cons]at r;cases r with
  | @cons a b as bs h t =>
   obtain⟨rs,c,q⟩:=qm (P:=P) (w:=w) t;obtain⟨b1,b2⟩:=b;exact⟨(p.1,b2):: rs,⟨lL h.1,rfl,c⟩,.cons ⟨rfl,h.2⟩ q⟩
def Ls(trs:List (TE×TE)):TE:=fun σ H Q=>∀ p,H p=none->uJ trs σ (upd H p (.dK [])) fun ps H2=>H2 p=some (.dK [])/\∃ kvs:List (Key×V),ps=kvs.map (fun kv=>(kV kv.1,kv.2))/\kvs.length<=15/\Q (.ref p) (upd H2 p (.dK (jz [] kvs)))
theorem Iu{X:Cx}{pos:Pos}{keys:List (Option Expr)}{values:List Expr}{trs:List (TE×TE)}(h:PPs X pos keys values trs)(hall:keys.all (·.isSome)=true)(hl:keys.length=values.length)(h0:keys≠[])
  (h15:keys.length<=15):PE X (.Dict keys values pos) (Ls trs):=by
 intro pins s σ H Q I q;have hn:=I.hok.fresh (qnr s.heap.objs.size);have I1:=I.laid (a:=s.heap.objs.size) (o:=.dK []) (h':=s.heap.push { cls:=.type "dict",data:=.dict #[] }) (t':=s.toks) (fun _ _ q=>Heap.get?_push_of_some _ q) (qnr _) (uI s.heap I.big);refine wpAny_Dict_walk (knd:=bI X.prog X.w) hall hl h0 h15 (thn (h pins _ σ _ _ I1 (q _ hn)) fun ws s2 ⟨ps,H2,I2,rel,e,kvs,ep,lk,q2⟩=>?_);subst ep;obtain⟨rs,c,rk⟩:=qm (P:=X.prog) (w:=X.w) rel;obtain⟨z,hd,vs0,r0,dd⟩:=Hq I2.hok e;cases r0;refine⟨rs,c,dd,fun h' dd' hs=>⟨.ref s.heap.objs.size,_,?_,rfl,q2⟩⟩
 have hz:(jz [] kvs).length <= sizeLine:=by
  have h1:=mJ kvs [];rw[List.length_nil]at h1;rw[sizeLine_eq];omega
 have he:∃ q,h'.get? s.heap.objs.size=some q:=let ⟨q,_,_,hq,_⟩:=dd';⟨q,hq⟩;exact qX I2 (by rw[e];exact True.intro) hs he (Bc hz hd (rk.merge .nil) dd')
section
variable{X:Cx}{pins:List (Addr×Obj)}{σ:St}{H:Hp}{s:Shared}{a:Addr}{y d:V}{u r:Value}{o:Option V}{A:Around}{E:Value->Shared->Prop}
end
section
variable{X:Cx}{o e f:Expr}{apos cpos:Pos}{td ty tx:TE}
end
section
variable{X:Cx}{pins:List (Addr×Obj)}{σ:St}{H:Hp}{s:Shared}{a:Addr}{kvs:List (Key×V)}{A:Around}{E:Value->Shared->Prop}
end
section
variable{X:Cx}{pins:List (Addr×Obj)}{σ:St}{H:Hp}{s:Shared}{a:Addr}{y:V}{u:Value}{A:Around}{E:Value->Shared->Prop}
end
end L2
namespace Att
open PySem PySem.W PySem.Calls PyProof.Rows
section
variable{prog:Program}{w:World}{A:Around}{E:Value->Shared->Prop}{s:Shared}{K:Frag}
end
end Att
namespace L2
open PySem PySem.Spec PyProof.Rows
end L2
namespace L2
open PySem PySem.Spec PyProof.Rows
end L2
namespace L2
open PySem PySem.Spec PyProof.Rows
section
variable{P:Program}{w:World}{K:W.Frag}{mg:Str->Option Value}{base:Heap}
end
section
variable{X:Cx}
end
section
variable{κ:Type}[DecidableEq κ]
theorem wO:∀{l:List κ}{k:κ},l.Nodup->¬ k∈l->(l++[k]).Nodup
 |[],k,_,_=>by simp
 | a::r,k,h,hk=>by
  obtain⟨h1,h2⟩:=List.nodup_cons.mp h;show(a::(r++[k])).Nodup;refine List.nodup_cons.mpr ⟨fun m=>?_,wO h2 fun m=>hk (List.mem_cons.mpr (Or.inr m))⟩;rcases List.mem_append.mp m with q|q
  . exact h1 q
  . exact hk (List.mem_cons.mpr (Or.inl (List.mem_singleton.mp q).symm))
end
end L2
namespace L2
open PySem PySem.Spec PyProof.Rows
theorem pG{α β:Type}{l:List α}{f:α->β->Sem (ForInStep β)}(g:α->β->β)(c:β)(h:∀ x∈l,∀ c,f x c=pure (.yield (g x c))):
  forIn l c f=(pure (l.foldl (fun c x=>g x c) c):Sem β):=by
 induction l generalizing c with
 |nil=>rfl
 | cons x l ih =>
  rw[List.forIn_cons,h x qms,pure_bind];exact ih (g x c) fun y hy=>h y (qmm _ hy)
def dJ(env:Env)(names:List (Str×NameKind)):List (Str×Addr):=
 names.foldl (fun c x=>if x.2 == .free then(x.1,(env.cells.lookup x.1).getD 0):: c else c) []
theorem tU{scope:Scope}{env:Env}(h:∀ y∈scope.names,y.2 = .free -> ∃ c,env.cells.lookup y.1=some c):closureFor scope env=pure (dJ env scope.names):=by
 unfold dJ;simp only[closureFor]
 rw [pG (fun x c=>if x.2 == .free then(x.1,(env.cells.lookup x.1).getD 0):: c else c) [] (fun x hx c=>by
  obtain⟨n,kind⟩:=x
  by_cases e:kind=NameKind.free
  . subst e
    obtain⟨a,ha⟩:=h _ hx rfl;have ha':env.cells.lookup n=some a:=ha;simp only[beq_self_eq_true,if_true,cellOf,ha',Option.getD_some,pure_bind]
  . have e':(kind == NameKind.free)=false:=by simpa using e
    simp only[e',Bool.false_eq_true,if_false])]
 rfl
theorem mem_closeL{env:Env}:∀{names:List (Str×NameKind)}{acc:List (Str×Addr)}{p:Str×Addr},
  p∈names.foldl (fun c x=>if x.2 == .free then(x.1,(env.cells.lookup x.1).getD 0):: c else c) acc↔p∈acc\/∃ y∈names,y.2 = .free /\ p=(y.1,(env.cells.lookup y.1).getD 0)
 |[],acc,p=>by simp
 | x::r,acc,p=>by
  rw[List.foldl_cons,mem_closeL]
  by_cases e:x.2=NameKind.free
  . rw [qp (by simpa using e)]
    constructor
    . rintro(h|⟨y,hy,h1,h2⟩)
      . rcases List.mem_cons.mp h with h|h
        . exact .inr ⟨x,qms,e,h⟩
        . exact .inl h
      . exact .inr ⟨y,qmm _ hy,h1,h2⟩
    . rintro(h|⟨y,hy,h1,h2⟩)
      . exact .inl (qmm _ h)
      . rcases List.mem_cons.mp hy with rfl|hy
        . exact .inl (h2 ▸ qms)
        . exact .inr ⟨y,hy,h1,h2⟩
  . rw [qnZ (by simpa using e)]
    constructor
    . rintro(h|⟨y,hy,h1,h2⟩)
      . exact .inl h
      . exact .inr ⟨y,qmm _ hy,h1,h2⟩
    . rintro(h|⟨y,hy,h1,h2⟩)
      . exact .inl h
      . rcases List.mem_cons.mp hy with rfl|hy
        . exact absurd h1 e
        . exact .inr ⟨y,hy,h1,h2⟩
theorem mem_of_lookup{β:Type}:∀{l:List (Str×β)}{x:Str}{c:β},l.lookup x=some c->(x,c)∈l
 |[],_,_,h=>by simp at h
 | (n,d):: r,x,c,h=>by
  rw[List.lookup_cons]at h;cases e:x == n with
  | true =>
   rw[e]at h;have e':x=n:=by simpa using e
   subst e';cases h;exact qms
  | false =>
   rw[e]at h;exact qmm _ (mem_of_lookup h)
theorem mK{β:Type}:∀{l:List (Str×β)}{x:Str}{c:β},(x,c)∈l->∃ d,l.lookup x=some d
 |[],_,_,h=>nomatch h
 | (n, d):: r,x,c,h=>by
  rw[List.lookup_cons];cases e:x == n with
  |true=>exact⟨d,rfl⟩
  | false =>
   rcases List.mem_cons.mp h with h|h
   . injection h with h1 _
     subst h1;simp at e
   . exact mK h
theorem fD{env:Env}{names:List (Str×NameKind)}(h:∀ y∈names,y.2 = .free -> ∃ c,env.cells.lookup y.1=some c){x:Str}{c:Addr}(e:(dJ env names).lookup x=some c):env.cells.lookup x=some c:=by
 rcases mem_closeL.mp (mem_of_lookup e)with z|⟨y,hy,h1,h2⟩
 . cases z
 . obtain⟨d,hd⟩:=h y hy h1
   injection h2 with e1 e2
   subst e1;rw[hd]at e2;rw[hd,e2]
   rfl
theorem qt{env:Env}{names:List (Str×NameKind)}{x:Str}(h:(x,NameKind.free)∈names):∃ c,(dJ env names).lookup x=some c :=
 mK (mem_closeL.mpr (.inr ⟨_,h,rfl,rfl⟩))
theorem lq{env:Env}:∀{names:List (Str×NameKind)}{x:Str}{k:NameKind},
  (names.map fun(n,k)=>if (k == NameKind.free && env.scope.kind == .function && env.kindOf n == some .cell)then(n,NameKind.cell)else(n,k)).lookup x=some k ->
  ∃ k0,names.lookup x=some k0/\(k=k0\/(k0 = .free /\ k = .cell))
 |[],_,_,h=>by simp at h
 | (n, k):: r,x,k',h=>by
  have ih:=@lq env r x k';rw[List.map_cons]at h
  by_cases hc:(k == NameKind.free && env.scope.kind == .function && env.kindOf n == some .cell)=true
  . dsimp only at h
    rw[qp hc,List.lookup_cons]at h;rw[List.lookup_cons];cases e:x == n with
    | true =>
     rw[e]at h;cases h;refine⟨k,rfl,.inr ⟨?_,rfl⟩⟩;simp only[Bool.and_eq_true,beq_iff_eq]at hc;exact hc.1.1
    | false =>
     rw[e]at h;exact ih h
  . dsimp only at h
    rw[qnZ hc,List.lookup_cons]at h;rw[List.lookup_cons];cases e:x == n with
    | true =>
     rw[e]at h;cases h;exact⟨k,rfl,.inl rfl⟩
    | false =>
     rw[e]at h;exact ih h
theorem mY{env:Env}:∀{names:List (Str×NameKind)}{x:Str},names.lookup x=some .free ->
  (names.map fun(n,k)=>if (k == NameKind.free && env.scope.kind == .function && env.kindOf n == some .cell)then(n,NameKind.cell)else(n,k)).lookup x=some .cell \/
  (names.map fun(n,k)=>if (k == NameKind.free && env.scope.kind == .function && env.kindOf n == some .cell)then(n,NameKind.cell)else(n,k)).lookup x=some .free
 |[],_,h=>by simp at h
 | (n, k):: r,x,h=>by
  have ih:=@mY env r x;rw[List.map_cons];rw[List.lookup_cons]at h
  by_cases hc:(k == NameKind.free && env.scope.kind == .function && env.kindOf n == some .cell)=true
  . dsimp only
    rw[qp hc,List.lookup_cons];cases e:x == n with
    |true=>exact .inl rfl
    | false =>
     rw[e]at h;exact ih h
  . dsimp only
    rw[qnZ hc,List.lookup_cons];cases e:x == n with
    | true =>
     rw[e]at h;cases h;exact .inr rfl
    | false =>
     rw[e]at h;exact ih h
theorem Be{prog:Program}{w:World}{A:Around}{R:Result->Shared->Prop}{s:Shared}{elt target iter:Expr}{ifs:List Expr}{scope:Scope}{pos:Pos}{it acc:Value}{env:Env}(I:Nat->Shared->Prop)
  (turn : ∀ n s,I n s->wpAny (model prog w) A (pyNext it) (fun r s₁=>match r with
   |none=>R (.ok .next) s₁
   | some v=>wpAny (model prog w) A (letOwnedTupleGo target it v) (fun _ s₁'=>wpAny (model prog w) A (assign target env v) (fun _ s₂ =>
     wpAny (model prog w) A (forIn ifs true fun c r=>if r=true then do let ok <- isTrue c env (eval c env);pure (ForInStep.yield ok)else pure (ForInStep.yield r)) (fun ok s₃ =>
      if ok=true then wpAny (model prog w) A (eval elt env) (fun x s₄ =>
       wpAny (model prog w) A (call (.builtin "list.append") [acc,x]) (fun _ s₅=>∃ m,m<n/\I m s₅) (fun _ _=>False) s₄) (fun _ _=>False) s₃
      else ∃ m,m<n/\I m s₃) (fun _ _=>False) s₂) (fun _ _=>False) s₁') (fun _ _=>False) s₁) (fun _ _=>False) s)
  (n:Nat) (h:I n s):
  codeAny (model prog w) A (.compLoop (.ListComp elt [⟨target,iter,ifs,0⟩] scope pos) 0 it acc env) R s:=by
 refine codeAny_loop rfl I (fun n s hI=>?_) n h;show wpAny _ A ((compTurn (.ListComp elt [⟨target,iter,ifs,0⟩] scope pos) 0 it acc env).onRaise (fun x=>do noteFrame x env;theTreesLotGoes x)) _ _ s;refine wpAny_noted ?_;rw[compTurn_list];refine wpAny_bind (wpAny_standAt (wpAny_bind (wpAny_mono (turn n s hI) (fun r s₁ h₁=>?_) fun _ _ h'=>h'.elim)));cases r with
 |none=>exact wpAny_pure h₁
 | some v =>
  refine wpAny_bind (wpAny_mono h₁ (fun _ s₁' h₁'=>?_) fun _ _ h'=>h'.elim);refine wpAny_bind (wpAny_mono h₁' (fun _ s₂ h₂=>wpAny_bind (wpAny_mono h₂ (fun ok s₃ h₃=>?_) fun _ _ h'=>h'.elim)) fun _ _ h'=>h'.elim);cases ok with
  |false=>exact wpAny_pure ⟨rfl,h₃⟩
  | true =>
   exact wpAny_bind (wpAny_bind (wpAny_mono h₃ (fun x s₄ h₄=>wpAny_bind (wpAny_mono h₄ (fun _ s₅ h₅=>wpAny_pure (wpAny_pure ⟨rfl,h₅⟩)) fun _ _ h'=>h'.elim)) fun _ _ h'=>h'.elim))
def Cx.blk(X:Cx)(pins:List (Addr×Obj))(scope:Scope)(cl:List (Str×Addr))(C:Addr)(N':List Str)(fp:List Addr)(s:Shared)(H:Hp):Cx :=
 { X with N:=N',s₀:=s,H₀:=H,env:=compEnvC scope cl C X.env,outer:=X.stack,ex:=fp,fn:=fun _=>false,pn:=X.pn++pins,xe:=fun _ _=>False }
def cG(ix:List (Option Nat))(σ:St):St:=ix.map fun o=>o.bind fun i=>(σ[i]?).join
def Ext:St->St->Prop
 |[],[]=>True
 |none::a,_::b=>Ext a b
 |some v::a,o::b=>o=some v/\Ext a b
 |_,_=>False
theorem Ext.get:∀{a b:St},Ext a b->∀(j:Nat)(v:V),a[j]? = some (some v)->b[j]? = some (some v)
 |[],[],_,j,v,h=>by simp at h
 |none::a,_::b,e,0,v,h=>by simp at h
 | none::a,_::b,e,j+1,v,h=>by
  have e:Ext a b:=e;rw[List.getElem?_cons_succ]at h ⊢;exact e.get j v h
 | some u::a,o::b,e,0,v,h=>by
  have e1:o=some u:=e.1;rw[List.getElem?_cons_zero]at h ⊢;rw[e1];exact h
 | some u::a,o::b,e,j+1,v,h=>by
  have e:Ext a b:=e.2;rw[List.getElem?_cons_succ]at h ⊢;exact e.get j v h
 |[],_::_,e,_,_,_=>e.elim
 |none::_,[],e,_,_,_=>e.elim
 |some _::_,[],e,_,_,_=>e.elim
theorem Ext.length:∀{a b:St},Ext a b->a.length=b.length
 |[],[],_=>rfl
 | none::a,_::b,e=>by
  have e:Ext a b:=e;simp[e.length]
 | some u::a,o::b,e=>by
  have e:Ext a b:=e.2;simp[e.length]
 |[],_::_,e=>e.elim
 |none::_,[],e=>e.elim
 |some _::_,[],e=>e.elim
def uc(sc:Scope)(N:List Str)(scope:Scope)(N':List Str)(ix:List (Option Nat)):Bool :=
 decide (scope.kind = .function) && decide (∀ y∈scope.names,y.2≠.cell) && decide (∀ y∈scope.names,y.2 = .local -> scope.names.lookup y.1=some .local) &&
 decide (∀ y∈scope.names,y.2 = .free -> sc.names.lookup y.1=some .cell \/ sc.names.lookup y.1=some .free) && decide (ix.length=N'.length) &&
 ((N'.zip ix).all fun p=>p.2.all fun i=>decide (N[i]? = some p.1) && decide (scope.names.lookup p.1=some .free))
structure BlkOk(sc:Scope)(N:List Str)(scope:Scope)(N':List Str)(ix:List (Option Nat)):Prop where
 kind:scope.kind = .function
 nocell:∀ y∈scope.names,y.2≠.cell
 names:∀ y∈scope.names,y.2 = .local -> scope.names.lookup y.1=some .local
 free:∀ y∈scope.names,y.2 = .free -> sc.names.lookup y.1=some .cell \/ sc.names.lookup y.1=some .free
 len:ix.length=N'.length
 at_:∀(j:Nat)(x:Str)(i:Nat),N'[j]? = some x->ix[j]? = some (some i)->N[i]? = some x/\scope.names.lookup x=some .free
theorem BlkOk.of{sc:Scope}{N:List Str}{scope:Scope}{N':List Str}{ix:List (Option Nat)}(h:uc sc N scope N' ix=true):BlkOk sc N scope N' ix:=by
 unfold uc at h;simp only[Bool.and_eq_true,decide_eq_true_eq]at h;obtain⟨⟨⟨⟨⟨h1,h2⟩,h3⟩,h4⟩,h5⟩,h6⟩:=h;refine⟨h1,h2,h3,h4,h5,fun j x i e1 e2=>?_⟩
 have hz:(N'.zip ix)[j]? = some (x,some i):=by
  rw[List.getElem?_zip_eq_some];exact⟨e1,e2⟩
 have hm:(x,some i)∈N'.zip ix:=qmg hz;have q:=List.all_eq_true.mp h6 _ hm;simp only[Option.all_some,Bool.and_eq_true,decide_eq_true_eq]at q;exact q
abbrev aL(its:List Value):Obj:={ cls:=.type "list",data:=.seq its.toArray its.length }
section
variable{X:Cx}{pins:List (Addr×Obj)}{σ:St}{H:Hp}{s:Shared}{sc:Scope}{N N':List Str}{scope:Scope}{ix:List (Option Nat)}{fp:List Addr}{C:Addr}
theorem gQ(ok:X.Ok)(hsc:X.env.scope=sc)(B:BlkOk sc N scope N' ix):∀ y∈scope.names,y.2 = .free -> ∃ c,X.env.cells.lookup y.1=some c:=fun y hy e=>by
 have q:=B.free y hy e;rw[<- hsc]at q;exact ok.has y.1 q
theorem Kc(I:Inv X pins σ H s)(hsc:X.env.scope=sc)(B:BlkOk sc N scope N' ix)(hf:∀ b∈fp,iz X pins H b)(hlt:∀ b∈fp,b<s.heap.objs.size)(hC:s.heap.objs.size<=C):
  (X.blk pins scope (dJ X.env scope.names) C N' fp s H).Ok where
 mod:=I.ok.mod
 kind:=B.kind
 glob:=I.ok.glob
 blt:=I.ok.blt
 above:=hC
 inj:=fun x y c a b=>I.ok.inj x y c (fD (gQ I.ok hsc B) a) (fD (gQ I.ok hsc B) b)
 has := fun x h=>by
  have z:∃ k,(relabel scope X.env).names.lookup x=some k/\(k = .cell \/ k = .free):=by
   rcases h with h|h
   . exact⟨_,h,.inl rfl⟩
   . exact⟨_,h,.inr rfl⟩
  obtain⟨k,hk,hk'⟩:=z;obtain⟨k0,h0,h1⟩:=lq (env:=X.env) (names:=scope.names) hk;have hm:=mem_of_lookup h0
  have e:k0 = .free:=by
   rcases h1 with h1|h1
   . subst h1
     rcases hk' with e|e
     . exact absurd e (B.nocell _ hm)
     . exact e
   . exact h1.1
  subst e;exact qt hm
 cab:=fun x c h _=>by cases h
 hd:=I.ok.hd
 frames:=I.ok.frames
 stk:=.inl rfl
 exf := fun b hb=>⟨fun e=>by
     have:=hlt b hb;have e':b=C:=e;subst e'
     exact absurd (Nat.lt_of_lt_of_le this hC) (Nat.lt_irrefl _),fun x c e=>(hf b hb).2.2.2.2.1 x c (fD (gQ I.ok hsc B) e)⟩
 bs:=I.bs
 bsz:=qnt I.ok.bsz I.sz
 noex:=fun b o e hb=>by
  rcases(hf b hb).2.2.2.1 with z|z
  . exact I.ok.noex b o e z
  . have q:=Heap.lt_size (I.ok.bs b o e).1
    exact absurd (Nat.lt_of_lt_of_le q z) (Nat.lt_irrefl _)
 exfs:=fun b hb z=>by
  rcases List.mem_cons.mp (I.stkSub b z)with e|e
  . exact(hf b hb).2.1 e
  . exact(hf b hb).2.2.1 e
 funs:=I.stack
 frf:=I.stkFree
theorem Iv{s1:Shared}{h1:Heap}{tk:Nat}{D:Addr}{its:List Value}(I:Inv X pins σ H s)(hsc:X.env.scope=sc)(hN:X.N=N)(B:BlkOk sc N scope N' ix)(hf:∀ b∈fp,iz X pins H b)(hlt:∀ b∈fp,b<s.heap.objs.size)(hC:s.heap.objs.size<=C)
  (hD:s.heap.objs.size<=D) (hDC:D≠C) (old:∀ b o,s.heap.get? b=some o->h1.get? b=some o) (hns:h1.Ns C (fun _=>none)) (ho:h1.get? D=some (aL its)) (e:s1 = { s with heap:=h1,toks:=tk }):
  Inv (X.blk pins scope (dJ X.env scope.names) C N' fp s H) [(D,aL its)] (cG ix σ) H s1:=by
 subst e;have ok':=Kc (C:=C) I hsc B hf hlt hC;have cells:=gQ I.ok hsc B;have fresh:∀ a,s.heap.objs.size<=a->H a=none:=fun a ha=>I.hok.fresh ha
 refine⟨ok',rfl,I.bare,Un.kept old,?_,?_,fresh C hC,?_,?_,I.hok.kept old,?_⟩
 . refine ⟨_,hns,fun j x v e1 e2 hv=>?_⟩
   have e2:(cG ix σ)[j]? = some (some v):=e2;unfold cG at e2;rw[qgm]at e2;cases q:ix[j]? with
   |none=>rw[q]at e2;cases e2
   | some o =>
    rw[q]at e2;cases o with
    |none=>cases e2
    | some i =>
     have e3:(σ[i]?).join=some v:=by simpa using e2
     have e4:σ[i]? = some (some v):=by
      cases r:σ[i]? with
      |none=>rw[r]at e3;cases e3
      | some o =>
       rw[r]at e3;have e3:o=some v:=e3;rw[e3]
     obtain⟨n1,n2⟩:=B.at_ j x i e1 q;have n3:=B.free _ (mem_of_lookup n2) rfl;obtain⟨m,hm,hl⟩:=I.loc
     have vis:Vis X.env.scope x:=by
      rw[hsc];exact .inr n3
     obtain⟨u,r,l⟩:=hl i x v (by rw[hN];exact n1) e4 vis;refine⟨u,r,.inr ⟨mY (env:=X.env) n2,?_⟩⟩;obtain⟨c,hc⟩:=qt (env:=X.env) (mem_of_lookup n2);refine⟨c,hc,?_⟩;have hc':=fD cells hc;rcases l with⟨k,_⟩|⟨_,c',e5,o',z1,z2⟩
     . have k:X.env.scope.names.lookup x=some .local:=k
       rw[hsc]at k;rcases n3 with z|z
       . rw[k]at z;cases z
       . rw[k]at z;cases z
     . rw[hc']at e5
       cases e5;exact⟨o',old _ _ z1,z2⟩
 . intro x c e
   obtain⟨v,o,z1,z2⟩:=I.cell x c (fD cells e);exact⟨v,o,old _ _ z1,z2⟩
 . intro x c e
   exact I.freeC x c (fD cells e)
 . intro p hp
   rcases List.mem_append.mp hp with hp|hp
   . obtain⟨p1,p2,p3,p4,p5⟩:=I.pin p hp
     refine⟨old _ _ p1,p2,fun z=>?_,fun z=>?_,p5⟩
     . have z:p.1=C:=z
       have:=Heap.lt_size p1;rw[z]at this;exact absurd (Nat.lt_of_lt_of_le this hC) (Nat.lt_irrefl _)
     . rcases List.mem_cons.mp (I.stkSub p.1 z)with e|e
       . exact p3 e
       . exact p4 e
   . have hp:p=(D,aL its):=List.mem_singleton.mp hp
     subst hp;refine⟨ho,fresh D hD,hDC,fun z=>?_,fun v e=>by cases e⟩
     have q:∃ o,s.heap.get? D=some o:=by
      obtain⟨_,o,z,_⟩:=I.stack.mem z;exact⟨o,z⟩
     obtain⟨o,q⟩:=q;exact absurd (Nat.lt_of_lt_of_le (Heap.lt_size q) hD) (Nat.lt_irrefl _)
 . show(ix.map _).length=N'.length
   rw[qlm];exact B.len
theorem Bf{s4:Shared}{H4:Hp}{σ':St}{D:Addr}{its:List Value}{ys:List V}{cl:List (Str×Addr)}(I:Inv X pins σ H s)(hf:∀ b∈fp,iz X pins H b)(hD:s.heap.objs.size<=D)(hC:s.heap.objs.size<=C)
  (J:Inv (X.blk pins scope cl C N' fp s H) [(D,aL its)] σ' H4 s4) (rv:Vals ys its) (hl:ys.length<=sizeLine):Inv X pins σ (upd H4 D (.lst ys)) s4:=by
 have pD:=J.pin (D,aL its) (qar _ qms);have hD4:H4 D=none:=pD.2.1
 have neD:∀ b o,s.heap.get? b=some o->b≠D:=fun b o e z=>by
  have:=Heap.lt_size e;rw[z]at this;exact absurd (Nat.lt_of_lt_of_le this hD) (Nat.lt_irrefl _)
 have u:=J.base;have u:Un (frs X.stack) fp H H4 s.heap s4.heap:=u;refine I.call' (ch:=fp) J.os ⟨u.keep,u.slot,fun b o e n hx=>?_,u.there,fun b xs e=>?_,fun b o x e=>?_,fun b ps e=>?_⟩ ?_ J.bare (fun b hb=>⟨(hf b hb).2.2.2.1,(hf b hb).2.1,(hf b hb).2.2.2.2.1,(hf b hb).2.2.2.2.2⟩)
 . rw[aC (neD b o e)]
   exact u.free b o e n hx
 . have q:=u.tups b xs e
   rw[aC (aH q hD4)];exact q
 . have q:=u.frzs b o x e
   rw[aC (aH q hD4)];exact q
 . obtain⟨more,q⟩:=u.tbls b ps e
   exact⟨more,by rw[aC (aH q hD4)];exact q⟩
 . intro b o e
   by_cases hb:b=D
   . subst hb
     rw[au]at e;cases e;exact⟨hl,its,_,rv,pD.1⟩
   . rw[aC hb]at e
     exact(J.hok b o e).stay (fun _ _ _ q=>q) (fun c q=>by rw[aC (aH q hD4)];exact q) fun c xs q=>by rw[aC (aH q hD4)];exact q
end
def PTs(X:Cx)(ifs:List Expr)(t:TT):Prop :=
 ∀(pins:List (Addr×Obj))(s:Shared)(σ:St)(H:Hp)(Q:Bool->Hp->Prop),Inv X pins σ H s->t σ H Q ->
  wpAny (model X.prog X.w) X.A (forIn ifs true fun c r=>if r=true then do let ok <- isTrue c X.env (eval c X.env);pure (ForInStep.yield ok)else pure (ForInStep.yield r)) (TP X pins σ Q) X.xe s
def ye:TT:=fun _ H Q=>Q true H
theorem dG{X:Cx}:PTs X [] ye:=fun pins s σ H Q I h=>wpAny_tests_nil ⟨H,I,h⟩
theorem iD{X:Cx}{c:Expr}{t:TT}(h:PT X c t):PTs X [c] t:=fun pins s σ H Q I q=>wpAny_tests_one (h pins s σ H Q I q)
def iY(J:It)(ix:List (Option Nat))(g:TG)(tt:TT)(te:TE)(σ:St)(H:Hp)(Q:VK):Prop :=
 ∃ W : Nat->Nat->List V->Hp->Prop,(∃ m,W 0 m [] H)/\∀ i m ys H,W i m ys H->ys.length<=sizeLine /\
  ((J.stop i H/\∀ p,H p=none->Q (.ref p) (upd H p (.lst ys))) \/
  (J.go i H/\∃ N:List V->Hp->Prop,(∀ ys' H',N ys' H'->∃ m',m'<m/\W (i+1) m' ys' H') /\
   ∀ x H',J.yld i H x H'->g x (cG ix σ) H' fun σ2 H2=>Ext (cG ix σ) σ2/\tt σ2 H2 fun ok H3=>if ok=true then te σ2 H3 fun y H4=>N (ys++[y]) H4 else N ys H3))
def yf(wi:TI)(ix:List (Option Nat))(g:TG)(tt:TT)(te:TE):TE:=fun σ H Q=>wi σ H fun J H1=>iY J ix g tt te σ H1 Q
section
variable{X:Cx}{sc:Scope}{N N':List Str}{scope:Scope}{ix:List (Option Nat)}{tg iter elt:Expr}{ifs:List Expr}{pos:Pos}{wi:TI}{g:TG}{tt:TT}{te:TE}
theorem wQ{use:Option (Value->Sem Unit)}{QQ:Value->Shared->Prop}{pins:List (Addr×Obj)}{σ:St}{H:Hp}{s:Shared}{Q:VK}{cpos:Pos}(hc:X.calm=true)(hi:PI X tg iter wi)
  (hsc:X.env.scope=sc) (hN:X.N=N) (B:BlkOk sc N scope N' ix)
  (hg:∀ pins cl C fp s H,PG (X.blk pins scope cl C N' fp s H) tg g) (ht:∀ pins cl C fp s H,PTs (X.blk pins scope cl C N' fp s H) ifs tt) (he:∀ pins cl C fp s H,PE (X.blk pins scope cl C N' fp s H) elt te)
  (hs:∀ x,foldedSetIterable iter X.env x=pure x) (I:Inv X pins σ H s) (h:yf wi ix g tt te σ H Q)
  (fin:∀(D C:Addr)(s4:Shared)(H4:Hp)(m:Str->Option Value),Inv X pins σ H4 s4->Q (.ref D) H4->s4.heap.Ns C m->iz X pins H4 C ->
   compPost (model X.prog X.w) X.A X.xe use QQ (.ref D) C (.ok .next) s4):
  wpAny (model X.prog X.w) X.A (comprehension (.ListComp elt [⟨tg,iter,ifs,0⟩] scope pos) scope X.env cpos (newList []) false (eval iter X.env) use) QQ X.xe s:=by
 refine wpAny_comprehension_free (use:=use) rfl hs (tU (gQ I.ok hsc B)) B.kind B.names (thn (hi pins s σ H _ I h) fun v s1 h1=>thn h1 fun itv s2 h2=>?_);obtain⟨it,fp,tn,J,H2,e,I2,T,st2,f2,W,⟨m0,w0⟩,turn⟩:=h2;subst e;refine wpAny_newObj_type (wpAny_newFunctionEnv B.nocell (by intro y hy;simp at hy) (fun h₁ hns₁ hsb₁=>?_) B.kind);dsimp only at hns₁ hsb₁ ⊢;generalize hH2:s2.heap.push { cls:=.type "list",dict:=none,data:=.seq ([]:List Value).toArray }=G2 at hns₁ hsb₁ ⊢;have hC:G2.objs.size=s2.heap.objs.size+1:=by rw[<- hH2,Heap.size_push]
 have hCle:s2.heap.objs.size<=G2.objs.size:=by rw[hC];exact Nat.le_succ _
 have hDC:s2.heap.objs.size≠G2.objs.size:=by rw[hC];exact Nat.ne_of_lt (Nat.lt_succ_self _)
 have old:∀ b o,s2.heap.get? b=some o->h₁.get? b=some o:=fun b o e=>hsb₁.extBut b o (by rw[hC];exact Nat.ne_of_lt (Nat.lt_succ_of_lt (Heap.lt_size e))) (Heap.get?_push_of_some _ (hH2 ▸ Heap.get?_push_of_some _ e))
 have hacc:h₁.get? s2.heap.objs.size=some (aL []):=hsb₁.extBut _ _ hDC (Heap.get?_push_of_some _ (hH2 ▸ Heap.get?_push_size _ rfl))
 have hlt:∀ b∈fp,b<s2.heap.objs.size:=fun b hb=>by
  obtain⟨o,e,_⟩:=T.obj _ _ st2 b hb;exact Heap.lt_size e
 have st1:tn 0 h₁:=T.keep _ _ _ st2 fun b _ o e=>old b o e
 have I1:=Iv (fp:=fp) (C:=G2.objs.size) (D:=s2.heap.objs.size) (its:=[]) (h1:=h₁) (tk:=s2.toks+([]:List (Str×Value)).length) I2 hsc hN B f2 hlt hCle (qnr _) hDC old hns₁ hacc rfl
 have fpk:∀{H':Hp}{pl:List (Addr×Obj)},(∀ b∈fp,H' b=none)->(∀ p∈pl,p.1=s2.heap.objs.size)->∀ b∈fp,iz (X.blk pins scope (dJ X.env scope.names) G2.objs.size N' fp s2 H2) pl H' b:=fun hn hpl b hb=>by
  refine⟨hn b hb,fun z=>?_,fun z=>?_,.inl hb,fun x c e=>(f2 b hb).2.2.2.2.1 x c (fD (gQ I2.ok hsc B) e),fun p hp=>?_⟩
  . have z:b=G2.objs.size:=z
    have:=hlt b hb;rw[z,hC]at this;exact absurd (Nat.lt_of_succ_lt this) (Nat.lt_irrefl _)
  . rcases List.mem_cons.mp (I2.stkSub b z)with e|e
    . exact(f2 b hb).2.1 e
    . exact(f2 b hb).2.2.1 e
  . rcases List.mem_append.mp hp with hp|hp
    . exact(f2 b hb).2.2.2.2.2 p hp
    . rw[hpl p hp]
      exact Nat.ne_of_gt (hlt b hb)
 have hpl1:∀(o:Obj),∀ p∈[(s2.heap.objs.size,o)],p.1=s2.heap.objs.size:=fun o p hp=>by
  rw[List.mem_singleton.mp hp]
 have loop:codeAny (model X.prog X.w) X.A (.compLoop (.ListComp elt [⟨tg,iter,ifs,0⟩] scope pos) 0 (.ref it) (.ref s2.heap.objs.size) (compEnvC scope (dJ X.env scope.names) G2.objs.size X.env))
   (compPost (model X.prog X.w) X.A X.xe use QQ (.ref s2.heap.objs.size) G2.objs.size) { s2 with heap:=h₁,toks:=s2.toks+([]:List (Str×Value)).length }:=by
  refine Be (fun n s'=>∃ i ys H' its,Inv (X.blk pins scope (dJ X.env scope.names) G2.objs.size N' fp s2 H2) [(s2.heap.objs.size,aL its)] (cG ix σ) H' s'/\Vals ys its/\tn i s'.heap/\(∀ b∈fp,H' b=none)/\W i n ys H') ?_ m0
   ⟨0,[],H2,[],I1,.nil,st1,fun b hb=>(f2 b hb).1,w0⟩
  rintro n s3 ⟨i,ys,H3,its,I3,rv,st3,fr3,w3⟩;obtain⟨hl,tr⟩:=turn i n ys H3 w3;rcases tr with⟨stop,q⟩|⟨go,N,hN,step⟩
  . refine thn (T.done (X.blk pins scope (dJ X.env scope.names) G2.objs.size N' fp s2 H2) rfl rfl rfl hc i _ s3 _ H3 _ I3 (fpk fr3 (hpl1 _)) st3 stop) fun r s4 ⟨hr,I4⟩=>?_
    subst hr;have I5:=Bf I2 f2 (qnr _) hCle I4 rv hl;obtain⟨m,hm,_⟩:=I4.loc;have hD4:=(I4.pin (s2.heap.objs.size,aL its) (qar _ qms)).2.1;refine fin _ _ s4 _ m I5 (q _ hD4) hm ?_;have hCn:H3 G2.objs.size=none:=I4.free;refine I2.fpOk hCle ?_;rw[aC (Ne.symm hDC)];exact hCn
  . refine thn (T.item (X.blk pins scope (dJ X.env scope.names) G2.objs.size N' fp s2 H2) rfl rfl rfl hc i _ s3 _ H3 _ I3 (fpk fr3 (hpl1 _)) st3 go) fun r s4 ⟨u,hr,h4⟩=>?_
    subst hr;refine thn h4 fun _ s5 ⟨x,H5,I5,r5,y5,st5,fr5⟩=>?_
    have I5':=I5.pinned (fpk fr5 (hpl1 _)) (T.obj _ _ st5);refine thn (hg _ _ _ _ _ _ _ s5 _ H5 x u _ I5' r5 (step x H5 y5)) fun _ s6 ⟨σ6,H6,I6,ex6,q6⟩=>?_
    refine thn (ht _ _ _ _ _ _ _ s6 σ6 H6 _ I6 q6) fun ok s7 ⟨H7,I7,q7⟩=>?_
    have back:∀{s8:Shared}{H8:Hp}{its':List Value}{ys':List V},Inv (X.blk pins scope (dJ X.env scope.names) G2.objs.size N' fp s2 H2) ([(s2.heap.objs.size,aL its')]++jw fp s5.heap) σ6 H8 s8->Vals ys' its'->N ys' H8 ->
      ∃ m,m<n/\∃ i ys H' its,Inv (X.blk pins scope (dJ X.env scope.names) G2.objs.size N' fp s2 H2) [(s2.heap.objs.size,aL its)] (cG ix σ) H' s8/\Vals ys its/\tn i s8.heap/\(∀ b∈fp,H' b=none)/\W i m ys H':=fun {s8 H8 its' ys'} I8 rv8 n8=>by
     obtain⟨m',hm,w8⟩:=hN ys' H8 n8;refine⟨m',hm,i+1,ys',H8,its',(I8.weak ex6.length fun j v e=>ex6.get j v e).unpinned,rv8,T.keep _ _ _ st5 fun b hb o e=>(I8.pin (b,o) (qar _ (qar _ (jg hb e)))).1,fun b hb=>?_,w8⟩;obtain⟨o,e,d⟩:=T.obj _ _ st5 b hb;exact(I8.pin (b,o) (qar _ (qar _ (jg hb e)))).2.1
    cases ok with
    | false =>
     rw[qnZ qbf]at q7 ⊢;exact back I7 rv q7
    | true =>
     rw[qp rfl]at q7 ⊢;refine thn (he _ _ _ _ _ _ _ s7 σ6 H7 _ I7 q7) fun yv s8 ⟨y,H8,I8,r8,q8⟩=>?_
     have pD:=I8.pin (s2.heap.objs.size,aL its) (qar _ (qal _ qms));refine append_at (hsz:=by show its.toArray.size<=sizeLine;rw[List.size_toArray,<- rv.length];exact hl) pD.1 fun h9 hs9 hD9=>?_
     have e9:h9.get? s2.heap.objs.size=some (aL (its++[yv])):=by
      rw[hD9];show some ({ cls:=.type "list",data:=.seq (its.toArray.push yv) (its.length+1) }:Obj)=some { cls:=.type "list",data:=.seq (its++[yv]).toArray (its++[yv]).length };rw[List.length_append,List.length_singleton,List.push_toArray]
     have I8':Inv (X.blk pins scope (dJ X.env scope.names) G2.objs.size N' fp s2 H2) (jw fp s5.heap) σ6 H8 s8:=I8.pins_of fun p hp=>I8.pin p (qar _ (qar _ hp))
     have hpn:∀ p∈(X.blk pins scope (dJ X.env scope.names) G2.objs.size N' fp s2 H2).pn++jw fp s5.heap,p.1≠s2.heap.objs.size:=fun p hp=>by
      rcases List.mem_append.mp hp with hp|hp
      . exact Nat.ne_of_lt (Heap.lt_size (I2.pin p hp).1)
      . exact Nat.ne_of_lt (hlt _ (rN hp).1)
     have I9:=I8'.turned (t':=s8.toks) (it:=s2.heap.objs.size) (fun b o hb e=>hs9.extBut b o hb e) pD.2.1 hDC (.inr (qnr _)) (fun x c e z=>by
      subst z;obtain⟨v,o,z1,z2⟩:=I8.cell x _ e;rw[pD.1]at z1;cases z1
      cases z2) hpn
     refine back (its':=its++[yv]) (ys':=ys++[y]) (I9.pins_of fun p hp=>?_) (rv.append (.cons r8 .nil)) q8;rcases List.mem_append.mp hp with hp|hp
     . rw[List.mem_singleton.mp hp]
       exact⟨e9,pD.2.1,pD.2.2.1,pD.2.2.2.1,fun v e=>by cases e⟩
     . exact I9.pin p (qar _ hp)
 exact codeAny_compStart_list loop (T.self X.A 0 _ _ _ st1 loop)
theorem dg(hc:X.calm=true)(N':List Str)(ix:List (Option Nat))(hi:PI X tg iter wi)(hB:uc X.env.scope X.N scope N' ix=true)
  (hg:∀ pins cl C fp s H,PG (X.blk pins scope cl C N' fp s H) tg g) (ht:∀ pins cl C fp s H,PTs (X.blk pins scope cl C N' fp s H) ifs tt) (he:∀ pins cl C fp s H,PE (X.blk pins scope cl C N' fp s H) elt te)
  (hs:∀ x,foldedSetIterable iter X.env x=pure x:=by intro _;rfl):PE X (.ListComp elt [⟨tg,iter,ifs,0⟩] scope pos) (yf wi ix g tt te):=by
 intro pins s σ H Q I h;rw[eval_ListComp];refine wQ (use:=none) hc hi rfl rfl (BlkOk.of hB) hg ht he hs I h fun D C s4 H4 m I4 q4 hm hf=>?_
 refine⟨m,hm,fun h' hs'=>?_⟩;exact⟨.ref D,H4,I4.turned (t':=s4.toks) (fun b o hb e=>hs'.extBut b o hb e) hf.1 hf.2.1 hf.2.2.2.1 hf.2.2.2.2.1 hf.2.2.2.2.2,rfl,q4⟩
theorem gk{i:Nat}{x:Str}{pos' spos:Pos}(hc:X.calm=true)(N':List Str)(ix:List (Option Nat))(hNd:X.N.Nodup)(hxi:X.N[i]? = some x)(hx:X.env.scope.names.lookup x=some .local)(hi:PI X tg iter wi)(hB:uc X.env.scope X.N scope N' ix=true)
  (hg:∀ pins cl C fp s H,PG (X.blk pins scope cl C N' fp s H) tg g) (ht:∀ pins cl C fp s H,PTs (X.blk pins scope cl C N' fp s H) ifs tt) (he:∀ pins cl C fp s H,PE (X.blk pins scope cl C N' fp s H) elt te)
  (hsw:swapsWith (.ListComp elt [⟨tg,iter,ifs,0⟩] scope pos) (some (.Name x pos')) spos.line X.env=pure true:=by rfl)
  (hs:∀ x,foldedSetIterable iter X.env x=pure x:=by intro _;rfl):PS X (.Assign [.Name x pos'] (.ListComp elt [⟨tg,iter,ifs,0⟩] scope pos) spos) (xN (yf wi ix g tt te) (jN i)):=by
 intro pins s σ H D I h;rw[exec_Assign_Name_used _ _ _ _ hsw];refine wpAny_bind (wpAny_standAt (wpAny_bind ?_));show wpAny _ X.A (do let _ <- comprehension (.ListComp elt [⟨tg,iter,ifs,0⟩] scope pos) scope X.env _ (newList []) false (eval iter X.env) (some (assign (.Name x pos') X.env))) _ _ s;refine wpAny_bind (wpAny_mono (wQ (use:=some (assign (.Name x pos') X.env)) (QQ:=fun _ s'=>SP X pins D .next s') hc hi rfl rfl (BlkOk.of hB) hg ht he hs I h fun Da C s4 H4 m I4 q4 hm hf=>?_) (fun _ s' hq=>wpAny_pure (wpAny_pure hq)) fun _ _ e=>e);show wpAny _ X.A (assign (.Name x pos') X.env (.ref Da)) _ _ _;refine wpAny_assign_Name (rM (v:=.ref Da) I4 hNd hxi (.inl hx) rfl (fun s5 I5 hsb=>?_) (.inr hx));obtain⟨a,hsb,ha⟩:=hsb
 have hCa:C≠a:=by
  rcases ha with z|z
  . rw[z];exact hf.2.1
  . exact fun e=>hf.2.2.2.2.1 x a z e.symm
 refine⟨m,hm.sameBut hsb hCa,fun h' hs'=>?_⟩;exact⟨_,H4,I5.turned (t':=s5.toks) (fun b o hb e=>hs'.extBut b o hb e) hf.1 hf.2.1 hf.2.2.2.1 hf.2.2.2.2.1 hf.2.2.2.2.2,q4⟩
end
end L2
namespace L2
open PySem PySem.Spec PyProof.Rows
theorem Eg{α:Type}(xs:List α)(i k:Nat):(List.range k).filterMap (fun m=>xs[i+m]?)=(xs.drop i).take k:=by
 induction k with
 |zero=>simp
 | succ k ih =>
  rw[List.range_succ,List.filterMap_append,ih,qta,List.getElem?_drop];cases h:xs[i+k]? with
  |none=>simp[h]
  |some v=>simp[h]
theorem ud(n:Nat)(i:Int)(d:Nat):max 0 (min (if i<0 then i+(n:Int)else i) (n:Int))=((HT.sIx n d (some i):Nat):Int):=by
 simp only[HT.sIx]
 by_cases h:i<0
 . simp only[h,if_true];omega
 . simp only[h,if_false];omega
theorem uK(a b:Nat):List.map (fun k:Nat=>((a:Int)+1 * (k:Int)).toNat) (List.range (if (a:Int)<(b:Int)then((b:Int) - a+1 - 1) / 1 else 0).toNat)=(List.range (b - a)).map fun k=>a+k:=by
 have e:(if (a:Int)<(b:Int)then((b:Int) - a+1 - 1) / 1 else 0).toNat=b - a:=by
  split <;> omega
 rw[e];apply List.map_congr_left;intro k _;omega
theorem picked_eq(n:Nat)(lo hi:Option Int):Builtin.Str.strSliceIndices lo hi 1 n=(List.range (HT.sIx n n hi - HT.sIx n 0 lo)).map fun k=>HT.sIx n 0 lo+k:=by
 unfold Builtin.Str.strSliceIndices sliceRange;simp only[show((1:Int) > 0)=True by simp,if_true];rw[<- uK];cases lo with
 | none =>
  cases hi with
  |none=>rfl
  |some j=>simp only[ud n j n];rfl
 | some i =>
  cases hi with
  |none=>simp only[ud n i 0];rfl
  |some j=>simp only[ud n i 0,ud n j n]
def dq(x:Str)(lo hi:Option Int):Str:=⟨((x.cps.toList.drop (HT.sIx x.length 0 lo)).take (HT.sIx x.length x.length hi - HT.sIx x.length 0 lo)).toArray⟩
theorem eG(x:Str)(lo hi:Option Int):(dq x lo hi).cps.toList=(x.cps.toList.drop (HT.sIx x.length 0 lo)).take (HT.sIx x.length x.length hi - HT.sIx x.length 0 lo):=by
 simp[dq]
theorem wR(x:Str)(lo hi:Option Int):(dq x lo hi).length <= x.length:=by
 show(dq x lo hi).cps.size<=x.cps.size;rw[<- Array.length_toList,eG,List.length_take,List.length_drop,Array.length_toList];omega
def Ng:V->Option Int->Option Int->Hp->VK->Prop:=fun x lo hi H Q=>∃ z,x = .str z/\z.length<=sizeLine/\Q (.str (dq z lo hi)) H
section
variable{X:Cx}
theorem uL:SlR X Ng:=by
 intro pins s σ H x v vl vu lo hi sl Q I r hs pl pu h;obtain⟨z,rfl,hz,q⟩:=h;obtain⟨t,rfl⟩:=r
 obtain⟨l,hl,el⟩:∃ l:Option (Int×Tok),vl=partValue l/\l.map (·.1)=lo:=by
  cases pl with
  |none=>exact⟨none,rfl,rfl⟩
  |int i t=>exact⟨some (i,t),rfl,rfl⟩
 obtain⟨u,hu,eu⟩:∃ u:Option (Int×Tok),vu=partValue u/\u.map (·.1)=hi:=by
  cases pu with
  |none=>exact⟨none,rfl,rfl⟩
  |int i t=>exact⟨some (i,t),rfl,rfl⟩
 subst hl hu;refine⟨"str",_,F.slot_str_getitem.lookup,typeIs_str s z t,wpAny_getItem_str_slice (l:=l) (u:=u) (st:=none) hs rfl ?_⟩
 have ep:slicePicked z l u none=(List.range (HT.sIx z.length z.length hi - HT.sIx z.length 0 lo)).map fun k=>HT.sIx z.length 0 lo+k:=by
  unfold slicePicked;rw[el,eu];exact picked_eq z.length lo hi
 have ec:(slicePicked z l u none).filterMap (fun i=>z.cps[i]?)=(dq z lo hi).cps.toList:=by
  rw[ep,List.filterMap_map,eG]
  have e2:((fun i=>z.cps[i]?) ∘ fun k=>HT.sIx z.length 0 lo+k)=fun m=>z.cps.toList[HT.sIx z.length 0 lo+m]?:=by
   funext m
   simp
  rw[e2];exact Eg _ _ _
 unfold sliceMade
 split
 . rename_i hw
   have hw':(slicePicked z l u none).length=z.length:=by simpa using hw
   rw[ep,qlm,List.length_range]at hw'
   have e:dq z lo hi=z:=by
    have b1:HT.sIx z.length z.length hi<=z.length:=HT.sIx_le _ _ (qnr _) _
    have e1:(dq z lo hi).cps.toList=z.cps.toList:=by
     rw[eG];have lz:z.cps.toList.length=z.length:=Array.length_toList
     by_cases h0:z.length=0
     . have:z.cps.toList=[]:=List.eq_nil_of_length_eq_zero (by rw[lz,h0])
       rw[this];simp
     . have a0:HT.sIx z.length 0 lo=0:=by omega
       have b0:HT.sIx z.length z.length hi=z.length:=by omega
       rw[a0,b0,List.drop_zero,Nat.sub_zero,<- lz,List.take_length]
    have e2:(dq z lo hi).cps=z.cps:=Array.toList_inj.mp e1;exact congrArg Str.mk e2
   rw[e]at q;exact⟨.str z,H,I,⟨t,rfl⟩,q⟩
 . have e:(⟨((slicePicked z l u none).filterMap (fun i=>z.cps[i]?)).toArray⟩:Str)=dq z lo hi:=by
    rw[ec]
   rw[e];exact⟨qnt (wR z lo hi) hz,.str (dq z lo hi),H,I.tok _,⟨_,rfl⟩,q⟩
theorem jP:∀{ys:List Str}{us:List Value},Vals (ys.map V.str) us->StrsAre us ys
 |[],_,h=>by cases h;exact .nil
 | y::ys,_,h=>by
  cases h with
  | cons r t =>
   obtain⟨t',rfl⟩:=r;exact .cons _ _ (jP t)
theorem su:∀{us:List Value}{ys:List Str},StrsAre us ys->Vals (ys.map V.str) us
 |_,_,.nil=>.nil
 |_,_,.cons x t h=>.cons ⟨t,rfl⟩ (su h)
theorem Hr:∀{l₁:List (Key×V)}{l₂:List (Key×Value)},KV l₁ l₂->∀(j:Nat)(k:Key)(x:Value),l₂[j]? = some (k,x)->∃ v,l₁[j]? = some (k,v)
 |_,_,.nil,j,k,x,e=>by simp at e
 | p::_,_,.cons hr _,0,k,x,e=>by
  rw[List.getElem?_cons_zero]at e;have e:=qsi e;subst e;have h1:p.1=k:=hr.1;exact⟨p.2,by rw[List.getElem?_cons_zero,<- h1]⟩
 | _::_,_,.cons _ t,j+1,k,x,e=>by
  rw[List.getElem?_cons_succ]at e;obtain⟨v,hv⟩:=Hr t j k x e;exact⟨v,by rw[List.getElem?_cons_succ];exact hv⟩
def Kd:List V->Hp->VK->Prop:=fun xs H Q=>∃(p:Addr)(kvs:List (Key×V))(ys:List Str),xs=[.ref p]/\H p=some (.dK kvs)/\kvs.map (·.1)=ys.map Sum.inr/\ys.length<64 /\
 ∀ l ys',H l=none->ys'.Perm ys->sortedS ys'=true->Q (.ref l) (upd H l (.lst (ys'.map V.str)))
theorem uM(hc:X.calm=true):dC X (.builtin "sorted") Kd:=by
 intro pins s σ H xs us Q I r h;obtain⟨p,kvs,ys,rfl,hp,hk,hl,q⟩:=h;obtain⟨u,rfl,ru⟩:=vals1 r;cases ru;obtain⟨hz,lo,vs,rk,hD⟩:=I.hok p _ hp
 have hlk:kvs.length=ys.length:=by
  have:=congrArg List.length hk
  rwa [qlm,qlm]at this
 have hlv:kvs.length=vs.length:=Paired.length rk;obtain⟨ep,hat⟩:=hD.dictAt;have hh:X.A.handled=none:=I.ok.hd hc;refine Calls.call_function_entry kind_sorted plain_sorted entry_sorted (args_sorted1 _) ?_;unfold Builtin.«sorted»;refine wpAny_bind (m:=checkCount "sorted" 1 1 _) (wpAny_pure ?_);refine wpAny_bind (W.kdu_collect (A:=X.A.in1) (W.kdl_dict (knd:=bI X.prog X.w) (kvs:=vs) (ep:=ep) lo) hh hat (qnt (by omega:vs.length<=64) (by decide)) fun h' tk acc hkp hacc=>?_);have hla:acc.toList.length=vs.length:=by rw[Array.length_toList];exact hacc.1
 have keys:∀(j:Nat)(kv:Key×V),kvs[j]? = some kv->∃ y,ys[j]? = some y/\kv.1=Sum.inr y:=fun j kv e=>by
  have e1:(kvs.map (·.1))[j]? = some kv.1:=by rw[qgm,e];rfl
  rw[hk,qgm]at e1;cases e2:ys[j]? with
  |none=>rw[e2]at e1;cases e1
  |some y=>rw[e2]at e1;exact⟨y,rfl,(qsi e1).symm⟩
 have hstrs:Vals (ys.map V.str) acc.toList:=by
  have gen:∀(us:List Value)(zs:List Str),us.length=zs.length->(∀(j:Nat) u,us[j]? = some u->∃ y t,zs[j]? = some y/\u=Value.str y t)->Vals (zs.map V.str) us:=by
   intro us
   induction us with
   | nil=>intro zs hl _;cases zs with
    |nil=>exact .nil
    |cons _ _=>simp at hl
   | cons u us ih =>
    intro zs hl h;cases zs with
    |nil=>simp at hl
    | cons z zs =>
     obtain⟨y,t,e1,e2⟩:=h 0 u rfl;rw[List.getElem?_cons_zero]at e1;cases e1;subst e2;exact .cons ⟨t,rfl⟩ (ih zs (by simpa using hl) fun j u' e=>h (j+1) u' e)
  refine gen _ _ (by omega) fun j u e=>?_
  obtain⟨k,x,e1,e2⟩:=hacc.2 j u (by rw[<- Array.getElem?_toList];exact e);obtain⟨v,e3⟩:=Hr rk j k x e1;obtain⟨y,e4,e5⟩:=keys j _ e3;have e5:k=Sum.inr y:=e5;subst e5;have e2:lE (Sum.inr y) u=true:=e2;rcases cF e2 with⟨i,t,z1,_⟩|⟨y',t,z1,z2⟩
  . cases z1
  . cases z1
    exact⟨y,t,e4,z2⟩
 have hS:=jP hstrs;refine wpAny_bind (wpAny_newList ?_ (by rw[hla];exact qnt (by omega:vs.length<=64) (by decide)));have hoL:(h'.push { cls:=.type "list",data:=.seq acc.toList.toArray }).get? h'.objs.size=some (seqObj "list" acc.toList.toArray 0):=Heap.get?_push_size _ rfl;refine wpAny_bind (wpAny_holding (wpAny_call_entry slot_list_sort ⟨_,hoL,rfl⟩ entry_list_sort (list_sort_treeK strKind_oneLt hoL hS.keysOf (fun v₁ v₂ rest e=>keyKind_strs (by rw[<- e];exact hS)) (by omega) fun st' a1 a2=>⟨_,rfl,?_⟩) (args_list_sort _)));obtain⟨ys',h1,h2,h3⟩:=sorted_out_str hS a1 a2;refine wpAny_pure ⟨_,rfl,?_⟩;obtain⟨e,he⟩:=sortedHeap_at (out:=(arrOf st').map (·.2)) hoL;have I':Inv X pins σ H { s with heap:=h',toks:=tk }:=I.kept (t':=tk) hkp
 have old:∀ b o,h'.get? b=some o->(sortedHeap (h'.push { cls:=.type "list",data:=.seq acc.toList.toArray }) h'.objs.size acc.toList ((arrOf st').map (·.2))).get? b=some o:=fun b o eb'=>by
  have hlt:=Heap.lt_size eb';rw[sortedHeap_old (Nat.ne_of_lt hlt) (by rw[size_push'];exact Nat.lt_succ_of_lt hlt)];exact Heap.get?_push_of_some _ eb'
 refine⟨.ref h'.objs.size,_,I'.laid (o:=.lst (ys'.map V.str)) (t':=tk) old (qnr _) ⟨?_,((arrOf st').map (·.2)).toList,e,su h1,?_⟩,rfl,q _ ys' (I'.hok.fresh (qnr _)) h2 h3⟩
 . rw[qlm,h2.length_eq]
   exact qnt (Nat.le_of_lt hl) (by decide)
 . rw[he]
theorem wU:∀{bs:List Bool}{us:List Value},Vals (bs.map V.bl) us->us=bs.map Value.bool
 |[],_,h=>by cases h;rfl
 | b::bs,_,h=>by
  cases h with
  | cons r t =>
   have r:_=Value.bool b:=r;rw[List.map_cons,r,wU t]
theorem range_all(bs:List Bool):(List.range bs.length).all (fun i=>bs.getD i false)=bs.all id:=by
 induction bs with
 |nil=>rfl
 | cons b r ih =>
  rw[List.length_cons,List.range_succ_eq_map,List.all_cons,List.all_cons,List.all_map,<- ih]
  rfl
def Nh(K:W.Frag):List V->Hp->VK->Prop:=fun xs H Q=>∃(p:Addr)(bs:List Bool),xs=[.ref p]/\SqL K H p (bs.map V.bl)/\Q (.bl (bs.all id)) H
theorem Eh{prog:Program}{w:World}{A:Around}(bs:List Bool):TruthOf prog w A (fun i v=>(bs.map Value.bool).toArray[i]? = some v) (fun i=>bs.getD i false):=by
 intro i v s Q E hP hQ;have hP:(bs.map Value.bool)[i]? = some v:=by simpa using hP
 rw[qgm]at hP;cases e:bs[i]? with
 |none=>rw[e]at hP;cases hP
 | some b =>
  rw[e]at hP;have hP:=qsi hP;subst hP;have:bs.getD i false=b:=by simp[List.getD,e]
  have hQ:Q (bs.getD i false) s:=hQ;rw[this]at hQ;exact wpAny_truthy_bool hQ
theorem mZ(hc:X.calm=true):dC X (.builtin "all") (Nh X.K):=by
 intro pins s σ H xs us Q I r h;obtain⟨p,bs,rfl,hp,q⟩:=h;obtain⟨u,rfl,ru⟩:=vals1 r;cases ru;obtain⟨its,rv,pl,hz⟩:=I.list hp;have ei:=wU rv;subst ei
 have hlt:p<s.heap.objs.size:=by
  obtain⟨_,_,e,_⟩:=pl;exact Heap.lt_size e
 have hh:X.A.handled=none:=I.ok.hd hc;refine call_all_walk (wpAny_pyIter_list pl.isList ⟨s.heap.objs.size,_,_,_,_,_,fun i=>bs.getD i false,rfl,Walks.list (A:=X.A.in1) hh s.heap.objs.size p (Nat.ne_of_lt hlt) (bs.map Value.bool).toArray,⟨⟨_,Heap.get?_push_size _ rfl,rfl,rfl⟩,pl.isList.push _⟩,Eh bs,fun h' tk hk=>?_⟩)
 have e:(List.range (bs.map Value.bool).toArray.size).all (fun i=>bs.getD i false)=bs.all id:=by
  rw[List.size_toArray,qlm];exact range_all bs
 rw[e];refine⟨.bl (bs.all id),H,I.kept (t':=tk) fun b o eb=>hk b o (fun hm=>?_) (Heap.get?_push_of_some _ eb),rfl,q⟩;exact absurd (Heap.lt_size eb) (by rw[List.mem_singleton.mp hm];exact Nat.lt_irrefl _)
def Ni:V->Option Value
 | .ty n=>some (.type n)
 | .ref a=>some (.ref a)
 |_=>none
def Nj(K:W.Frag):List V->Hp->VK->Prop:=fun xs H Q=>∃ x c t cv b,xs=[x,c]/\Ni c=some cv/\TyOf K H x t/\W.kitOne K t cv=some b/\Q (.bl b) H
theorem fG:dC X (.builtin "isinstance") (Nj X.K):=by
 intro pins s σ H xs us Q I r h;obtain⟨x,c,t,cv,b,rfl,hc,ty,hk,q⟩:=h;obtain⟨u,w',rfl,ru,rw'⟩:=vals2 r
 have e:w'=cv:=by
  cases c with
  |ty n=>have rw':w'=Value.type n:=rw';rw[rw'];exact qsi hc
  |ref a=>have rw':w'=Value.ref a:=rw';rw[rw'];exact qsi hc
  |_=>cases hc
 subst e;exact Aq I ru ty hk fun tk=>⟨.bl b,H,I.tok tk,rfl,q⟩
inductive rJoin(K:W.Frag)(x:V)(vs:List V)(H:Hp)(Q:VK):Prop
 |mk (z:Str) (p:Addr) (ys:List Str) (_:x = .str z) (_:vs=[.ref p]) (_:SqL K H p (ys.map V.str)) (_:(ys.map (·.length)).sum+ys.length * z.length<=16777216) (_:Q (.str (Txt.join z ys)) H)
theorem wV:MtR X "str.join" (rJoin X.K):=by
 intro pins s σ H x xs v us Q I rx r h;obtain⟨z,p,ys,rfl,rfl,hp,hs,q⟩:=h;obtain⟨t,rfl⟩:=rx;obtain⟨u,rfl,ru⟩:=vals1 r;cases ru;obtain⟨its,rv,pl,hz⟩:=I.list hp;exact join_list pl.isList (by simpa using jP rv) hs fun t' k=>⟨.str _,H,I.tok k,⟨t',rfl⟩,q⟩
end
end L2
namespace L2
open PySem PySem.Spec PyProof.Rows
section
variable{ix:List (Option Nat)}{g:TG}{tt:TT}{te:TE}{σ:St}{H:Hp}{Q:VK}{K:W.Frag}
theorem lN{lo:Int}{n:Nat}(Pv:Nat->List V->Hp->Prop)(h0:Pv 0 [] H)(hn:n<=sizeLine)(hl:∀ i ys H,Pv i ys H->ys.length<=i)
  (hs:∀ i ys H,i<n->Pv i ys H->g (.int (lo+i)) (cG ix σ) H fun σ2 H2=>Ext (cG ix σ) σ2/\tt σ2 H2 fun ok H3=>if ok=true then te σ2 H3 fun y H4=>Pv (i+1) (ys++[y]) H4 else Pv (i+1) ys H3)
  (hd:∀ ys H,Pv n ys H->∀ p,H p=none->Q (.ref p) (upd H p (.lst ys))):iY (Itr lo n) ix g tt te σ H Q:=by
 refine⟨fun i m ys H=>m=n - i/\i<=n/\Pv i ys H,⟨n,by simp,qnz _,h0⟩,?_⟩;rintro i m ys H ⟨rfl,hi,p⟩;refine⟨qnt (hl _ _ _ p) (qnt hi hn),?_⟩
 by_cases hlt:i<n
 . refine .inr ⟨hlt,Pv (i+1),fun ys' H' p'=>⟨n - (i+1),by omega,rfl,hlt,p'⟩,fun x H' y=>?_⟩
   obtain⟨e,y⟩:=y;subst e y;exact hs i ys _ hlt p
 . have e:i=n:=by omega
   subst e;exact .inl ⟨qnr _,hd ys H p⟩
theorem gR{a:Addr}{xs:List V}(Pv:Nat->List V->Hp->Prop)(h0:Pv 0 [] H)(hn:xs.length<=sizeLine)(hl:∀ i ys H,Pv i ys H->ys.length<=i)(hx:∀ i ys H,Pv i ys H->SqL K H a xs)
  (hs:∀ i x ys H,xs[i]? = some x->Pv i ys H->g x (cG ix σ) H fun σ2 H2=>Ext (cG ix σ) σ2/\tt σ2 H2 fun ok H3=>if ok=true then te σ2 H3 fun y H4=>Pv (i+1) (ys++[y]) H4 else Pv (i+1) ys H3)
  (hd:∀ ys H,Pv xs.length ys H->∀ p,H p=none->Q (.ref p) (upd H p (.lst ys))):iY (Itl K a) ix g tt te σ H Q:=by
 refine⟨fun i m ys H=>m=xs.length - i/\i<=xs.length/\Pv i ys H,⟨xs.length,by simp,qnz _,h0⟩,?_⟩;rintro i m ys H ⟨rfl,hi,p⟩;have q:=hx i ys H p;refine⟨qnt (hl _ _ _ p) (qnt hi hn),?_⟩
 by_cases hlt:i<xs.length
 . refine .inr ⟨⟨xs,xs[i],q,by simp[hlt]⟩,Pv (i+1),fun ys' H' p'=>⟨xs.length - (i+1),by omega,rfl,hlt,p'⟩,fun x H' y=>?_⟩
   obtain⟨e,y⟩:=y;subst e;exact hs i x ys _ (y xs q) p
 . have e:i=xs.length:=by omega
   subst e;exact .inl ⟨⟨xs,q,qnr _⟩,hd ys H p⟩
theorem eZ{lo:Int}{n:Nat}(f:Nat->V)(hn:n<=sizeLine)
  (hs:∀ i (R:VK),i<n->R (f i) H->Ext (cG ix σ) ((cG ix σ).set 0 (some (.int (lo+i))))/\te ((cG ix σ).set 0 (some (.int (lo+i)))) H R)
  (hd:∀ p,H p=none->Q (.ref p) (upd H p (.lst ((List.range n).map f)))):iY (Itr lo n) ix (jN 0) ye te σ H Q:=by
 refine lN (fun i ys H'=>H'=H/\ys=(List.range i).map f) ⟨rfl,rfl⟩ hn (fun i ys H' ⟨_,e⟩=>by rw[e];simp) ?_ (fun ys H' ⟨e1,e2⟩ p hp=>by subst e1 e2;exact hd p hp);rintro i ys H' hi ⟨rfl,rfl⟩;obtain⟨h1,h2⟩:=hs i (fun y H4=>H4=H'/\(List.range i).map f++[y]=(List.range (i+1)).map f) hi ⟨rfl,by rw[List.range_succ,List.map_append];rfl⟩;exact⟨h1,h2⟩
end
theorem jA{α:Type}{xs:List α}{i:Int}{v:α}(h0:0<=i)(h:xs[i.toNat]? = some v):atI xs i=some v:=by
 have e:i=((i.toNat:Nat):Int):=by omega
 rw[e];exact cM h
theorem Ke(x:Str){v:Int}(h:0<=v):(dq x none (some v)).cps.toList=x.cps.toList.take v.toNat:=by
 rw[eG]
 have e:HT.sIx x.length x.length (some v)=min v.toNat x.length:=by
  show(if v<0 then _ else _)=_;rw[qnZ (by omega)]
 have e0:HT.sIx x.length 0 none=0:=rfl;have lx:x.cps.toList.length=x.length:=Array.length_toList;rw[e,e0,List.drop_zero,Nat.sub_zero];rcases Nat.le_total v.toNat x.length with h1|h1
 . rw[Nat.min_eq_left h1]
 . rw[Nat.min_eq_right h1,<- lx,List.take_length,List.take_of_length_le (by omega)]
end L2
namespace L2
open PySem PySem.Spec PyProof.Rows
section
variable{X:Cx}{K:W.Frag}{tg l:Expr}{tl:TE}{pos:Pos}{es:List Expr}{t:TGs}{n:Nat}
theorem Ei(h:X.K=K:=by rfl):IxR X (rIxL K):=h ▸ bN
theorem wW(h:X.K=K:=by rfl):IxR X (rIxT K):=h ▸ aM
def Lw(K:W.Frag):List V->Hp->VK->Prop:=fun xs H Q=>∃ p ys,xs=[.ref p]/\(SqL K H p ys\/SqT K H p ys)/\Q (.int ys.length) H
theorem tV(h:X.K=K:=by rfl):dC X (.builtin "len") (Lw K):=h ▸ aZ
theorem yg(h:X.K=K:=by rfl):OpR X (compareOp .In) (rIn K false):=h ▸ iW
theorem lu{k:Nat}(hK:X.K=K)(hc:X.calm=true)(h:PGs X es t)
  (hn:(assignEach es X.env).length=n:=by rfl) (hst:(assignEach es X.env).findIdx? (·.1)=none:=by rfl):PG X (.Tuple es k pos) (JZ K n t):=hK ▸ mQ hc h hn hst
variable{o e:Expr}{to:TE}{ta:TA}{name:Str}{apos cpos:Pos}{T id:String}{r:V->List V->Hp->VK->Prop}
theorem Bg (hK:X.K=K) (pa:PlainAttrs T) (slot:Slot T name id) (hty:typeOf (.builtin id)=pure (.type "method_descriptor")) (hm:MtR X id r) (ho:PE X o to) (ha:PA X (e::es) ta)
  (hbase:attributeBase o name X.env (eval o X.env)=eval o X.env:=by rfl)
  (hfew:((backTo cpos (starEach (e::es) X.env)).all (fun x=>!x.1) && (backToKw cpos (keywordEach [] X.env)).all (fun x=>x.1.isSome)
   && decide ((e::es).length+([]:List Keyword).length+(if ([]:List Keyword).isEmpty then 0 else 1)<30))=true:=by rfl)
  (hline:(apos.endLine == cpos.line)=true:=by rfl) (hs:starEach (e::es) X.env=(false,eval e X.env):: starEach es X.env:=by rfl) (hplain:(backTo cpos (starEach es X.env)).any (·.1)=false:=by rfl):
  PE X (.Call (.Attribute o name apos) (e::es) [] cpos) (tBM K T r to ta):=hK ▸ cu pa slot hty hm ho ha hbase hfew hline hs hplain
end
end L2
namespace Bt
open PySem
theorem len:bootBuiltins "len"=some (.builtin "len"):=by decide +kernel
theorem max:bootBuiltins "max"=some (.builtin "max"):=by decide +kernel
theorem min:bootBuiltins "min"=some (.builtin "min"):=by decide +kernel
theorem sum:bootBuiltins "sum"=some (.builtin "sum"):=by decide +kernel
theorem sorted:bootBuiltins "sorted"=some (.builtin "sorted"):=by decide +kernel
theorem all:bootBuiltins "all"=some (.builtin "all"):=by decide +kernel
theorem isinstance:bootBuiltins "isinstance"=some (.builtin "isinstance"):=by decide +kernel
theorem int:bootBuiltins "int"=some (.type "int"):=by decide +kernel
theorem str:bootBuiltins "str"=some (.type "str"):=by decide +kernel
theorem bool:bootBuiltins "bool"=some (.type "bool"):=by decide +kernel
theorem list:bootBuiltins "list"=some (.type "list"):=by decide +kernel
theorem tuple:bootBuiltins "tuple"=some (.type "tuple"):=by decide +kernel
theorem enumerate:bootBuiltins "enumerate"=some (.type "enumerate"):=by decide +kernel
end Bt
namespace L2
open PySem PySem.Spec PyProof.Rows
section
variable{X:Cx}{CX:CXT}{k:Nat}{f C:Addr}{fd:FuncData}{ps:List Str}{sp:Sp}{dvs:List V}{ds:List Value}{E:XK}{x m:Str}{p pos apos pos':Pos}{e o:Expr}{es:List Expr}{ta te:TE}{t:TA}{id T:String}{r:List V->Hp->VK->Prop}
theorem pvl (i:Nat) (hN:X.N[i]? = some x:=by kernel_rfl) (hv:X.env.scope.names.lookup x=some .local:=by kernel_rfl) (hd:(x == ("__debug__":Str))=false:=by kernel_rfl) (hcd:(x == ("__classdict__":Str))=false:=by kernel_rfl):
  PE X (.Name x pos) (tVar i):=ut hN (.inl hv) hd hcd
theorem pvc (i:Nat) (hN:X.N[i]? = some x:=by kernel_rfl) (hv:X.env.scope.names.lookup x=some .cell:=by kernel_rfl) (hd:(x == ("__debug__":Str))=false:=by kernel_rfl) (hcd:(x == ("__classdict__":Str))=false:=by kernel_rfl):
  PE X (.Name x pos) (tVar i):=ut hN (.inr (.inl hv)) hd hcd
theorem pgl(i:Nat)(hN:X.N.Nodup)(hi:X.N[i]? = some x:=by kernel_rfl)(hx:X.env.scope.names.lookup x=some .local:=by kernel_rfl):PG X (.Name x pos) (jN i):=qR hN hi (.inl hx) (.inr hx)
theorem psl(i:Nat)(hN:X.N.Nodup)(he:PE X e te)(hi:X.N[i]? = some x:=by kernel_rfl)(hx:X.env.scope.names.lookup x=some .local:=by kernel_rfl)(hs:swapsWith e (some (.Name x pos')) pos.line X.env=pure false:=by rfl):
  PS X (.Assign [.Name x pos'] e pos) (xN te (jN i)):=gZ hN hi (.inl hx) he hs (.inr hx)
theorem psc(i:Nat)(hN:X.N.Nodup)(he:PE X e te)(hi:X.N[i]? = some x:=by kernel_rfl)(hx:X.env.scope.names.lookup x=some .cell:=by kernel_rfl)(hf:X.fn x=true:=by kernel_rfl)(hs:swapsWith e (some (.Name x pos')) pos.line X.env=pure false:=by kernel_rfl):
  PS X (.Assign [.Name x pos'] e pos) (xN te (jN i)):=gZ hN hi (.inr hx) he hs (.inl hf)
theorem pal(i:Nat){op:Operator}{ti:TIp}(hN:X.N.Nodup)(he:PE X e te)(ho:PIp X op ti)(hi:X.N[i]? = some x:=by kernel_rfl)(hx:X.env.scope.names.lookup x=some .local:=by kernel_rfl):
  PS X (.AugAssign (.Name x pos') op e pos) (J0 i te ti):=Ah hN hi (.inl hx) he ho (.inr hx)
theorem aO(F:FnOk X.prog X.w X.K X.mg X.base CX k f fd ps sp)(hr:Room k X.A)(hm:X.mg x=some (.ref f))(hk:W.keepIn X.K (.ref f)=true)(hb:Binds X.K fd ps [])(hx:eY CX X E)(ha:PA X (e::es) t)
  (hg:X.env.scope.names.lookup x=some .globalImplicit:=by kernel_rfl) (hdb:(x == ("__debug__":Str))=false:=by kernel_rfl) (he:starEach (e::es) X.env=(false,eval e X.env):: starEach es X.env:=by rfl) (hpl:(backTo pos (starEach es X.env)).any (·.1)=false:=by rfl):
  PE X (.Call (.Name x p) (e::es) [] pos) (Hm sp [] E t):=ou F hr hg hm hk hb .nil hx ha hdb he hpl
theorem bf (hc:dC X (.builtin id) r) (hm:X.mg x=none) (hv:bootBuiltins x=some (.builtin id)) (ha:PA X (e::es) t) (hg:X.env.scope.names.lookup x=some .globalImplicit:=by kernel_rfl) (hn:(x == ("__name__":Str))=false:=by kernel_rfl) (hdb:(x == ("__debug__":Str))=false:=by kernel_rfl)
  (he:starEach (e::es) X.env=(false,eval e X.env):: starEach es X.env:=by rfl) (hpl:(backTo pos (starEach es X.env)).any (·.1)=false:=by rfl):PE X (.Call (.Name x p) (e::es) [] pos) (tCB r t):=uB hc hg hm hv ha (by simpa using hn) hdb he hpl
theorem fc (hc:dC X (.type T) r) (hm:X.mg x=none) (hv:bootBuiltins x=some (.type T)) (ha:PA X (e::es) t) (hg:X.env.scope.names.lookup x=some .globalImplicit:=by kernel_rfl) (hn:(x == ("__name__":Str))=false:=by kernel_rfl) (hdb:(x == ("__debug__":Str))=false:=by kernel_rfl)
  (he:starEach (e::es) X.env=(false,eval e X.env):: starEach es X.env:=by rfl) (hpl:(backTo pos (starEach es X.env)).any (·.1)=false:=by rfl):PE X (.Call (.Name x p) (e::es) [] pos) (tCB r t):=rW hc hg hm hv ha (by simpa using hn) hdb he hpl
theorem jh {v:V} {u:Value} (hm:X.mg x=none) (hv:bootBuiltins x=some u) (hr:RelV v u) (hg:X.env.scope.names.lookup x=some .globalImplicit:=by kernel_rfl) (hn:(x == ("__name__":Str))=false:=by kernel_rfl) (hdb:(x == ("__debug__":Str))=false:=by kernel_rfl):
  PE X (.Name x pos) (tC v):=Ia hg hm hv hr (by simpa using hn) hdb
theorem eU {v:V} {u:Value} (hm:X.mg x=some u) (hr:RelV v u) (hg:X.env.scope.names.lookup x=some .globalImplicit:=by kernel_rfl) (hdb:(x == ("__debug__":Str))=false:=by kernel_rfl):PE X (.Name x pos) (tC v):=HY hg hm hr hdb
theorem gU {tg a:Expr} (hm:X.mg "range"=none) (ha:PA X [a] t) (hg:X.env.scope.names.lookup ("range":Str)=some .globalImplicit:=by kernel_rfl) (hs:starEach [a] X.env=[(false,eval a X.env)]:=by rfl):PI X tg (.Call (.Name "range" p) [a] [] pos) (Hk t):=Aj hg hm ha hs
end
end L2
namespace L2
open PySem PySem.Spec PyProof.Rows
structure Fly(P:Program)(w:World)(outer:List Env)(H H':Hp)(s s':Shared)(a C:Addr):Prop where
 os:s'.os=s.os
 bare:AllBare s'.gens
 un:Un (frs outer) [] H H' s.heap s'.heap
 hok:HOk P w H' s'.heap
 free:H' a=none
 fl:∃(B:Heap)(a0:Value),Heap.FlyingW B outer a (.ref C) a0 s'.heap/\(∀ b o,s.heap.get? b=some o->H b=none->b∉frs outer->B.get? b=some o)/\(∀ b o,s.heap.get? b=some o->b∉frs outer->∃ o',B.get? b=some o')/\∀ b,H' b≠none->∃ o,s'.heap.get? b=some o/\B.get? b=some o
def CX1(P:Program)(w:World):CXT:=fun outer H s E e s'=>∃ a C H',e = .ref a/\Fly P w outer H H' s s' a C/\E (.ref C) none H'
theorem sy{P:Program}{w:World}{H:Hp}{h:Heap}(x:HOk P w H h){b:Addr}(e:H b≠none):∃ o,h.get? b=some o:=by
 cases q:H b with
 |none=>exact absurd q e
 | some u =>
  have z:=x b u q;cases u with
  |lst xs=>obtain⟨_,_,_,_,e⟩:=z;exact⟨_,e⟩
  |tup xs=>obtain⟨_,_,_,o,e,_⟩:=z;exact⟨_,e⟩
  |dK kvs=>obtain⟨_,_,_,_,o,_,_,e,_⟩:=z;exact⟨_,e⟩
  |dT kvs=>obtain⟨_,_,_,_,o,_,_,e,_⟩:=z;exact⟨_,e⟩
  |set S n=>obtain⟨o,_,_,_,e,_⟩:=z;exact⟨_,e⟩
  |ins C dx fs=>obtain⟨_,_,_,e,_⟩:=z;exact⟨_,e⟩
  |own y=>obtain⟨_,e⟩:=z;exact⟨_,e⟩
  |xd fs=>obtain⟨_,⟨_,_,_,e,_⟩,_⟩:=z;exact⟨_,e⟩
  |rng lo hi=>obtain⟨_,_,_,e⟩:=z;exact⟨_,e⟩
  |frz ob v=>obtain⟨e,_⟩:=z;exact⟨_,e⟩
  | tbl ps =>
   have z:h.get? b=some _:=z;exact⟨_,z⟩
  | met f y =>
   have z:h.get? b=some _:=z;exact⟨_,z⟩
  |ext φ=>obtain⟨_,⟨_,e⟩,_⟩:=z;exact⟨_,e⟩
theorem uN{fr:List Addr}{H0 H1 H2:Hp}{h0 h1 h2:Heap}(u:Un fr [] H0 H1 h0 h1)(keep:∀ b o,h1.get? b=some o->H1 b=none->b∉fr->h0.get? b=some o->h2.get? b=some o)
  (slot:∀ b o,h1.get? b=some o->H1 b=none->b∈fr->∃ sl,h2.get? b=some { o with slots:=sl }) (free:∀ b,H1 b=none->(∃ o,h1.get? b=some o)->H2 b=none)
  (there:∀ b o,h0.get? b=some o->∃ o',h2.get? b=some o') (tups:∀ b xs,H1 b=some (.tup xs)->H2 b=some (.tup xs)) (frzs:∀ b o x,H1 b=some (.frz o x)->H2 b=some (.frz o x))
  (tbls:∀ b ps,H1 b=some (.tbl ps)->∃ more,H2 b=some (.tbl (ps++more))):Un fr [] H0 H2 h0 h2 where
 keep:=fun b o e n hb hx=>keep b o (u.keep b o e n hb hx) (u.free b o e n hx) hb e
 slot:=fun b o e n hb hx=>by
  obtain⟨sl,e1⟩:=u.slot b o e n hb hx;obtain⟨sl',e2⟩:=slot b _ e1 (u.free b o e n hx) hb;exact⟨sl',e2⟩
 free:=fun b o e n hx=>by
  obtain⟨o',e1⟩:=u.there b o e hx;exact free b (u.free b o e n hx) ⟨o',e1⟩
 there:=fun b o e hx=>there b o e
 tups:=fun b xs e=>tups b xs (u.tups b xs e)
 frzs:=fun b o x e=>frzs b o x (u.frzs b o x e)
 tbls:=fun b ps e=>by
  obtain⟨m1,e1⟩:=u.tbls b ps e;obtain⟨m2,e2⟩:=tbls b _ e1;exact⟨m1++m2,by rw[e2,Array.append_assoc]⟩
section
variable{P:Program}{w:World}{K:W.Frag}{mg:Str->Option Value}{base:Heap}{N:List Str}{qual:Str}{scope:Scope}{f:Addr}{cd:Value}{A:Around}{outer:List Env}{s:Shared}{H:Hp}{E:XK}
theorem Ej{CX:CXT}{pins:List (Addr×Obj)}{σ:St}{H1:Hp}{s1:Shared}{h':Heap}{e C:Addr}{vs:List Value}{Q:Unit->Shared->Prop}{EE:Value->Shared->Prop}(I:Inv (bQ CX P w K mg base N qual scope f cd A outer s H E) pins σ H1 s1)(hx:Heap.MadeExcOf s1.heap h' e (.ref C) vs)
  (hQ:∀ h2,Fly P w outer H H1 s { s1 with heap:=h2 } e C->Q () { s1 with heap:=h2 }):
  wpAny (model P w) (bQ CX P w K mg base N qual scope f cd A outer s H E).A (leaving (bQ CX P w K mg base N qual scope f cd A outer s H E).env (.ref e)) Q EE { s1 with heap:=h' }:=by
 have fm:∀ b∈frs (bQ CX P w K mg base N qual scope f cd A outer s H E).stack,s1.heap.get? b≠none:=fun b hb=>by
  obtain⟨_,o,ho,_⟩:=I.stack.mem hb;rw[ho];exact fun z=>by cases z
 have inB:∀ b o,s1.heap.get? b=some o->b∉frs (bQ CX P w K mg base N qual scope f cd A outer s H E).stack -> (W.hideAll s1.heap (frs (bQ CX P w K mg base N qual scope f cd A outer s H E).stack)).get? b=some o:=fun b o e hb=>W.hideAll_get _ e hb
 have hl:s1.heap.FunFrames (W.hideAll s1.heap (frs (bQ CX P w K mg base N qual scope f cd A outer s H E).stack)) (bQ CX P w K mg base N qual scope f cd A outer s H E).stack :=
  W.funFrames_hide I.stack fun env he b hb=>List.mem_filterMap.mpr ⟨env,he,hb⟩
 refine wpAny_leaves_madeW (base:=W.hideAll s1.heap (frs (bQ CX P w K mg base N qual scope f cd A outer s H E).stack)) (h:=s1.heap) I.ok.frames rfl (fun b o q=>W.of_hideAll _ q) hl hx fun h2 t fl tup hnt hsm=>hQ h2 ?_
 have keepB:∀ b o,s1.heap.get? b=some o->b∉frs (bQ CX P w K mg base N qual scope f cd A outer s H E).stack -> h2.get? b=some o:=fun b o e hb=>fl.1 b o (inB b o e hb)
 have below:∀ b o,s.heap.get? b=some o->b∉frs outer->b∉frs (bQ CX P w K mg base N qual scope f cd A outer s H E).stack:=fun b o e hb z=>by
  rcases List.mem_cons.mp (I.stkSub b z)with q|q
  . have h1:=Heap.lt_size e
    rw[q]at h1;exact absurd (Nat.lt_of_lt_of_le h1 I.ok.above) (Nat.lt_irrefl _)
  . exact hb q
 have frm:∀ b∈frs (bQ CX P w K mg base N qual scope f cd A outer s H E).stack,∀ o,s1.heap.get? b=some o->∃ sl,h2.get? b=some { o with slots:=sl }:=fun b hb o e=>by
  obtain⟨_,o',ho,hd⟩:=I.stack.mem hb;rw[e]at ho;cases ho;exact hsm b o (hx.keeps b o e) hd
 have sub:∀ b∈frs outer,b∈frs (bQ CX P w K mg base N qual scope f cd A outer s H E).stack:=fun b hb=>by
  show b∈frs (_::outer);unfold frs at hb ⊢;obtain⟨env,he,hf⟩:=List.mem_filterMap.mp hb;exact List.mem_filterMap.mpr ⟨env,qmm _ he,hf⟩
 have trk:∀ b,H1 b≠none->∃ o,h2.get? b=some o/\(W.hideAll s1.heap (frs (bQ CX P w K mg base N qual scope f cd A outer s H E).stack)).get? b=some o:=fun b hb=>by
  obtain⟨o,ho⟩:=sy I.hok hb;have nb:b∉frs (bQ CX P w K mg base N qual scope f cd A outer s H E).stack:=fun z=>hb (I.stkFree b z)
  exact⟨o,keepB b o ho nb,inB b o ho nb⟩
 refine⟨I.os,I.bare,uN I.base (fun b o e _ hb e0=>keepB b o e (below b o e0 hb)) (fun b o e _ hb=>frm b (sub b hb) o e) (fun b n _=>n) (fun b o e=>?_) (fun _ _ q=>q) (fun _ _ _ q=>q) (fun b ps q=>⟨#[],by rw[q];simp⟩),fun b o q=>?_,?_,_,_,fl,fun b o e n hb=>?_,fun b o e hb=>?_,trk⟩
 . obtain⟨o',e1⟩:=I.base.there b o e (by show b∉[];simp)
   by_cases hb:b∈frs (bQ CX P w K mg base N qual scope f cd A outer s H E).stack
   . obtain⟨sl,e2⟩:=frm b hb o' e1
     exact⟨_,e2⟩
   . exact⟨o',keepB b o' e1 hb⟩
 . refine(I.hok b o q).stay (fun c u hc e=>?_) (fun _ z=>z) fun _ _ z=>z
   have hc':H1 c≠none:=by
    rcases hc with rfl|hc
    . rw[q];exact fun z=>by cases z
    . rw[hc];exact fun z=>by cases z
   exact keepB c u e fun z=>hc' (I.stkFree c z)
 . cases q:H1 e with
   |none=>rfl
   | some u =>
    obtain⟨o,ho⟩:=sy I.hok (b:=e) (by rw[q];exact fun z=>by cases z);rw[hx.new]at ho;cases ho
 . have e1:=I.base.keep b o e n hb (by show b∉[];simp)
   exact inB b o e1 (below b o e hb)
 . obtain⟨o',e1⟩:=I.base.there b o e (by show b∉[];simp)
   exact⟨o',inB b o' e1 (below b o e hb)⟩
theorem Kf{CX:CXT}{pins:List (Addr×Obj)}{σ:St}{H1 H2:Hp}{s1 s2:Shared}{e C:Addr}{Q:Unit->Shared->Prop}{EE:Value->Shared->Prop}(I:Inv (bQ CX P w K mg base N qual scope f cd A outer s H E) pins σ H1 s1)(F:Fly P w (bQ CX P w K mg base N qual scope f cd A outer s H E).stack H1 H2 s1 s2 e C)
  (hQ:∀ h2,Fly P w outer H H2 s { s2 with heap:=h2 } e C->Q () { s2 with heap:=h2 }):
  wpAny (model P w) (bQ CX P w K mg base N qual scope f cd A outer s H E).A (leaving (bQ CX P w K mg base N qual scope f cd A outer s H E).env (.ref e)) Q EE s2:=by
 obtain⟨fos,fbare,fun_,fhok,ffree,B,a0,hfl,hst,hth,htr⟩:=F;refine wpAny_leaves_onW I.ok.frames rfl hfl fun h2 fl hsm=>hQ h2 ?_
 have below:∀ b o,s.heap.get? b=some o->b∉frs outer->b∉frs (bQ CX P w K mg base N qual scope f cd A outer s H E).stack:=fun b o e hb z=>by
  rcases List.mem_cons.mp (I.stkSub b z)with q|q
  . have h1:=Heap.lt_size e
    rw[q]at h1;exact absurd (Nat.lt_of_lt_of_le h1 I.ok.above) (Nat.lt_irrefl _)
  . exact hb q
 have sub:∀ b∈frs outer,b∈frs (bQ CX P w K mg base N qual scope f cd A outer s H E).stack:=fun b hb=>by
  show b∈frs (_::outer);unfold frs at hb ⊢;obtain⟨env,he,hf⟩:=List.mem_filterMap.mp hb;exact List.mem_filterMap.mpr ⟨env,qmm _ he,hf⟩
 have frm:∀ b∈frs (bQ CX P w K mg base N qual scope f cd A outer s H E).stack,∀ o,s1.heap.get? b=some o->∃ sl,h2.get? b=some { o with slots:=sl }:=fun b hb o e=>by
  obtain⟨sl,e1⟩:=fun_.slot b o e (I.stkFree b hb) hb (by simp);obtain⟨_,o',ho,hd⟩:=I.stack.mem hb;rw[e]at ho;cases ho;obtain⟨sl',e2⟩:=hsm b _ e1 hd;exact⟨sl',e2⟩
 have keepB:∀ b o,s1.heap.get? b=some o->H1 b=none->b∉frs (bQ CX P w K mg base N qual scope f cd A outer s H E).stack -> h2.get? b=some o:=fun b o e n hb=>fl.1 b o (hst b o e n hb)
 have trk:∀ b,H2 b≠none->∃ o,s2.heap.get? b=some o/\h2.get? b=some o/\B.get? b=some o:=fun b hb=>by
  obtain⟨o,e1,e2⟩:=htr b hb;exact⟨o,e1,fl.1 b o e2,e2⟩
 refine⟨fos.trans I.os,fbare,uN I.base (fun b o e n hb e0=>keepB b o e n (below b o e0 hb)) (fun b o e _ hb=>frm b (sub b hb) o e) (fun b n ⟨o,e⟩=>fun_.free b o e n (by simp)) (fun b o e=>?_) (fun b xs q=>fun_.tups b xs q) (fun b o x q=>fun_.frzs b o x q) (fun b ps q=>fun_.tbls b ps q),fun b o q=>?_,ffree,B,a0,fl,fun b o e n hb=>?_,fun b o e hb=>?_,fun b hb=>?_⟩
 . obtain⟨o',e1⟩:=I.base.there b o e (by show b∉[];simp)
   by_cases hb:b∈frs (bQ CX P w K mg base N qual scope f cd A outer s H E).stack
   . obtain⟨sl,e2⟩:=frm b hb o' e1
     exact⟨_,e2⟩
   . obtain⟨o2,e2⟩:=hth b o' e1 hb
     exact⟨o2,fl.1 b o2 e2⟩
 . refine(fhok b o q).stay (fun c u hc e=>?_) (fun _ z=>z) fun _ _ z=>z
   have hc':H2 c≠none:=by
    rcases hc with rfl|hc
    . rw[q];exact fun z=>by cases z
    . rw[hc];exact fun z=>by cases z
   obtain⟨o',e1,e2,_⟩:=trk c hc';have e:s2.heap.get? c=some u:=e;rw[e1]at e;cases e;exact e2
 . have e1:=I.base.keep b o e n hb (by show b∉[];simp)
   exact hst b o e1 (I.base.free b o e n (by show b∉[];simp)) (below b o e hb)
 . obtain⟨o',e1⟩:=I.base.there b o e (by show b∉[];simp)
   exact hth b o' e1 (below b o e hb)
 . obtain⟨o,_,e2,e3⟩:=trk b hb
   exact⟨o,e2,e3⟩
end
end L2
namespace L2
open PySem PySem.Spec PyProof.Rows
def Raises(X:Cx)(E:XK):Prop:=∀(pins:List (Addr×Obj))(σ:St)(H:Hp)(s:Shared)(h':Heap)(e C:Addr)(vs:List Value),Inv X pins σ H s->Heap.MadeExcOf s.heap h' e (.ref C) vs->E (.ref C) none H->X.xe (.ref e) { s with heap:=h' }
section
variable{P:Program}{w:World}{K:W.Frag}{mg:Str->Option Value}{base:Heap}{N:List Str}{qual:Str}{scope:Scope}{f:Addr}{cd:Value}{A:Around}{outer:List Env}{s:Shared}{H:Hp}{E:XK}
theorem fP:Raises (bQ (CX1 P w) P w K mg base N qual scope f cd A outer s H E) E:=fun pins σ H1 s1 h' e C vs I hx q=>Ej I hx fun h2 F=>⟨e,C,H1,rfl,F,q⟩
theorem bJ:eY (CX1 P w) (bQ (CX1 P w) P w K mg base N qual scope f cd A outer s H E) E:=fun pins σ H1 s1 e s2 I ⟨a,C,H2,ea,F,q⟩=>by
 subst ea;exact Kf I F fun h2 F2=>⟨a,C,H2,rfl,F2,q⟩
theorem own1:PassesOwn (model (bQ (CX1 P w) P w K mg base N qual scope f cd A outer s H E).prog (bQ (CX1 P w) P w K mg base N qual scope f cd A outer s H E).w) (bQ (CX1 P w) P w K mg base N qual scope f cd A outer s H E).A (bQ (CX1 P w) P w K mg base N qual scope f cd A outer s H E).env (bQ (CX1 P w) P w K mg base N qual scope f cd A outer s H E).xe :=
 PassesOwn.leaving
end
theorem aK{P:Program}{w:World}{X:Cx}:eY (CX1 P w) X E0:=fun _ _ _ _ _ _ _ ⟨_,_,_,_,_,q⟩=>q.elim
section
variable{P:Program}{w:World}{K:W.Frag}{mg:Str->Option Value}{base:Heap}
theorem Fun.ok1{x qual:Str}{st:Stmt}{f:Addr}{fd:FuncData}{N ps:List Str}{k:Nat}{sp:Sp}(F:Fun K x qual st f fd)(S:FnScope N ps (aB st))(len:∀ vs H Q E,sp vs H Q E->vs.length=ps.length)
  (hbody:∀(cdv:Value)(A:Around)(outer:List Env)(s:Shared)(H:Hp)(vs:List V)(Q:VK)(E:XK),Room k (A.deeper (envOfC qual (aB st) s.heap.objs.size f cdv))->sp vs H Q E ->
   ∃ t,PSs (bQ (CX1 P w) P w K mg base N qual (aB st) f cdv A outer s H E) (fO st) t/\t { nx:=fun _ H'=>Q .non H',rt:=Q } (start N vs) H):FnOk P w K mg base (CX1 P w) (k+1) f fd ps sp:=by
 obtain⟨oc,od,kV,doc,pm,an,cdv,ct,osl,rfl,lk,hcd⟩:=F.ex;exact Lj lk hcd S len fun A outer s H vs Q E hr hsp=>hbody cdv A outer s H vs Q E hr hsp
theorem Fun.ok2{x qual:Str}{st:Stmt}{f:Addr}{fd:FuncData}{N ps:List Str}{k:Nat}{sp:Sp}(F:Fun K x qual st f fd)(S:FnScope N ps (aB st))(hbody:∀(cdv:Value)(A:Around)(outer:List Env)(s:Shared)(H:Hp)(vs:List V)(Q:VK)(E:XK),Room k (A.deeper (envOfC qual (aB st) s.heap.objs.size f cdv))->sp vs H Q E ->
   ∃ t,PSs (bQ (CX1 P w) P w K mg base N qual (aB st) f cdv A outer s H E) (fO st) t/\t { nx:=fun _ H'=>Q .non H',rt:=Q } (start N vs) H) (len:∀ vs H Q E,sp vs H Q E->vs.length=ps.length:=by intro _ _ _ _ h;cases h;subst_vars;rfl):FnOk P w K mg base (CX1 P w) (k+1) f fd ps sp:=F.ok1 S len hbody
end
abbrev bmV:List Value:=[.type "ValueError",.type "Exception",.type "BaseException",.type "object"]
theorem Iw{K:W.Frag}{h:Heap}{C:Addr}{bmB:List Value}{newId:String}(X:K.In h)(q:W.excIn K C bmB newId=true):
  ∃ bm N nm qn bs hdct sn sub ab col dd k0 k1 k2 k3 k5 mN,h.get? C=some (excClassObj nm qn C N bs bm hdct sn sub ab col dd k0 k1 k2 k3 k5 newId)/\h.Ns N mN/\mN "__init__"=none/\OwnTail h bmB bm:=by
 unfold W.excIn at q
 split at q
 . rename_i dd cd sl ho
   split at q
   . rename_i C' bm k0 k1 k2 k3 n k5 hm hs
     simp only[Bool.and_eq_true,beq_iff_eq,Bool.not_eq_true']at q;obtain⟨⟨⟨⟨⟨e1,e2⟩,hdel⟩,ht⟩,hok⟩,hni⟩:=q;subst e1 e2;obtain⟨nm,bs,mro,ns,qn,hd,sn,sub,ab,col,del⟩:=cd;dsimp only at hm hdel hok hni;subst hm hdel
     have hsl:sl = #[k0,k1,k2,k3,some (.builtin n),k5]:=by
      obtain⟨l⟩:=sl;simp only at hs;rw[hs]
     subst hsl;exact⟨bm,ns,nm,qn,bs,hd,sn,sub,ab,col,dd,k0,k1,k2,k3,k5,_,X _ _ ho,.of_isNs (W.isNs_of_in X hok),W.nsMap_none_of_in X hok hni,W.tail_of_in X ht⟩
   . cases q
 . cases q
def Kg(C:Addr)(E:XK)(t:TA):TS:=fun _ σ H=>t σ H fun vs H1=>vs.length<=sizeLine/\E (.ref C) none H1
section
variable{X:Cx}{E:XK}{C:Addr}{x:Str}{np cpos pos:Pos}{e:Expr}{es:List Expr}{t:TA}
theorem eN (hR:Raises X E) (hc:X.calm=true) (hm:X.mg x=some (.ref C)) (q:W.excIn X.K C bmV "ValueError.__new__"=true) (ha:PA X (e::es) t)
  (hg:X.env.scope.names.lookup x=some .globalImplicit:=by kernel_rfl) (hdb:(x == ("__debug__":Str))=false:=by kernel_rfl)
  (he:starEach (e::es) X.env=(false,eval e X.env):: starEach es X.env:=by rfl) (hpl:(backTo cpos (starEach es X.env)).any (·.1)=false:=by rfl):
  PS X (.Raise (some (.Call (.Name x np) (e::es) [] cpos)) none pos) (Kg C E t):=by
 intro pins s σ H D I h;obtain⟨tl,N,nm,qn,bs,hdct,sn,sub,ab,col,dd,k0,k1,k2,k3,k5,mN,hC,hN,hni,T⟩:=Iw I.mod.kin q
 refine wpAny_Raise_call_subT (C:=C) (nm:=nm) (q:=qn) (N:=N) (bs:=bs) (bm:=tl) (hdct:=hdct) (sn:=sn) (sub:=sub) (ab:=ab) (col:=col) (dd:=dd) (k0:=k0) (k1:=k1) (k2:=k2) (k3:=k3) (k5:=k5)
  PySem.F.excBase_ValueError (mN:=mN) (T.hasType PySem.F.excBase_ValueError.hasBase) (I.ok.hd hc) (by rw[he];show(false || (backTo cpos (starEach es X.env)).any (·.1))=false;rw[hpl];rfl) hni (iy I hg hm ⟨rfl,?_⟩ hdb)
 have ha':=ha cpos pins s σ H _ I h;rw[he]at ha' ⊢;refine Calls.evalArgs_plain (wpAny_mono ha' (fun us s2 h2=>?_) fun _ _ y=>y);obtain⟨vs,H2,I2,rv,hl,hE⟩:=h2;refine⟨rfl,by rw[<- rv.length];exact hl,I2.bk _ _ hC,hN.keeps I2.bk,T.keeps I2.bk,fun h' e' hx=>hR pins σ H2 s2 h' e' C us I2 hx hE⟩
end
end L2
namespace L2
open PySem PySem.Spec PyProof.Rows
def XP(X:Cx)(pins:List (Addr×Obj))(σ:St)(EX:XK):Value->Shared->Prop:=fun e s'=>∃ H1 s1,Inv X pins σ H1 s1/\CX1 X.prog X.w X.stack H1 s1 EX e s'
abbrev TEX:=St->Hp->VK->XK->Prop
abbrev TSX:=Ends->XK->St->Hp->Prop
def PEX(X:Cx)(e:Expr)(t:TEX):Prop :=
 ∀(pins:List (Addr×Obj))(s:Shared)(σ:St)(H:Hp)(Q:VK)(EX:XK),Inv X pins σ H s->t σ H Q EX->wpAny (model X.prog X.w) X.A (eval e X.env) (EP X pins σ Q) (XP X pins σ EX) s
def PSX(X:Cx)(st:Stmt)(t:TSX):Prop :=
 ∀(pins:List (Addr×Obj))(s:Shared)(σ:St)(H:Hp)(D:Ends)(EX:XK),Inv X pins σ H s->t D EX σ H->wpAny (model X.prog X.w) X.A (exec st X.env) (SP X pins D) (XP X pins σ EX) s
def Kh(X:Cx)(st:List Stmt)(t:TSX):Prop :=
 ∀(pins:List (Addr×Obj))(s:Shared)(σ:St)(H:Hp)(D:Ends)(EX:XK),Inv X pins σ H s->t D EX σ H->wpAny (model X.prog X.w) X.A (execs st X.env) (SP X pins D) (XP X pins σ EX) s
def Bh(sp:Sp)(dvs:List V)(t:TA):TEX:=fun σ H Q EX=>t σ H fun vs H1=>sp (vs++dvs) H1 Q EX
section
variable{X:Cx}{k:Nat}{f C:Addr}{fd:FuncData}{ps:List Str}{sp:Sp}{dvs:List V}{ds:List Value}{x m:Str}{p pos apos:Pos}{e o:Expr}{es:List Expr}{ta:TE}{t:TA}
theorem Iz{pins:List (Addr×Obj)}{σ:St}{H:Hp}{s:Shared}{Q:VK}{EX:XK}{us:List Value}{vs:List V}(F:FnOk X.prog X.w X.K X.mg X.base (CX1 X.prog X.w) k f fd ps sp)(hr:Room k X.A)(hb:Binds X.K fd ps ds)(hd:Vals dvs ds)
  (I:Inv X pins σ H s) (r:Vals vs us) (h:sp (vs++dvs) H Q EX):wpAny (model X.prog X.w) X.A (call (.ref f) us) (EP X pins σ Q) (XP X pins σ EX) s:=by
 have r2:Vals (vs++dvs) (us++ds):=r.append hd;have hl:(us++ds).length=ps.length:=by rw[<- r2.length];exact F.len _ _ _ _ h
 refine wpAny_call (codeAny_mono (F.run X.A X.stack s H ⟨us,[]⟩ (us++ds) (vs++dvs) Q EX hr I.env0 (hb s us I.kIn hl) r2 h) fun r s' hq=>?_);cases r with
 |error e=>exact⟨H,s,I,hq⟩
 | ok fl =>
  cases fl with
  |ret u=>exact I.after hq
  |next=>exact False.elim hq
  |brk=>exact False.elim hq
  |cont=>exact False.elim hq
theorem Ek(F:FnOk X.prog X.w X.K X.mg X.base (CX1 X.prog X.w) k f fd ps sp)(hr:Room k X.A)(hg:Gl X x)(hm:X.mg x=some (.ref f))(hk:W.keepIn X.K (.ref f)=true)(hb:Binds X.K fd ps ds)(hd:Vals dvs ds)
  (ha:PA X.nox (e::es) t) (hdb:(x == ("__debug__":Str))=false:=by decide) (he:starEach (e::es) X.env=(false,eval e X.env):: starEach es X.env:=by rfl) (hpl:(backTo pos (starEach es X.env)).any (·.1)=false:=by rfl):
  PEX X (.Call (.Name x p) (e::es) [] pos) (Bh sp dvs t):=by
 intro pins s σ H Q EX I h;refine wpAny_Call_Name_kw (iy I hg hm ?_ hdb);refine W.callWith_K (h₀:=X.base) I.ok.mod.kin hk (wpAny_mono (ha pos pins s σ H _ (I.wish _) h) (fun us s1 ⟨vs,H1,I1,r,q⟩=>⟨I1.kIn,?_⟩) fun _ _ z=>False.elim z) he hpl;exact Iz F hr hb hd I1.unwish r q
def Kl(te:TEX):TSX:=fun D EX σ H=>te σ H (fun _ H1=>D.nx σ H1) EX
theorem El{te:TEX}(he:PEX X e te)(hs:swapsWith e none pos.line X.env=pure false:=by rfl):PSX X (.Expr e pos) (Kl te):=by
 intro pins s σ H D EX I h;exact wpAny_Expr_any (wpAny_mono (he pins s σ H _ EX I h) (fun v s1 ⟨x,H1,I1,r1,q1⟩=>⟨σ,H1,I1,q1⟩) fun _ _ z=>z) I.quiet hs
def Lx(i:Nat)(te:TEX):TSX:=fun D EX σ H=>te σ H (fun v H1=>D.nx (σ.set i (some v)) H1) EX
theorem IK{i:Nat}{te:TEX}{pos':Pos}(hN:X.N.Nodup)(hi:X.N[i]? = some x)(hx:Loc X.env.scope x)(he:PEX X e te)(hs:swapsWith e (some (.Name x pos')) pos.line X.env=pure false:=by rfl)(hf:X.fn x=true\/X.env.scope.names.lookup x=some .local:=by first|exact .inl rfl|exact .inr rfl|assumption):
  PSX X (.Assign [.Name x pos'] e pos) (Lx i te):=by
 intro pins s σ H D EX I h;refine wpAny_Assign_Name (wpAny_mono (he pins s σ H _ EX I h) (fun v s1 ⟨y,H1,I1,r1,q1⟩=>?_) fun _ _ z=>z) hs;exact lG I1 hN hi hx r1 (fun s2 I2=>⟨_,H1,I2,q1⟩) hf
theorem uO{st:Stmt}{t:TSX}(h1:PSX X st t):Kh X [st] t:=by
 intro pins s σ H D EX I h;refine wpAny_execs_cons (wpAny_mono (h1 pins s σ H D EX I h) (fun f s1 q=>?_) fun _ _ z=>z);cases f with
 |next=>exact wpAny_execs_nil q
 |ret v=>exact q
 |brk=>exact q
 |cont=>exact q
end
def j8(K:W.Frag)(C:Addr):Option (List Value):=match K.lookup C with
 | some ⟨.type "type",_,.cls cd,sl⟩=>(match cd.mro,sl.toList with
  | .ref C'::bm,[_,_,_,_,some (.builtin _),_]=>if (C' == C && !cd.hasDel)=true then some bm else none
  |_,_=>none)
 |_=>none
theorem uP{K:W.Frag}{h:Heap}{C:Addr}{bm:List Value}(X:K.In h)(q:j8 K C=some bm):
  ∃ N nm qn bs hdct sn sub ab col dd k0 k1 k2 k3 k5 newId,h.get? C=some (excClassObj nm qn C N bs bm hdct sn sub ab col dd k0 k1 k2 k3 k5 newId):=by
 unfold j8 at q
 split at q
 . rename_i dd cd sl ho
   split at q
   . rename_i C' bm' k0 k1 k2 k3 n k5 hm hs
     split at q
     . rename_i hc
       cases q;simp only[Bool.and_eq_true,beq_iff_eq,Bool.not_eq_true']at hc;obtain⟨e1,hdel⟩:=hc;subst e1;obtain⟨nm,bs,mro,ns,qn,hd,sn,sub,ab,col,del⟩:=cd;dsimp only at hm hdel;subst hm hdel
       have hsl:sl = #[k0,k1,k2,k3,some (.builtin n),k5]:=by
        obtain⟨l⟩:=sl;simp only at hs;rw[hs]
       subst hsl;exact⟨ns,nm,qn,bs,hd,sn,sub,ab,col,dd,k0,k1,k2,k3,k5,n,X _ _ ho⟩
     . cases q
   . cases q
 . cases q
def under(K:W.Frag)(C M:Addr):Bool:=(j8 K C).any fun bm=>(Value.ref C::bm).contains (.ref M)
def catches(K:W.Frag)(M:Addr):Bool:=(j8 K M).any fun bm=>bm.contains (.type "BaseException")
section
variable{M:Model}{A:Around}{E:Value->Shared->Prop}
variable{nm q nm' q':Str}{C N C' N':Addr}{bs bm bs' bm':List Value}{hdct hdct':Bool}{sn sn':List Str}{sub sub':List Value}{ab ab':Bool}{col col':Option Bool}{dd dd':Option Addr}{k0 k1 k2 k3 k5 j0 j1 j2 j3 j5:Option Value}{newId newId':String}
end
end L2
namespace L2
open PySem PySem.Spec PyProof.Rows
abbrev Cx.caught(X:Cx)(e:Addr):Cx:={ X with A:=X.A.mark (some (.ref e)),calm:=false,xe:=fun _ _=>False }
theorem Cx.Ok.caught{X:Cx}(ok:X.Ok)(e:Addr):(X.caught e).Ok :=
 ⟨ok.mod,ok.kind,ok.glob,ok.blt,ok.above,ok.inj,ok.has,ok.cab,(fun z=>by cases z),ok.frames,ok.stk,ok.exf,ok.bs,ok.bsz,ok.noex,ok.exfs,ok.funs,ok.frf⟩
section
variable{X:Cx}{pins:List (Addr×Obj)}{σ:St}{H:Hp}{s:Shared}
theorem Inv.caught(I:Inv X pins σ H s)(e:Addr):Inv (X.caught e) pins σ H s:=⟨I.ok.caught e,I.os,I.bare,I.base,I.loc,I.cell,I.free,I.freeC,I.pin,I.hok,I.len⟩
theorem Inv.uncaught{e:Addr}(I:Inv (X.caught e) pins σ H s)(ok:X.Ok):Inv X pins σ H s:=⟨ok,I.os,I.bare,I.base,I.loc,I.cell,I.free,I.freeC,I.pin,I.hok,I.len⟩
end
section
variable{X:Cx}{pins:List (Addr×Obj)}{σ:St}{H:Hp}{s:Shared}
theorem Inv.landed{H1 H2:Hp}{s1 s2:Shared}{a C:Addr}{B h6:Heap}{a0:Value}(I:Inv X pins σ H1 s1)(hstk:X.stack=X.env::X.outer)(os:s2.os=s1.os)(bare:AllBare s2.gens)(u:Un (frs X.stack) [] H1 H2 s1.heap s2.heap)(hok:HOk X.prog X.w H2 s2.heap)
  (hst:∀ b o,s1.heap.get? b=some o->H1 b=none->b∉frs X.stack->B.get? b=some o) (hth:∀ b o,s1.heap.get? b=some o->b∉frs X.stack->∃ o',B.get? b=some o') (htr:∀ b,H2 b≠none->∃ o,s2.heap.get? b=some o/\B.get? b=some o)
  (fl:Heap.FlyingW B X.stack a (.ref C) a0 h6) (sm:s2.heap.UpToSlots h6):Inv X pins σ H2 { s2 with heap:=h6 }:=by
 have frm:∀ b∈frs X.stack,∀ o,s1.heap.get? b=some o->∃ sl,h6.get? b=some { o with slots:=sl }:=fun b hb o e=>by
  obtain⟨sl,e1⟩:=u.slot b o e (I.stkFree b hb) hb (by simp);obtain⟨_,o',ho,hd⟩:=I.stack.mem hb;rw[e]at ho;cases ho;obtain⟨sl',e2⟩:=sm b _ e1 hd;exact⟨sl',e2⟩
 refine I.call' (s':={ s2 with heap:=h6 }) (ch:=[]) os ⟨fun b o e n hb _=>fl.1 b o (hst b o e n hb),fun b o e _ hb _=>frm b hb o e,u.free,fun b o e _=>?_,u.tups,u.frzs,u.tbls⟩ (fun b o q=>?_) bare (fun b z=>absurd z (by simp))
 . by_cases hb:b∈frs X.stack
   . obtain⟨sl,e2⟩:=frm b hb o e
     exact⟨_,e2⟩
   . obtain⟨o2,e2⟩:=hth b o e hb
     exact⟨o2,fl.1 b o2 e2⟩
 . refine(hok b o q).stay (fun c v hc e=>?_) (fun _ z=>z) fun _ _ z=>z
   have hc':H2 c≠none:=by
    rcases hc with rfl|hc
    . rw[q];exact fun z=>by cases z
    . rw[hc];exact fun z=>by cases z
   obtain⟨o',e1,e2⟩:=htr c hc';rw[e1]at e;cases e;exact fl.1 c _ e2
end
end L2
namespace L2
open PySem PySem.Spec PyProof.Rows PySem.W
section
open PySem.Builtin PySem.Builtin.ObjectAttr PySem.Builtin.Getset_descriptor
variable{prog:Program}{w:World}{A:Around}{E:Value->Shared->Prop}{s:Shared}{K:W.Frag}{x C:Addr}{R:Result->Shared->Prop}{ox:Obj}
variable (hg:W.findIn K (.ref C) "__getattribute__"=some (some (.builtin "BaseException.__getattribute__"))) (hh:W.findIn K (.ref C) "__getattr__"=some none)
 (ha:W.findIn K (.ref C) "__class__"=some (some (.builtin "object.__class__")))
 (hn:W.specialIn K (.builtin "object.__class__") "__get__"=some (some (.builtin "getset_descriptor.__get__"))) (ht:W.takesIn K (.builtin "object.__class__")=some true)
 (hm:W.mroIn K C (.type "object")=some true) (hB:W.mroIn K C (.type "BaseException")=some true)
include hg hh ha hn ht hm hB
end
structure ExC(K:W.Frag)(C:Addr):Prop where
 hg:W.findIn K (.ref C) "__getattribute__"=some (some (.builtin "BaseException.__getattribute__"))
 hh:W.findIn K (.ref C) "__getattr__"=some none
 ha:W.findIn K (.ref C) "__class__"=some (some (.builtin "object.__class__"))
 hn:W.specialIn K (.builtin "object.__class__") "__get__"=some (some (.builtin "getset_descriptor.__get__"))
 ht:W.takesIn K (.builtin "object.__class__")=some true
 hm:W.mroIn K C (.type "object")=some true
 hB:W.mroIn K C (.type "BaseException")=some true
 hcl:W.hasDictIn K C=true
section
variable{X:Cx}{pins:List (Addr×Obj)}{σ:St}{H:Hp}{s:Shared}{A:Around}{E:Value->Shared->Prop}{Q:Value->Shared->Prop}{c:Value}{b:Bool}
end
end L2
namespace L2
open PySem PySem.Spec PyProof.Rows
section
variable{X:Cx}
def Ly(K:W.Frag):List V->Hp->VK->Prop:=fun xs H Q=>∃(p:Addr)(ns:List Int),xs=[.ref p]/\SqL K H p (ns.map V.int)/\0<ns.length/\∀ M,M∈ns->(∀ a∈ns,M<=a)->Q (.int M) H
theorem sE(hc:X.calm=true):dC X (.builtin "min") (Ly X.K):=by
 intro pins s σ H xs us Q I r h;obtain⟨p,ns,rfl,hp,hne,q⟩:=h;obtain⟨u,rfl,ru⟩:=vals1 r;cases ru;obtain⟨its,rv,pl,hz⟩:=I.list hp;have hi:=intsAre_of rv;have hh:X.A.handled=none:=I.ok.hd hc;obtain⟨xs,e⟩:=hi.allInts.items
 have hns:ns=xs.toList.map (·.1):=by
  rw[<- hi.numsOf,<- nums_intItems,<- e]
 have hsz:0<xs.size:=by
  have h3:=hne;rw[hns,qlm,Array.length_toList]at h3;exact h3
 have hl:=pl.isList;rw[e]at hl;refine min_intList hh hl hsz fun v h' tk hv hk=>?_
 obtain⟨t,rfl⟩:=intItems_at hv;obtain⟨h1,h2⟩:=argBest_lt (numAt xs) (xs.size - 1);refine⟨.int _,H,I.kept (t':=tk) hk,⟨t,rfl⟩,q _ ?_ fun a ha=>?_⟩
 . rw[hns,numAt_eq];exact getD_mem (by rw[qlm,Array.length_toList];omega)
 . rw[hns]at ha
   obtain⟨j,hj,rfl⟩:=mem_getD ha;rw[qlm,Array.length_toList]at hj;rw[<- numAt_eq];exact h2 j (by omega)
theorem oV(ns:List Int):∀ k,k<=ns.length->preSum (fun i=>ns.getD i 0) k=(ns.take k).sum
 | 0,_=>by simp[preSum]
 | k+1,h=>by
  have h':k<ns.length:=by omega
  rw[preSum,oV ns k (by omega),List.take_succ_eq_append_getElem h',List.sum_append];simp[List.getD,h']
theorem wX{x:V}{xs:List V}{us:List Value}(r:Vals xs us)(f:xs.all eQ=true){j:Nat}{u:Value}(e:us[j]? = some u):eqU x u=eqV (xs.getD j .non) x:=by
 induction r generalizing j with
 |nil=>simp at e
 | @cons y v ys vs rv t ih =>
  rw[List.all_cons,Bool.and_eq_true]at f;cases j with
  |zero=>simp at e;subst e;simpa using qj rv f.1
  |succ j=>simpa using ih f.2 (by simpa using e)
theorem Bj{β : Type}{M:Model}{A:Around}{E:Value->Shared->Prop}{s:Shared}{Q:β->Shared->Prop}(f:Nat->β->Sem (ForInStep β))(n:Nat)(J:Nat->β->Shared->Prop)(b:β)
  (turn:∀ i b s,i<n->J i b s->wpAny M A (f i b) (fun r s'=>match r with | .yield b'=>J (i+1) b' s' | .done b'=>Q b' s') E s) (fin:∀ b s,J n b s->Q b s) (h:J 0 b s):wpAny M A (forIn [:n] b f) Q E s:=by
 rw[Std.Legacy.Range.forIn_eq_forIn_range']
 have key:∀(k i:Nat)(b:β)(s:Shared),i+k=n->J i b s->wpAny M A (forIn (List.range' i k 1) b f) Q E s:=by
  intro k
  induction k with
  | zero => intro i b s e hj;rw[List.range'_zero,List.forIn_nil];obtain rfl:i=n:=by omega
            exact wpAny_pure (fin _ _ hj)
  | succ k ih =>
   intro i b s e hj;rw[List.range'_succ,List.forIn_cons];refine wpAny_bind (wpAny_mono (turn i b s (by omega) hj) (fun r s' hr=>?_) fun _ _ z=>z);cases r with
   |done b'=>exact wpAny_pure hr
   |yield b'=>exact ih (i+1) b' s' (by omega) hr
 have e:(Std.Legacy.Range.size [:n])=n:=by simp[Std.Legacy.Range.size]
 rw[e];exact key n 0 b s (by omega) h
theorem yh(l:Addr)(items:Array Value)(n:Nat)(dd:Option Addr)(sl:Array (Option Value))(x:Value)(e:Value->Bool)(j:Nat)(hj:j<items.size)
  (hit:e items[j]=true) (hno:∀ m (hm:m<items.size),m<j->e items[m]=false):
  Meets (Builtin.«tuple.index» ⟨[.ref l,x],[]⟩)
   (fun A R s=>s.heap.get? l=some { cls:=.type "tuple",dict:=dd,data:=.seq items n,slots:=sl }/\(∀ y,y∈items->SeqAt.EqAt A.in1 s y x (e y))/\R (.ok (.ret (.int j s.toks))) { s with toks:=s.toks+1 }):=
 .of_wp fun prog w A R s h=>by
  obtain⟨hp,g,d,tk,os⟩:=s;obtain⟨hl,he,h⟩:=h
  wp_walk using wpAny_loadPart' hl
  show wpAny _ _ (forIn [:min items.size items.size] _ _) _ _ _;rw[Nat.min_self];refine Bj _ _ (fun i b s'=>b.1=none/\i<=j/\s'=⟨hp,g,d,tk,os⟩) _ (fun i b s' hi ⟨hb,hij,hs⟩=>?_) (fun b s' ⟨_,hij,_⟩=>absurd hj (by omega)) ⟨rfl,qnz _,rfl⟩;subst hs;have hi':items[i]? = some items[i]:=Array.getElem?_eq_getElem hi;simp only[hi'];refine wpAny_bind (he _ (Array.getElem_mem hi) prog w _ _ ?_)
  by_cases hij':i=j
  . subst hij'
    rw[hit]
    wp_walk
    exact⟨_,rfl,h⟩
  . rw[hno i hi (by omega)]
    wp_walk
    exact⟨rfl,by omega,rfl⟩
inductive rIndexT(K:W.Frag)(y:V)(vs:List V)(H:Hp)(Q:VK):Prop
 |mk (p:Addr) (xs:List V) (x:V) (j:Nat) (_:y = .ref p) (_:vs=[x]) (_:SqT K H p xs) (_:eQ x=true) (_:xs.all eQ=true) (_:j<xs.length) (_:eqV (xs.getD j .non) x=true) (_:(∀ m,m<j->eqV (xs.getD m .non) x=false)) (_:Q (.int j) H)
theorem Bk:MtR X "tuple.index" (rIndexT X.K):=by
 intro pins s σ H y vs v us Q I ry r h;obtain⟨p,xs,x,j,rfl,rfl,hp,fx,fs,hj,hit,hno,q⟩:=h;cases ry;obtain⟨u,rfl,ru⟩:=vals1 r;obtain⟨its,rv,pl,hz⟩:=I.tuple hp;obtain⟨⟨cls,dd,data,sl⟩,ho,hc,n,hd⟩:=pl;simp only at hc hd;subst hc hd;have hlen:=rv.length
 refine call_meets PySem.F.slot_tuple_index ⟨_,ho,rfl⟩ PySem.F.entry_tuple_index (PySem.F.args_tuple_index_2 _ _)
  (yh p its.toArray n dd sl u (eqU x) j (by simpa[hlen]using hj) ?_ ?_) ⟨ho,fun y hy=>gF ru fx rv fs y (by simpa using hy),⟨.int j,H,I.tok _,⟨_,rfl⟩,q⟩⟩
 . rw[wX (x:=x) rv fs (j:=j) (by simp)];exact hit
 . intro m hm hlt
   rw[wX (x:=x) rv fs (j:=m) (by simp)];exact hno m hlt
end
end L2
namespace L2
open PySem PySem.Spec PyProof.Rows
theorem Inv.turns{X:Cx}{pins:List (Addr×Obj)}{σ:St}{H:Hp}{s:Shared}{h':Heap}{fp:List Addr}{p:Addr}{o:HO}{t':Nat}(I:Inv X pins σ H s)(hf:∀ b∈fp,iz X pins H b)(k:∀ b u,b∉fp->s.heap.get? b=some u->h'.get? b=some u)
  (hp:s.heap.objs.size<=p) (new:ObjOk X.prog X.w (upd H p o) h' p o):Inv X pins σ (upd H p o) { s with heap:=h',toks:=t' }:=by
 have hn:H p=none:=I.hok.fresh hp;have ne:∀ b u,H b=some u->b≠p:=fun b u e z=>by rw[z,hn]at e;cases e
 have nf:∀ b u,H b=some u->b∉fp:=fun b u e z=>by rw[(hf b z).1]at e;cases e
 have old:∀ b u,s.heap.get? b=some u->b≠p:=fun b u e=>Nat.ne_of_lt (Nat.lt_of_lt_of_le (Heap.lt_size e) hp)
 refine I.step (g':=s.gens) (d':=s.drawn) (ch:=fp) (fun b hb=>?_) (fun b u _ _ hc e _=>k b u hc e) (fun b u _ _ hc e _=>⟨u.slots,k b u hc e⟩) (fun b u _ e n=>by rw[aC (old b u e)];exact n)
  (fun b u hc e=>⟨u,k b u hc e⟩) (fun b xs e=>by rw[aC (ne _ _ e)];exact e) (fun b o' u e=>by rw[aC (ne _ _ e)];exact e) (fun b ps e=>⟨#[],by rw[aC (ne _ _ e),e];simp⟩) (fun m hm=>?_) (fun b u e=>?_) I.bare
 . obtain⟨_,f1,_,f3,f4,f5⟩:=hf b hb
   exact⟨f3,f1,f4,f5⟩
 . obtain⟨ob,es,ep,ho,r⟩:=hm
   exact⟨ob,es,ep,k _ ob (fun z=>(hf _ z).2.1 rfl) ho,r⟩
 . by_cases hb:b=p
   . subst hb
     rw[au]at e;cases e;exact new
   . rw[aC hb]at e
     refine(I.hok b u e).stay (fun c v hc q=>k c v ?_ q) (fun c q=>by rw[aC (ne _ _ q)];exact q) fun c xs q=>by rw[aC (ne _ _ q)];exact q
     rcases hc with z|z
     . rw[z];exact nf b u e
     . exact nf c _ z
def Ite(K:W.Frag)(a:Addr):It :=
 ⟨fun i H=>∃ xs x,SqL K H a xs/\xs[i]? = some x,fun i H x H'=>∃ p y,x = .ref p/\H p=none/\(∀ xs,SqL K H a xs->xs[i]? = some y)/\H'=upd H p (.tup [.int i,y]),fun i H=>∃ xs,SqL K H a xs/\xs.length<=i⟩
theorem Bl{P:Program}{w:World}{K:W.Frag}{elts:List Expr}{x1}{pos:Pos}(a e it:Addr)(hne:e≠it):Turn P w K (.Tuple elts x1 pos) (Ite K a) [e,it] e (fun i h=>(∃ old,IsEnum h e it (i:Nat) old)/\h.IsListIter it a i) where
 mem:=by simp
 obj := fun i h st b hb=>by
  obtain⟨⟨old,s1⟩,o,e1,c,d⟩:=st;rcases List.mem_cons.mp hb with rfl|hb
  . exact⟨_,s1,fun v z=>by
     have z':Data.fields _=Data.cell v:=z
     cases z'⟩
  . have q:b=it:=by simpa using hb
    subst q;exact⟨o,e1,fun v z=>by rw[d]at z;cases z⟩
 keep:=fun i h h' st k=>⟨⟨st.1.choose,k e (by simp) _ st.1.choose_spec⟩,st.2.at fun o q=>k it (by simp) o q⟩
 item := by
  intro X hP hw hK hc i pins s σ H E I hf st hg;subst hP hw hK;obtain⟨xs,x,hq,hx⟩:=hg;obtain⟨its,rv,p,hz⟩:=I.list hq;obtain⟨u,hu,ru⟩:=rv.get hx;obtain⟨⟨old,he⟩,hit⟩:=st;refine wpAny_pyNext_enum_item he hit p.isList (x:=u) (by simpa using hu) hne fun h' ho li tp sz kk=>?_
  refine⟨_,rfl,wpAny_letOwnedTupleGo_enum (s:={ s with heap:=h',toks:=s.toks+1 }) ho fun h2 he2 sb=>?_⟩
  have hlt:∀ b∈[e,it],b<s.heap.objs.size:=fun b hb=>by
   rcases List.mem_cons.mp hb with rfl|hb
   . exact Heap.lt_size he
   . have q:b=it:=by simpa using hb
     subst q;obtain⟨_,e1,_⟩:=hit;exact Heap.lt_size e1
  have ptn:∀ b∈[e,it],b≠s.heap.objs.size:=fun b hb=>Nat.ne_of_lt (hlt b hb)
  have tp2:h2.get? s.heap.objs.size=some { cls:=.type "tuple",data:=.seq #[.int i s.toks,u] }:=(sb.2 _ (Ne.symm (ptn e (by simp)))).trans tp
  have I2:Inv X pins σ (upd H s.heap.objs.size (.tup [.int i,x])) { s with heap:=h2,toks:=s.toks+1 }:=by
   refine I.turns (fp:=[e,it]) hf (fun b v hb q=>?_) (qnr _) ⟨(by show 2<=sizeLine;decide),[.int i s.toks,u],.cons ⟨_,rfl⟩ (.cons ru .nil),⟨_,tp2,rfl,_,rfl⟩⟩;have b1:b≠e:=fun z=>hb (by simp[z])
   have b2:b≠it:=fun z=>hb (by simp[z])
   exact(sb.2 b b1).trans (kk b v b1 b2 q)
  refine⟨.ref s.heap.objs.size,_,I2,rfl,⟨_,x,rfl,I.hok.fresh (qnr _),(fun ys hy=>by rw[I.list_inj hy hq];exact hx),rfl⟩,⟨⟨u,?_⟩,?_⟩,fun b hb=>?_⟩
  . have q:((i+1:Nat):Int)=(i:Int)+1:=by omega
    rw[q];exact he2
  . exact li.at fun o q=>(sb.2 it (Ne.symm hne)).trans q
  . rw[aC (ptn b hb)];exact(hf b hb).1
 done:=by
  intro X hP hw hK hc i pins s σ H E I hf st hg;subst hP hw hK;obtain⟨xs,hq,hx⟩:=hg;obtain⟨its,rv,p,hz⟩:=I.list hq;obtain⟨⟨old,he⟩,hit⟩:=st;obtain⟨f0,f1,f2,f3,f4,f5⟩:=hf it (by simp);have hl:=rv.length;exact wpAny_pyNext_enum_end (I.ok.hd hc) he hit p.isList (by simp;omega) fun h' eb=>⟨rfl,I.turned (t':=s.toks) (fun b o hb q=>eb b o hb q) f0 f1 f3 f4 f5⟩
 self:=fun _ _ _ _ _ st h=>wpAny_pyIter_enum st.1.choose_spec h
def Hs(K:W.Frag)(tl:TE):TI:=fun σ H R=>tl σ H fun x H1=>∃ a,x = .ref a/\(∃ xs,SqL K H1 a xs)/\R (Ite K a) H1
theorem IV {X:Cx} {elts:List Expr} {x1} {pt p cpos:Pos} {l:Expr} {tl:TE} (hl:PE X l tl) (hg:Gl X "enumerate") (hm:X.mg "enumerate"=none)
  (he:starEach [l] X.env=(false,eval l X.env):: starEach [] X.env:=by rfl) (hpl:(backTo cpos (starEach [] X.env)).any (·.1)=false:=by rfl):
  PI X (.Tuple elts x1 pt) (.Call (.Name "enumerate" p) [l] [] cpos) (Hs X.K tl):=by
 intro pins s σ H R I h;refine wpAny_Call_Name_kw (jr I hg hm Bt.enumerate ?_ (by decide) (by decide));have h':t7 tl pA σ H (fun vs H1=>match vs with | [x]=>∃ a,x = .ref a/\(∃ xs,SqL X.K H1 a xs)/\R (Ite X.K a) H1|_=>False):=h;refine PyProof.Rows.callWith_type1 (thn ((aa hl aj he) cpos pins s σ H _ I h') fun us s1 ⟨vs,H1,I1,r1,q1⟩=>?_) he hpl
 obtain⟨x,rfl⟩:∃ x,vs=[x]:=by
  match vs,q1 with
  |[x],_=>exact⟨x,rfl⟩
 obtain⟨a,rfl,⟨xs,hq⟩,q⟩:=q1;obtain⟨u,rfl,ru⟩:=vals1 r1;cases ru;obtain⟨its,rv,p,hz⟩:=I1.list hq;refine call_enumerate_list p.isList fun h' he' li sz kk=>?_
 refine wpAny_pyIter_enum he' ?_;refine⟨s1.heap.objs.size+1,[s1.heap.objs.size+1,s1.heap.objs.size],_,_,H1,rfl,I1.kept (t':=s1.toks) kk,Bl a (s1.heap.objs.size+1) s1.heap.objs.size (Nat.succ_ne_self _),⟨⟨_,he'⟩,li⟩,fun b hb=>?_,q⟩;rcases List.mem_cons.mp hb with rfl|hb
 . exact I1.fpOk (by omega) (I1.hok.fresh (by omega))
 . have e:b=s1.heap.objs.size:=by simpa using hb
   subst e;exact I1.fpOk (qnr _) (I1.hok.fresh (qnr _))
end L2
namespace L2
open PySem PySem.Spec PyProof.Rows
def Its(x:Str):It:=⟨fun i _=>i<x.cps.size,fun i H v H'=>H'=H/\∃ c,x.cps[i]? = some c/\v = .str ⟨#[c]⟩,fun i _=>i=x.cps.size⟩
theorem uQ{P:Program}{w:World}{K:W.Frag}{tg:Expr}(x:Str)(t:Tok)(it:Addr)(T:String)(W:∀ A:Around,A.handled=none->Walks P w A it [it] [it] x.cps.size (SignAt x) (fun i h=>h.IsStrIter it T x t i))
  (sf:∀(A:Around)(i:Nat)(s:Shared)(Q:Value->Shared->Prop)(E:Value->Shared->Prop),s.heap.IsStrIter it T x t i->Q (.ref it) s->wpAny (model P w) A (pyIter (.ref it)) Q E s)
  (hT:["enumerate","zip","dict_itemiterator","dict_reverseitemiterator","odict_iterator","itertools.zip_longest","itertools.pairwise"].contains T=false):
  Turn P w K tg (Its x) [it] it (fun i h=>h.IsStrIter it T x t i) where
 mem:=by simp
 obj:=fun i h st b hb=>by
  have e:b=it:=by simpa using hb
  subst e;obtain⟨o,e,c,d⟩:=st;exact⟨o,e,fun v z=>by rw[d]at z;cases z⟩
 keep:=fun i h h' ⟨o,e,r⟩ k=>⟨o,k it (by simp) o e,r⟩
 item:=by
  intro X hP hw hK hc i pins s σ H E I hf st hg;subst hP hw hK;obtain⟨f0,f1,f2,f3,f4,f5⟩:=hf it (by simp);refine(W X.A (I.ok.hd hc)).item i s _ _ hg st fun v h' tk hv st' kk=>?_
  obtain⟨c,u,hcu,rfl⟩:=hv;have I1:Inv X pins σ H { s with heap:=h',toks:=tk }:=I.turned (fun b o hb e=>kk b o (by simpa using hb) e) f0 f1 f3 f4 f5;obtain⟨o,e,hc',d⟩:=id st';exact⟨_,rfl,t6 (s:={ s with heap:=h',toks:=tk }) e hc' d hT ⟨.str ⟨#[c]⟩,H,I1,⟨u,rfl⟩,⟨rfl,c,hcu,rfl⟩,st',fun b hb=>(hf b hb).1⟩⟩
 done:=by
  intro X hP hw hK hc i pins s σ H E I hf st hg;subst hP hw hK;obtain⟨f0,f1,f2,f3,f4,f5⟩:=hf it (by simp);have hg:i=x.cps.size:=hg;subst hg;exact(W X.A (I.ok.hd hc)).done s _ _ st fun h' tk kk=>⟨rfl,I.turned (fun b o hb e=>kk b o (by simpa using hb) e) f0 f1 f3 f4 f5⟩
 self:=fun A i s Q E st h=>sf A i s Q E st h
def Nk(tl:TE):TI:=fun σ H R=>tl σ H fun v H1=>∃ x,v = .str x/\R (Its x) H1
theorem uR{X:Cx}{tg l:Expr}{tl:TE}(hl:PE X l tl):PI X tg l (Nk tl):=by
 intro pins s σ H R I h;refine thn (hl pins s σ H _ I h) fun v s1 ⟨y,H1,I1,r1,q1⟩=>?_
 obtain⟨x,e,q⟩:=q1;subst e;obtain⟨t,rfl⟩:=r1
 have fp:∀ b∈[s1.heap.objs.size],iz X pins H1 b:=fun b hb=>by
  have e:b=s1.heap.objs.size:=by simpa using hb
  subst e;exact I1.fpOk (qnr _) (I1.hok.fresh (qnr _))
 cases ha:x.cps.all (· < 128)
 . refine wpAny_pyIter_wide ha ⟨s1.heap.objs.size,[s1.heap.objs.size],_,_,H1,rfl,I1.kept (t':=s1.toks) fun b o e=>Heap.get?_push_of_some _ e,uQ x t _ "str_iterator" (fun A hA=>Walks.strWide hA _ x t) (fun _ _ _ _ _ st h=>wpAny_pyIter_striter_wide st h) (by decide),⟨_,Heap.get?_push_size _ rfl,rfl,rfl⟩,fp,q⟩
 . refine wpAny_pyIter_ascii ha ⟨s1.heap.objs.size,[s1.heap.objs.size],_,_,H1,rfl,I1.kept (t':=s1.toks) fun b o e=>Heap.get?_push_of_some _ e,uQ x t _ "str_ascii_iterator" (fun A hA=>Walks.strAscii hA _ x t) (fun _ _ _ _ _ st h=>wpAny_pyIter_striter_ascii st h) (by decide),⟨_,Heap.get?_push_size _ rfl,rfl,rfl⟩,fp,q⟩
section
variable{K:W.Frag}{g:TG}{tb:TS}{D:Ends}{σ:St}{H:Hp}{ix:List (Option Nat)}{tt:TT}{te:TE}{Q:VK}
theorem uT{a:Addr}{xs:List V}(Pv:Nat->St->Hp->Prop)(h0:Pv 0 σ H)(hx:∀ i σ H,i<=xs.length->Pv i σ H->SqL K H a xs)
  (hs:∀ i x σ H,xs[i]? = some x->Pv i σ H->∀ p,H p=none->g (.ref p) σ (upd H p (.tup [.int i,x])) fun σ2 H2=>tb { D with nx:=Pv (i+1),ct:=Pv (i+1),bk:=D.nx } σ2 H2)
  (hd:∀ σ H,Pv xs.length σ H->D.nx σ H):∃ W:Nat->Nat->St->Hp->Prop,(∃ m,W 0 m σ H)/\∀ i m σ H,W i m σ H ->
   ((Ite K a).stop i H/\D.nx σ H)\/((Ite K a).go i H/\∃ N:St->Hp->Prop,(∀ σ' H',N σ' H'->∃ m',m'<m/\W (i+1) m' σ' H')/\∀ x H',(Ite K a).yld i H x H'->g x σ H' fun σ2 H2=>tb { D with nx:=N,ct:=N,bk:=D.nx } σ2 H2):=by
 refine⟨fun i m σ H=>m=xs.length - i/\i<=xs.length/\Pv i σ H,⟨xs.length,by simp,qnz _,h0⟩,?_⟩;rintro i m σ H ⟨rfl,hi,p⟩;have q:=hx i σ H hi p
 by_cases hlt:i<xs.length
 . refine .inr ⟨⟨xs,xs[i],q,by simp[hlt]⟩,Pv (i+1),fun σ' H' p'=>⟨xs.length - (i+1),by omega,rfl,hlt,p'⟩,fun x H' y=>?_⟩
   obtain⟨r,z,rfl,hn,hz,rfl⟩:=y;exact hs i z σ _ (hz xs q) p r hn
 . have e:i=xs.length:=by omega
   subst e;exact .inl ⟨⟨xs,q,qnr _⟩,hd σ H p⟩
theorem IW{x:Str}(Pv:Nat->St->Hp->Prop)(h0:Pv 0 σ H)
  (hs:∀ i c σ H,x.cps[i]? = some c->Pv i σ H->g (.str ⟨#[c]⟩) σ H fun σ2 H2=>tb { D with nx:=Pv (i+1),ct:=Pv (i+1),bk:=D.nx } σ2 H2)
  (hd:∀ σ H,Pv x.cps.size σ H->D.nx σ H):∃ W:Nat->Nat->St->Hp->Prop,(∃ m,W 0 m σ H)/\∀ i m σ H,W i m σ H ->
   ((Its x).stop i H/\D.nx σ H)\/((Its x).go i H/\∃ N:St->Hp->Prop,(∀ σ' H',N σ' H'->∃ m',m'<m/\W (i+1) m' σ' H')/\∀ v H',(Its x).yld i H v H'->g v σ H' fun σ2 H2=>tb { D with nx:=N,ct:=N,bk:=D.nx } σ2 H2):=by
 refine⟨fun i m σ H=>m=x.cps.size - i/\i<=x.cps.size/\Pv i σ H,⟨x.cps.size,by simp,qnz _,h0⟩,?_⟩;rintro i m σ H ⟨rfl,hi,p⟩
 by_cases hlt:i<x.cps.size
 . refine .inr ⟨hlt,Pv (i+1),fun σ' H' p'=>⟨x.cps.size - (i+1),by omega,rfl,hlt,p'⟩,fun v H' y=>?_⟩
   obtain⟨rfl,c,hc,rfl⟩:=y;exact hs i c σ _ hc p
 . have e:i=x.cps.size:=by omega
   subst e;exact .inl ⟨rfl,hd σ H p⟩
theorem Bm{a:Addr}{xs:List V}(Pv:Nat->List V->Hp->Prop)(h0:Pv 0 [] H)(hn:xs.length<=sizeLine)(hl:∀ i ys H,Pv i ys H->ys.length<=i)(hx:∀ i ys H,Pv i ys H->SqL K H a xs)
  (hs:∀ i x ys H,xs[i]? = some x->Pv i ys H->∀ p,H p=none->g (.ref p) (cG ix σ) (upd H p (.tup [.int i,x])) fun σ2 H2=>Ext (cG ix σ) σ2/\tt σ2 H2 fun ok H3=>if ok=true then te σ2 H3 fun y H4=>Pv (i+1) (ys++[y]) H4 else Pv (i+1) ys H3)
  (hd:∀ ys H,Pv xs.length ys H->∀ p,H p=none->Q (.ref p) (upd H p (.lst ys))):iY (Ite K a) ix g tt te σ H Q:=by
 refine⟨fun i m ys H=>m=xs.length - i/\i<=xs.length/\Pv i ys H,⟨xs.length,by simp,qnz _,h0⟩,?_⟩;rintro i m ys H ⟨rfl,hi,p⟩;have q:=hx i ys H p;refine⟨qnt (hl _ _ _ p) (qnt hi hn),?_⟩
 by_cases hlt:i<xs.length
 . refine .inr ⟨⟨xs,xs[i],q,by simp[hlt]⟩,Pv (i+1),fun ys' H' p'=>⟨xs.length - (i+1),by omega,rfl,hlt,p'⟩,fun x H' y=>?_⟩
   obtain⟨r,z,rfl,hn',hz,rfl⟩:=y;exact hs i z ys _ (hz xs q) p r hn'
 . have e:i=xs.length:=by omega
   subst e;exact .inl ⟨⟨xs,q,qnr _⟩,hd ys H p⟩
theorem Em{x:Str}(Pv:Nat->List V->Hp->Prop)(h0:Pv 0 [] H)(hn:x.cps.size<=sizeLine)(hl:∀ i ys H,Pv i ys H->ys.length<=i)
  (hs:∀ i c ys H,x.cps[i]? = some c->Pv i ys H->g (.str ⟨#[c]⟩) (cG ix σ) H fun σ2 H2=>Ext (cG ix σ) σ2/\tt σ2 H2 fun ok H3=>if ok=true then te σ2 H3 fun y H4=>Pv (i+1) (ys++[y]) H4 else Pv (i+1) ys H3)
  (hd:∀ ys H,Pv x.cps.size ys H->∀ p,H p=none->Q (.ref p) (upd H p (.lst ys))):iY (Its x) ix g tt te σ H Q:=by
 refine⟨fun i m ys H=>m=x.cps.size - i/\i<=x.cps.size/\Pv i ys H,⟨x.cps.size,by simp,qnz _,h0⟩,?_⟩;rintro i m ys H ⟨rfl,hi,p⟩;refine⟨qnt (hl _ _ _ p) (qnt hi hn),?_⟩
 by_cases hlt:i<x.cps.size
 . refine .inr ⟨hlt,Pv (i+1),fun ys' H' p'=>⟨x.cps.size - (i+1),by omega,rfl,hlt,p'⟩,fun v H' y=>?_⟩
   obtain⟨rfl,c,hc,rfl⟩:=y;exact hs i c ys _ hc p
 . have e:i=x.cps.size:=by omega
   subst e;exact .inl ⟨rfl,hd ys H p⟩
theorem m6{x:Str}(f:Nat->V)(hn:x.cps.size<=sizeLine)
  (hs:∀ c (R:VK),c∈x.cps.toList->R (f c) H->Ext (cG ix σ) ((cG ix σ).set 0 (some (.str ⟨#[c]⟩)))/\te ((cG ix σ).set 0 (some (.str ⟨#[c]⟩))) H R)
  (hd:∀ p,H p=none->Q (.ref p) (upd H p (.lst (x.cps.toList.map f)))):iY (Its x) ix (jN 0) ye te σ H Q:=by
 refine Em (x:=x) (fun i ys H'=>H'=H/\ys=(x.cps.toList.take i).map f) ⟨rfl,rfl⟩ hn (fun i ys H' ⟨_,e⟩=>by rw[e,qlm,List.length_take];omega) ?_ (fun ys H' ⟨e1,e2⟩ p hp=>by
  subst e1 e2;have e3:x.cps.toList.take x.cps.size=x.cps.toList:=List.take_of_length_le (by simp)
  rw[e3];exact hd p hp)
 rintro i c ys H' hi ⟨rfl,rfl⟩;have hi':x.cps.toList[i]? = some c:=by simpa using hi
 obtain⟨h1,h2⟩:=hs c (fun y H4=>H4=H'/\(x.cps.toList.take i).map f++[y]=(x.cps.toList.take (i+1)).map f) (qmg hi') ⟨rfl,by rw[qta,hi',List.map_append];rfl⟩;exact⟨h1,h2⟩
end
end L2
namespace L2
open PySem PySem.Spec PyProof.Rows
def Lz(te:TE):TE:=fun σ H Q=>te σ H fun v H1=>∃ x,v = .str x/\(reprText x).length <= sizeLine/\Q (.str (reprText x)) H1
section
variable{X:Cx}{e a b:Expr}{te ta tb:TE}{pos:Pos}
theorem qZ(he:PE X e te):PE X (.FormattedValue e 114 none pos) (Lz te):=by
 intro pins s σ H Q I h;refine wpAny_FormattedValue_repr (thn (he pins s σ H _ I h) fun v s1 ⟨y,H1,I1,r1,q1⟩=>?_);obtain⟨x,rfl,hx,q⟩:=q1;obtain⟨t,rfl⟩:=r1;refine wpAny_pyReprObj_gives (T := "str") (id := "str.__repr__") rfl PySem.F.slot_str_repr PySem.F.entry_str_repr (PySem.F.args_str_repr_1 _) (gives_str_repr x t) (hx:=hx) ?_;exact formatField_str (hsz:=hx) fun t' tk=>⟨.str _,H1,I1.tok _,⟨t',rfl⟩,q⟩
def Km(ta tb:TE):TE:=fun σ H Q=>ta σ H fun v H1=>∃ x,v = .str x/\x.length<=sizeLine/\tb σ H1 fun u H2=>∃ y,u = .str y/\(x++y).length <= sizeLine/\Q (.str (x++y)) H2
theorem empty_app(x:Str):Str.empty++x=x:=by
 show Str.mk (#[]++x.cps)=x;simp
theorem uU(ha:PE X a ta)(hb:PE X b tb):PE X (.JoinedStr [a,b] pos) (Km ta tb):=by
 intro pins s σ H Q I h;refine JoinedStr_many (joinParts_cons (thn (ha pins s σ H _ I h) fun v s1 ⟨z,H1,I1,r1,q1⟩=>?_));obtain⟨x,rfl,hx,q⟩:=q1;obtain⟨t,rfl⟩:=r1;show(Str.empty++x).length <= sizeLine/\_;rw[empty_app];refine⟨hx,joinParts_cons (thn (hb pins s1 σ H1 _ I1 q) fun v s2 ⟨z,H2,I2,r2,q2⟩=>?_)⟩;obtain⟨y,rfl,hy,q⟩:=q2;obtain⟨t',rfl⟩:=r2;exact⟨hy,joinParts_nil (hsz:=hy) ⟨.str _,H2,I2.tok _,⟨_,rfl⟩,q⟩⟩
end
theorem repr_fits{x:Str}(hx:∀ c∈x.cps.toList,c<16 ^ 8)(hl:x.length<=1000):(reprText x).length <= sizeLine:=by
 have:=PySem.StrLaws.reprText_len x hx;unfold sizeLine;omega
end L2
namespace L2
open PySem PySem.Spec PyProof.Rows
def MdK(P:Program)(w:World)(K:W.Frag)(a:Addr)(kvs:List (Key×V)):Prop :=
 (a == sysModules)=false/\∃ o es ep vs,K.lookup a=some o/\o.ExactDict/\o.data = .dict es ep/\KeysOf (bI P w) es/\Pairs (bI P w) es.toList vs/\(vs.map (·.1)).Nodup /\ KV kvs vs
def LC(a:Addr)(kvs:List (Key×V))(td ty:TE):TE:=fun σ H Q=>td σ H fun x H1=>ty σ H1 fun y H2=>∃ k v,x = .ref a/\y=kV k/\bR kvs k=some v/\Q v H2
def Ko(neg:Bool)(a:Addr)(kvs:List (Key×V))(ty td:TE):TE:=fun σ H Q=>ty σ H fun y H1=>td σ H1 fun x H2=>∃ k,x = .ref a/\y=kV k/\Q (.bl (if neg then !(bR kvs k).isSome else(bR kvs k).isSome)) H2
section
variable{X:Cx}{pins:List (Addr×Obj)}{σ:St}{H:Hp}{s:Shared}{a:Addr}{kvs:List (Key×V)}{o i:Expr}{td ty:TE}{pos:Pos}
theorem MdK.at(M:MdK X.prog X.w X.K a kvs)(I:Inv X pins σ H s):∃ vs,KV kvs vs/\s.heap.DictOf (bI X.prog X.w) a vs:=by
 obtain⟨_,o,es,ep,vs,h1,h2,h3,h4,h5,h6,h7⟩:=M;exact⟨vs,h7,o,es,ep,I.kIn a o h1,h2,h3,h4,h5,h6⟩
theorem iG(M:MdK X.prog X.w X.K a kvs)(hu:X.A.units+1<cLine)(ho:PE X o td)(hi:PE X i ty)(hs:Ef i):PE X (.Subscript o i pos) (LC a kvs td ty):=by
 intro pins s σ H Q I h;refine wM PySem.F.slot_dict_getitem.lookup hs (thn (ho pins s σ H _ I h) fun u s1 ⟨x,H1,I1,rx,q1⟩=>thn (hi pins s1 σ H1 _ I1 q1) fun iv s2 ⟨y,H2,I2,ry,k,v,ex,ey,l,q2⟩=>?_);subst ex ey;obtain rfl:u=Value.ref a:=rx;obtain⟨vs,rel,dd⟩:=M.at I2;obtain⟨w',hw,rw'⟩:=RelO.some_of (v:=v) (o:=valueAt vs k) (by rw[<- l];exact rel.val k);exact⟨dd.typeIs,wpAny_getItem_of (lL ry) dd.mapOf hw ⟨v,H2,I2.tok _,rw',q2⟩⟩
theorem Kp(M:MdK X.prog X.w X.K a kvs)(hi:PE X i ty)(ho:PE X o td):PC X .In i o (Ko false a kvs ty td):=by
 intro pins s σ H Q I h;refine thn (hi pins s σ H _ I h) fun iv s1 ⟨y,H1,I1,ry,q1⟩=>thn (ho pins s1 σ H1 _ I1 q1) fun u s2 ⟨x,H2,I2,rx,k,ex,ey,q2⟩=>?_
 subst ex ey;obtain rfl:u=Value.ref a:=rx;obtain⟨vs,rel,dd⟩:=M.at I2;refine wpAny_in_of (lL ry) M.1 dd.mapOf ?_;rw[<- (rel.val k).isSome_eq];exact⟨.bl _,H2,I2.tok _,rfl,q2⟩
theorem m7(M:MdK X.prog X.w X.K a kvs)(hi:PE X i ty)(ho:PE X o td):PC X .NotIn i o (Ko true a kvs ty td):=by
 intro pins s σ H Q I h;refine thn (hi pins s σ H _ I h) fun iv s1 ⟨y,H1,I1,ry,q1⟩=>thn (ho pins s1 σ H1 _ I1 q1) fun u s2 ⟨x,H2,I2,rx,k,ex,ey,q2⟩=>?_
 subst ex ey;obtain rfl:u=Value.ref a:=rx;obtain⟨vs,rel,dd⟩:=M.at I2;refine wpAny_notIn_of (lL ry) M.1 dd.mapOf ?_;rw[<- (rel.val k).isSome_eq];exact⟨.bl _,H2,I2.tok _,rfl,q2⟩
end
def MdE(w:World):List DictEntry->List (Key×V)->Prop
 |e::es,(.inr x,v):: r=>e.hash=hashStr w x/\(∃ t,e.key = .str x t)/\RelV v e.val/\MdE w es r
 |e::es,(.inl i,v):: r=>e.hash=hashInt i/\(∃ t,e.key = .int i t)/\RelV v e.val/\MdE w es r
 |[],[]=>True
 |_,_=>False
theorem MdE.out{P:Program}{w:World}:∀{es:List DictEntry}{kvs:List (Key×V)},MdE w es kvs->∃ vs,(∀ e∈es,∃ k,(bI P w).is k e.key=true/\e.hash=(bI P w).hash k)/\Pairs (bI P w) es vs/\vs.map (·.1)=kvs.map (·.1)/\KV kvs vs
 |[],[],_=>⟨[],(fun _ z=>nomatch z),.nil,rfl,.nil⟩
 | e::es,(.inr x,v):: r,⟨h1,⟨t,h2⟩,h3,h4⟩=>by
  obtain⟨vs,a1,a2,a3,a4⟩:=MdE.out (P:=P) h4;have q:(bI P w).is (.inr x) e.key=true:=by rw[h2];exact oO P w x t
  refine⟨(.inr x,e.val):: vs,fun e' he=>?_,.cons q rfl a2,by simp[a3],.cons ⟨rfl,h3⟩ a4⟩;rcases List.mem_cons.mp he with rfl|he
  . exact⟨.inr x,q,h1⟩
  . exact a1 e' he
 | e::es,(.inl i,v):: r,⟨h1,⟨t,h2⟩,h3,h4⟩=>by
  obtain⟨vs,a1,a2,a3,a4⟩:=MdE.out (P:=P) h4;have q:(bI P w).is (.inl i) e.key=true:=by rw[h2];exact oN P w i t
  refine⟨(.inl i,e.val):: vs,fun e' he=>?_,.cons q rfl a2,by simp[a3],.cons ⟨rfl,h3⟩ a4⟩;rcases List.mem_cons.mp he with rfl|he
  . exact⟨.inl i,q,h1⟩
  . exact a1 e' he
theorem mdk_of {P:Program} {w:World} {K:W.Frag} {a:Addr} {kvs:List (Key×V)} {es:Array DictEntry} {ep:Nat} (l:K.lookup a=some ⟨.type "dict",none,.dict es ep,#[]⟩) (m:MdE w es.toList kvs) (n:(kvs.map (·.1)).Nodup) (s:(a == sysModules)=false):MdK P w K a kvs:=by
 obtain⟨vs,a1,a2,a3,a4⟩:=m.out (P:=P);exact⟨s,_,es,ep,vs,l,⟨rfl,rfl,rfl⟩,rfl,fun e he=>a1 e (by simpa using he),a2,by rw[a3];exact n,a4⟩
end L2
namespace L2
open PySem PySem.Spec PyProof.Rows
section
variable{X:Cx}
theorem jQ:OpR X (compareOp .LtE) (fun x y H Q=>∃ i j,x = .str i/\y = .str j/\Q (.bl (!decide (j.cps.toList<i.cps.toList))) H):=by
 intro pins s σ H x y v u Q I rx ry h;obtain⟨i,j,rfl,rfl,q⟩:=h;obtain⟨t,rfl⟩:=rx;obtain⟨t',rfl⟩:=ry;refine PySem.P.le_str ⟨.bl _,H,I,rfl,?_⟩
 first|exact q|simpa using q
end
namespace Bt
end Bt
section
variable{X:Cx}{CX:CXT}{k:Nat}{f C:Addr}{fd:FuncData}{ps:List Str}{sp:Sp}{E:XK}{x m:Str}{p pos apos:Pos}{e o:Expr}{es:List Expr}{ta:TE}{t:TA}
theorem Kq{x:Str}(M:Mk X.K C f)(F:FnOk X.prog X.w X.K X.mg X.base CX k f fd ps sp)(hr:Room (k+1) X.A)(hm:X.mg x=some (.ref C))(hb:Binds X.K fd ps [])(hx:eY CX X E)
  (hg:X.env.scope.names.lookup x=some .globalImplicit:=by kernel_rfl) (hdb:(x == ("__debug__":Str))=false:=by kernel_rfl):PE X (.Call (.Name x p) [] [] pos) (t8 C sp [] E pA):=Ea M F hr hg hm hb .nil hx hdb
theorem Bo(F:FnOk X.prog X.w X.K X.mg X.base (CX1 X.prog X.w) k f fd ps sp)(hr:Room k X.A)(hm:X.mg x=some (.ref f))(hk:W.keepIn X.K (.ref f)=true)(hb:Binds X.K fd ps [])(ha:PA X.nox (e::es) t)
  (hg:X.env.scope.names.lookup x=some .globalImplicit:=by kernel_rfl) (hdb:(x == ("__debug__":Str))=false:=by kernel_rfl) (he:starEach (e::es) X.env=(false,eval e X.env):: starEach es X.env:=by rfl) (hpl:(backTo pos (starEach es X.env)).any (·.1)=false:=by rfl):
  PEX X (.Call (.Name x p) (e::es) [] pos) (Bh sp [] t):=Ek F hr hg hm hk hb .nil ha hdb he hpl
end
theorem walk_ofX{l:W.OpenLaw}{n k:Nat}{q:Program}{loose:List Str}{XP:(Str->Option Value)->Heap->Prop}{YP:World->Heap->Prop}{d:DefRec}{K:Params->W.Frag}{sp:W.Frag->Sp}{x:Str}
  (hn:l.most=some n) (hn2:n<=sizeLine) (hdf:d.params.defaults=[]) (hr:Room k callerA)
  (hY:∀(w:World)(h:Heap),YP w h->(K w.params).In h)
  (F:∀(w:World)(mg:Str->Option Value)(fa:Addr)(h:Heap),(K w.params).In h->h.Ns mainGlobals mg->mg d.name=some (.ref fa) ->
   ∃ fd:FuncData,(∀(s:Shared)(u:Value),BindsTo s fd ⟨[u],[]⟩ [(x,u)]) /\
    ∀ base:Heap,(K w.params).In base->base.Ns mainGlobals mg->FnOk l.prog w (K w.params) mg base (CX1 l.prog w) k fa fd [x] (sp (K w.params)))
  (hsp:∀(K:W.Frag)(H:Hp)(a:Addr)(ns:List Int),ns.length<=n->Only H->SqL K H a (ns.map V.int)->sp K [.ref a] H (fun v _=>v = .bl true) fun _ _ _=>False):
  W.WalkO q loose XP YP l.row.toRowW d [] (fun f vs=>PySem.call f vs):=
 Ip (K:=K) (CX:=fun w=>CX1 l.prog w) (sp:=fun w=>sp (K w.params)) hn hn2 hdf hr hY F (fun w H a ns h1 h2 h3=>hsp (K w.params) H a ns h1 h2 h3) fun _ _ _ _ _ ⟨_,_,_,_,_,z⟩=>z
end L2
namespace L2
open PySem PySem.Spec PyProof.Rows
def Kr(ta tb tc:TE):TE:=fun σ H Q=>ta σ H fun v H1=>∃ x,v = .str x/\x.length<=sizeLine/\tb σ H1 fun u H2=>∃ y,u = .str y/\(x++y).length <= sizeLine/\tc σ H2 fun r H3=>∃ z,r = .str z/\(x++y++z).length <= sizeLine/\Q (.str (x++y++z)) H3
section
variable{X:Cx}{e a b c:Expr}{te ta tb tc:TE}{pos:Pos}
theorem En(ha:PE X a ta)(hb:PE X b tb)(hc:PE X c tc):PE X (.JoinedStr [a,b,c] pos) (Kr ta tb tc):=by
 intro pins s σ H Q I h;refine JoinedStr_many (joinParts_cons (thn (ha pins s σ H _ I h) fun v s1 ⟨z,H1,I1,r1,q1⟩=>?_));obtain⟨x,rfl,hx,q⟩:=q1;obtain⟨t,rfl⟩:=r1;show(Str.empty++x).length <= sizeLine/\_;rw[empty_app];refine⟨hx,joinParts_cons (thn (hb pins s1 σ H1 _ I1 q) fun v s2 ⟨z,H2,I2,r2,q2⟩=>?_)⟩;obtain⟨y,rfl,hy,q⟩:=q2;obtain⟨t',rfl⟩:=r2;refine⟨hy,joinParts_cons (thn (hc pins s2 σ H2 _ I2 q) fun v s3 ⟨z,H3,I3,r3,q3⟩=>?_)⟩;obtain⟨z,rfl,hz,q⟩:=q3;obtain⟨t'',rfl⟩:=r3;exact⟨hz,joinParts_nil (hsz:=hz) ⟨.str _,H3,I3.tok _,⟨_,rfl⟩,q⟩⟩
end
end L2
namespace L2
open PySem PySem.Spec PyProof.Rows
section
variable{X:Cx}
def LK(K:W.Frag):List V->Hp->VK->Prop:=fun xs H Q=>∃(p:Addr)(ns:List Int),xs=[.ref p]/\SqL K H p (ns.map V.int)/\Q (.int ns.sum) H
theorem Bp(hc:X.calm=true):dC X (.builtin "sum") (LK X.K):=by
 intro pins s σ H xs us Q I r h;obtain⟨p,ns,rfl,hp,q⟩:=h;obtain⟨u,rfl,ru⟩:=vals1 r;cases ru;obtain⟨its,rv,pl,hz⟩:=I.list hp;have hi:=intsAre_of rv;have hh:X.A.handled=none:=I.ok.hd hc;obtain⟨xs,e⟩:=hi.allInts.items
 have hns:ns=xs.toList.map (·.1):=by
  rw[<- hi.numsOf,<- nums_intItems,<- e]
 have hlen:ns.length=xs.size:=by rw[hns,qlm,Array.length_toList]
 have hn:numAt xs=fun i=>ns.getD i 0:=by
  funext i;rw[hns];exact numAt_eq _ _
 have hl:=pl.isList;rw[e]at hl;refine sum_intListG hh hl fun h' tk t' hk=>?_
 rw[hn,oV ns xs.size (by omega),<- hlen,List.take_length];exact⟨.int _,H,I.kept (t':=tk) hk,⟨t',rfl⟩,q⟩
end
end L2
namespace PySem
open AutoSeq1 (wpAny_loadPart')
theorem Eo(c0:Addr)(its:Array Value)(n:Nat)(dct:Option Addr)(sl:Array (Option Value)):
  Meets (Builtin.«enumerate.__new__» ⟨[.type "enumerate",.ref c0],[]⟩) (fun _ R z=>z.heap.get? c0=some { cls:=.type "tuple",dict:=dct,data:=.seq its n,slots:=sl } /\
   R (.ok (.ret (.ref (z.heap.push { cls:=.type "tuple_iterator",data:=.fields #[.ref c0,.int 0 0] }).objs.size)))
    { z with heap:=(z.heap.push { cls:=.type "tuple_iterator",data:=.fields #[.ref c0,.int 0 0] }).push { cls:=.type "enumerate",data:=.fields #[.none,.bool false,.ref z.heap.objs.size,rawInt 0,.none,.none] } }):=
 .of_wp fun P w A R z h=>by
  obtain⟨hp,g,d,tk,os⟩:=z;obtain⟨q0,h⟩:=h;have hsub:=sub_enumerate;have qT:Heap.IsTuple (Shared.heap ⟨hp,g,d,tk,os⟩) c0 its:=⟨_,q0,rfl,n,rfl⟩
  wp_walk using wpAny_loadPart' q0
  refine wpAny_stack_any fun st=>wpAny_pure ?_
  split
  . rename_i c _ _ _ _ _
    cases(c == Value.type "enumerate")
    . wp_walk using wpAny_loadPart' q0,wpAny_pyIter_tuple qT
      exact⟨_,rfl,h⟩
    . wp_walk using wpAny_loadPart' q0,wpAny_pyIter_tuple qT
      exact⟨_,rfl,h⟩
  . wp_walk using wpAny_loadPart' q0,wpAny_pyIter_tuple qT
    exact⟨_,rfl,h⟩
section
variable{P:Program}{w:World}{A:Around}{E:Value->Shared->Prop}{z:Shared}
theorem Bq{c0:Addr}{its:Array Value}{Q:Value->Shared->Prop}(hL:z.heap.IsTuple c0 its)
  (h:∀ h',IsEnum h' (z.heap.objs.size+1) z.heap.objs.size 0 .none -> h'.IsTupleIter z.heap.objs.size c0 0->h'.objs.size=z.heap.objs.size+2 ->
   (∀ b o,z.heap.get? b=some o->h'.get? b=some o)->Q (.ref (z.heap.objs.size+1)) { z with heap:=h' }):
  wpAny (model P w) A (call (.type "enumerate") [.ref c0]) Q E z:=by
 obtain⟨⟨c,dct,dt,sl⟩,hl,hc,n,hd⟩:=hL;obtain rfl:c = .type "tuple":=hc;obtain rfl:dt = .seq its n:=hd;refine callType_new F.called_enumerate (by decide) (F.typeCall_enumerate_1 _) (F.newCall_enumerate_1 _) (fun obj=>F.args_object_init_2 obj _) F.entry_enumerate_new (Eo c0 its n dct sl) ⟨hl,?_⟩;have hz:(z.heap.push { cls:=.type "tuple_iterator",data:=.fields #[.ref c0,.int 0 0] }).objs.size=z.heap.objs.size+1:=Heap.size_push ..;show _/\_;rw[hz]
 have he:IsEnum ((z.heap.push { cls:=.type "tuple_iterator",data:=.fields #[.ref c0,.int 0 0] }).push
   { cls:=.type "enumerate",data:=.fields #[.none,.bool false,.ref z.heap.objs.size,rawInt 0,.none,.none] }) (z.heap.objs.size+1) z.heap.objs.size 0 .none:=by
  have:=Heap.get?_push_size (z.heap.push { cls:=.type "tuple_iterator",data:=.fields #[.ref c0,.int 0 0] })
   (o:={ cls:=.type "enumerate",data:=.fields #[.none,.bool false,.ref z.heap.objs.size,rawInt 0,.none,.none] }) rfl
  rw[hz]at this;exact this
 exact⟨⟨_,he,rfl⟩,h _ he ⟨_,Heap.get?_push_of_some _ (Heap.get?_push_size _ rfl),rfl,rfl⟩ (by rw[Heap.size_push,hz]) fun b o y=>Heap.get?_push_of_some _ (Heap.get?_push_of_some _ y)⟩
theorem yj{it c0:Addr}{i:Nat}{its:Array Value}{x:Value}{Q:Value->Shared->Prop}(hit:z.heap.IsTupleIter it c0 i)(ht:z.heap.IsTuple c0 its)(hx:its[i]? = some x)
  (hQ:∀ h',h'.IsTupleIter it c0 (i+1)->Heap.SameBut it z.heap h'->Q x { z with heap:=h' }):wpAny (model P w) A (Builtin.SmallTypes.nextOf (.ref it)) Q E z:=by
 obtain⟨o,q1,hc,hd⟩:=id hit;obtain⟨ol,q2,_,nl,q3⟩:=ht;unfold Builtin.SmallTypes.nextOf;refine wpAny_bind (wpAny_callSpecial?_slot (name:=Str.ofString "__next__") hit.typeIs F.slot_tuple_iterator_next (wpAny_call_entry F.slot_tuple_iterator_next hit.typeIs F.entry_tuple_iterator_next ?_ (F.args_tuple_iterator_next_1 _)));show wpAny _ _ (field (.ref it) 0 >>= _) _ _ z;refine wpAny_bind (wpAny_field q1 hd (x:=.ref c0) rfl ?_);show wpAny _ _ (if (Value.ref c0 == Value.none)=true then _ else _) _ _ z;rw[qnZ (show ¬ ((Value.ref c0 == Value.none)=true)from qbf)];show wpAny _ _ (field (.ref it) 1 >>= _) _ _ z;refine wpAny_bind (wpAny_field q1 hd (x:=.int i 0) rfl ?_);show wpAny _ _ (seqItems? (.ref c0) >>= _) _ _ z;refine wpAny_bind (wpAny_seqItems q2 q3 ?_);simp only[Int.toNat_natCast,hx];refine wpAny_bind (wpAny_setField q1 hd (by simp) (wpAny_pure ⟨x,rfl,wpAny_pure (hQ _ ?_ (Heap.SameBut.update ..))⟩));exact⟨_,Heap.get?_update_self _ q1 (Obj.isFreed_of_fields (Obj.data_mapFields hd _)),(Obj.cls_mapFields ..).trans hc,by rw[Obj.data_mapFields hd];simp[rawInt]⟩
theorem sG{it c0:Addr}{i:Nat}{its:Array Value}{Q:Value->Shared->Prop}(hh:A.handled=none)(hit:z.heap.IsTupleIter it c0 i)(ht:z.heap.IsTuple c0 its)(hx:its[i]? = none)
  (hE:∀ h' e,Heap.ExtBut it z.heap h'->(∃ o,h'.get? e=some o/\o.cls = .type "StopIteration")->E (.ref e) { z with heap:=h' }):wpAny (model P w) A (Builtin.SmallTypes.nextOf (.ref it)) Q E z:=by
 obtain⟨o,q1,hc,hd⟩:=id hit;obtain⟨ol,q2,_,nl,q3⟩:=ht;unfold Builtin.SmallTypes.nextOf;refine wpAny_bind (wpAny_callSpecial?_slot (name:=Str.ofString "__next__") hit.typeIs F.slot_tuple_iterator_next (wpAny_call_entry F.slot_tuple_iterator_next hit.typeIs F.entry_tuple_iterator_next ?_ (F.args_tuple_iterator_next_1 _)));show wpAny _ _ (field (.ref it) 0 >>= _) _ _ z;refine wpAny_bind (wpAny_field q1 hd (x:=.ref c0) rfl ?_);show wpAny _ _ (if (Value.ref c0 == Value.none)=true then _ else _) _ _ z;rw[qnZ (show ¬ ((Value.ref c0 == Value.none)=true)from qbf)];show wpAny _ _ (field (.ref it) 1 >>= _) _ _ z;refine wpAny_bind (wpAny_field q1 hd (x:=.int i 0) rfl ?_);show wpAny _ _ (seqItems? (.ref c0) >>= _) _ _ z;refine wpAny_bind (wpAny_seqItems q2 q3 ?_);simp only[Int.toNat_natCast,hx];refine wpAny_bind (wpAny_rule (wpAny_bind (wpAny_setField q1 hd (by simp) ?_)));show wpAny _ _ (newExc (.type "StopIteration") [] >>= _) _ _ _;refine wpAny_bind ?_;simp only[newExc,newTuple];refine wpAny_bind (wpAny_newObj_type ?_ (by size_fits));refine wpAny_bind (m:=firstArgMember _ _) (wpAny_of_eq (a:=Value.none) (by first|rfl | (simp only[firstArgMember];rfl)) ?_);refine wpAny_newObj_type ?_ (by size_fits);simp only[raiseNew];refine wpAny_bind (wpAny_handled ?_)
 first|rw[show A.in1.handled=none from hh] | rw[hh]
 refine wpAny_bind (wpAny_pure (wpAny_throw ?_));exact hE _ _ (((Heap.SameBut.update ..).extBut.push _).push _) ⟨_,Heap.get?_push_size _ rfl,rfl⟩
end
theorem Heap.IsTuple.on{h h':Heap}{c0:Addr}{its:Array Value}(y:h.IsTuple c0 its)(k:∀ o,h.get? c0=some o->h'.get? c0=some o):h'.IsTuple c0 its:=let ⟨o,e,r⟩:=y;⟨o,k o e,r⟩
theorem Heap.IsTupleIter.on{h h':Heap}{it c0:Addr}{i:Nat}(y:h.IsTupleIter it c0 i)(k:∀ o,h.get? it=some o->h'.get? it=some o):h'.IsTupleIter it c0 i:=let ⟨o,e,r⟩:=y;⟨o,k o e,r⟩
theorem Br{P:Program}{w:World}{A:Around}(hh:A.handled=none)(it c0:Addr)(hne:c0≠it)(its:Array Value):
  Draws P w A it [it,c0] its.size (fun i v=>its[i]? = some v) (fun i h=>h.IsTupleIter it c0 i/\h.IsTuple c0 its) where
 live:=fun _ _ st=>by obtain⟨o,e,_⟩:=st.1;exact⟨o,e⟩
 frame:=fun _ _ _ st hk=>⟨st.1.on fun o e=>hk it (by simp) o e,st.2.on fun o e=>hk c0 (by simp) o e⟩
 item:=fun i z Q E hi st hQ=>yj st.1 st.2 (x:=its[i]) (by simp[hi]) fun h' hit' hs'=>hQ _ h' z.toks (by simp[hi]) ⟨hit',st.2.extBut hs'.extBut hne⟩ hs'
 done:=fun z Q E st hE=>sG hh st.1 st.2 (by simp) hE
end PySem
namespace L2
open PySem PySem.Spec PyProof.Rows
def pH(K:W.Frag)(a:Addr):It :=
 ⟨fun i H=>∃ xs x,SqT K H a xs/\xs[i]? = some x,fun i H x H'=>∃ p y,x = .ref p/\H p=none/\(∀ xs,SqT K H a xs->xs[i]? = some y)/\H'=upd H p (.tup [.int i,y]),fun i H=>∃ xs,SqT K H a xs/\xs.length<=i⟩
theorem yl{P:Program}{w:World}{K:W.Frag}{elts:List Expr}{x1}{pos:Pos}(a e it:Addr)(hne:e≠it)(hea:e≠a)(hia:a≠it):
  Turn P w K (.Tuple elts x1 pos) (pH K a) [e,it] e (fun i h=>(∃ old,IsEnum h e it (i:Nat) old)/\h.IsTupleIter it a i) where
 mem:=by simp
 obj := fun i h st b hb=>by
  obtain⟨⟨old,s1⟩,o,e1,c,d⟩:=st;rcases List.mem_cons.mp hb with rfl|hb
  . exact⟨_,s1,fun v z=>by
     have z':Data.fields _=Data.cell v:=z
     cases z'⟩
  . have q:b=it:=by simpa using hb
    subst q;exact⟨o,e1,fun v z=>by rw[d]at z;cases z⟩
 keep:=fun i h h' st k=>⟨⟨st.1.choose,k e (by simp) _ st.1.choose_spec⟩,st.2.on fun o q=>k it (by simp) o q⟩
 item := by
  intro X hP hw hK hc i pins s σ H E I hf st hg;subst hP hw hK;obtain⟨xs,x,hq,hx⟩:=hg;obtain⟨its,rv,p,hz⟩:=I.tuple hq;obtain⟨u,hu,ru⟩:=rv.get hx;obtain⟨⟨old,he⟩,hit⟩:=st;have D:=Br (P:=X.prog) (w:=X.w) (A:=X.A.in1) (I.ok.hd hc) it a hia its.toArray
  have hlt:i<its.toArray.size:=by
   have:=(List.getElem?_eq_some_iff.mp hu).1
   simpa using this
  refine wpAny_pyNext_enum_itemD D he ⟨hit,(show s.heap.IsTuple a its.toArray from p)⟩ hlt hne (by simp[hne,hea]) fun x' h' tk hP ho stn tp sz kk=>?_
  obtain rfl:x'=u:=by
   have h1:its.toArray[i]? = some u:=by simpa using hu
   rw[hP]at h1;exact qsi h1
  refine⟨_,rfl,wpAny_letOwnedTupleGo_enum (s:={ s with heap:=h',toks:=tk+1 }) ho fun h2 he2 sb=>?_⟩
  have hlt:∀ b∈[e,it],b<s.heap.objs.size:=fun b hb=>by
   rcases List.mem_cons.mp hb with rfl|hb
   . exact Heap.lt_size he
   . have q:b=it:=by simpa using hb
     subst q;obtain⟨_,e1,_⟩:=hit;exact Heap.lt_size e1
  have ptn:∀ b∈[e,it],b≠s.heap.objs.size:=fun b hb=>Nat.ne_of_lt (hlt b hb)
  have tp2:h2.get? s.heap.objs.size=some { cls:=.type "tuple",data:=.seq #[.int i tk,x'] }:=(sb.2 _ (Ne.symm (ptn e (by simp)))).trans tp
  have I2:Inv X pins σ (upd H s.heap.objs.size (.tup [.int i,x])) { s with heap:=h2,toks:=tk+1 }:=by
   refine I.turns (fp:=[e,it]) hf (fun b v hb q=>?_) (qnr _) ⟨(by show 2<=sizeLine;decide),[.int i tk,x'],.cons ⟨_,rfl⟩ (.cons ru .nil),⟨_,tp2,rfl,_,rfl⟩⟩;have b1:b≠e:=fun z=>hb (by simp[z])
   have b2:b≠it:=fun z=>hb (by simp[z])
   exact(sb.2 b b1).trans (kk b v b1 b2 q)
  refine⟨.ref s.heap.objs.size,_,I2,rfl,⟨_,x,rfl,I.hok.fresh (qnr _),(fun ys hy=>by rw[I.tuple_inj hy hq];exact hx),rfl⟩,⟨⟨x',?_⟩,?_⟩,fun b hb=>?_⟩
  . have q:((i+1:Nat):Int)=(i:Int)+1:=by omega
    rw[q];exact he2
  . exact stn.1.on fun o q=>(sb.2 it (Ne.symm hne)).trans q
  . rw[aC (ptn b hb)];exact(hf b hb).1
 done:=by
  intro X hP hw hK hc i pins s σ H E I hf st hg;subst hP hw hK;obtain⟨xs,hq,hx⟩:=hg;obtain⟨its,rv,p,hz⟩:=I.tuple hq;obtain⟨⟨old,he⟩,hit⟩:=st;obtain⟨f0,f1,f2,f3,f4,f5⟩:=hf it (by simp);have hl:=rv.length;have D:=Br (P:=X.prog) (w:=X.w) (A:=X.A.in1) (I.ok.hd hc) it a hia its.toArray;have hT:s.TypeIs (.ref e) "enumerate":=⟨_,he,rfl⟩
  unfold pyNext;refine wpAny_bind (wpAny_attempt (wpAny_callSpecial?_slot (name:=Str.ofString "__next__") hT F.slot_enumerate_next (wpAny_call_entry F.slot_enumerate_next hT F.entry_enumerate_next ?_ (F.args_enumerate_next_1 _))));show wpAny _ _ (field (.ref e) 2 >>= _) _ _ _;refine wpAny_bind (wpAny_field he rfl (x:=.ref it) rfl ?_);refine wpAny_bind (sG (I.ok.hd hc) hit (show s.heap.IsTuple a its.toArray from p) (by simp;omega) fun h' y eb hx'=>?_);obtain⟨o,q1,q2⟩:=hx';refine wpAny_bind (wpAny_isInstance (T := "StopIteration") (b:=true) ⟨o,q1,q2⟩ isSubtype_stop ?_);exact wpAny_pure ⟨rfl,I.turned (t':=s.toks) (fun b o hb q=>eb b o hb q) f0 f1 f3 f4 f5⟩
 self:=fun _ _ _ _ _ st h=>wpAny_pyIter_enum st.1.choose_spec h
def Bs(K:W.Frag)(tl:TE):TI:=fun σ H R=>tl σ H fun x H1=>∃ a,x = .ref a/\(∃ xs,SqT K H1 a xs)/\R (pH K a) H1
theorem Ep {X:Cx} {elts:List Expr} {x1} {pt p cpos:Pos} {l:Expr} {tl:TE} (hl:PE X l tl) (hg:Gl X "enumerate") (hm:X.mg "enumerate"=none)
  (he:starEach [l] X.env=(false,eval l X.env):: starEach [] X.env:=by rfl) (hpl:(backTo cpos (starEach [] X.env)).any (·.1)=false:=by rfl):
  PI X (.Tuple elts x1 pt) (.Call (.Name "enumerate" p) [l] [] cpos) (Bs X.K tl):=by
 intro pins s σ H R I h;refine wpAny_Call_Name_kw (jr I hg hm Bt.enumerate ?_ (by decide) (by decide));have h':t7 tl pA σ H (fun vs H1=>match vs with | [x]=>∃ a,x = .ref a/\(∃ xs,SqT X.K H1 a xs)/\R (pH X.K a) H1|_=>False):=h;refine PyProof.Rows.callWith_type1 (thn ((aa hl aj he) cpos pins s σ H _ I h') fun us s1 ⟨vs,H1,I1,r1,q1⟩=>?_) he hpl
 obtain⟨x,rfl⟩:∃ x,vs=[x]:=by
  match vs,q1 with
  |[x],_=>exact⟨x,rfl⟩
 obtain⟨a,rfl,⟨xs,hq⟩,q⟩:=q1;obtain⟨u,rfl,ru⟩:=vals1 r1;cases ru;obtain⟨its,rv,p,hz⟩:=I1.tuple hq;have pT:s1.heap.IsTuple a its.toArray:=p
 have hlt:a<s1.heap.objs.size:=by
  obtain⟨_,e1,_⟩:=pT;exact Heap.lt_size e1
 refine Bq pT fun h' he' li sz kk=>?_
 refine wpAny_pyIter_enum he' ?_;refine⟨s1.heap.objs.size+1,[s1.heap.objs.size+1,s1.heap.objs.size],_,_,H1,rfl,I1.kept (t':=s1.toks) kk,yl a (s1.heap.objs.size+1) s1.heap.objs.size (Nat.succ_ne_self _) (Nat.ne_of_gt (Nat.lt_succ_of_lt hlt)) (Nat.ne_of_lt hlt),⟨⟨_,he'⟩,li⟩,fun b hb=>?_,q⟩;rcases List.mem_cons.mp hb with rfl|hb
 . exact I1.fpOk (by omega) (I1.hok.fresh (by omega))
 . have e:b=s1.heap.objs.size:=by simpa using hb
   subst e;exact I1.fpOk (qnr _) (I1.hok.fresh (qnr _))
section
variable{X:Cx}{elts:List Expr}{x1:Nat}{pt p cpos:Pos}{l:Expr}{tl:TE}
theorem ym (hl:PE X l tl) (hm:X.mg "enumerate"=none) (hg:X.env.scope.names.lookup ("enumerate":Str)=some .globalImplicit:=by kernel_rfl)
  (he:starEach [l] X.env=(false,eval l X.env):: starEach [] X.env:=by rfl) (hpl:(backTo cpos (starEach [] X.env)).any (·.1)=false:=by rfl):
  PI X (.Tuple elts x1 pt) (.Call (.Name "enumerate" p) [l] [] cpos) (Hs X.K tl):=IV hl hg hm he hpl
theorem m8 (hl:PE X l tl) (hm:X.mg "enumerate"=none) (hg:X.env.scope.names.lookup ("enumerate":Str)=some .globalImplicit:=by kernel_rfl)
  (he:starEach [l] X.env=(false,eval l X.env):: starEach [] X.env:=by rfl) (hpl:(backTo cpos (starEach [] X.env)).any (·.1)=false:=by rfl):
  PI X (.Tuple elts x1 pt) (.Call (.Name "enumerate" p) [l] [] cpos) (Bs X.K tl):=Ep hl hg hm he hpl
end
section
variable{K:W.Frag}{g:TG}{tb:TS}{D:Ends}{σ:St}{H:Hp}{ix:List (Option Nat)}{tt:TT}{te:TE}{Q:VK}
theorem Bu{a:Addr}{xs:List V}(Pv:Nat->St->Hp->Prop)(h0:Pv 0 σ H)(hx:∀ i σ H,i<=xs.length->Pv i σ H->SqT K H a xs)
  (hs:∀ i x σ H,xs[i]? = some x->Pv i σ H->∀ p,H p=none->g (.ref p) σ (upd H p (.tup [.int i,x])) fun σ2 H2=>tb { D with nx:=Pv (i+1),ct:=Pv (i+1),bk:=D.nx } σ2 H2)
  (hd:∀ σ H,Pv xs.length σ H->D.nx σ H):∃ W:Nat->Nat->St->Hp->Prop,(∃ m,W 0 m σ H)/\∀ i m σ H,W i m σ H ->
   ((pH K a).stop i H/\D.nx σ H)\/((pH K a).go i H/\∃ N:St->Hp->Prop,(∀ σ' H',N σ' H'->∃ m',m'<m/\W (i+1) m' σ' H')/\∀ x H',(pH K a).yld i H x H'->g x σ H' fun σ2 H2=>tb { D with nx:=N,ct:=N,bk:=D.nx } σ2 H2):=by
 refine⟨fun i m σ H=>m=xs.length - i/\i<=xs.length/\Pv i σ H,⟨xs.length,by simp,qnz _,h0⟩,?_⟩;rintro i m σ H ⟨rfl,hi,p⟩;have q:=hx i σ H hi p
 by_cases hlt:i<xs.length
 . refine .inr ⟨⟨xs,xs[i],q,by simp[hlt]⟩,Pv (i+1),fun σ' H' p'=>⟨xs.length - (i+1),by omega,rfl,hlt,p'⟩,fun x H' y=>?_⟩
   obtain⟨r,z,rfl,hn,hz,rfl⟩:=y;exact hs i z σ _ (hz xs q) p r hn
 . have e:i=xs.length:=by omega
   subst e;exact .inl ⟨⟨xs,q,qnr _⟩,hd σ H p⟩
theorem ji{a:Addr}{xs:List V}(Pv:Nat->List V->Hp->Prop)(h0:Pv 0 [] H)(hn:xs.length<=sizeLine)(hl:∀ i ys H,Pv i ys H->ys.length<=i)(hx:∀ i ys H,Pv i ys H->SqT K H a xs)
  (hs:∀ i x ys H,xs[i]? = some x->Pv i ys H->∀ p,H p=none->g (.ref p) (cG ix σ) (upd H p (.tup [.int i,x])) fun σ2 H2=>Ext (cG ix σ) σ2/\tt σ2 H2 fun ok H3=>if ok=true then te σ2 H3 fun y H4=>Pv (i+1) (ys++[y]) H4 else Pv (i+1) ys H3)
  (hd:∀ ys H,Pv xs.length ys H->∀ p,H p=none->Q (.ref p) (upd H p (.lst ys))):iY (pH K a) ix g tt te σ H Q:=by
 refine⟨fun i m ys H=>m=xs.length - i/\i<=xs.length/\Pv i ys H,⟨xs.length,by simp,qnz _,h0⟩,?_⟩;rintro i m ys H ⟨rfl,hi,p⟩;have q:=hx i ys H p;refine⟨qnt (hl _ _ _ p) (qnt hi hn),?_⟩
 by_cases hlt:i<xs.length
 . refine .inr ⟨⟨xs,xs[i],q,by simp[hlt]⟩,Pv (i+1),fun ys' H' p'=>⟨xs.length - (i+1),by omega,rfl,hlt,p'⟩,fun x H' y=>?_⟩
   obtain⟨r,z,rfl,hn',hz,rfl⟩:=y;exact hs i z ys _ (hz xs q) p r hn'
 . have e:i=xs.length:=by omega
   subst e;exact .inl ⟨⟨xs,q,qnr _⟩,hd ys H p⟩
end
end L2
namespace HT
open PySem PySem.Spec PyProof.Rows
section
variable{P:Program}{w:World}{A:Around}{E:Value->Shared->Prop}{z:Shared}
end
end HT
namespace L2
open PySem PySem.Spec PyProof.Rows
section
variable{X:Cx}
def Ht(n:Nat)(lo hi:Option Int):Prop:=HT.sIx n 0 lo=0/\HT.sIx n n hi=n
instance (n:Nat) (lo hi:Option Int):Decidable (Ht n lo hi):=by unfold Ht;infer_instance
def Nm(r:V->List V->Hp->VK->Prop)(to:TE)(t:TA):TE:=fun σ H Q=>to σ H fun x H1=>∃ p ys,x = .ref p/\H1 p=some (.tup ys)/\t σ H1 fun xs H2=>r x xs H2 Q
variable{o e:Expr}{es:List Expr}{to:TE}{t:TA}{name:Str}{apos cpos:Pos}{id:String}{r:V->List V->Hp->VK->Prop}
theorem Ks (slot:Slot "tuple" name id) (hty:typeOf (.builtin id)=pure (.type "method_descriptor")) (hm:MtR X id r) (ho:PE X o to) (ha:PA X (e::es) t) (hbase:attributeBase o name X.env (eval o X.env)=eval o X.env:=by rfl)
  (hfew:((backTo cpos (starEach (e::es) X.env)).all (fun x=>!x.1) && (backToKw cpos (keywordEach [] X.env)).all (fun x=>x.1.isSome) && decide ((e::es).length+([]:List Keyword).length+(if ([]:List Keyword).isEmpty then 0 else 1)<30))=true:=by rfl)
  (hline:(apos.endLine == cpos.line)=true:=by rfl) (hs:starEach (e::es) X.env=(false,eval e X.env):: starEach es X.env:=by rfl) (hplain:(backTo cpos (starEach es X.env)).any (·.1)=false:=by rfl):
  PE X (.Call (.Attribute o name apos) (e::es) [] cpos) (Nm r to t):=by
 intro pins s σ H Q I h;refine wpAny_Call_method_late hbase hfew hline rfl (thn (ho pins s σ H _ I h) fun v s1 ⟨x,H1,I1,r1,p,ys,ex,hp,q1⟩=>?_);subst ex;have ev:v=Value.ref p:=r1;subst ev;obtain⟨_,its,_,ob,e1,c1,n,d1⟩:=(show ObjOk X.prog X.w H1 s1.heap p (.tup ys)from I1.hok p _ hp)
 refine⟨"tuple",id,PySem.F.plainAttrs_tuple,slot,hty,⟨ob,e1,c1⟩,fun a ea=>?_,?_⟩
 . cases ea
   exact⟨ob,e1,congrArg Prod.snd d1⟩
 have hA:=ha cpos pins s1 σ H1 _ I1 q1;rw[hs]at hA ⊢;refine Calls.callWith_builtin (by show(false || (backTo cpos (starEach es X.env)).any (·.1))=false;rw[hplain] <;> rfl) (Calls.evalArgs_plain ?_);exact thn hA fun us s2 ⟨vs,H2,I2,r2,q2⟩=>hm pins s2 σ H2 _ vs _ us Q I2 r1 r2 q2
end
end L2
namespace PySem
section
variable{P0:Program}{w:World}{A:Around}{R:Result->Shared->Prop}{I:Addr}{fp wr:List Addr}{n:Nat}{P:Nat->Value->Prop}{St:Nat->Heap->Prop}
theorem Bv(W:Walks P0 w A.in1 I fp wr n P St)(bt:Nat->Nat->Bool)(hcmp:CmpOf P0 w A.in1 .Lt P bt)(S:Addr)(hSf:S∉fp)(d:Value):
  ∀(k j:Nat) (z:Shared) (vb:Value) (c:Nat),n - (j+1)=k->j+1<=n->St (j+1) z.heap->P (argBest bt j) vb->z.heap.get? S=some { cls:=.type "list",dict:=none,data:=.seq #[vb,vb] c,slots:=#[] } ->
  (∀ v h' tk,P (argBest bt (n - 1)) v->(∀ b o,b∉wr->b≠S->z.heap.get? b=some o->h'.get? b=some o)->R (.ok (.ret v)) { z with heap:=h',toks:=tk }) ->
  codeAny (model P0 w) A (.builtin "min.loop" ⟨[.ref I,.none,.ref S],[("default",d)]⟩) R z:=by
 have hSw:S∉wr:=fun y=>hSf (W.sub _ y)
 have q0:(toString "min"++toString ".loop" : String)="min.loop":=by decide
 intro k
 induction k with
 | zero =>
  intro j z vb c hk hj hst hPb hS hR;have hin:j+1=n:=by omega
  refine codeAny_builtin F.entry_min_loop ?_;rw[Around.under_plainId F.plain_min_loop _];show wpAny _ A.in1 (seqItems? (.ref S) >>= _) _ _ z;refine wpAny_bind (wpAny_seqItems hS rfl ?_);show wpAny _ A.in1 (tryCatch (pyNext (.ref I)) _ >>= _) _ _ z;refine wpAny_bind (wpAny_tryCatch (W.done z _ _ (hin ▸ hst) fun h' tk hk'=>?_));have q1:=hk' S _ hSw hS;show wpAny _ A.in1 (updateSeq S (fun _=>#[]) >>= _) _ _ _;refine wpAny_bind ?_;refine wpAny_updateSeq q1 rfl (wpAny_bind (wpAny_letGo (wpAny_pure ?_)));exact hR vb _ tk (by rw[<- hin];exact hPb) fun b o hbw hbS e=>(Heap.get?_update_other _ _ (Ne.symm hbS)).trans (hk' b o hbw e)
 | succ k ih =>
  intro j z vb c hk hj hst hPb hS hR;have hlt:j+1<n:=by omega
  refine codeAny_builtin F.entry_min_loop ?_;rw[Around.under_plainId F.plain_min_loop _];show wpAny _ A.in1 (seqItems? (.ref S) >>= _) _ _ z;refine wpAny_bind (wpAny_seqItems hS rfl ?_);show wpAny _ A.in1 (tryCatch (pyNext (.ref I)) _ >>= _) _ _ z;refine wpAny_bind (wpAny_tryCatch (W.item (j+1) z _ _ hlt hst fun v h' tk hP hst' hk'=>?_));have q1:=hk' S _ hSw hS;show wpAny _ A.in1 (tryCatch (holding [v,v] (richCompare .Lt v vb >>= _)) _ >>= _) _ _ _;refine wpAny_bind (wpAny_tryCatch (wpAny_holding (wpAny_bind (hcmp (j+1) (argBest bt j) v vb _ _ _ hP hPb ?_))));refine wpAny_bind (wpAny_holding (wpAny_truthy_bool ?_));refine wpAny_bind (wpAny_letGo (wpAny_pure ?_));cases hb:bt (j+1) (argBest bt j)with
  | true =>
   simp only[if_true];refine wpAny_bind ?_;refine wpAny_updateSeq q1 rfl (wpAny_bind (wpAny_letGo ?_));rw[q0];refine wpAny_pure ⟨plainId_quiet F.plain_min_loop _,ih (j+1) _ v _ (by omega) hlt (W.frame _ _ _ hst' fun b hbf o e=>?_) (by simp only[argBest,hb,if_true];exact hP) (Heap.get?_update_self _ q1 rfl) fun v' h'' tk'' hP' hk''=>?_⟩
   . exact(Heap.get?_update_other _ _ (fun y:S=b=>hSf (by rw[y];exact hbf))).trans e
   . exact hR v' h'' tk'' hP' fun b o hbw hbS e=>hk'' b o hbw hbS ((Heap.get?_update_other _ _ (Ne.symm hbS)).trans (hk' b o hbw e))
  | false =>
   simp only[Bool.false_eq_true,if_false];refine wpAny_bind (wpAny_letGo ?_);rw[q0];refine wpAny_pure ⟨plainId_quiet F.plain_min_loop _,ih (j+1) _ vb c (by omega) hlt hst' (by simp only[argBest,hb,Bool.false_eq_true,if_false];exact hPb) q1 fun v' h'' tk'' hP' hk''=>?_⟩;exact hR v' h'' tk'' hP' fun b o hbw hbS e=>hk'' b o hbw hbS (hk' b o hbw e)
theorem yo(W:Walks P0 w A.in1 I fp wr n P St)(bt:Nat->Nat->Bool)(hcmp:CmpOf P0 w A.in1 .Lt P bt)(S:Addr)(hSf:S∉fp)(d:Value){z:Shared}{c:Nat}(hst:St 0 z.heap)
  (hS:z.heap.get? S=some { cls:=.type "list",dict:=none,data:=.seq #[] c,slots:=#[] })
  (hR:0<n->∀ v h' tk,P (argBest bt (n - 1)) v->(∀ b o,b∉wr->b≠S->z.heap.get? b=some o->h'.get? b=some o)->R (.ok (.ret v)) { z with heap:=h',toks:=tk })
  (hE:n=0->∀ h' tk,(∀ b o,b∉wr->b≠S->z.heap.get? b=some o->h'.get? b=some o)->R (.ok (.ret d)) { z with heap:=h',toks:=tk }):
  codeAny (model P0 w) A (.builtin "min.loop" ⟨[.ref I,.none,.ref S],[("default",d)]⟩) R z:=by
 have hSw:S∉wr:=fun y=>hSf (W.sub _ y)
 have q0:(toString "min"++toString ".loop" : String)="min.loop":=by decide
 refine codeAny_builtin F.entry_min_loop ?_;rw[Around.under_plainId F.plain_min_loop _];show wpAny _ A.in1 (seqItems? (.ref S) >>= _) _ _ z;refine wpAny_bind (wpAny_seqItems hS rfl ?_);show wpAny _ A.in1 (tryCatch (pyNext (.ref I)) _ >>= _) _ _ z
 by_cases hn:n=0
 . refine wpAny_bind (wpAny_tryCatch (W.done z _ _ (hn ▸ hst) fun h' tk hk'=>?_))
   show wpAny _ A.in1 (rule _ >>= _) _ _ _;refine wpAny_bind (wpAny_rule (wpAny_pure ?_));exact hE hn h' tk fun b o hbw _ e=>hk' b o hbw e
 . have hn:0<n:=by omega
   refine wpAny_bind (wpAny_tryCatch (W.item 0 z _ _ hn hst fun v h' tk hP hst' hk'=>?_));have q1:=hk' S _ hSw hS;show wpAny _ A.in1 (updateSeq S (fun _=>#[v,v]) >>= _) _ _ _;refine wpAny_bind ?_;refine wpAny_updateSeq q1 rfl ?_;rw[q0];refine wpAny_pure ⟨plainId_quiet F.plain_min_loop _,Bv W bt hcmp S hSf d _ 0 _ v _ rfl hn (W.frame _ _ _ hst' fun b hbf o e=>?_) hP (Heap.get?_update_self _ q1 rfl) fun v' h'' tk'' hP' hk''=>?_⟩
   . exact(Heap.get?_update_other _ _ (fun y:S=b=>hSf (by rw[y];exact hbf))).trans e
   . exact hR hn v' h'' tk'' hP' fun b o hbw hbS e=>hk'' b o hbw hbS ((Heap.get?_update_other _ _ (Ne.symm hbS)).trans (hk' b o hbw e))
end
theorem Bw(a v:Value):argsOk "min" ⟨[a],[(Str.ofString "default",v)]⟩:=by unfold argsOk;kernel_rfl
section
variable{P0:Program}{w:World}{A:Around}{E:Value->Shared->Prop}{z:Shared}{l:Addr}{xs:Array (Int×Tok)}
theorem Bx{Q:Value->Shared->Prop}{d:Value}(hh:A.handled=none)(hl:z.heap.IsList l (intItems xs))
  (h1:0<xs.size->∀ v h' tk,(intItems xs)[argBest (fun i j=>decide (numAt xs i<numAt xs j)) (xs.size - 1)]? = some v->(∀ b o,z.heap.get? b=some o->h'.get? b=some o)->Q v { z with heap:=h',toks:=tk })
  (h0:xs.size=0->∀ h' tk,(∀ b o,z.heap.get? b=some o->h'.get? b=some o)->Q d { z with heap:=h',toks:=tk }):
  wpAny (model P0 w) A (call (.builtin "min") [.ref l] [(Str.ofString "default",d)]) Q E z:=by
 have q0:(toString "min"++toString ".loop" : String)="min.loop":=by decide
 refine PyProof.Rows.kmk_tree F.kind_min F.plain_min F.entry_min (Bw _ _) ?_;show wpAny _ A.in1 (Builtin.Builtins.bindParams "min" ["key","default"] 0 ⟨[],[(Str.ofString "default",d)]⟩ >>= _) _ _ z;refine wpAny_bind (wpAny_of_eq (show Builtin.Builtins.bindParams "min" ["key","default"] 0 ⟨[],[(Str.ofString "default",d)]⟩=pure [none,some d]from rfl) ?_);refine wpAny_bind (wpAny_pure ?_);refine wpAny_bind (iter_intList hl fun s₂ e st hfp hlI=>?_);subst e;refine wpAny_bind (wpAny_newObj_type ?_);have hsz:(intItems xs).size=xs.size:=by simp[intItems]
 have W:=Walks.list (prog:=P0) (w:=w) (A:=A.in1) hh z.heap.objs.size l hlI (intItems xs);have hSf:(z.heap.push { cls:=.type "list_iterator",data:=.fields #[.ref l,.int 0 0] }).objs.size∉[z.heap.objs.size,l]:=fun hm=>Nat.lt_irrefl _ (hfp _ hm)
 rw[q0];refine wpAny_pure ⟨plainId_quiet F.plain_min_loop _,yo W _ (CmpOf.ints_lt (numAt xs) (fun _ _=>intItems_at)) _ hSf d (W.frame _ _ _ st fun b _ o e=>Heap.get?_push_of_some _ e) (Heap.get?_push_size _ rfl) (fun hn v h' tk hP hk=>?_) (fun hn h' tk hk=>?_)⟩
 . refine h1 (by rw[<- hsz];exact hn) v h' tk (by rw[<- hsz];exact hP) (old_kept fun b o hbw e=>hk b o hbw (Nat.ne_of_lt (Heap.lt_size e)) (Heap.get?_push_of_some _ e))
 . exact h0 (by rw[<- hsz];exact hn) h' tk (old_kept fun b o hbw e=>hk b o hbw (Nat.ne_of_lt (Heap.lt_size e)) (Heap.get?_push_of_some _ e))
end
end PySem
namespace L2
open PySem PySem.Spec PyProof.Rows
def LQ(K:W.Frag)(tl:TE):TE:=fun σ H Q=>tl σ H fun x H1=>∃(p:Addr)(ns:List Int),x = .ref p/\SqL K H1 p (ns.map V.int)/\(ns=[]->Q .non H1)/\∀ M,M∈ns->(∀ a∈ns,M<=a)->Q (.int M) H1
theorem Ja {X:Cx} {p cpos kp dp:Pos} {j:Nat} {l:Expr} {tl:TE} (hc:X.calm=true) (hl:PE X l tl) (hm:X.mg "min"=none) (hg:X.env.scope.names.lookup ("min":Str)=some .globalImplicit:=by kernel_rfl)
  (he:starEach [l] X.env=(false,eval l X.env):: starEach [] X.env:=by rfl):
  PE X (.Call (.Name "min" p) [l] [⟨some "default",.Constant .none j dp,kp⟩] cpos) (LQ X.K tl):=by
 intro pins s σ H Q I h;refine wpAny_Call_Name_kw (jr I hg hm Bt.min ?_ (by decide) (by decide));refine callWith_kw ?_ (by rw[he];rfl) (by rw[he];rfl) rfl rfl;have h':t7 tl pA σ H (fun vs H1=>match vs with | [x]=>∃(p:Addr)(ns:List Int),x = .ref p/\SqL X.K H1 p (ns.map V.int)/\(ns=[]->Q .non H1)/\∀ M,M∈ns->(∀ a∈ns,M<=a)->Q (.int M) H1|_=>False):=h;refine thn ((aa hl aj he) cpos pins s σ H _ I h') fun us s1 ⟨vs,H1,I1,r1,q1⟩=>?_
 obtain⟨x,rfl⟩:∃ x,vs=[x]:=by
  match vs,q1 with
  |[x],_=>exact⟨x,rfl⟩
 obtain⟨a,ns,rfl,hp,q0,q⟩:=q1;obtain⟨u,rfl,ru⟩:=vals1 r1;cases ru;refine kws_cons (thn (bH pins s1 σ H1 (fun x H2=>x = .non /\ H2=H1) I1 ⟨rfl,rfl⟩) fun dv s2 ⟨x,H2,I2,r2,ex,eH⟩=>kws_nil ?_);subst ex eH;cases r2;have I1:=I2;obtain⟨its,rv,pl,hz⟩:=I1.list hp;have hi:=intsAre_of rv;have hh:X.A.handled=none:=I1.ok.hd hc;obtain⟨xs,e⟩:=hi.allInts.items
 have hns:ns=xs.toList.map (·.1):=by
  rw[<- hi.numsOf,<- nums_intItems,<- e]
 have hlen:ns.length=xs.size:=by rw[hns,qlm,Array.length_toList]
 have hl:=pl.isList;rw[e]at hl;refine Bx hh hl (fun hn v h' tk hv hk=>?_) (fun hn h' tk hk=>?_)
 . obtain⟨t,rfl⟩:=intItems_at hv
   obtain⟨h1,h2⟩:=argBest_lt (numAt xs) (xs.size - 1);refine⟨.int _,_,I1.kept (t':=tk) hk,⟨t,rfl⟩,q _ ?_ fun b hb=>?_⟩
   . rw[hns,numAt_eq];exact getD_mem (by rw[qlm,Array.length_toList];omega)
   . rw[hns]at hb
     obtain⟨m,hm,rfl⟩:=mem_getD hb;rw[qlm,Array.length_toList]at hm;rw[<- numAt_eq];exact h2 m (by omega)
 . exact⟨.non,_,I1.kept (t':=tk) hk,rfl,q0 (List.eq_nil_of_length_eq_zero (by omega))⟩
theorem yp{X:Cx}:OpR X (binaryOp .Mult) (fun x y H Q=>∃ z n,x = .str z/\y = .int n/\z.length<=1000/\-1000<=n/\n<=1000/\Q (.str (Txt.mul z n)) H):=by
 intro pins s σ H x y v u Q I rx ry h;obtain⟨z,n,rfl,rfl,hz,h1,h2,q⟩:=h;obtain⟨t,rfl⟩:=rx;obtain⟨t',rfl⟩:=ry;exact SB.mul (mulOk_of 1000 1000 hz h2 (by omega) (by decide) (by decide)) fun t' k=>⟨.str _,H,I.tok _,⟨t',rfl⟩,q⟩
theorem bits_fit{a n:Int}(ha:a.natAbs<2 ^ 1024)(hn:n<=1000000):(Builtin.Int.intBits a:Int)+n<=2 ^ 27:=by
 have h:Builtin.Int.intBits a<=1024:=intBits_le ha;omega
def rm(i j:Int):Prop:=0<=j/\j<=1000000/\i.natAbs<2 ^ 1024
theorem iH{X:Cx}:OpR X (binaryOp .LShift) (rI rm fun i j=>.int (i * 2 ^ j.toNat)):=opI fun _ _ _ _ _ _ _ hc q=>lshift_int hc.1 (bits_fit hc.2.2 hc.2.1) q
end L2
namespace L2
open PySem
variable{X:Cx}
end L2
namespace L2
open PySem PyProof.Rows
variable{X:Cx}
end L2
namespace PySem
open Sem (wp)
open Builtin
open AutoSeq1 (wpAny_loadPart')
theorem tW(l:Addr)(its:List Value)(n:Nat)(dd:Option Addr)(sl:Array (Option Value))(k:Int)(u:Tok)(h1:2<=k)(h2:k<2 ^ 63)(hne:its.toArray.isEmpty=false)(hz:its.toArray.size * k.toNat<=sizeLine):
  Meets (Builtin.«tuple.__mul__» ⟨[.ref l,.int k u],[]⟩) (fun _ R s=>s.heap.get? l=some { cls:=.type "tuple",dict:=dd,data:=.seq its.toArray n,slots:=sl }/\R (.ok (.ret (Value.ref s.heap.objs.size))) { s with heap:=s.heap.push { cls:=Value.type "tuple",data:=Data.seq (List.replicate k.toNat its).flatten.toArray },toks:=s.toks }):=
 .of_wp fun prog w A R s h=>by
  obtain⟨hp,g,d,tk,os⟩:=s;obtain⟨hl,h⟩:=h;have c1:(k < -(2 ^ 63) || k ≥ 2 ^ 63)=false:=by simp;omega
  have c2:(its.toArray.isEmpty || k == 1)=false:=by rw[hne];simp;omega
  have c3:(k<=0 || its.toArray.isEmpty)=false:=by rw[hne];simp;omega
  have hzi:((its.toArray.size:Int) * k)=((its.toArray.size * k.toNat:Nat):Int):=by
   have e:k=((k.toNat:Nat):Int):=by omega
   conv=>lhs;rw[e]
   rw[<- Int.natCast_mul]
  have hsl:(sizeLine:Nat)<=(2 ^ 63 - 1) / 8:=by decide
  have e63:((2:Int) ^ 63 - 1) / 8=(((2 ^ 63 - 1) / 8:Nat):Int):=by decide
  have c4:decide ((its.toArray.size:Int) * k > (2 ^ 63 - 1) / 8)=false:=qdf (by rw[hzi,e63];omega)
  wp_walk using wpAny_loadPart' hl
  refine wpAny_ite_false (by rw[c1];rfl) ?_
  wp_walk using wpAny_loadPart' hl
  refine wpAny_ite_false (by rw[c2];rfl) ?_
  wp_walk using wpAny_loadPart' hl
  refine wpAny_ite_false (by rw[c3];rfl) ?_
  wp_walk using wpAny_loadPart' hl
  refine wpAny_ite_false c4 ?_
  wp_walk using wpAny_loadPart' hl
  have c5:Tuple.tupleTooMany ((its.toArray.size:Int) * k)=false:=by
   unfold Tuple.tupleTooMany;rw[hzi];exact qdf (by omega)
  refine wpAny_ite_false (by rw[c5];rfl) ?_
  wp_walk using wpAny_loadPart' hl
  have f0:List.foldl (fun x1 x2=>x1++x2) #[] (List.replicate k.toNat its.toArray)=(List.replicate k.toNat its).flatten.toArray:=by
   have:=L2.foldl_rep its k.toNat [];rw[List.nil_append]at this;exact this
  rw[f0];refine wpAny_ite_false (qdf (by rw[List.size_toArray,L2.len_rep,Nat.mul_comm];rw[List.size_toArray]at hz;omega)) ?_
  wp_walk using wpAny_loadPart' hl
  exact⟨_,rfl,h⟩
theorem pI:fillsNumberSlot (.type "tuple") "mul"=pure false :=
 fillsNumberSlot_seq (id := "tuple.__mul__") (r:=some (.builtin "tuple.__rmul__")) F.slot_tuple_mul.lookup (by decide +kernel) F.slot_tuple_rmul.lookup (by decide +kernel)
theorem uV:seqRepeat? (.type "tuple")=pure (some (.builtin "tuple.__mul__")):=by
 unfold seqRepeat?;rw[seqSlot_of (T := "tuple") (name := "__mul__") (id := "tuple.__mul__") F.slot_tuple_mul.lookup (by decide +kernel),seqSlot_of (T := "tuple") (name := "__rmul__") (id := "tuple.__rmul__") F.slot_tuple_rmul.lookup (by decide +kernel)]
 rfl
theorem rn(a:Int)(t:Tok)(l:Addr)(items:Array Value)(n:Nat)(dd:Option Addr)(sl:Array (Option Value)):
  Meets (Builtin.«int.__rmul__» ⟨[.int a t,.ref l],[]⟩) (fun _ R s=>s.heap.get? l=some { cls:=.type "tuple",dict:=dd,data:=.seq items n,slots:=sl }/\R (.ok (.ret Value.notImplemented)) s):=
 .of_wp fun prog w A R s h=>by obtain⟨hp,g,d,tk,os⟩:=s;obtain⟨hl,h⟩:=h;wp_walk;exact⟨_,rfl,h⟩
end PySem
namespace L2
open PySem PyProof.Rows
variable{X:Cx}
inductive rRepT(K:W.Frag)(x:V)(y:V)(H:Hp)(Q:VK):Prop
 |mk (a:Addr) (k:Int) (xs:List V) (_:x = .ref a) (_:y = .int k) (_:SqT K H a xs) (_:xs≠[]) (_:2<=k) (_:k<2 ^ 63) (_:xs.length * k.toNat<=sizeLine) (_:∀ p,H p=none->Q (.ref p) (upd H p (.tup (List.replicate k.toNat xs).flatten)))
theorem Jb:OpR X (binaryOp .Mult) (rRepT X.K):=by
 intro pins s σ H x y v u Q I rx ry h;obtain⟨a,k,xs,rfl,rfl,ha,hne,h1,h2,hz,q⟩:=h;cases rx;obtain⟨t,rfl⟩:=ry;obtain⟨its,r,p1,hl⟩:=I.tuple ha;have hlen:its.length=xs.length:=r.length.symm;have hi:its≠[]:=fun z=>hne (r.nil_iff.mp z)
 obtain⟨⟨cls,dd,data,sl⟩,ho,hc,n,hd⟩:=id p1;simp only at hc hd;subst hc hd;have hz':its.toArray.size * k.toNat<=sizeLine:=by rw[List.size_toArray,hlen];exact hz
 refine wpAny_binaryOp_repeat_ref (T := "tuple") (U := "int") (by decide) ⟨_,ho,rfl⟩ (fun s'=>typeIs_int s' k t) pI F.fills_int_mul F.slot_int_rmul uV F.slot_int_index.lookup
  (call_meets F.slot_int_rmul (typeIs_int s k t) F.entry_int_rmul (F.args_int_rmul_2 _ _) (rn k t a its.toArray n dd sl)
   ⟨ho,rfl,⟨_,ho,rfl⟩,call_meets F.slot_tuple_mul ⟨_,ho,rfl⟩ F.entry_tuple_mul (F.args_tuple_mul_2 _ _) (tW a its n dd sl k t h1 h2 (by cases its with
    |nil=>exact absurd rfl hi
    |cons x r=>rfl) hz') ⟨ho,?_⟩⟩)
 refine⟨.ref s.heap.objs.size,_,I.laid (t':=s.toks) (o:=.tup (List.replicate k.toNat xs).flatten) (fun b ob q=>Heap.get?_push_of_some _ q) (qnr _) ?_,rfl,q _ (I.hok.fresh (qnr _))⟩;exact⟨by rw[len_rep,Nat.mul_comm];exact hz,_,r.rep k.toNat,IsTupP.new _ _⟩
end L2
namespace L2
open PySem PyProof.Rows
variable{X:Cx}
end L2
namespace PySem
open AutoSeq1 (wpAny_loadPart')
section
variable{P:Program}{w:World}{A:Around}{E:Value->Shared->Prop}{z:Shared}
end
end PySem
namespace L2
open PySem PySem.Spec PyProof.Rows
section
variable{K:W.Frag}{g:TG}{σ:St}{H:Hp}{ix:List (Option Nat)}{tt:TT}{te:TE}{Q:VK}
end
theorem all_strs(ns ms:List Str):((List.range (min ns.length ms.length)).all (fun j=>ns.getD j ⟨#[]⟩ == ms.getD j ⟨#[]⟩) && ns.length == ms.length)=decide (ns=ms):=by
 by_cases h:ns=ms
 . subst h
   rw[qdt rfl];simp
 . rw[qdf h]
   cases hl:(ns.length == ms.length)with
   |false=>simp
   | true =>
    have hl:ns.length=ms.length:=by simpa using hl
    rw[Bool.and_true];refine Bool.eq_false_iff.mpr fun z=>h (List.ext_getElem hl fun j h1 h2=>?_)
    have:=List.all_eq_true.mp z j (List.mem_range.mpr (by omega));have this:ns.getD j ⟨#[]⟩=ms.getD j ⟨#[]⟩:=by simpa using this
    rw[List.getD,List.getD,List.getElem?_eq_getElem h1,List.getElem?_eq_getElem h2]at this;exact this
theorem wY{us:List Value}{ns:List Str}(r:Vals (ns.map V.str) us):us.length=ns.length/\∀(j:Nat)(h:j<us.length),∃ t,us[j] = .str (ns.getD j ⟨#[]⟩) t:=by
 have hl:us.length=ns.length:=by
  have:=r.length;rw[qlm]at this;exact this.symm
 refine⟨hl,fun j h=>?_⟩;have hj:j<ns.length:=by omega
 obtain⟨u,hu,ru⟩:=r.get (i:=j) (x:=V.str ns[j]) (by rw[qgm,List.getElem?_eq_getElem hj];rfl);obtain⟨t,rfl⟩:=ru;refine⟨t,?_⟩;rw[List.getElem?_eq_getElem h]at hu;rw[qsi hu,List.getD,List.getElem?_eq_getElem hj]
 rfl
inductive rNeTN(K:W.Frag)(x:V)(y:V)(H:Hp)(Q:VK):Prop
 |mk (a b:Addr) (ns ms:List Str) (_:x = .ref a) (_:y = .ref b) (_:SqT K H a (ns.map V.str)) (_:SqT K H b (ms.map V.str)) (_:Q (.bl (!decide (ns=ms))) H)
theorem Jc{X:Cx}(hu:X.A.units<cLine):OpR X (compareOp .NotEq) (rNeTN X.K):=by
 intro pins s σ H x y v u Q I rx ry h;obtain⟨a,b,ns,ms,rfl,rfl,ha,hb,q⟩:=h;cases rx;cases ry;obtain⟨its,r1,p1,_⟩:=I.tuple ha;obtain⟨its2,r2,p2,_⟩:=I.tuple hb;obtain⟨l1,i1⟩:=wY r1;obtain⟨l2,i2⟩:=wY r2;refine SeqAt.RcNeAt.tuples (e:=fun j=>ns.getD j ⟨#[]⟩ == ms.getD j ⟨#[]⟩) p1 p2 hu (fun j h1 h2=>?_) _ _ _ _ ?_
 . obtain⟨t1,e1⟩:=i1 j (by simpa using h1)
   obtain⟨t2,e2⟩:=i2 j (by simpa using h2);have e1':its.toArray[j] = .str (ns.getD j ⟨#[]⟩) t1:=by simpa using e1
   have e2':its2.toArray[j] = .str (ms.getD j ⟨#[]⟩) t2:=by simpa using e2
   rw[e1',e2'];exact SeqAt.EqAt.str_str _ _ _ _
 . rw[show its.toArray.size=ns.length by simpa using l1,show its2.toArray.size=ms.length by simpa using l2,all_strs]
   exact⟨.bl (!decide (ns=ms)),H,I,rfl,q⟩
end L2
namespace L2
open PySem PyProof.Rows
variable{X:Cx}
end L2
namespace L2
open PySem PyProof.Rows
variable{X:Cx}
end L2
namespace L2
open PySem PySem.Spec PyProof.Rows
variable{X:Cx}
end L2
namespace L2
open PySem PySem.Spec PyProof.Rows
inductive rEqNil(K:W.Frag)(f:Bool->Bool)(x:V)(y:V)(H:Hp)(Q:VK):Prop
 |mk (a b:Addr) (xs:List V) (_:x = .ref a) (_:y = .ref b) (_:SqL K H a xs) (_:SqL K H b []) (_:Q (.bl (f xs.isEmpty)) H)
theorem pJ{X:Cx}(hu:X.A.units<cLine):OpR X (compareOp .Eq) (rEqNil X.K id):=by
 intro pins s σ H x y v u Q I rx ry h;obtain⟨a,b,xs,rfl,rfl,ha,hb,q⟩:=h;cases rx;cases ry;obtain⟨its,r1,p1,_⟩:=I.list ha;obtain⟨its2,r2,p2,_⟩:=I.list hb;cases r2;cases r1 with
 | nil =>
  refine SeqAt.eq_listAt (e:=fun _=>true) p1.isList p2.isList rfl hu (fun j h1 _=>absurd h1 (Nat.not_lt_zero j)) ?_;exact⟨.bl true,H,I,rfl,q⟩
 |cons r t=>exact SeqAt.eq_list_lengthsAt p1.isList p2.isList (by simp) hu ⟨.bl false,H,I,rfl,q⟩
end L2
namespace L2
open PySem PyProof.Rows
variable{X:Cx}
end L2
namespace L2
open PySem PyProof.Rows
variable{X:Cx}
end L2
namespace L2
open PySem PySem.Spec PyProof.Rows
section
variable{X:Cx}{pins:List (Addr×Obj)}{σ:St}{H:Hp}{s:Shared}{a:Addr}{kvs:List (Option Int×V)}{o i:Expr}{td ty:TE}{pos:Pos}
end
theorem us0{P:List Value->Prop}(h:P []):∀ us:List Value,us.length=0->P us
 |[],_=>h
theorem usS{n:Nat}{P:List Value->Prop}(h:∀(a:Value)(us:List Value),us.length=n->P (a::us)):∀ us:List Value,us.length=n+1->P us
 |a::us,e=>h a us (Nat.succ.inj e)
theorem us1{P:List Value->Prop}(h:∀ a,P [a]):∀ us:List Value,us.length=1->P us:=usS fun a=>us0 (P:=fun us=>P (a::us)) (h a)
theorem us2{P:List Value->Prop}(h:∀ a b,P [a,b]):∀ us:List Value,us.length=2->P us:=usS fun a=>us1 (P:=fun us=>P (a::us)) (h a)
theorem us3{P:List Value->Prop}(h:∀ a b c,P [a,b,c]):∀ us:List Value,us.length=3->P us:=usS fun a=>us2 (P:=fun us=>P (a::us)) (h a)
theorem us4{P:List Value->Prop}(h:∀ a b c d,P [a,b,c,d]):∀ us:List Value,us.length=4->P us:=usS fun a=>us3 (P:=fun us=>P (a::us)) (h a)
end L2
namespace L2
open PySem PySem.Spec PyProof.Rows
section
variable{P:Program}{w:World}{K:W.Frag}{mg:Str->Option Value}{base:Heap}{N:List Str}{qual:Str}{scope:Scope}{f:Addr}{cd:Value}{A:Around}{outer:List Env}{s:Shared}{H:Hp}{E:XK}
end
section
variable{X:Cx}{E:XK}{pins:List (Addr×Obj)}{scope:Scope}{cl:List (Str×Addr)}{C:Addr}{N':List Str}{fp:List Addr}{s:Shared}{H:Hp}
end
section
variable{X:Cx}{E:XK}{sc:Scope}{N N':List Str}{scope:Scope}{ix:List (Option Nat)}{tg iter elt:Expr}{ifs:List Expr}{pos:Pos}{wi:TI}{g:TG}{tt:TT}{te:TE}
end
end L2
namespace L2
open PySem PySem.Spec PyProof.Rows
section
variable{X:Cx}{CX:CXT}{k:Nat}{f C:Addr}{fd:FuncData}{ps:List Str}{sp:Sp}{E:XK}{x m:Str}{p pos apos:Pos}{e o:Expr}{es:List Expr}{ta:TE}{t:TA}
theorem Hu(M:Mk X.K C f)(F:FnOk X.prog X.w X.K X.mg X.base CX k f fd ps sp)(hr:Room (k+1) X.A)(hm:X.mg x=some (.ref C))(hb:Binds X.K fd ps [])(hx:eY CX X E)(ha:PA X (e::es) t)
  (hg:X.env.scope.names.lookup x=some .globalImplicit:=by kernel_rfl) (hdb:(x == ("__debug__":Str))=false:=by kernel_rfl) (he:starEach (e::es) X.env=(false,eval e X.env):: starEach es X.env:=by rfl) (hpl:(backTo pos (starEach es X.env)).any (·.1)=false:=by rfl):
  PE X (.Call (.Name x p) (e::es) [] pos) (t8 C sp [] E t):=Ik M F hr hg hm hb .nil hx ha hdb he hpl
end
end L2
namespace L2
open PySem PyProof.Rows
variable{X:Cx}
inductive DEq(K:W.Frag)(H:Hp):Nat->V->V->Prop
 |same (n:Nat) (a:Addr):DEq K H n (.ref a) (.ref a)
 |int (n:Nat) (i:Int):DEq K H n (.int i) (.int i)
 |str (n:Nat) (x:Str):DEq K H n (.str x) (.str x)
 |tup {n:Nat} {a b:Addr} {xs ys:List V} (h1:SqT K H a xs) (h2:SqT K H b ys) (hl:xs.length=ys.length) (h:∀(j:Nat)(x y:V),xs[j]? = some x->ys[j]? = some y->DEq K H n x y):DEq K H (n+1) (.ref a) (.ref b)
 |lst {n:Nat} {a b:Addr} {xs ys:List V} (h1:SqL K H a xs) (h2:SqL K H b ys) (hl:xs.length=ys.length) (h:∀(j:Nat)(x y:V),xs[j]? = some x->ys[j]? = some y->DEq K H n x y):DEq K H (n+1) (.ref a) (.ref b)
theorem lO(n:Nat):((List.range n).all fun _=>true)=true:=by simp
theorem m9{K:W.Frag}{H:Hp}{xs ys:List V}{its its2:List Value}{R:Value->Value->Prop}(r1:Vals xs its)(r2:Vals ys its2)
  (h:∀(j:Nat)(x y:V),xs[j]? = some x->ys[j]? = some y->∀ u v,RelV x u->RelV y v->R u v) (j:Nat) (h1:j<its.toArray.size) (h2:j<its2.toArray.size):R its.toArray[j] its2.toArray[j]:=by
 have h1':j<xs.length:=by rw[r1.length];simpa using h1
 have h2':j<ys.length:=by rw[r2.length];simpa using h2
 obtain⟨u,e1,q1⟩:=r1.get (List.getElem?_eq_getElem h1');obtain⟨v,e2,q2⟩:=r2.get (List.getElem?_eq_getElem h2')
 have g1:its.toArray[j]=u:=by
  have:=(List.getElem?_eq_some_iff.mp e1).2
  simpa using this
 have g2:its2.toArray[j]=v:=by
  have:=(List.getElem?_eq_some_iff.mp e2).2
  simpa using this
 rw[g1,g2];exact h j _ _ (List.getElem?_eq_getElem h1') (List.getElem?_eq_getElem h2') u v q1 q2
theorem Er{pins:List (Addr×Obj)}{σ:St}{H:Hp}{s:Shared}(I:Inv X pins σ H s){n:Nat}{x y:V}(h:DEq X.K H n x y):∀{A:Around},A.units+n<cLine->∀ u v,RelV x u->RelV y v->SeqAt.EqAt A s u v true:=by
 induction h with
 | same n a =>
  intro A hu u v r1 r2;cases r1;cases r2;exact SeqAt.EqAt.same _
 | int n i =>
  rintro A hu u v ⟨t1,rfl⟩ ⟨t2,rfl⟩;have h:=SeqAt.EqAt.int_int (A:=A) (s:=s) i t1 i t2;rw[beq_self_eq_true]at h;exact h
 | str n x =>
  rintro A hu u v ⟨t1,rfl⟩ ⟨t2,rfl⟩;have h:=SeqAt.EqAt.str_str (A:=A) (s:=s) x t1 x t2;rw[beq_self_eq_true]at h;exact h
 | @tup n a b xs ys h1 h2 hl h ih =>
  intro A hu u v r1 r2;cases r1;cases r2
  by_cases e:a=b
  . subst e
    exact SeqAt.EqAt.same _
  obtain⟨its,q1,p1,_⟩:=I.tuple h1;obtain⟨its2,q2,p2,_⟩:=I.tuple h2;refine SeqAt.EqAt.of_refs e ?_;have z:=SeqAt.RcAt.tuples (A:=A) (s:=s) (e:=fun _=>true) p1 p2 (by omega) (fun j h1 h2=>m9 (K:=X.K) (H:=H) (R:=fun u v=>SeqAt.EqAt A.in1 s u v true) q1 q2 (fun j x y e1 e2 u v r1 r2=>ih j x y e1 e2 (A:=A.in1) (by show A.units+1+n<cLine;omega) u v r1 r2) j h1 h2)
  have e1:its.toArray.size=its2.toArray.size:=by
   have:=q1.length;have:=q2.length;simp;omega
  rw[lO,e1,beq_self_eq_true]at z;exact z
 | @lst n a b xs ys h1 h2 hl h ih =>
  intro A hu u v r1 r2;cases r1;cases r2
  by_cases e:a=b
  . subst e
    exact SeqAt.EqAt.same _
  obtain⟨its,q1,p1,_⟩:=I.list h1;obtain⟨its2,q2,p2,_⟩:=I.list h2
  have e1:its.toArray.size=its2.toArray.size:=by
   have:=q1.length;have:=q2.length;simp;omega
  refine SeqAt.EqAt.of_refs e ?_;have z:=SeqAt.RcAt.lists (A:=A) (s:=s) (e:=fun _=>true) p1.isList p2.isList e1 (by omega) (fun j h1 h2=>m9 (K:=X.K) (H:=H) (R:=fun u v=>SeqAt.EqAt A.in1 s u v true) q1 q2 (fun j x y e1 e2 u v r1 r2=>ih j x y e1 e2 (A:=A.in1) (by show A.units+1+n<cLine;omega) u v r1 r2) j h1 h2);rw[lO]at z;exact z
def By(K:W.Frag)(H:Hp)(x y:V):Prop:=∃(a b:Addr)(xs ys:List V),x = .ref a/\y = .ref b/\((SqT K H a xs/\SqT K H b ys)\/(SqL K H a xs/\SqL K H b ys))/\xs.length=ys.length/\∀(j:Nat)(x y:V),xs[j]? = some x->ys[j]? = some y->DEq K H 60 x y
def LR(K:W.Frag):R2:=fun x y H Q=>By K H x y/\Q (.bl true) H
theorem Jd(hu:X.A.units+64<cLine):OpR X (compareOp .Eq) (LR X.K):=by
 intro pins s σ H x y v u Q I rx ry h;obtain⟨⟨a,b,xs,ys,rfl,rfl,hab,hl,hd⟩,k⟩:=h;cases rx;cases ry;have it:∀{its its2:List Value},Vals xs its->Vals ys its2->∀ j (h1:j<its.toArray.size) (h2:j<its2.toArray.size),SeqAt.EqAt X.A.in1 s its.toArray[j] its2.toArray[j] true:=fun q1 q2 j h1 h2=>m9 (K:=X.K) (H:=H) (R:=fun u v=>SeqAt.EqAt X.A.in1 s u v true) q1 q2 (fun j x y e1 e2 u v r1 r2=>Er I (hd j x y e1 e2) (A:=X.A.in1) (by show X.A.units+1+60<cLine;omega) u v r1 r2) j h1 h2
 rcases hab with⟨h1,h2⟩|⟨h1,h2⟩
 . obtain⟨its,q1,p1,_⟩:=I.tuple h1
   obtain⟨its2,q2,p2,_⟩:=I.tuple h2
   have e1:its.toArray.size=its2.toArray.size:=by
    have:=q1.length;have:=q2.length;simp;omega
   refine SeqAt.eq_tupleAt (e:=fun _=>true) p1 p2 (by omega) (it q1 q2) ?_;rw[lO,e1,beq_self_eq_true];exact⟨.bl true,H,I,rfl,k⟩
 . obtain⟨its,q1,p1,_⟩:=I.list h1
   obtain⟨its2,q2,p2,_⟩:=I.list h2
   have e1:its.toArray.size=its2.toArray.size:=by
    have:=q1.length;have:=q2.length;simp;omega
   refine SeqAt.eq_listAt (e:=fun _=>true) p1.isList p2.isList e1 (by omega) (it q1 q2) ?_;rw[lO];exact⟨.bl true,H,I,rfl,k⟩
theorem Es{K:W.Frag}{H:Hp}{a b:Addr}{ns:List Int}(h1:SqT K H a (ns.map V.int))(h2:SqT K H b (ns.map V.int))(n:Nat):DEq K H (n+1) (.ref a) (.ref b):=by
 refine .tup h1 h2 rfl fun j x y e1 e2=>?_
 rw[qgm]at e1 e2;cases e:ns[j]? with
 |none=>rw[e]at e1;cases e1
 | some i =>
  rw[e]at e1 e2;cases e1;cases e2;exact .int n i
theorem Et{K:W.Frag}{H:Hp}{a b:Addr}{ns:List Str}(h1:SqT K H a (ns.map V.str))(h2:SqT K H b (ns.map V.str))(n:Nat):DEq K H (n+1) (.ref a) (.ref b):=by
 refine .tup h1 h2 rfl fun j x y e1 e2=>?_
 rw[qgm]at e1 e2;cases e:ns[j]? with
 |none=>rw[e]at e1;cases e1
 | some i =>
  rw[e]at e1 e2;cases e1;cases e2;exact .str n i
end L2
namespace L2
open PySem PySem.Spec PyProof.Rows
variable{X:Cx}
def Ma(K:W.Frag):List V->Hp->VK->Prop:=fun xs H Q=>∃(p:Addr)(ns:List Int),xs=[.ref p]/\SqT K H p (ns.map V.int)/\0<ns.length/\∀ M,M∈ns->(∀ a∈ns,M<=a)->Q (.int M) H
theorem BJ(hc:X.calm=true):dC X (.builtin "min") (Ma X.K):=by
 intro pins s σ H xs us Q I r h;obtain⟨p,ns,rfl,hp,hne,q⟩:=h;obtain⟨u,rfl,ru⟩:=vals1 r;cases ru;obtain⟨its,rv,pl,hz⟩:=I.tuple hp;have hi:=intsAre_of rv;have hh:X.A.handled=none:=I.ok.hd hc;obtain⟨xs,e⟩:=hi.allInts.items;have hns:ns=xs.toList.map (·.1):=by rw[<- hi.numsOf,<- nums_intItems,<- e]
 have hsz:0<xs.size:=by
  have h3:=hne;rw[hns,qlm,Array.length_toList]at h3;exact h3
 have hl:s.heap.IsTuple p its.toArray:=pl;rw[e]at hl
 have hlt:p<s.heap.objs.size:=by
  obtain⟨_,e1,_⟩:=hl;exact Heap.lt_size e1
 refine call_min_walk (wpAny_pyIter_tuple hl ?_);refine⟨_,_,_,_,_,_,_,rfl,Walks.tuple (A:=X.A.in1) hh s.heap.objs.size p (Nat.ne_of_lt hlt) (intItems xs),⟨⟨_,Heap.get?_push_size _ rfl,rfl,rfl⟩,hl.on fun o q=>Heap.get?_push_of_some _ q⟩,fun b hb=>?_,by simpa[intItems]using hsz,CmpOf.ints_lt (numAt xs) (fun _ _=>intItems_at),fun v h' tk hP hk=>?_⟩
 . show b<(s.heap.push _).objs.size
   rw[Heap.size_push];rcases List.mem_cons.mp hb with rfl|hb
   . exact Nat.lt_succ_self _
   . rw[List.mem_singleton.mp hb]
     exact Nat.lt_succ_of_lt hlt
 have hv:(intItems xs)[argBest (fun i j=>decide (numAt xs i<numAt xs j)) (xs.size - 1)]? = some v:=by simpa[intItems]using hP
 have hk':∀ b o,s.heap.get? b=some o->h'.get? b=some o:=fun b o e1=>hk b o (fun z=>by
  rw[List.mem_singleton.mp z]at e1
  exact absurd (Heap.lt_size e1) (Nat.lt_irrefl _)) (Heap.get?_push_of_some _ e1)
 obtain⟨t,rfl⟩:=intItems_at hv;obtain⟨h1,h2⟩:=argBest_lt (numAt xs) (xs.size - 1);refine⟨.int _,H,I.kept (t':=tk) hk',⟨t,rfl⟩,q _ ?_ fun a ha=>?_⟩
 . rw[hns,numAt_eq]
   exact getD_mem (by rw[qlm,Array.length_toList];omega)
 . rw[hns]at ha
   obtain⟨j,hj,rfl⟩:=mem_getD ha;rw[qlm,Array.length_toList]at hj;rw[<- numAt_eq];exact h2 j (by omega)
end L2
namespace L2
open PySem PyProof.Rows
end L2
namespace PySem
open AutoSeq1 (wpAny_loadPart')
section
variable{P:Program}{w:World}{A:Around}{E:Value->Shared->Prop}{z:Shared}
end
end PySem
namespace L2
open PySem PySem.Spec PyProof.Rows
section
variable{K:W.Frag}{g:TG}{σ:St}{H:Hp}{ix:List (Option Nat)}{tt:TT}{te:TE}{Q:VK}
end
end L2
namespace L2
open PySem PySem.Spec PyProof.Rows
namespace Bt
end Bt
end L2
namespace PySem
open Sem (wp)
open AutoSeq1 (wpAny_loadPart')
namespace RvT
def obj(l:Addr)(i:Int):Obj:={ cls:=.type "reversed",data:=.fields #[.ref l,rawInt i] }
end RvT
section
variable{prog:Program}{w:World}{A:Around}{E:Value->Shared->Prop}{s:Shared}
open PyProof.Rows in
open PyProof.Rows in
open PyProof.Rows in
end
open PyProof.Rows in
section
variable{prog:Program}{w:World}{A:Around}{E:Value->Shared->Prop}{s:Shared}
open PyProof.Rows in
open PyProof.Rows in
open PyProof.Rows in
open PyProof.Rows in
end
end PySem
namespace L2
open PySem PySem.Spec PyProof.Rows
end L2
namespace L2
open PySem PyProof.Rows
variable{X:Cx}{K:W.Frag}
theorem vZ:OpR X (compareOp .NotIn) (fun x y H Q=>∃ a b,x = .str a/\y = .str b/\Q (.bl (!Txt.contains b a)) H):=by
 intro pins s σ H x y v u Q I rx ry h;obtain⟨a,b,rfl,rfl,q⟩:=h;obtain⟨t,rfl⟩:=rx;obtain⟨t',rfl⟩:=ry;exact SB.notContains ⟨.bl _,H,I,rfl,q⟩
end L2
namespace L2
open PySem PyProof.Rows
variable{X:Cx}{K:W.Frag}
inductive rCount(K:W.Frag)(y:V)(vs:List V)(H:Hp)(Q:VK):Prop
 |mk (p:Addr) (xs:List V) (x:V) (_:y = .ref p) (_:vs=[x]) (_:SqL K H p xs) (_:eQ x=true) (_:xs.all eQ=true) (_:∀ j:Nat,j<=xs.length->j=xs.countP (fun z=>eqV z x)->Q (.int j) H)
theorem yq{x:V}{xs:List V}{us:List Value}(r:Vals xs us)(f:xs.all eQ=true):us.countP (eqU x)=xs.countP (fun z=>eqV z x):=by
 induction r with
 |nil=>rfl
 | @cons y v ys vs rv t ih =>
  rw[List.all_cons,Bool.and_eq_true]at f;rw[List.countP_cons,List.countP_cons,ih f.2,qj rv f.1]
theorem Eu:MtR X "list.count" (rCount X.K):=by
 intro pins s σ H y vs v us Q I ry r h;obtain⟨p,xs,x,rfl,rfl,hp,fx,fs,q⟩:=h;cases ry;obtain⟨u,rfl,ru⟩:=vals1 r;obtain⟨its,rv,pl,hz⟩:=I.list hp;obtain⟨⟨cls,dd,data,sl⟩,n,ho,hc,hd1,hd2⟩:=pl;simp only at hc hd1 hd2;subst hc hd1 hd2
 refine call_meets PySem.F.slot_list_count ⟨_,ho,rfl⟩ PySem.F.entry_list_count (PySem.F.args_list_count_2 _ _)
  (SeqAt.list_countAt p its.toArray n none sl u (eqU x)) ⟨ho,fun y hy=>gF ru fx rv fs y (by simpa using hy),⟨.int _,H,I.tok _,⟨_,rfl⟩,?_⟩⟩
 have e:its.toArray.toList.countP (eqU x)=xs.countP (fun z=>eqV z x):=by
  rw[<- yq rv fs]
 rw[e];exact q _ (List.countP_le_length) rfl
end L2
namespace PySem
namespace StB
open SetTable
section
variable{prog:Program}{w:World}{A:Around}{E:Value->Shared->Prop}{s:Shared}
end
end StB
end PySem
namespace PySem
open PyProof.Rows
namespace StB
section
variable{prog:Program}{w:World}{A:Around}{R:Result->Shared->Prop}{I:Addr}{fp wr:List Addr}{G:Array GenState->Array GenState->Prop}{n:Nat}{P:Nat->Value->Prop}{St:Nat->Shared->Prop}
end
section
variable{prog:Program}{w:World}{A:Around}{E:Value->Shared->Prop}{s:Shared}
end
end StB
end PySem
namespace PySem
open PyProof.Rows
namespace StB
def It(h:Heap)(I:Addr)(first:Value)(i:Nat)(S:Addr)(n ep:Nat):Prop:=∃ o,h.get? I=some o/\o.cls = .type "set_iterator"/\o.data = .fields #[first,rawInt (i:Int),.ref S,rawInt (n:Int),rawInt (ep:Int)]
section
variable{prog:Program}{w:World}{A:Around}{E:Value->Shared->Prop}{s:Shared}
end
end StB
end PySem
namespace PySem
open PyProof.Rows
namespace StB
section
variable{prog:Program}{w:World}{A:Around}{E:Value->Shared->Prop}{s:Shared}
open SetTable in
end
end StB
end PySem
namespace PySem
open PyProof.Rows
namespace StB
section
variable{prog:Program}{w:World}{A:Around}{E:Value->Shared->Prop}{s:Shared}
end
end StB
end PySem
namespace PySem
open PyProof.Rows
namespace StB
section
variable{prog:Program}{w:World}{A:Around}{E:Value->Shared->Prop}{s:Shared}
end
end StB
end PySem
namespace PySem
open PyProof.Rows
open Sem (wp)
namespace StB
section
variable{prog:Program}{w:World}{A:Around}{E:Value->Shared->Prop}{s:Shared}
end
end StB
end PySem
namespace L2
open PySem PySem.Spec PyProof.Rows
namespace Bt
end Bt
end L2
namespace PySem
open PyProof.Rows
namespace StB
section
variable{prog:Program}{w:World}{A:Around}{E:Value->Shared->Prop}{s:Shared}
end
end StB
end PySem
namespace L2
open PySem PySem.Spec PyProof.Rows
end L2
namespace L2
open PySem PySem.Spec PyProof.Rows
variable{X:Cx}
end L2
namespace L2
open PySem PySem.Spec PyProof.Rows
end L2
namespace L2
open PySem PySem.Spec PyProof.Rows
variable{X:Cx}
theorem tX:MtR X "str.startswith" (fun x vs H Q=>∃ z y,x = .str z/\vs=[.str y]/\Q (.bl (Txt.startswith z y)) H):=by
 intro pins s σ H x vs v us Q I rx r h;obtain⟨z,y,rfl,rfl,q⟩:=h;obtain⟨t,rfl⟩:=rx;obtain⟨u,rfl,t',rfl⟩:=vals1 r;exact SC.startswith ⟨.bl _,H,I,rfl,q⟩
theorem ni:MtR X "str.strip" (fun x vs H Q=>∃ z y,x = .str z/\vs=[.str y]/\z.length<=sizeLine/\Q (.str (Txt.stripChars z y)) H):=by
 intro pins s σ H x vs v us Q I rx r h;obtain⟨z,y,rfl,rfl,hz,q⟩:=h;obtain⟨t,rfl⟩:=rx;obtain⟨u,rfl,t',rfl⟩:=vals1 r;exact SC.stripChars (fun t' k=>⟨.str _,H,I.tok _,⟨_,rfl⟩,q⟩) hz
theorem yr:MtR X "str.lstrip" (fun x vs H Q=>∃ z y,x = .str z/\vs=[.str y]/\z.length<=sizeLine/\Q (.str (Txt.lstripChars z y)) H):=by
 intro pins s σ H x vs v us Q I rx r h;obtain⟨z,y,rfl,rfl,hz,q⟩:=h;obtain⟨t,rfl⟩:=rx;obtain⟨u,rfl,t',rfl⟩:=vals1 r;exact SC.lstripChars (fun t' k=>⟨.str _,H,I.tok _,⟨_,rfl⟩,q⟩) hz
theorem sH:∀(l:List (Str×Tok)),Vals (l.map fun p=>V.str p.1) (strValues l)
 |[]=>.nil
 |p::r=>.cons ⟨p.2,rfl⟩ (sH r)
theorem uW:MtR X "str.split" (fun x vs H Q=>∃ z y,x = .str z/\vs=[.str y]/\¬ y.length=0/\z.length<sizeLine/\(Txt.split z y).length <= sizeLine/\∀ p,H p=none->Q (.ref p) (upd H p (.lst ((Txt.split z y).map V.str)))):=by
 intro pins s σ H x vs v us Q I rx r h;obtain⟨z,y,rfl,rfl,hy,hz,hn,q⟩:=h;obtain⟨t,rfl⟩:=rx;obtain⟨u,rfl,t',rfl⟩:=vals1 r;have hy':(y.length == 0)=false:=by simpa using hy
 have fin:∀(l:List (Str×Tok)) (k:Nat),l.map (·.1)=Txt.split z y->EP X pins σ Q (.ref s.heap.objs.size) { s with toks:=k,heap:=s.heap.push { cls:=.type "list",data:=.seq (strValues l).toArray } }:=fun l k e=>by
  have e2:(l.map fun p=>V.str p.1)=(Txt.split z y).map V.str:=by rw[<- e,List.map_map];rfl
  have rv:=sH l;rw[e2]at rv;exact⟨.ref _,_,I.lnew (t':=k) rv (by rw[qlm];exact hn),rfl,q _ I.fresh⟩
 cases h1:(decide (z.length<y.length) || decide (Builtin.Str.strKind z<Builtin.Str.strKind y))
 . cases hf:(Builtin.Str.occurrences z y 0 z.length (z.length+1)).isEmpty
   . have e1:Txt.split z y=Builtin.Str.partsBetween z (Builtin.Str.occurrences z y 0 z.length (z.length+1)) y.length:=(qnZ (ne_true_of_eq_false h1)).trans (qnZ (ne_true_of_eq_false hf))
     refine call_meets F.slot_str_split (typeIs_str _ _ _) F.entry_str_split (F.args_str_split_2 _ _) (meets_str_split_sep z y t t' h1 hy' hf (Nat.le_of_lt hz) (by rw[<- e1];exact hn)) ?_;show wants _ _ _ { s with toks:=_,heap:=s.heap.push { cls:=.type "list",data:=.seq (strsFrom s.toks (Builtin.Str.partsBetween z (Builtin.Str.occurrences z y 0 z.length (z.length+1)) y.length)).toArray } };rw[strsFrom_eq];exact fin _ _ ((numbered_texts _ _).trans e1.symm)
   . exact call_meets F.slot_str_split (typeIs_str _ _ _) F.entry_str_split (F.args_str_split_2 _ _) (meets_str_split_not_found z y t t' h1 hy' hf)
      (fin [(z,t)] s.toks ((qnZ (ne_true_of_eq_false h1)).trans (qp hf)).symm)
 . exact call_meets F.slot_str_split (typeIs_str _ _ _) F.entry_str_split (F.args_str_split_2 _ _) (meets_str_split_cannot_occur z y t t' h1) (fin [(z,t)] s.toks (qp h1).symm)
def cH(c:Nat):List Nat->List Nat
 |[]=>[]
 |d::r=>if d=c then []else d::cH c r
def b8(c:Nat):List Nat->List Nat
 |[]=>[]
 |d::r=>if d=c then r else b8 c r
theorem sI{c:Nat}:∀{l:List Nat},(∀ i:Nat,l[i]?≠some c)->cH c l=l/\b8 c l=[]
 |[],_=>⟨rfl,rfl⟩
 | d::r,h=>by
  have h1:¬ d=c:=fun e=>h 0 (by rw[e];rfl)
  obtain⟨e1,e2⟩:=sI (l:=r) fun i=>h (i+1)
  show(if d=c then []else d::cH c r)=_/\(if d=c then r else b8 c r)=_;rw[qnZ h1,qnZ h1,e1,e2];exact⟨rfl,rfl⟩
theorem wZ{c:Nat}:∀{l:List Nat}{i:Nat},l[i]? = some c->(∀ k,k<i->l[k]?≠some c)->cH c l=l.take i/\b8 c l=l.drop (i+1)
 |[],i,h,_=>by simp at h
 | d::r,0,h,_=>by
  have e:d=c:=by simpa using h
  show(if d=c then []else d::cH c r)=_/\(if d=c then r else b8 c r)=_;rw[qp e,qp e];exact⟨rfl,rfl⟩
 | d::r,i+1,h,hn=>by
  have h1:¬ d=c:=fun e=>hn 0 (by omega) (by rw[e];rfl)
  obtain⟨e1,e2⟩:=wZ (l:=r) (i:=i) h fun k hk=>hn (k+1) (by omega)
  show(if d=c then []else d::cH c r)=_/\(if d=c then r else b8 c r)=_;rw[qnZ h1,qnZ h1,e1,e2];exact⟨rfl,rfl⟩
theorem jB:MtR X "str.partition" (fun x vs H Q=>∃(z y:Str) (c:Nat),x = .str z/\vs=[.str y]/\y=⟨#[c]⟩/\z.length<=sizeLine /\
  ∀ p (b:Str),H p=none->Q (.ref p) (upd H p (.tup [.str ⟨(cH c z.cps.toList).toArray⟩,.str b,.str ⟨(b8 c z.cps.toList).toArray⟩]))):=by
 intro pins s σ H x vs v us Q I rx r h;obtain⟨z,y,c,rfl,rfl,hy,hz,q⟩:=h;subst hy;obtain⟨t,rfl⟩:=rx;obtain⟨u,rfl,t',rfl⟩:=vals1 r
 have mk:∀(l:List Nat)(w:Str),w.cps.toList=l->(⟨l.toArray⟩:Str)=w:=fun l w e=>by
  cases w;rw[<- e]
 refine call_meets F.slot_str_partition (typeIs_str _ _ _) F.entry_str_partition (F.args_str_partition_2 _ _) (meets_str_partition z ⟨#[c]⟩ t t' rfl hz) ?_;rcases StrLaws.occ_head z ⟨#[c]⟩ 1 (qnr 1)with⟨h0,hn⟩|⟨i,rr,h0,hi,hn⟩
 . rw[h0]
   obtain⟨e1,e2⟩:=sI (c:=c) (l:=z.cps.toList) fun j hj=>hn j ((StrLaws.subAt_one z c j).mpr hj)
   have q':=q s.heap.objs.size Str.empty I.fresh;rw[mk (cH c z.cps.toList) z e1.symm,mk (b8 c z.cps.toList) Str.empty (by rw[e2];rfl)]at q';exact⟨.ref _,_,I.laid (o:=.tup [.str z,.str Str.empty,.str Str.empty]) (t':=s.toks+1) (fun b u e=>Heap.get?_push_of_some _ e) (qnr _) ⟨(by show 3<=sizeLine;decide),_,.cons ⟨_,rfl⟩ (.cons ⟨_,rfl⟩ (.cons ⟨_,rfl⟩ .nil)),IsTupP.new _ _⟩,rfl,q'⟩
 . rw[h0]
   have hm:=(StrLaws.subAt_one z c i).mp hi;obtain⟨e1,e2⟩:=wZ hm fun k hk e=>hn k hk ((StrLaws.subAt_one z c k).mpr e)
   have q':=q s.heap.objs.size ⟨#[c]⟩ I.fresh
   rw[mk (cH c z.cps.toList) (Builtin.Str.strSub z 0 i) (by rw[e1,StrLaws.strSub_toList];simp),mk (b8 c z.cps.toList) (Builtin.Str.strSub z (i+1) z.length) (by
    rw[e2,StrLaws.strSub_toList]
    exact List.take_of_length_le (by simp[Str.length]))]at q'
   exact⟨.ref _,_,I.laid (o:=.tup [.str (Builtin.Str.strSub z 0 i),.str ⟨#[c]⟩,.str (Builtin.Str.strSub z (i+1) z.length)]) (t':=s.toks+1+1) (fun b u e=>Heap.get?_push_of_some _ e) (qnr _) ⟨(by show 3<=sizeLine;decide),_,.cons ⟨_,rfl⟩ (.cons ⟨_,rfl⟩ (.cons ⟨_,rfl⟩ .nil)),IsTupP.new _ _⟩,rfl,q'⟩
theorem nj:dC X (.type "str") (fun xs H Q=>∃ i:Int,xs=[.int i]/\i.natAbs.log2<1920/\Q (.str (toString i:String)) H):=by
 intro pins s σ H xs us Q I r h;obtain⟨i,rfl,hi,q⟩:=h;obtain⟨u,rfl,t,rfl⟩:=vals1 r;exact P.str_of_int hi ⟨.str _,H,I.tok _,⟨_,rfl⟩,q⟩
end L2
namespace PySem
open Sem (wp)
def fH(cs:List Nat):Nat:=cs.foldl (fun a c=>a * 10+(c - 48)) 0
theorem lQ(p:Nat->Bool){l:List Nat}(h:∀ c∈l,p c=false):(l.reverse.dropWhile p).reverse=l:=by
 have e:l.reverse.dropWhile p=l.reverse:=by
  cases hl:l.reverse with
  |nil=>rfl
  | cons a b =>
   have ha:a∈l:=by
    have:a∈l.reverse:=by rw[hl];exact qms
    simpa using this
   rw[List.dropWhile_cons_of_neg (by rw[h a ha];decide)]
 rw[e,List.reverse_reverse]
theorem jR(p:Nat->Bool){l:List Nat}(h:∀ c∈l,p c=false):l.dropWhile p=l:=by
 cases l with
 |nil=>rfl
 |cons a b=>rw[List.dropWhile_cons_of_neg (by rw[h a qms];decide)]
theorem iZ{f:Array Nat×Bool->Nat->Option (Array Nat×Bool)}(hf:∀ ds b c,48<=c->c<=57->f (ds,b) c=some (ds.push (c - 48),true)):∀(cs:List Nat)(ds:Array Nat)(b:Bool),(∀ c∈cs,48<=c/\c<=57)->List.foldlM (m:=Option) f (ds,b) cs=some (ds++(cs.map (· - 48)).toArray,b || !cs.isEmpty)
 |[],ds,b,_=>by simp
 | c::r,ds,b,h=>by
  rw[List.foldlM_cons,hf ds b c (h c qms).1 (h c qms).2];show List.foldlM (m:=Option) f (ds.push (c - 48),true) r=_;rw[iZ hf r _ _ fun d hd=>h d (qmm _ hd)];simp
theorem cN{c:Nat}(h1:48<=c)(h2:c<=57):c=48\/c=49\/c=50\/c=51\/c=52\/c=53\/c=54\/c=55\/c=56\/c=57:=by omega
theorem BK:typeLookup (.type "str") "__int__"=pure none:=by rw[typeLookup_type,builtinLookup_eq_fast];kernel_rfl
theorem wg:typeLookup (.type "str") "__index__"=pure none:=by rw[typeLookup_type,builtinLookup_eq_fast];kernel_rfl
theorem wj:typeLookup (.type "str") "__trunc__"=pure none:=by rw[typeLookup_type,builtinLookup_eq_fast];kernel_rfl
theorem Je(cs:List Nat):Array.foldl (fun acc d=>acc * 10+d) 0 (#[]++(cs.map (· - 48)).toArray)=fH cs:=by
 unfold fH;simp[List.foldl_map]
theorem rz(x:Str)(u:Tok){c0:Nat}{r:List Nat}(he:x.cps.toList=c0::r)(h0:49<=c0/\c0<=57\/c0=48/\r=[])(hr:∀ c∈r,48<=c/\c<=57)(hl:r.length<600):
  Meets (Builtin.«int.__new__» ⟨[.type "int",.str x u],[]⟩) (Made.int (fH (c0::r):Nat)).spec :=
 Meets.of_wp fun prog w A R s hs=>by
  have hcs:∀ c∈c0::r,48<=c/\c<=57:=fun c hc=>by
   rcases List.mem_cons.mp hc with rfl|hc
   . rcases h0 with h|h <;> omega
   . exact hr c hc
  have ha:x.cps.all (· < 128)=true:=by
   rw[<- Array.all_toList,he,List.all_eq_true];intro c hc;have:=hcs c hc;exact qdt (by omega)
  have hz:(c0::r).takeWhile (· != 0)=c0::r:=by
   have all:∀(l:List Nat),(∀ c∈l,48<=c/\c<=57)->l.takeWhile (· != 0)=l:=by
    intro l
    induction l with
    |nil=>intro _;rfl
    | cons a b ih =>
     intro h;have:=h a qms;rw[List.takeWhile_cons_of_pos (by simp;omega),ih fun c hc=>h c (qmm _ hc)]
   exact all _ hcs
  have hl':(c0::r).length <= 640:=by show r.length+1<=640;omega
  have h6:¬ 6000<r.length+1:=by omega
  have hten:c0=49\/c0=50\/c0=51\/c0=52\/c0=53\/c0=54\/c0=55\/c0=56\/c0=57\/(c0=48/\r=[]):=by
   rcases h0 with h|h
   . omega
   . exact .inr (.inr (.inr (.inr (.inr (.inr (.inr (.inr (.inr h))))))))
  obtain⟨hp,g,d,tk,os⟩:=s;have f1:=F.conv_sub_int;have f2:=F.madeHere_int;have f3:=BK;have f4:=wg;have f5:=wj;have hT:(⟨hp,g,d,tk,os⟩:Shared).TypeIs (.str x u) "str":=rfl
  repeat (any_goals (first|assumption|wp_step))
  rw[qp ha,he,hz,qp hl']
  repeat (any_goals (first|assumption|wp_step))
  clear hl' hz ha he hT;have key:=Je (c0::r);generalize hn:fH (c0::r)=n at hs key;rcases hten with rfl|rfl|rfl|rfl|rfl|rfl|rfl|rfl|rfl|⟨rfl,rfl⟩
  rotate_right
  . split
    . rename_i m h
      cases h
    . rename_i h
      cases h
    . rename_i i h
      have e:i=(n:Int):=by
       cases h;rw[<- hn]
       rfl
      subst e;rw[qp (by simp)]
      repeat (any_goals (first|assumption|wp_step))
      all_goals first|exact⟨_,rfl,hs⟩|skip
    . rename_i h
      cases h
  all_goals
   split
   . rename_i m h
     change (match (Option.bind (α:=Array Nat×Bool) (β:=Array Nat) (List.foldlM (m:=Option) (s:=Array Nat×Bool) (α:=Nat) _ ((#[]:Array Nat),false) (((_:List Nat).reverse.dropWhile _).reverse)) _)with|none=>_|some ds=>_)=_ at h
     rw[lQ _ (fun c hc=>by
        rcases cN (hcs c hc).1 (hcs c hc).2 with rfl|rfl|rfl|rfl|rfl|rfl|rfl|rfl|rfl|rfl <;> rfl),jR _ (fun c hc=>by
        rcases cN (hcs c hc).1 (hcs c hc).2 with rfl|rfl|rfl|rfl|rfl|rfl|rfl|rfl|rfl|rfl <;> rfl),iZ (fun ds b c h1 h2=>by
        rcases cN h1 h2 with rfl|rfl|rfl|rfl|rfl|rfl|rfl|rfl|rfl|rfl <;> rfl) _ _ _ hcs]at h
     simp[h6]at h
   . rename_i h
     change (match (Option.bind (α:=Array Nat×Bool) (β:=Array Nat) (List.foldlM (m:=Option) (s:=Array Nat×Bool) (α:=Nat) _ ((#[]:Array Nat),false) (((_:List Nat).reverse.dropWhile _).reverse)) _)with|none=>_|some ds=>_)=_ at h
     rw[lQ _ (fun c hc=>by
        rcases cN (hcs c hc).1 (hcs c hc).2 with rfl|rfl|rfl|rfl|rfl|rfl|rfl|rfl|rfl|rfl <;> rfl),jR _ (fun c hc=>by
        rcases cN (hcs c hc).1 (hcs c hc).2 with rfl|rfl|rfl|rfl|rfl|rfl|rfl|rfl|rfl|rfl <;> rfl),iZ (fun ds b c h1 h2=>by
        rcases cN h1 h2 with rfl|rfl|rfl|rfl|rfl|rfl|rfl|rfl|rfl|rfl <;> rfl) _ _ _ hcs]at h
     simp[h6]at h
   . rename_i i h
     change (match (Option.bind (α:=Array Nat×Bool) (β:=Array Nat) (List.foldlM (m:=Option) (s:=Array Nat×Bool) (α:=Nat) _ ((#[]:Array Nat),false) (((_:List Nat).reverse.dropWhile _).reverse)) _)with|none=>_|some ds=>_)=_ at h
     rw[lQ _ (fun c hc=>by
        rcases cN (hcs c hc).1 (hcs c hc).2 with rfl|rfl|rfl|rfl|rfl|rfl|rfl|rfl|rfl|rfl <;> rfl),jR _ (fun c hc=>by
        rcases cN (hcs c hc).1 (hcs c hc).2 with rfl|rfl|rfl|rfl|rfl|rfl|rfl|rfl|rfl|rfl <;> rfl),iZ (fun ds b c h1 h2=>by
        rcases cN h1 h2 with rfl|rfl|rfl|rfl|rfl|rfl|rfl|rfl|rfl|rfl <;> rfl) _ _ _ hcs]at h
     simp[h6]at h;simp at key;rw[key]at h;subst h;rw[qp (by simp)]
     repeat (any_goals (first|assumption|wp_step))
     all_goals first|exact⟨_,rfl,hs⟩|skip
   . rename_i h
     change (match (Option.bind (α:=Array Nat×Bool) (β:=Array Nat) (List.foldlM (m:=Option) (s:=Array Nat×Bool) (α:=Nat) _ ((#[]:Array Nat),false) (((_:List Nat).reverse.dropWhile _).reverse)) _)with|none=>_|some ds=>_)=_ at h
     rw[lQ _ (fun c hc=>by
        rcases cN (hcs c hc).1 (hcs c hc).2 with rfl|rfl|rfl|rfl|rfl|rfl|rfl|rfl|rfl|rfl <;> rfl),jR _ (fun c hc=>by
        rcases cN (hcs c hc).1 (hcs c hc).2 with rfl|rfl|rfl|rfl|rfl|rfl|rfl|rfl|rfl|rfl <;> rfl),iZ (fun ds b c h1 h2=>by
        rcases cN h1 h2 with rfl|rfl|rfl|rfl|rfl|rfl|rfl|rfl|rfl|rfl <;> rfl) _ _ _ hcs]at h
     simp[h6]at h
section
variable{prog:Program}{w:World}{A:Around}{E:Value->Shared->Prop}{s:Shared}
theorem tY{x:Str}{u:Tok}{c0:Nat}{r:List Nat}{Q:Value->Shared->Prop}(he:x.cps.toList=c0::r)(h0:49<=c0/\c0<=57\/c0=48/\r=[])(hr:∀ c∈r,48<=c/\c<=57)(hl:r.length<600)(h:Q (.int (fH (c0::r):Nat) s.toks) { s with toks:=s.toks+1 }):
  wpAny (model prog w) A (call (.type "int") [.str x u]) Q E s :=
 call_int_1 (rz x u he h0 hr hl) (show(Made.int (fH (c0::r):Nat)).post _ s from⟨rfl,h⟩)
end
end PySem
namespace L2
open PySem PySem.Spec PyProof.Rows
theorem BL{X:Cx}:dC X (.type "int") (fun xs H Q=>∃(x:Str) (c0:Nat) (r:List Nat),xs=[.str x]/\x.cps.toList=c0::r/\(49<=c0/\c0<=57\/c0=48/\r=[])/\(∀ c∈r,48<=c/\c<=57)/\r.length<600/\Q (.int (fH (c0::r):Nat)) H):=by
 intro pins s σ H xs us Q I r h;obtain⟨x,c0,r',rfl,he,h0,hr,hl,q⟩:=h;obtain⟨u,rfl,t,rfl⟩:=vals1 r;exact tY he h0 hr hl ⟨.int _,H,I.tok _,⟨_,rfl⟩,q⟩
end L2
namespace L2
open PySem PySem.Spec PyProof.Rows
def Ku(X:Cx)(tf:TE)(ta:TA):TE:=fun σ H Q=>tf σ H fun v H1=>∃(f:Addr)(CX:CXT)(k:Nat)(fd:FuncData)(ps:List Str)(sp:Sp)(E:XK),v = .ref f/\FnOk X.prog X.w X.K X.mg X.base CX k f fd ps sp/\Room k X.A/\W.keepIn X.K (.ref f)=true/\Binds X.K fd ps []/\eY CX X E /\
 ta σ H1 fun vs H2=>sp vs H2 Q E
theorem lR{X:Cx}{o i e:Expr}{es:List Expr}{p pos:Pos}{tf:TE}{ta:TA}(hf:PE X (.Subscript o i p) tf)(ha:PA X (e::es) ta)
  (he:starEach (e::es) X.env=(false,eval e X.env):: starEach es X.env:=by rfl) (hpl:(backTo pos (starEach es X.env)).any (·.1)=false:=by rfl):
  PE X (.Call (.Subscript o i p) (e::es) [] pos) (Ku X tf ta):=by
 intro pins s σ H Q I h
 have arm:eval (.Call (.Subscript o i p) (e::es) [] pos) X.env=(do
   callWith pos (<- eval (.Subscript o i p) X.env) [] (backTo pos (starEach (e::es) X.env)) (backToKw pos (keywordEach [] X.env))):=rfl
 rw[arm];refine wpAny_bind (thn (hf pins s σ H _ I h) fun u s1 ⟨x,H1,I1,r1,f,CX,k,fd,ps,sp,E,ev,F,hr,hk,hb,hx,q⟩=>?_);subst ev;cases r1;refine W.callWith_K (h₀:=X.base) I1.ok.mod.kin hk (thn (ha pos pins s1 σ H1 _ I1 q) fun us s2 ⟨vs,H2,I2,r,q2⟩=>⟨I2.kIn,?_⟩) he hpl;exact qg (dvs:=[]) (ds:=[]) F hr hb .nil hx I2 r (by rw[List.append_nil];exact q2)
end L2
namespace L2
open PySem PySem.Spec PyProof.Rows
section
variable{M:Model}{A:Around}{E:Value->Shared->Prop}
variable{nm q nm' q':Str}{C N C' N':Addr}{bs bm bs' bm':List Value}{hdct hdct':Bool}{sn sn':List Str}{sub sub':List Value}{ab ab':Bool}{col col':Option Bool}{dd dd':Option Addr}{k0 k1 k2 k3 k5 j0 j1 j2 j3 j5:Option Value}{newId newId':String}
theorem mL{h:Heap}{g:Array GenState}{d:Drawn}{t:Nat}{os:OsState}{e:Addr}{oe:Obj}{b:Bool}{Q:Bool->Shared->Prop}
  (hC:h.get? C=some (excClassObj nm q C N bs bm hdct sn sub ab col dd k0 k1 k2 k3 k5 newId)) (hM:h.get? C'=some (excClassObj nm' q' C' N' bs' bm' hdct' sn' sub' ab' col' dd' j0 j1 j2 j3 j5 newId')) (he:h.get? e=some oe) (hcls:oe.cls = .ref C)
  (hbase:bm'.contains (.type "BaseException")=true) (hsub:(Value.ref C::bm).contains (.ref C')=b)
  (hq:Q b ⟨h,g,d,t,os⟩):wpAny M A (excMatches (.ref e) (.ref C')) Q E ⟨h,g,d,t,os⟩:=by
 have hcB:(Value.ref C'::bm').contains (.type "BaseException")=true:=by rw[List.contains_cons,hbase,Bool.or_true]
 have f:=tc_notTuple;cases b
 all_goals unfold excMatches
 all_goals repeat (first | (with_reducible refine wpAny_loadPart_at he ?_;rw[hcls])|with_reducible refine wpAny_loadPart_at hM ?_ | (with_reducible refine wpAny_isSubtype_exc hM ?_;rw[hcB]) | (with_reducible refine wpAny_isSubtype_exc hC ?_;rw[hsub])|wp_step)
 all_goals first|exact hq|exact wpAny_pure hq
end
inductive PHs(X:Cx):List ExceptHandler->List (Addr×TS)->Prop
 |nil:PHs X [] []
 | cons {x:Str} {M:Addr} {b₀:Stmt} {suite:List Stmt} {np hpos:Pos} {rest:List ExceptHandler} {ts:TS} {tr:List (Addr×TS)} (hm:X.mg x=some (.ref M)) (hM:catches X.K M=true) (hg:X.env.scope.names.lookup x=some .globalImplicit) (hdb:(x == ("__debug__":Str))=false)
   (hs:∀ e,PSs (X.caught e) (b₀::suite) ts) (hr:PHs X rest tr):PHs X (.ExceptHandler (some (.Name x np)) none (b₀::suite) hpos::rest) ((M,ts):: tr)
def pick(K:W.Frag)(C:Addr)(D:Ends)(σ:St)(H:Hp):List (Addr×TS)->Prop
 |[]=>False
 |(M,ts):: r=>(under K C M=true/\ts D σ H)\/(under K C M=false/\pick K C D σ H r)
def Mf(K:W.Frag)(tb:TSX)(hs:List (Addr×TS)):TS:=fun D σ H=>tb D (fun c _ H1=>∃ C,c = .ref C/\(j8 K C).isSome=true/\pick K C D σ H1 hs) σ H
section
variable{X:Cx}{pins:List (Addr×Obj)}{σ:St}
theorem handles{D:Ends}{H1 H2:Hp}{s1 s2:Shared}{a C:Addr}{B h5:Heap}{a0:Value}(I1:Inv X pins σ H1 s1)(hstk:X.stack=X.env::X.outer)(fos:s2.os=s1.os)(fbare:AllBare s2.gens)(fun_:Un (frs X.stack) [] H1 H2 s1.heap s2.heap)(fhok:HOk X.prog X.w H2 s2.heap)
  (hst:∀ b o,s1.heap.get? b=some o->H1 b=none->b∉frs X.stack->B.get? b=some o) (hth:∀ b o,s1.heap.get? b=some o->b∉frs X.stack->∃ o',B.get? b=some o') (htr:∀ b,H2 b≠none->∃ o,s2.heap.get? b=some o/\B.get? b=some o)
  (fl5:Heap.FlyingW B X.stack a (.ref C) a0 h5) (sm:s2.heap.UpToSlots h5) {bm:List Value} (q1:j8 X.K C=some bm):
  ∀{hs:List ExceptHandler}{l:List (Addr×TS)},PHs X hs l->pick X.K C D σ H2 l->wpAny (model X.prog X.w) X.A (handleBy (.ref a) X.env hs) (SP X pins D) X.xe { s2 with heap:=h5 }:=by
 intro hs l P;have I5:Inv X pins σ H2 { s2 with heap:=h5 }:=I1.landed hstk fos fbare fun_ fhok hst hth htr fl5 sm;obtain⟨ob,hob,hobc⟩:=fl5.there;have KI:X.K.In h5:=I5.kIn
 induction P with
 |nil=>intro k;exact k.elim
 | @cons x M b₀ suite np hpos rest ts tr hm hM hg hdb hs' hr ih =>
  intro k;refine wpAny_handleBy_cons (codeAny_handlers_test (iy (X:=X.caught a) (I5.caught a) hg hm ?_ hdb)) (by intro q;cases q)
  obtain⟨bm',q3,q4⟩:∃ bm,j8 X.K M=some bm/\bm.contains (.type "BaseException")=true:=by
   unfold catches at hM;cases e:j8 X.K M with
   |none=>rw[e]at hM;cases hM
   |some bm=>rw[e]at hM;exact⟨bm,rfl,hM⟩
  obtain⟨_,_,_,_,_,_,_,_,_,_,_,_,_,_,_,_,oC⟩:=uP KI q1;obtain⟨_,_,_,_,_,_,_,_,_,_,_,_,_,_,_,_,oM⟩:=uP KI q3;have eu:under X.K C M=(Value.ref C::bm).contains (.ref M):=by unfold under;rw[q1];rfl
  rcases k with⟨hu,k⟩|⟨hu,k⟩
  . rw[eu]at hu
    refine mL oC oM hob hobc q4 hu (codeAny_handlers_suite ?_);refine lands_againW fl5 fun h6 fl6 sm6=>?_
    have I6:Inv X pins σ H2 { s2 with heap:=h6 }:=I1.landed hstk fos fbare fun_ fhok hst hth htr fl6 (sm.trans sm6);refine wpAny_mono (hs' a pins _ _ _ D (I6.caught a) k) (fun f s9 q=>?_) fun _ _ z=>False.elim z
    cases f with
    |next=>obtain⟨σ',H',I9,q⟩:=q;exact⟨_,_,I9.uncaught I1.ok,q⟩
    |brk=>obtain⟨σ',H',I9,q⟩:=q;exact⟨_,_,I9.uncaught I1.ok,q⟩
    |cont=>obtain⟨σ',H',I9,q⟩:=q;exact⟨_,_,I9.uncaught I1.ok,q⟩
    |ret u=>obtain⟨v,σ',H',I9,r,q⟩:=q;exact⟨v,_,_,I9.uncaught I1.ok,r,q⟩
  . rw[eu]at hu
    exact mL oC oM hob hobc q4 hu (ih k)
theorem xf{body:List Stmt}{tb:TSX}{hs:List ExceptHandler}{l:List (Addr×TS)}{pos:Pos}(hb:Kh X body tb)(P:PHs X hs l)(hne:hs≠[]:=by exact List.cons_ne_nil _ _)
  (hstk:X.stack=X.env::X.outer:=by rfl) (hfr:X.env.frame=some X.env.locals:=by rfl):
  PS X (.Try body hs [] [] pos) (Mf X.K tb l):=by
 intro pins s σ H D I h
 obtain⟨h0,hs0,rfl⟩:∃ h0 hs0,hs=h0::hs0:=by
  cases hs with
  |nil=>exact absurd rfl hne
  |cons a b=>exact⟨a,b,rfl⟩
 refine wpAny_Try_except (wpAny_mono (hb pins s σ H D _ I h) (fun f s1 q=>?_) fun e s2 q=>?_)
 . cases f with
   |next=>exact wpAny_execs_nil q
   |ret v=>exact q
   |brk=>exact q
   |cont=>exact q
 obtain⟨H1,s1,I1,a,C,H2,ea,F,C',ec,hu,k⟩:=q;subst ea;cases ec;obtain⟨fos,fbare,fun_,fhok,ffree,B,a0,hfl,hst,hth,htr⟩:=F;have hfrm:X.A.frames=some (X.env::X.outer):=by rw[<- hstk];exact I1.ok.frames
 rw[hstk]at hfl;refine wpAny_looks_onW hfrm hfr hfl fun h4 held4 sm4=>?_
 refine wpAny_landsW held4 fun h5 fl5 sm5=>?_
 rw[<- hstk]at fl5;obtain⟨bm,q1⟩:=Option.isSome_iff_exists.mp hu;exact handles I1 hstk fos fbare fun_ fhok hst hth htr fl5 (sm4.trans sm5) q1 P k
end
end L2
namespace PySem
open PyProof.Rows Builtin.Str
theorem jC(c:Nat):(fun d=>(⟨#[c]⟩:Str).cps.contains d)=fun d=>d == c:=by
 funext d
 show(#[c]:Array Nat).contains d=_
 by_cases e:d=c <;> simp[e]
theorem iI(p:Nat->Bool):∀ l:List Nat,l.drop (l.takeWhile p).length=l.dropWhile p
 |[]=>rfl
 | a::r=>by
  by_cases h:p a=true
  . rw[List.takeWhile_cons_of_pos h,List.dropWhile_cons_of_pos h]
    exact iI p r
  . rw[List.takeWhile_cons_of_neg h,List.dropWhile_cons_of_neg h]
    rfl
theorem BP(p:Nat->Bool):∀ l:List Nat,(l.takeWhile p).length <= l.length
 |[]=>qnr _
 | a::r=>by
  by_cases h:p a=true
  . rw[List.takeWhile_cons_of_pos h]
    have:=BP p r;show(r.takeWhile p).length+1<=r.length+1;omega
  . rw[List.takeWhile_cons_of_neg h]
    exact qnz _
theorem Ew(x:Str)(c:Nat):(Txt.lstripChars x ⟨#[c]⟩).cps.toList=x.cps.toList.dropWhile (· == c):=by
 unfold Txt.lstripChars;rw[stripBy_eq,StrLaws.strSub_toList];show((x.cps.toList.drop (x.cps.toList.takeWhile (fun d=>(⟨#[c]⟩:Str).cps.contains d)).length).take (x.length - (x.cps.toList.takeWhile (fun d=>(⟨#[c]⟩:Str).cps.contains d)).length))=_;rw[jC,iI];refine List.take_of_length_le ?_;rw[<- iI,List.length_drop];have:x.length=x.cps.toList.length:=Array.length_toList.symm;omega
theorem Jf(x:Str)(c:Nat):(Txt.stripChars x ⟨#[c]⟩).cps.toList=((x.cps.toList.dropWhile (· == c)).reverse.dropWhile (· == c)).reverse:=by
 unfold Txt.stripChars;rw[stripBy_eq,StrLaws.strSub_toList];have hx:x.length=x.cps.toList.length:=Array.length_toList.symm
 have e:stripLo (fun d=>(⟨#[c]⟩:Str).cps.contains d) true x=(x.cps.toList.takeWhile (fun d=>d == c)).length:=by
  rw[jC]
  rfl
 show(x.cps.toList.drop (stripLo (fun d=>(⟨#[c]⟩:Str).cps.contains d) true x)).take ((x.length - ((x.cps.toList.drop (stripLo (fun d=>(⟨#[c]⟩:Str).cps.contains d) true x)).reverse.takeWhile (fun d=>(⟨#[c]⟩:Str).cps.contains d)).length) - stripLo (fun d=>(⟨#[c]⟩:Str).cps.contains d) true x)=_;rw[e,iI,jC,<- iI (fun d=>d == c) (x.cps.toList.dropWhile (fun d=>d == c)).reverse,List.drop_reverse,List.reverse_reverse]
 congr 1
 have h1:(x.cps.toList.dropWhile (fun d=>d == c)).length+(x.cps.toList.takeWhile (fun d=>d == c)).length=x.cps.toList.length:=by
  rw[<- iI,List.length_drop];have:=BP (fun d=>d == c) x.cps.toList;omega
 omega
def dM(c:Nat):List Nat->List (List Nat)
 |[]=>[[]]
 | d::r=>if d=c then []:: dM c r else match dM c r with
  |[]=>[[d]]
  |p::ps=>(d::p):: ps
theorem iJ(c:Nat):∀(u v:List Nat),c∉u->dM c (u++v)=match dM c v with
  |[]=>[u]
  |p::ps=>(u++p):: ps
 | [], v,_=>by
  show dM c v=_;cases h:dM c v with
  | nil =>
   cases v with
   |nil=>cases h
   | cons d r =>
    unfold dM at h
    split at h
    . cases h
    . split at h <;> cases h
  |cons p ps=>rfl
 | d::r,v,h=>by
  have h1:¬ d=c:=fun e=>h (e ▸ qms)
  show(if d=c then _ else match dM c (r++v)with | []=>[[d]] | p::ps=>(d::p):: ps)=_;rw[qnZ h1,iJ c r v fun z=>h (qmm _ z)];cases dM c v <;> rfl
theorem j9(c:Nat):∀ ps:List Str,ps≠[]->(∀ p∈ps,c∉p.cps.toList)->dM c (Str.join ⟨#[c]⟩ ps).cps.toList=ps.map (·.cps.toList)
 |[],h,_=>absurd rfl h
 | [p],_,h=>by
  show dM c p.cps.toList=[p.cps.toList]
  have:=iJ c p.cps.toList [] (h p qms);rw[List.append_nil]at this;rw[this];show [p.cps.toList++[]]=_;rw[List.append_nil]
 | p::q::r,_,h=>by
  have ih:=j9 c (q::r) (List.cons_ne_nil _ _) fun z hz=>h z (qmm _ hz)
  show dM c (p++⟨#[c]⟩++Str.join ⟨#[c]⟩ (q::r)).cps.toList=_
  have e:(p++⟨#[c]⟩++Str.join ⟨#[c]⟩ (q::r)).cps.toList=p.cps.toList++(c::(Str.join ⟨#[c]⟩ (q::r)).cps.toList):=by
   show(p.cps ++ #[c]++(Str.join ⟨#[c]⟩ (q::r)).cps).toList=_;simp
  rw[e,iJ c _ _ (h p qms)];have e2:dM c (c::(Str.join ⟨#[c]⟩ (q::r)).cps.toList)=[]:: dM c (Str.join ⟨#[c]⟩ (q::r)).cps.toList:=qp rfl;rw[e2,ih];show(p.cps.toList++[]):: _=_;rw[List.append_nil]
  rfl
theorem Jg(x:Str)(c:Nat):(Txt.split x ⟨#[c]⟩).map (·.cps.toList)=dM c x.cps.toList:=by
 have h1:=StrLaws.join_split x ⟨#[c]⟩;have h2:=StrLaws.split_free x c;have h3:=split_pos x ⟨#[c]⟩;have h:=j9 c (Txt.split x ⟨#[c]⟩) (fun e=>by rw[e]at h3;exact absurd h3 (by decide)) h2;rw[h1]at h;exact h.symm
end PySem
namespace L2
open PySem PyProof.Rows
theorem BR{X:Cx}{K:W.Frag}(h:X.K=K:=by rfl):MtR X "list.count" (rCount K):=h ▸ Eu
end L2
namespace L2
open PySem PySem.Spec PyProof.Rows
def Jh:TE:=fun _ _ _=>False
theorem Ex{X:Cx}{e:Expr}:PE X e Jh:=fun _ _ _ _ _ _ h=>h.elim
end L2
namespace L2
open PySem PySem.Spec PyProof.Rows
variable{X:Cx}
inductive rJoinT(K:W.Frag)(x:V)(vs:List V)(H:Hp)(Q:VK):Prop
 |mk (z:Str) (p:Addr) (ys:List Str) (_:x = .str z) (_:vs=[.ref p]) (_:SqT K H p (ys.map V.str)) (_:(ys.map (·.length)).sum+ys.length * z.length<=16777216) (_:Q (.str (Txt.join z ys)) H)
theorem Ey:MtR X "str.join" (rJoinT X.K):=by
 intro pins s σ H x xs v us Q I rx r h;obtain⟨z,p,ys,rfl,rfl,hp,hs,q⟩:=h;obtain⟨t,rfl⟩:=rx;obtain⟨u,rfl,ru⟩:=vals1 r;cases ru;obtain⟨its,rv,pl,hz⟩:=I.tuple hp;exact join_tuple pl (by simpa using jP rv) hs fun t' k=>⟨.str _,H,I.tok k,⟨t',rfl⟩,q⟩
end L2
namespace PySem.ZL
open PySem
abbrev Np(h:Heap)(z TI TO a:Addr)(f:Bool):Prop :=
 h.get? z=some { cls:=.type "zip",dict:=none,data:=.fields #[rawInt a,.bool f,.bool false,.ref TI,.ref TO],slots:=#[] }
section
variable{prog:Program}{w:World}{A:Around}{E:Value->Shared->Prop}{s:Shared}
structure St(h:Heap)(z TI TO i1 i2 l1 l2 S:Addr)(i:Nat)(xs ys:Array Value):Prop where
 f:(i=0/\IsZip h z TI TO .none)\/∃ a f oa,Np h z TI TO a f/\h.get? a=some oa/\a≠z/\a≠TO/\a≠i1/\a≠i2/\a≠S
 ti:IsPair h TI (.ref i1) (.ref i2)
 to:∃ a b,IsPair h TO a b
 a1:h.IsListIter i1 l1 i
 a2:h.IsListIter i2 l2 i
 b1:h.IsList l1 xs
 b2:h.IsList l2 ys
end
section
variable{prog:Program}{w:World}{A:Around}{s:Shared}{R:Result->Shared->Prop}{xs ys:Array Value}
end
section
variable{prog:Program}{w:World}{A:Around}{E:Value->Shared->Prop}{s:Shared}{xs ys:Array Value}
end
end PySem.ZL
namespace L2
open PySem PySem.Spec PyProof.Rows
end L2
namespace Mc
open PySem PySem.Spec PyProof.Rows
inductive Op where
 |and|or|thn|same
 deriving DecidableEq
def Op.str:Op->Str
 | .and => "and"
 | .or => "or"
 | .thn => "then"
 | .same => "same"
inductive Tr where
 |nm (x:Str)|yes|no|not (t:Tr)|bin (o:Op) (a b:Tr)
def Tr.tag:Tr->Str
 | .nm _ => "name"
 | .yes => "yes"
 | .no => "no"
 | .not _ => "not"
 | .bin o _ _=>o.str
def Tr.kids:Tr->List Tr
 | .not t=>[t]
 | .bin _ a b=>[a,b]
 |_=>[]
def Tr.depth:Tr->Nat
 | .not t=>t.depth+1
 | .bin _ a b=>max a.depth b.depth+1
 |_=>1
def Tr.size:Tr->Nat
 | .not t=>t.size+1
 | .bin _ a b=>a.size+b.size+1
 |_=>1
def Tr.names:Tr->List Str
 | .nm x=>[x]
 | .not t=>t.names
 | .bin _ a b=>a.names++b.names
 |_=>[]
def Tr.isNm:Tr->Bool
 | .nm _=>true
 |_=>false
theorem Tr.depth_pos(t:Tr):1<=t.depth:=by cases t <;> simp[Tr.depth]
theorem jD(t:Tr):(t.tag=("name":Str))↔t.isNm=true:=by
 cases t with
 |nm x=>simp[Tr.tag,Tr.isNm]
 |yes=>simp only[Tr.tag,Tr.isNm];decide +kernel
 |no=>simp only[Tr.tag,Tr.isNm];decide +kernel
 |not t=>simp only[Tr.tag,Tr.isNm];decide +kernel
 |bin o a b=>cases o <;> (simp only[Tr.tag,Tr.isNm,Op.str];decide +kernel)
def je(ts:List Tr):Nat:=ts.foldr (fun t d=>max t.depth d) 0
def dh(ts:List Tr):Nat:=(ts.map Tr.size).sum
theorem Ez(a b:List Tr):je (a++b)=max (je a) (je b):=by
 induction a with
 |nil=>simp[je]
 |cons t r ih=>simp only[List.cons_append,je,List.foldr_cons]at *;rw[ih];omega
theorem sJ(t:Tr):t.depth=je t.kids+1:=by
 cases t <;> simp[Tr.kids,je,Tr.depth]
theorem qu:∀ ts:List Tr,ts≠[]->je ts=je (ts.flatMap Tr.kids)+1
 | [t],_=>by
  have:=sJ t;simp only[List.flatMap_cons,List.flatMap_nil,List.append_nil];show max t.depth 0=_;omega
 | t::u::r,_=>by
  have h1:=qu (u::r) (by simp);have h2:=sJ t;rw[List.flatMap_cons,Ez];show max t.depth (je (u::r))=_;omega
theorem BV(a b:List Tr):dh (a++b)=dh a+dh b:=by simp[dh]
theorem yu(t:Tr):t.size=dh t.kids+1:=by
 cases t <;> simp[Tr.kids,dh,Tr.size]
theorem iT(ts:List Tr):dh ts=dh (ts.flatMap Tr.kids)+ts.length:=by
 induction ts with
 |nil=>rfl
 | cons t r ih =>
  rw[List.flatMap_cons,BV];show t.size+dh r=_;have:=yu t;simp only[List.length_cons];omega
theorem qw(ts:List Tr):ts.length<=dh ts:=by rw[iT];omega
def cQ(ts:List Tr):List Str:=ts.flatMap Tr.names
theorem yw(t:Tr)(x:Str):x∈t.names↔t = .nm x\/x∈cQ t.kids:=by
 cases t with
 | nm y =>
  simp only[Tr.names,Tr.kids,cQ,List.flatMap_nil,List.mem_singleton,List.not_mem_nil,or_false,Tr.nm.injEq];exact eq_comm
 |yes=>simp[Tr.names,Tr.kids,cQ]
 |no=>simp[Tr.names,Tr.kids,cQ]
 |not t=>simp[Tr.names,Tr.kids,cQ]
 |bin o a b=>simp[Tr.names,Tr.kids,cQ]
theorem nq(ts:List Tr)(x:Str):x∈cQ ts↔Tr.nm x∈ts\/x∈cQ (ts.flatMap Tr.kids):=by
 induction ts with
 |nil=>simp[cQ]
 | cons t r ih =>
  have e1:cQ (t::r)=t.names++cQ r:=rfl;have e2:cQ ((t::r).flatMap Tr.kids)=cQ t.kids++cQ (r.flatMap Tr.kids):=by simp[cQ]
  rw[e1,e2,List.mem_append,List.mem_append,yw,ih,List.mem_cons]
  constructor
  . rintro((h|h) | (h|h))
    . exact .inl (.inl h.symm)
    . exact .inr (.inl h)
    . exact .inl (.inr h)
    . exact .inr (.inr h)
  . rintro((h|h) | (h|h))
    . exact .inl (.inl h.symm)
    . exact .inr (.inl h)
    . exact .inl (.inr h)
    . exact .inr (.inr h)
theorem jE{α:Type}[DecidableEq α]:∀{a b:List α},a.Nodup->(∀ x∈a,x∈b)->a.length<=b.length
 |[],_,_,_=>qnz _
 | x::r,b,ha,h=>by
  have hx:=h x qms;have h1:=jE (b:=b.erase x) (List.nodup_cons.mp ha).2 fun y hy=>(List.mem_erase_of_ne (fun e=>by subst e;exact(List.nodup_cons.mp ha).1 hy)).mpr (h y (qmm _ hy))
  have h2:=List.length_erase_of_mem hx;have h3:0<b.length:=List.length_pos_of_mem hx;simp only[List.length_cons];omega
end Mc
namespace Mc
open PySem
abbrev Str.l(x:Str):List Nat:=x.cps.toList
theorem Ji{a b:Str}(h:a.cps.toList=b.cps.toList):a=b:=by
 have e2:a.cps=b.cps:=Array.toList_inj.mp h;cases a;cases b;exact congrArg Str.mk e2
theorem ue(a b:Str):(a++b).cps.toList=a.cps.toList++b.cps.toList:=by
 show(a.cps++b.cps).toList=_;simp
theorem lU(a:Str):a.length=a.cps.toList.length:=by
 show a.cps.size=_;simp
theorem Kv:∀ ys:List Str,(Txt.join (⟨#[]⟩:Str) ys).cps.toList=ys.flatMap (·.cps.toList):=by
 have gen:∀ ys:List Str,(Str.join (⟨#[]⟩:Str) ys).cps.toList=ys.flatMap (·.cps.toList):=by
  intro ys
  induction ys with
  |nil=>rfl
  | cons x r ih =>
   cases r with
   | nil =>
    show x.cps.toList=_;simp
   | cons y q =>
    show(x++(⟨#[]⟩:Str)++Str.join ⟨#[]⟩ (y::q)).cps.toList=_;rw[ue,ue,ih,List.flatMap_cons];simp
 intro ys;show(Builtin.Str.glued _ ys).cps.toList=_;rw[StrLaws.glued_eq_join];exact gen ys
abbrev letters:Str := "abcdefghijklmnopqrstuvwxyz"
theorem yx(i:Nat)(h:i<26):letters.cps.toList[i]? = some (97+i):=by
 have:∀ i:_root_.Fin 26,letters.cps.toList[i.val]? = some (97+i.val):=by decide +kernel
 exact this ⟨i,h⟩
theorem wk:letters.length=26:=by decide +kernel
structure IsName(y:Str):Prop where
 pos:1<=y.cps.toList.length
 le:y.cps.toList.length<=8
 ok:∀ c∈y.cps.toList,97<=c/\c<=122
end Mc
namespace Mc
open PySem PySem.Spec PyProof.Rows L2
inductive TrAt(H:Hp):V->Tr->Prop where
 |nm {a:Addr} {x:Str}:H a=some (.tup [.str "name",.str x])->TrAt H (.ref a) (.nm x)
 |yes {a:Addr}:H a=some (.tup [.str "yes"])->TrAt H (.ref a) .yes
 |no {a:Addr}:H a=some (.tup [.str "no"])->TrAt H (.ref a) .no
 |not {a:Addr} {v:V} {t:Tr}:H a=some (.tup [.str "not",v])->TrAt H v t->TrAt H (.ref a) (.not t)
 |bin {a:Addr} {o:Op} {v u:V} {t t':Tr}:H a=some (.tup [.str o.str,v,u])->TrAt H v t->TrAt H u t'->TrAt H (.ref a) (.bin o t t')
def Tups(H H':Hp):Prop:=∀ b xs,H b=some (.tup xs)->H' b=some (.tup xs)
theorem Tups.trans{H H1 H2:Hp}(a:Tups H H1)(b:Tups H1 H2):Tups H H2:=fun c o h=>b c o (a c o h)
theorem _root_.L2.Same.tups{H H':Hp}(s:Same H H'):Tups H H':=fun b xs h=>s b _ h
theorem TrAt.mono{H H':Hp}(k:Tups H H'){v:V}{t:Tr}(h:TrAt H v t):TrAt H' v t:=by
 induction h with
 |nm e=>exact .nm (k _ _ e)
 |yes e=>exact .yes (k _ _ e)
 |no e=>exact .no (k _ _ e)
 |not e _ ih=>exact .not (k _ _ e) ih
 |bin e _ _ ih1 ih2=>exact .bin (k _ _ e) ih1 ih2
theorem TrAt.open{H:Hp}{v:V}{t:Tr}(h:TrAt H v t):∃ a rest,v = .ref a/\H a=some (.tup (.str t.tag::rest))/\(t.isNm=true->∃ x,t = .nm x/\rest=[.str x])/\(t.isNm=false->Paired (TrAt H) rest t.kids):=by
 cases h with
 |nm e=>exact⟨_,_,rfl,e,fun _=>⟨_,rfl,rfl⟩,fun z=>by cases z⟩
 |yes e=>exact⟨_,_,rfl,e,(fun z=>by cases z),fun _=>.nil⟩
 |no e=>exact⟨_,_,rfl,e,(fun z=>by cases z),fun _=>.nil⟩
 |not e h1=>exact⟨_,_,rfl,e,(fun z=>by cases z),fun _=>.cons h1 .nil⟩
 |bin e h1 h2=>exact⟨_,_,rfl,e,(fun z=>by cases z),fun _=>.cons h1 (.cons h2 .nil)⟩
theorem cU{H H':Hp}(k:Tups H H'){us:List V}{ts:List Tr}(h:Paired (TrAt H) us ts):Paired (TrAt H') us ts:=Paired.mapP h fun _ _ q=>q.mono k
theorem eE{α β:Type}{F:α->β->Prop}:∀{a c:List α}{b d:List β},Paired F a b->Paired F c d->Paired F (a++c) (b++d)
 |_,_,_,_,.nil,s=>s
 |_,_,_,_,.cons r t,s=>.cons r (eE t s)
theorem cI{α β:Type}{F:α->β->Prop}:∀{a:List α}{b:List β},Paired F a b->∀(i:Nat) x,a[i]? = some x->∃ y,b[i]? = some y/\F x y
 |_,_,.nil,i,x,h=>by simp at h
 | _,_,.cons r t,0,x,h=>by
  rw[List.getElem?_cons_zero]at h;cases h;exact⟨_,rfl,r⟩
 | _,_,.cons r t,i+1,x,h=>by
  rw[List.getElem?_cons_succ]at h;exact cI t i x h
theorem EY(x:V)(rest:List V):gD (x::rest) (some 1) none=rest:=by
 unfold gD HT.sIx;simp
theorem uX(x:V)(rest:List V):¬ (HT.sIx (x::rest).length 0 (some 1)=0/\HT.sIx (x::rest).length (x::rest).length none=(x::rest).length):=by
 unfold HT.sIx;simp
theorem aD{H:Hp}{l:Addr}{o:HO}(h:H l=none):Same H (upd H l o):=fun b u e=>by
 rw[aC (aH e h)];exact e
theorem Fb{H:Hp}{b:Addr}{xs:List V}{o:HO}(h:H b=some (.lst xs)):Tups H (upd H b o):=fun c ys e=>by
 rw[aC (fun z=>by subst z;rw[h]at e;cases e)];exact e
theorem BW{H H':Hp}(s:Same H H'){l:Addr}(h:H' l=none):H l=none:=s.free h
end Mc
namespace Mc
open PySem PySem.Spec PyProof.Rows L2
theorem BX{kvs:List (Key×V)}{ys:List Str}(h:kvs.map (·.1)=ys.map Sum.inr)(x:Str)(v:V):
  (putK kvs (Sum.inr x:Key) v).map (·.1)=(if x∈ys then ys else ys++[x]).map Sum.inr:=by
 have hmem:((kvs.any fun kv=>decide (kv.1=(Sum.inr x:Key)))=true)↔x∈ys:=by
  rw[List.any_eq_true]
  constructor
  . rintro⟨p,hp,e⟩
    have e:=qod e;have:(Sum.inr x:Key)∈kvs.map (·.1):=List.mem_map.mpr ⟨p,hp,e⟩;rw[h]at this;obtain⟨y,hy,e2⟩:=List.mem_map.mp this;cases e2;exact hy
  . intro hx
    have:(Sum.inr x:Key)∈kvs.map (·.1):=by rw[h];exact List.mem_map.mpr ⟨x,hx,rfl⟩
    obtain⟨p,hp,e⟩:=List.mem_map.mp this;exact⟨p,hp,qdt e⟩
 unfold putK
 by_cases e:x∈ys
 . rw[qp (hmem.mpr e),qp e,List.map_map,<- h]
   apply List.map_congr_left;intro p _;show(if p.1=(Sum.inr x:Key)then(p.1,v)else p).1=p.1
   split <;> rfl
 . rw[qnZ (fun z=>e (hmem.mp z)),qnZ e,List.map_append,h,List.map_append]
   rfl
theorem lk{n:Nat}(h:n<=1000):n<=sizeLine:=Nat.le_of_lt (fB h)
theorem lks{n:Nat}(h:n<=1000:=by first|exact Nat.le_of_ble_eq_true rfl|simp):n<=sizeLine:=lk h
theorem yz{ys:List Str}(h:ys.Nodup){x:Str}(hx:x∉ys):(ys++[x]).Nodup:=wO h hx
end Mc
namespace Mc
open PySem
theorem pK(a:Nat):(Builtin.bitNot (Builtin.bitNot (a:Int)))=a:=by unfold Builtin.bitNot;omega
theorem band(a b:Nat):Builtin.bitAnd (a:Int) (b:Int)=((a &&& b:Nat):Int):=by
 unfold Builtin.bitAnd;rw[qdt (Int.natCast_nonneg a),qdt (Int.natCast_nonneg b)]
 rfl
theorem bor(a b:Nat):Builtin.bitOr (a:Int) (b:Int)=((a ||| b:Nat):Int):=by
 unfold Builtin.bitOr Builtin.bitAnd;have h1:¬ (0:Int)<=Builtin.bitNot (a:Int):=by unfold Builtin.bitNot;omega
 have h2:¬ (0:Int)<=Builtin.bitNot (b:Int):=by unfold Builtin.bitNot;omega
 rw[qdf h1,qdf h2];show Builtin.bitNot (Builtin.bitNot (((Builtin.bitNot (Builtin.bitNot (a:Int))).toNat ||| (Builtin.bitNot (Builtin.bitNot (b:Int))).toNat:Nat):Int))=_;rw[pK,pK,pK]
 rfl
theorem wu:∀(a b:Nat),(a ^^^ b)+(a &&& b)=a ||| b:=by
 intro a
 induction a using Nat.strongRecOn with
 | ind a ih =>
  intro b
  by_cases h:a=0
  . subst h
    simp
  . have q:=ih (a / 2) (by omega) (b / 2)
    have e1:(a ^^^ b) / 2=a / 2 ^^^ b / 2:=Nat.xor_div_two;have e2:(a &&& b) / 2=a / 2 &&& b / 2:=Nat.and_div_two;have e3:(a ||| b) / 2=a / 2 ||| b / 2:=Nat.or_div_two
    have m:∀ x:Nat,x % 2=if x.testBit 0 then 1 else 0:=fun x=>by
     rw[Nat.testBit_zero]
     by_cases z:x % 2=1
     . simp[z]
     . simp[z];omega
    have f1:=m (a ^^^ b);have f2:=m (a &&& b);have f3:=m (a ||| b);rw[Nat.testBit_xor]at f1;rw[Nat.testBit_and]at f2;rw[Nat.testBit_or]at f3;have d1:=Nat.div_add_mod (a ^^^ b) 2;have d2:=Nat.div_add_mod (a &&& b) 2;have d3:=Nat.div_add_mod (a ||| b) 2;rw[e1]at d1;rw[e2]at d2;rw[e3]at d3
    have key:∀(u v:Bool)(x y z:Nat),x=(if (u ^^ v)=true then 1 else 0)->y=(if (u && v)=true then 1 else 0)->z=(if (u || v)=true then 1 else 0)->x+y=z:=by
     intro u v x y z h1 h2 h3;subst h1 h2 h3;cases u <;> cases v <;> rfl
    have:=key _ _ _ _ _ f1 f2 f3;omega
theorem bxor(a b:Nat):Builtin.bitXor (a:Int) (b:Int)=((a ^^^ b:Nat):Int):=by
 unfold Builtin.bitXor;rw[bor,band];have:=wu a b;omega
def fJ(p:Nat->Bool):Nat->Nat
 | 0=>0
 |m+1=>fJ p m+if p m=true then 2 ^ m else 0
theorem oA(p:Nat->Bool):∀ m,fJ p m<2 ^ m
 | 0=>Nat.one_pos
 | m+1=>by
  have:=oA p m;have e:2 ^ (m+1)=2 ^ m+2 ^ m:=by rw[Nat.pow_succ];omega
  show fJ p m+(if p m=true then 2 ^ m else 0)<_
  split <;> omega
theorem dN(p:Nat->Bool):∀ m i,(fJ p m).testBit i=(decide (i<m) && p i)
 | 0,i=>by simp[fJ]
 | m + 1,i=>by
  have hlt:=oA p m;have ih:=dN p m
  by_cases h1:i<m
  . have e:(fJ p (m+1)).testBit i=(fJ p m).testBit i:=by
     show(fJ p m+if p m=true then 2 ^ m else 0).testBit i=_
     split
     . rw[Nat.add_comm];exact Nat.testBit_two_pow_add_gt h1 _
     . rfl
    rw[e,ih i,qdt h1,qdt (show i<m+1 by omega)]
  . by_cases h2:i=m
    . subst h2
      rw[qdt (show i<i+1 by omega)];show(fJ p i+if p i=true then 2 ^ i else 0).testBit i=_;have z:(fJ p i).testBit i=false:=Nat.testBit_lt_two_pow hlt;cases hp:p i with
      |true=>rw[qp rfl,Nat.add_comm,Nat.testBit_two_pow_add_eq,z];rfl
      |false=>rw[qnZ (by decide)];exact z
    . rw[qdf (show ¬ i<m+1 by omega)]
      have:=oA p (m+1);have e:2 ^ (m+1)<=2 ^ i:=Nat.pow_le_pow_right (by decide) (by omega);exact Nat.testBit_lt_two_pow (by omega)
theorem Fd(m:Nat):fJ (fun _=>true) m=2 ^ m - 1:=by
 refine Nat.eq_of_testBit_eq fun i=>?_
 rw[dN,Nat.testBit_two_pow_sub_one,Bool.and_true]
theorem BZ(m:Nat):fJ (fun _=>false) m=0:=by
 refine Nat.eq_of_testBit_eq fun i=>?_
 rw[dN,Nat.zero_testBit,Bool.and_false]
def bw(g:Str->Bool):Tr->Bool
 | .nm x=>g x
 | .yes=>true
 | .no=>false
 | .not t=>!bw g t
 | .bin .and a b=>bw g a && bw g b
 | .bin .or a b=>bw g a || bw g b
 | .bin .thn a b=>!bw g a || bw g b
 | .bin .same a b=>bw g a == bw g b
def oE:Op->Nat×Nat->Nat×Nat->Nat×Nat
 | .and,l,r=>(l.1 &&& r.1,l.2 ||| r.2)
 | .or,l,r=>(l.1 ||| r.1,l.2 &&& r.2)
 | .thn,l,r=>(l.2 ||| r.1,l.1 &&& r.2)
 | .same,l,r=>((l.1 &&& r.1) ||| (l.2 &&& r.2),(l.1 &&& r.2) ||| (l.2 &&& r.1))
def cR(f:Str->Nat×Nat)(e:Nat):Tr->Nat×Nat
 | .nm x=>f x
 | .yes=>(e,0)
 | .no=>(0,e)
 | .not t=>((cR f e t).2,(cR f e t).1)
 | .bin o a b=>oE o (cR f e a) (cR f e b)
theorem iU{f:Str->Nat×Nat}{e i:Nat}{g:Str->Bool}(he:e.testBit i=true):∀{t:Tr},(∀ x∈t.names,(f x).1.testBit i=g x/\(f x).2.testBit i = !g x) ->
  (cR f e t).1.testBit i=bw g t/\(cR f e t).2.testBit i = !bw g t
 | .nm x,h=>h x qms
 | .yes,_=>⟨he,Nat.zero_testBit i⟩
 | .no,_=>⟨Nat.zero_testBit i,he⟩
 | .not t,h=>by
  obtain⟨h1,h2⟩:=iU he (t:=t) h;exact⟨h2,by show(cR f e t).1.testBit i = !!bw g t;rw[h1,Bool.not_not]⟩
 | .bin o a b,h=>by
  obtain⟨a1,a2⟩:=iU he (t:=a) fun x hx=>h x (qal _ hx)
  obtain⟨b1,b2⟩:=iU he (t:=b) fun x hx=>h x (qar _ hx)
  cases o <;> simp only[cR,oE,bw,Nat.testBit_and,Nat.testBit_or,a1,a2,b1,b2] <;> cases bw g a <;> cases bw g b <;> first|exact⟨rfl,rfl⟩|exact⟨trivial,trivial⟩|decide
theorem jT{f:Str->Nat×Nat}{e i:Nat}(he:e.testBit i=false):∀{t:Tr},(∀ x∈t.names,(f x).1.testBit i=false/\(f x).2.testBit i=false) ->
  (cR f e t).1.testBit i=false/\(cR f e t).2.testBit i=false
 | .nm x,h=>h x qms
 | .yes,_=>⟨he,Nat.zero_testBit i⟩
 | .no,_=>⟨Nat.zero_testBit i,he⟩
 | .not t,h=>by
  obtain⟨h1,h2⟩:=jT he (t:=t) h;exact⟨h2,h1⟩
 | .bin o a b,h=>by
  obtain⟨a1,a2⟩:=jT he (t:=a) fun x hx=>h x (qal _ hx)
  obtain⟨b1,b2⟩:=jT he (t:=b) fun x hx=>h x (qar _ hx)
  cases o <;> simp only[cR,oE,Nat.testBit_and,Nat.testBit_or,a1,a2,b1,b2] <;> first|exact⟨rfl,rfl⟩|exact⟨trivial,trivial⟩|decide
theorem ie{f h:Str->Nat×Nat}{e:Nat}:∀{t:Tr},(∀ x∈t.names,f x=h x)->cR f e t=cR h e t
 | .nm x,q=>q x qms
 | .yes,_=>rfl
 | .no,_=>rfl
 | .not t,q=>by
  have:=ie (e:=e) (t:=t) q;show((cR f e t).2,(cR f e t).1)=_;rw[this];rfl
 | .bin o a b,q=>by
  have e1:=ie (e:=e) (t:=a) fun x hx=>q x (qal _ hx)
  have e2:=ie (e:=e) (t:=b) fun x hx=>q x (qar _ hx)
  show oE o _ _=oE o _ _;rw[e1,e2]
def inW(ns:List Str)(i:Nat)(x:Str):Bool:=i.testBit (ns.idxOf x)
def du(n k:Nat):Nat:=fJ (fun i=>i.testBit k) (2 ^ n)
def cg(n:Nat):Nat:=2 ^ (2 ^ n) - 1
def aQ(ns:List Str)(t:Tr):Nat:=fJ (fun i=>bw (inW ns i) t) (2 ^ ns.length)
def aP(ns:List Str)(t:Tr):Nat:=fJ (fun i=>!bw (inW ns i) t) (2 ^ ns.length)
theorem fC(n i:Nat):(cg n).testBit i=decide (i<2 ^ n):=by unfold cg;rw[Nat.testBit_two_pow_sub_one]
def ofN(ns:List Str)(x:Str):Nat×Nat:=(du ns.length (ns.idxOf x),cg ns.length ^^^ du ns.length (ns.idxOf x))
theorem ww{ns:List Str}{t:Tr}:(cR (ofN ns) (cg ns.length) t).1=aQ ns t:=by
 refine Nat.eq_of_testBit_eq fun i=>?_
 unfold aQ;rw[dN]
 by_cases h:i<2 ^ ns.length
 . rw[qdt h,Bool.true_and]
   refine(iU (g:=inW ns i) (by rw[fC,qdt h]) fun x _=>?_).1;unfold ofN du;rw[Nat.testBit_xor,dN,fC,qdt h,Bool.true_and,Bool.true_xor];exact⟨rfl,rfl⟩
 . rw[qdf h,Bool.false_and]
   refine(jT (by rw[fC,qdf h]) fun x _=>?_).1;unfold ofN du;rw[Nat.testBit_xor,dN,fC,qdf h];exact⟨rfl,rfl⟩
theorem oW{ns:List Str}{t:Tr}:cg ns.length ^^^ aQ ns t=aP ns t:=by
 refine Nat.eq_of_testBit_eq fun i=>?_
 unfold aQ aP;rw[Nat.testBit_xor,dN,dN,fC];cases decide (i<2 ^ ns.length) <;> cases bw (inW ns i) t <;> rfl
theorem Jj(a k:Nat):((a / 2 ^ k) % 2:Nat)=if a.testBit k=true then 1 else 0:=by
 rw[Nat.testBit_eq_decide_div_mod_eq]
 by_cases h:a / 2 ^ k % 2=1
 . rw[qdt h,qp rfl,h]
 . rw[qdf h,qnZ (by decide)];omega
end Mc
namespace Mc
open PySem
theorem oF(n k i:Nat):(du n k).testBit i=(decide (i<2 ^ n) && i.testBit k):=dN _ _ _
theorem Ca(k:Nat):(2 ^ (2 ^ k) - 1) * 2 ^ (2 ^ k)=du (k+1) k:=by
 refine Nat.eq_of_testBit_eq fun i=>?_
 have e2:2 ^ (k+1)=2 ^ k+2 ^ k:=by rw[Nat.pow_succ];omega
 rw[oF,Nat.mul_comm,Nat.testBit_two_pow_mul,Nat.testBit_two_pow_sub_one]
 by_cases h1:i<2 ^ k
 . have z:i.testBit k=false:=Nat.testBit_lt_two_pow h1
   rw[z,Bool.and_false,qdf (show ¬ i ≥ 2 ^ k by omega),Bool.false_and]
 . by_cases h2:i<2 ^ (k+1)
   . have z:i.testBit k=true:=by
      have e:i=2 ^ k+(i - 2 ^ k):=by omega
      rw[e,Nat.testBit_two_pow_add_eq,Nat.testBit_lt_two_pow (show i - 2 ^ k<2 ^ k by omega)]
      rfl
     rw[z,qdt h2,qdt (show i ≥ 2 ^ k by omega),qdt (show i - 2 ^ k<2 ^ k by omega)]
   . rw[qdf h2,qdf (show ¬ i - 2 ^ k<2 ^ k by omega)]
     simp
theorem Fe{j k:Nat}(h:k<j):du j k ||| (du j k * 2 ^ (2 ^ j))=du (j+1) k:=by
 refine Nat.eq_of_testBit_eq fun i=>?_
 have e2:2 ^ (j+1)=2 ^ j+2 ^ j:=by rw[Nat.pow_succ];omega
 rw[Nat.testBit_or,oF,oF,Nat.mul_comm,Nat.testBit_two_pow_mul,oF]
 by_cases h1:i<2 ^ j
 . rw[qdt h1,qdt (show i<2 ^ (j+1)by omega),qdf (show ¬ i ≥ 2 ^ j by omega)]
   simp
 . rw [qdf h1,qdt (show i ≥ 2 ^ j by omega)]
   by_cases h2:i<2 ^ (j+1)
   . have z:(i - 2 ^ j).testBit k=i.testBit k:=by
      have e:i=2 ^ j+(i - 2 ^ j):=by omega
      conv=>rhs;rw[e]
      rw[Nat.testBit_two_pow_add_gt h]
     rw[qdt h2,qdt (show i - 2 ^ j<2 ^ j by omega),z];simp
   . rw[qdf h2,qdf (show ¬ i - 2 ^ j<2 ^ j by omega)]
     simp
theorem bG(ns:List Str)(t:Tr)(i:Nat):(aQ ns t).testBit i=(decide (i<2 ^ ns.length) && bw (inW ns i) t):=dN _ _ _
theorem Kw(ns:List Str):aQ ns .yes=cg ns.length:=Fd _
theorem Mg(ns:List Str):aQ ns .no=0:=BZ _
theorem Ky(ns:List Str)(t:Tr):aQ ns (.not t)=cg ns.length ^^^ aQ ns t:=by
 refine Nat.eq_of_testBit_eq fun i=>?_
 rw[Nat.testBit_xor,bG,bG,fC];show(decide (i<2 ^ ns.length) && !bw (inW ns i) t)=_;cases decide (i<2 ^ ns.length) <;> cases bw (inW ns i) t <;> rfl
theorem Kz(ns:List Str)(a b:Tr):aQ ns (.bin .and a b)=aQ ns a &&& aQ ns b:=by
 refine Nat.eq_of_testBit_eq fun i=>?_
 rw[Nat.testBit_and,bG,bG,bG];show(decide (i<2 ^ ns.length) && (bw (inW ns i) a && bw (inW ns i) b))=_;cases decide (i<2 ^ ns.length) <;> cases bw (inW ns i) a <;> cases bw (inW ns i) b <;> rfl
theorem Mh(ns:List Str)(a b:Tr):aQ ns (.bin .or a b)=aQ ns a ||| aQ ns b:=by
 refine Nat.eq_of_testBit_eq fun i=>?_
 rw[Nat.testBit_or,bG,bG,bG];show(decide (i<2 ^ ns.length) && (bw (inW ns i) a || bw (inW ns i) b))=_;cases decide (i<2 ^ ns.length) <;> cases bw (inW ns i) a <;> cases bw (inW ns i) b <;> rfl
theorem KC(ns:List Str)(a b:Tr):aQ ns (.bin .thn a b)=(cg ns.length ^^^ aQ ns a) ||| aQ ns b:=by
 refine Nat.eq_of_testBit_eq fun i=>?_
 rw[Nat.testBit_or,Nat.testBit_xor,bG,bG,bG,fC];show(decide (i<2 ^ ns.length) && (!bw (inW ns i) a || bw (inW ns i) b))=_;cases decide (i<2 ^ ns.length) <;> cases bw (inW ns i) a <;> cases bw (inW ns i) b <;> rfl
theorem Jk(ns:List Str)(a b:Tr):aQ ns (.bin .same a b)=(cg ns.length ^^^ aQ ns a) ^^^ aQ ns b:=by
 refine Nat.eq_of_testBit_eq fun i=>?_
 rw[Nat.testBit_xor,Nat.testBit_xor,bG,bG,bG,fC];show(decide (i<2 ^ ns.length) && (bw (inW ns i) a == bw (inW ns i) b))=_;cases decide (i<2 ^ ns.length) <;> cases bw (inW ns i) a <;> cases bw (inW ns i) b <;> rfl
def dD(rs:List Int)(side m:Nat):List Int:=((List.range m).filter fun i=>side.testBit i).map fun i=>rs.getD i 0
def sel(rs:List Int)(side:Nat):List Int:=dD rs side rs.length
theorem qx(rs:List Int)(side m:Nat):dD rs side (m+1)=dD rs side m++if side.testBit m=true then [rs.getD m 0]else []:=by
 unfold dD;rw[List.range_succ,List.filter_append,List.map_append];cases h:side.testBit m with
 |true=>simp[h]
 |false=>simp[h]
theorem jU(rs:List Int)(side m:Nat):(dD rs side m).length <= m:=by
 unfold dD;rw[qlm];refine qnt (List.length_filter_le _ _) ?_;rw[List.length_range];exact qnr _
def aV:List Int->Option Int
 |[]=>none
 |x::r=>some (r.foldl min x)
theorem nu:∀(r:List Int)(x:Int),(r.foldl min x=x\/r.foldl min x∈r)/\r.foldl min x<=x/\∀ a∈r,r.foldl min x<=a
 |[],x=>⟨.inl rfl,Int.le_refl _,fun a h=>nomatch h⟩
 | y::r,x=>by
  obtain⟨h1,h2,h3⟩:=nu r (min x y);show(r.foldl min (min x y)=x\/r.foldl min (min x y)∈y::r)/\r.foldl min (min x y)<=x/\∀ a∈y::r,r.foldl min (min x y)<=a;refine⟨?_,by omega,fun a ha=>?_⟩
  . rcases h1 with h1|h1
    . rw[h1]
      by_cases h:x<=y
      . exact .inl (by omega)
      . exact .inr (by rw[show min x y=y by omega];exact qms)
    . exact .inr (qmm _ h1)
  . rcases List.mem_cons.mp ha with rfl|ha
    . omega
    . exact h3 a ha
theorem jF{l:List Int}{M:Int}(h1:M∈l)(h2:∀ a∈l,M<=a):aV l=some M:=by
 cases l with
 |nil=>cases h1
 | cons x r =>
  obtain⟨q1,q2,q3⟩:=nu r x;show some (r.foldl min x)=some M
  have a1:r.foldl min x∈x::r:=by
   rcases q1 with q|q
   . rw[q];exact qms
   . exact qmm _ q
  have a2:=h2 _ a1
  have a3:r.foldl min x<=M:=by
   rcases List.mem_cons.mp h1 with rfl|h
   . exact q2
   . exact q3 M h
  congr 1
  omega
theorem mem_sel{rs:List Int}{sd:Nat}{x:Int}:x∈sel rs sd↔∃ i,i<rs.length/\sd.testBit i=true/\rs.getD i 0=x:=by
 unfold sel dD;rw[List.mem_map]
 constructor
 . rintro⟨i,h,rfl⟩
   obtain⟨h1,h2⟩:=List.mem_filter.mp h;exact⟨i,List.mem_range.mp h1,h2,rfl⟩
 . rintro⟨i,h1,h2,rfl⟩
   exact⟨i,List.mem_filter.mpr ⟨List.mem_range.mpr h1,h2⟩,rfl⟩
theorem cz{l:List Int}{M:Int}(h:aV l=some M):M∈l/\∀ a∈l,M<=a:=by
 cases l with
 |nil=>cases h
 | cons x r =>
  obtain⟨q1,q2,q3⟩:=nu r x;have e:r.foldl min x=M:=qsi h;rw[e]at q1 q2 q3;refine⟨?_,fun a ha=>?_⟩
  . rcases q1 with q|q
    . rw[q];exact qms
    . exact qmm _ q
  . rcases List.mem_cons.mp ha with rfl|ha
    . exact q2
    . exact q3 a ha
theorem lV{l:List Int}(h:aV l=none):l=[]:=by
 cases l with
 |nil=>rfl
 |cons x r=>cases h
theorem gW(ns:List Str)(t:Tr)(i:Nat):(aP ns t).testBit i=(decide (i<2 ^ ns.length) && !bw (inW ns i) t):=dN _ _ _
theorem Cd{ns:List Str}{rs:List Int}(h:rs.length=2 ^ ns.length)(t:Tr){x:Int}(hx:x∈rs):x∈sel rs (aP ns t)\/x∈sel rs (aQ ns t):=by
 obtain⟨i,hi,e⟩:=List.mem_iff_getElem.mp hx;have eg:rs.getD i 0=x:=by rw[List.getD,List.getElem?_eq_getElem hi];exact e
 cases hb:bw (inW ns i) t with
 |true=>exact .inr (mem_sel.mpr ⟨i,hi,by rw[bG,hb,qdt (by omega)];rfl,eg⟩)
 |false=>exact .inl (mem_sel.mpr ⟨i,hi,by rw[gW,hb,qdt (by omega)];rfl,eg⟩)
theorem lw{rs:List Int}{sd:Nat}{x:Int}(h:x∈sel rs sd):x∈rs:=by
 obtain⟨i,hi,_,e⟩:=mem_sel.mp h;rw[List.getD,List.getElem?_eq_getElem hi]at e;rw[<- e];exact List.getElem_mem hi
end Mc
namespace Mc
open PySem
def cj(l:Int):Int:=if 0 > l then 0 else l
theorem xg(l:Int):0<=cj l:=by unfold cj;split <;> omega
def gr(rs:List Int)(bk:Nat)(dx dy:Int)(m:Nat):List Int:=(List.range m).map fun i=>rs.getD i 0+if bk.testBit i=true then dx else dy
def cJ(rs:List Int)(bk:Nat)(x y lean:Int):List Int:=gr rs bk (cj lean - x) (cj (-lean) - y) rs.length
theorem wy(rs:List Int)(bk:Nat)(dx dy:Int)(m:Nat):gr rs bk dx dy (m+1)=gr rs bk dx dy m++[rs.getD m 0+if bk.testBit m=true then dx else dy]:=by
 unfold gr;rw[List.range_succ,List.map_append]
 rfl
theorem qy(rs:List Int)(bk:Nat)(dx dy:Int)(m:Nat):(gr rs bk dx dy m).length=m:=by unfold gr;simp
theorem gY(rs:List Int)(bk:Nat)(x y lean:Int):(cJ rs bk x y lean).length=rs.length:=qy _ _ _ _ _
theorem gG{rs:List Int}{bk:Nat}{x y lean:Int}{i:Nat}(h:i<rs.length):(cJ rs bk x y lean).getD i 0=rs.getD i 0+if bk.testBit i=true then cj lean - x else cj (-lean) - y:=by
 unfold cJ gr;rw[List.getD,qgm,List.getElem?_range h]
 rfl
theorem mem_getD{rs:List Int}{x:Int}(h:x∈rs):∃ i,i<rs.length/\rs.getD i 0=x:=by
 obtain⟨i,hi,e⟩:=List.mem_iff_getElem.mp h;exact⟨i,hi,by rw[List.getD,List.getElem?_eq_getElem hi];exact e⟩
theorem pL{ns:List Str}{t:Tr}{i:Nat}(h:i<2 ^ ns.length):(aQ ns t).testBit i = !(aP ns t).testBit i:=by
 rw[bG,gW,qdt h];simp
structure TwoL(ns:List Str)(t:Tr)(rs:List Int)(x y:Int):Prop where
 len:rs.length=2 ^ ns.length
 br:aV (sel rs (aP ns t))=some x
 kp:aV (sel rs (aQ ns t))=some y
theorem TwoL.of_br{ns:List Str}{t:Tr}{rs:List Int}{x y:Int}(h:TwoL ns t rs x y){i:Nat}(hi:i<rs.length)(hb:(aP ns t).testBit i=true):x<=rs.getD i 0:=(cz h.br).2 _ (mem_sel.mpr ⟨i,hi,hb,rfl⟩)
theorem TwoL.of_kp{ns:List Str}{t:Tr}{rs:List Int}{x y:Int}(h:TwoL ns t rs x y){i:Nat}(hi:i<rs.length)(hb:(aP ns t).testBit i=false):y<=rs.getD i 0:=(cz h.kp).2 _ (mem_sel.mpr ⟨i,hi,by rw[pL (by have:=h.len;omega),hb];rfl,rfl⟩)
theorem TwoL.turnT{ns:List Str}{t:Tr}{rs:List Int}{x y:Int}(h:TwoL ns t rs x y)(lean:Int):TwoL ns t (cJ rs (aP ns t) x y lean) (cj lean) (cj (-lean)):=by
 have hl:=gY rs (aP ns t) x y lean;refine⟨by rw[hl];exact h.len,jF ?_ ?_,jF ?_ ?_⟩
 . obtain⟨i,hi,hb,e⟩:=mem_sel.mp (cz h.br).1
   refine mem_sel.mpr ⟨i,by omega,hb,?_⟩;rw[gG hi,e,qp hb];omega
 . intro a ha
   obtain⟨i,hi,hb,rfl⟩:=mem_sel.mp ha;have hi:i<rs.length:=by omega
   have:=h.of_br hi hb;rw[gG hi,qp hb];omega
 . obtain⟨i,hi,hb,e⟩:=mem_sel.mp (cz h.kp).1
   have hb':=hb;rw[pL (by have:=h.len;omega)]at hb';have hb':(aP ns t).testBit i=false:=by simpa using hb'
   refine mem_sel.mpr ⟨i,by omega,hb,?_⟩;rw[gG hi,e,qnZ (by rw[hb'];decide)];omega
 . intro a ha
   obtain⟨i,hi,hb,rfl⟩:=mem_sel.mp ha;have hi:i<rs.length:=by omega
   have hb':=hb;rw[pL (by have:=h.len;omega)]at hb';have hb':(aP ns t).testBit i=false:=by simpa using hb'
   have:=h.of_kp hi hb';rw[gG hi,qnZ (by rw[hb'];decide)];omega
theorem TwoL.geT{ns:List Str}{t:Tr}{rs:List Int}{x y:Int}(h:TwoL ns t rs x y){lean:Int}:∀ z∈cJ rs (aP ns t) x y lean,0<=z:=by
 intro z hz;obtain⟨i,hi,rfl⟩:=mem_getD hz;rw[gY]at hi;rw[gG hi];have g1:=xg lean;have g2:=xg (-lean);cases hb:(aP ns t).testBit i with
 | true =>
  have:=h.of_br hi hb;rw[qp rfl];omega
 | false =>
  have:=h.of_kp hi hb;rw[qnZ (by decide)];omega
theorem TwoL.zeroT{ns:List Str}{t:Tr}{rs:List Int}{x y:Int}(h:TwoL ns t rs x y)(lean:Int):0∈cJ rs (aP ns t) x y lean:=by
 have h2:=h.turnT lean
 by_cases hl:0<lean
 . have e:cj (-lean)=0:=by unfold cj;split <;> omega
   rw[<- e];exact lw (cz h2.kp).1
 . have e:cj lean=0:=by unfold cj;split <;> omega
   have q:=lw (cz h2.br).1;rw[e]at q;exact q
def fU(ns:List Str)(t:Tr)(rs:List Int):List Int:=match aV (sel rs (aP ns t)),aV (sel rs (aQ ns t))with
 |some x,some y=>if 0<x then cJ rs (aP ns t) x y 0 else rs
 |_,_=>rs
def fV(ns:List Str)(t:Tr)(rs:List Int)(firm:Int):List Int:=match aV (sel rs (aP ns t)),aV (sel rs (aQ ns t))with
 |some x,some y=>cJ rs (aP ns t) x y firm
 |_,_=>rs
structure Mind(ns:List Str)(rs:List Int):Prop where
 len:rs.length=2 ^ ns.length
 ge:∀ z∈rs,0<=z
 zero:0∈rs
theorem Mind.turnM{ns:List Str}{t:Tr}{rs:List Int}{x y:Int}(h:TwoL ns t rs x y)(lean:Int):Mind ns (cJ rs (aP ns t) x y lean):=⟨by rw[gY];exact h.len,h.geT,h.zeroT lean⟩
theorem Mind.giveM{ns:List Str}{rs:List Int}(h:Mind ns rs)(t:Tr):Mind ns (fU ns t rs):=by
 unfold fU
 split
 . split
   . exact Mind.turnM ⟨h.len,by assumption,by assumption⟩ 0
   . exact h
 . exact h
theorem Mind.takeM{ns:List Str}{rs:List Int}(h:Mind ns rs)(t:Tr)(firm:Int):Mind ns (fV ns t rs firm):=by
 unfold fV
 split
 . exact Mind.turnM ⟨h.len,by assumption,by assumption⟩ firm
 . exact h
end Mc
namespace Mc
open PySem
end Mc
namespace Mc
open PySem
end Mc
namespace Mc
open PySem
end Mc
namespace L2
open PySem PyProof.Rows Mc
variable{X:Cx}
end L2
set_option Elab.async false
set_option linter.all false
set_option maxRecDepth 100000
set_option maxHeartbeats 8000000
namespace K66
open PySem L2 Mc
def top(i:Nat):Stmt:=PySem.Challenge.pw_mindchange_k66_whole_run_turns.main.body.getD i (.Pass ⟨0,0,0,0⟩)
abbrev S0:Stmt:=top 14
abbrev S1:Stmt:=top 15
abbrev S2:Stmt:=top 16
abbrev S3:Stmt:=top 17
abbrev S4:Stmt:=top 18
abbrev S5:Stmt:=top 19
abbrev S6:Stmt:=top 21
abbrev S7:Stmt:=top 22
abbrev S8:Stmt:=top 23
abbrev S9:Stmt:=top 24
abbrev S10:Stmt:=top 25
abbrev S11:Stmt:=top 26
abbrev S12:Stmt:=top 27
abbrev S13:Stmt:=top 28
abbrev S14:Stmt:=top 29
abbrev S15:Stmt:=top 30
abbrev S16:Stmt:=top 31
abbrev S17:Stmt:=top 33
abbrev S18:Stmt:=top 34
abbrev S19:Stmt:=top 35
abbrev S20:Stmt:=top 36
abbrev S21:Stmt:=top 37
abbrev S22:Stmt:=top 38
abbrev S23:Stmt:=top 39
abbrev S24:Stmt:=top 41
abbrev S25:Stmt:=top 42
abbrev S26:Stmt:=top 43
abbrev S27:Stmt:=top 44
abbrev S28:Stmt:=top 46
abbrev S29:Stmt:=top 47
abbrev S30:Stmt:=top 48
abbrev S31:Stmt:=top 49
abbrev S32:Stmt:=top 50
abbrev S33:Stmt:=inClass (top 52) 0
abbrev S34:Stmt:=inClass (top 52) 1
abbrev S35:Stmt:=inClass (top 52) 2
abbrev S36:Stmt:=inClass (top 52) 3
abbrev S37:Stmt:=inClass (top 52) 4
abbrev S38:Stmt:=inClass (top 52) 5
abbrev S39:Stmt:=inClass (top 52) 6
abbrev S40:Stmt:=inClass (top 52) 7
abbrev S41:Stmt:=inClass (top 52) 8
abbrev S42:Stmt:=inClass (top 52) 9
abbrev S43:Stmt:=inClass (top 52) 10
abbrev S44:Stmt:=inClass (top 52) 11
abbrev S45:Stmt:=top 58
abbrev S46:Stmt:=top 59
abbrev S47:Stmt:=top 60
abbrev S48:Stmt:=inClass (top 61) 0
abbrev S49:Stmt:=inClass (top 61) 1
abbrev S50:Stmt:=inClass (top 61) 2
abbrev S51:Stmt:=inClass (top 61) 3
abbrev S52:Stmt:=inClass (top 61) 4
abbrev S53:Stmt:=inClass (top 61) 5
abbrev S54:Stmt:=inClass (top 61) 6
abbrev S55:Stmt:=top 62
abbrev S56:Stmt:=top 63
abbrev S57:Stmt:=top 68
abbrev S58:Stmt:=top 69
abbrev S59:Stmt:=top 70
abbrev S60:Stmt:=top 71
abbrev S61:Stmt:=top 72
abbrev S62:Stmt:=top 73
abbrev S63:Stmt:=top 74
abbrev S64:Stmt:=top 75
abbrev S65:Stmt:=top 76
abbrev S66:Stmt:=top 77
abbrev S67:Stmt:=top 78
abbrev S68:Stmt:=top 79
abbrev S69:Stmt:=top 80
abbrev S70:Stmt:=top 81
abbrev S71:Stmt:=top 82
abbrev S72:Stmt:=top 83
abbrev S73:Stmt:=top 84
abbrev S74:Stmt:=top 86
abbrev S75:Stmt:=inClass (top 88) 0
abbrev S76:Stmt:=top 89
abbrev S77:Stmt:=top 90
abbrev S78:Stmt:=top 91
abbrev S79:Stmt:=top 92
abbrev S80:Stmt:=top 93
abbrev S81:Stmt:=top 94
abbrev S82:Stmt:=top 95
abbrev S83:Stmt:=top 96
abbrev S84:Stmt:=top 97
abbrev S85:Stmt:=top 98
abbrev S86:Stmt:=top 101
abbrev S87:Stmt:=top 102
abbrev S88:Stmt:=top 103
abbrev S89:Stmt:=top 104
abbrev S90:Stmt:=top 105
abbrev S91:Stmt:=top 107
abbrev S92:Stmt:=top 108
abbrev S93:Stmt:=top 109
abbrev S94:Stmt:=top 110
abbrev S95:Stmt:=top 111
abbrev S96:Stmt:=top 112
abbrev S97:Stmt:=top 113
abbrev S98:Stmt:=top 114
abbrev S99:Stmt:=top 115
abbrev Ff:Stmt:=top 116
abbrev Fg:Stmt:=top 117
abbrev Fi:Stmt:=top 118
abbrev Fj:Stmt:=top 119
abbrev NB:Stmt:=top 120
abbrev Fl:Stmt:=top 121
abbrev Fo:Stmt:=top 122
abbrev Fp:Stmt:=top 123
abbrev Fq:Stmt:=top 124
abbrev Ft:Stmt:=top 125
abbrev Fv:Stmt:=top 126
abbrev Fw:Stmt:=top 127
abbrev Fx:Stmt:=top 128
abbrev Fy:Stmt:=top 129
structure Tp(K:W.Frag)(mg:Str->Option Value)(x:Str)(st:Stmt)(ps:List Str)(f:Addr)(fd:FuncData):Prop where
 F:Fun K x x st f fd
 b:Binds K fd ps []
 m:mg x=some (.ref f)
 k:W.keepIn K (.ref f)=true
structure Mp(K:W.Frag)(C:Addr)(x q:Str)(st:Stmt)(ps:List Str)(f:Addr)(fd:FuncData):Prop where
 F:Fun K x q st f fd
 b:Binds K fd ps []
 e:Meth K C x f
structure Tq(K:W.Frag)(x:Str)(st:Stmt)(f:Addr)(fd:FuncData):Prop where
 F:Fun K x x st f fd
 a:W.nsIn K mainGlobals x=some (some (.ref f))
structure Mq(K:W.Frag)(C:Addr)(x q:Str)(st:Stmt)(f:Addr)(fd:FuncData):Prop where
 F:Fun K x q st f fd
 a:W.findIn K (.ref C) x=some (some (.ref f))
 i:W.isFn K (.ref f)=true
set_option genSizeOf false in
set_option genInjectivity false in
structure Adr where
 a0:Addr
 d0:FuncData
 a1:Addr
 d1:FuncData
 a2:Addr
 d2:FuncData
 a3:Addr
 d3:FuncData
 a4:Addr
 d4:FuncData
 a5:Addr
 d5:FuncData
 a6:Addr
 d6:FuncData
 a7:Addr
 d7:FuncData
 a8:Addr
 d8:FuncData
 a9:Addr
 d9:FuncData
 a10:Addr
 d10:FuncData
 a11:Addr
 d11:FuncData
 a12:Addr
 d12:FuncData
 a13:Addr
 d13:FuncData
 a14:Addr
 d14:FuncData
 a15:Addr
 d15:FuncData
 a16:Addr
 d16:FuncData
 a17:Addr
 d17:FuncData
 a18:Addr
 d18:FuncData
 a19:Addr
 d19:FuncData
 a20:Addr
 d20:FuncData
 a21:Addr
 d21:FuncData
 a22:Addr
 d22:FuncData
 a23:Addr
 d23:FuncData
 a24:Addr
 d24:FuncData
 a25:Addr
 d25:FuncData
 a26:Addr
 d26:FuncData
 a27:Addr
 d27:FuncData
 a28:Addr
 d28:FuncData
 a29:Addr
 d29:FuncData
 a30:Addr
 d30:FuncData
 a31:Addr
 d31:FuncData
 a32:Addr
 d32:FuncData
 a33:Addr
 d33:FuncData
 a34:Addr
 d34:FuncData
 a35:Addr
 d35:FuncData
 a36:Addr
 d36:FuncData
 a37:Addr
 d37:FuncData
 a38:Addr
 d38:FuncData
 a39:Addr
 d39:FuncData
 a40:Addr
 d40:FuncData
 a41:Addr
 d41:FuncData
 a42:Addr
 d42:FuncData
 a43:Addr
 d43:FuncData
 a44:Addr
 d44:FuncData
 a45:Addr
 d45:FuncData
 a46:Addr
 d46:FuncData
 a47:Addr
 d47:FuncData
 a48:Addr
 d48:FuncData
 a49:Addr
 d49:FuncData
 a50:Addr
 d50:FuncData
 a51:Addr
 d51:FuncData
 a52:Addr
 d52:FuncData
 a53:Addr
 d53:FuncData
 a54:Addr
 d54:FuncData
 a55:Addr
 d55:FuncData
 a56:Addr
 d56:FuncData
 a57:Addr
 d57:FuncData
 a58:Addr
 d58:FuncData
 a59:Addr
 d59:FuncData
 a60:Addr
 d60:FuncData
 a61:Addr
 d61:FuncData
 a62:Addr
 d62:FuncData
 a63:Addr
 d63:FuncData
 a64:Addr
 d64:FuncData
 a65:Addr
 d65:FuncData
 a66:Addr
 d66:FuncData
 a67:Addr
 d67:FuncData
 a68:Addr
 d68:FuncData
 a69:Addr
 d69:FuncData
 a70:Addr
 d70:FuncData
 a71:Addr
 d71:FuncData
 a72:Addr
 d72:FuncData
 a73:Addr
 d73:FuncData
 a74:Addr
 d74:FuncData
 a75:Addr
 d75:FuncData
 a76:Addr
 d76:FuncData
 a77:Addr
 d77:FuncData
 a78:Addr
 d78:FuncData
 a79:Addr
 d79:FuncData
 a80:Addr
 d80:FuncData
 a81:Addr
 d81:FuncData
 a82:Addr
 d82:FuncData
 a83:Addr
 d83:FuncData
 a84:Addr
 d84:FuncData
 a85:Addr
 d85:FuncData
 a86:Addr
 d86:FuncData
 a87:Addr
 d87:FuncData
 a88:Addr
 d88:FuncData
 a89:Addr
 d89:FuncData
 a90:Addr
 d90:FuncData
 a91:Addr
 d91:FuncData
 a92:Addr
 d92:FuncData
 a93:Addr
 d93:FuncData
 a94:Addr
 d94:FuncData
 a95:Addr
 d95:FuncData
 a96:Addr
 d96:FuncData
 a97:Addr
 d97:FuncData
 a98:Addr
 d98:FuncData
 a99:Addr
 d99:FuncData
 a100:Addr
 d100:FuncData
 a101:Addr
 d101:FuncData
 a102:Addr
 d102:FuncData
 a103:Addr
 d103:FuncData
 a104:Addr
 d104:FuncData
 a105:Addr
 d105:FuncData
 a106:Addr
 d106:FuncData
 a107:Addr
 d107:FuncData
 a108:Addr
 d108:FuncData
 a109:Addr
 d109:FuncData
 a110:Addr
 d110:FuncData
 a111:Addr
 d111:FuncData
 a112:Addr
 d112:FuncData
 a113:Addr
 d113:FuncData
 (zaH zj zz zg zh zi zaI zaK zQ zP zaJ zc za zb:Addr)
 (zaj zak zai zal zam zaL:Tok)
 (zB zp zn zA zw:Addr)
structure Txt(P:Program)(w:World)(K:W.Frag)(mg:Str->Option Value)(t:Adr):Prop where
 q0:Tp K mg "is_letter" S0 ["sign"] t.a0 t.d0
 q1:Tp K mg "is_name" S1 ["text"] t.a1 t.d1
 q2:Tp K mg "parts_of" S2 ["tree"] t.a2 t.d2
 q3:Tp K mg "layer_below" S3 ["layer"] t.a3 t.d3
 q4:Tp K mg "depth" S4 ["tree"] t.a4 t.d4
 q5:Tp K mg "names_in" S5 ["tree"] t.a5 t.d5
 q6:Tp K mg "bit_at" S6 ["number","place"] t.a6 t.d6
 q8:Tp K mg "need_names" S8 ["names","tree"] t.a8 t.d8
 q9:Tp K mg "sides" S9 ["tree","of_names","every"] t.a9 t.d9
 q10:Tp K mg "turned_about" S10 ["side"] t.a10 t.d10
 q11:Tp K mg "joined" S11 ["kind","left","right"] t.a11 t.d11
 q12:Tp K mg "full" S12 ["names"] t.a12 t.d12
 q13:Tp K mg "worlds_with" S13 ["names","place"] t.a13 t.d13
 q14:Tp K mg "sides_of_names" S14 ["names","known_ones"] t.a14 t.d14
 q15:Tp K mg "table" S15 ["names","tree"] t.a15 t.d15
 q16:Tp K mg "breaking" S16 ["names","tree"] t.a16 t.d16
 q17:Tp K mg "flat" S17 ["names"] t.a17 t.d17
 q18:Tp K mg "least_rank" S18 ["ranks","worlds"] t.a18 t.d18
 q19:Tp K mg "firmness" S19 ["mind","tree"] t.a19 t.d19
 q20:Tp K mg "held" S20 ["mind","tree"] t.a20 t.d20
 q21:Tp K mg "both_leasts" S21 ["mind","tree"] t.a21 t.d21
 q22:Tp K mg "leaning" S22 ["mind","tree"] t.a22 t.d22
 q28:Tp K mg "turned" S28 ["mind","tree","lean"] t.a28 t.d28
 q29:Tp K mg "given_up" S29 ["mind","tree"] t.a29 t.d29
 q30:Tp K mg "taken_on" S30 ["mind","tree","firm"] t.a30 t.d30
 q33:Mp K t.zc "__init__" "Log.__init__" S33 ["self","names"] t.a33 t.d33
 q34:Mp K t.zc "stand" "Log.stand" S34 ["self","behind"] t.a34 t.d34
 q35:Mp K t.zc "take" "Log.take" S35 ["self","tree","firm"] t.a35 t.d35
 q36:Mp K t.zc "give" "Log.give" S36 ["self","tree"] t.a36 t.d36
 q37:Mp K t.zc "turn" "Log.turn" S37 ["self","tree","lean"] t.a37 t.d37
 q41:Mp K t.zc "mind" "Log.mind" S41 ["self"] t.a41 t.d41
 q45:Tp K mg "words_of" S45 ["text"] t.a45 t.d45
 q46:Tp K mg "leaf" S46 ["word"] t.a46 t.d46
 q47:Tp K mg "takes_part" S47 ["earlier","later"] t.a47 t.d47
 q48:Mp K t.za "__init__" "Unfinished.__init__" S48 ["self"] t.a48 t.d48
 q49:Mp K t.za "begin_part" "Unfinished.begin_part" S49 ["self","word"] t.a49 t.d49
 q50:Mp K t.za "follow_part" "Unfinished.follow_part" S50 ["self","word"] t.a50 t.d50
 q51:Mp K t.za "fold" "Unfinished.fold" S51 ["self"] t.a51 t.d51
 q52:Mp K t.za "fold_to_bracket" "Unfinished.fold_to_bracket" S52 ["self"] t.a52 t.d52
 q53:Mp K t.za "close_bracket" "Unfinished.close_bracket" S53 ["self"] t.a53 t.d53
 q54:Mp K t.za "whole" "Unfinished.whole" S54 ["self"] t.a54 t.d54
 q55:Tp K mg "tree_of_words" S55 ["words"] t.a55 t.d55
 q56:Tp K mg "read" S56 ["text"] t.a56 t.d56
 q57:Tp K mg "rows_in" S57 ["text"] t.a57 t.d57
 q58:Tp K mg "words_in" S58 ["text"] t.a58 t.d58
 q59:Tp K mg "first_word" S59 ["text"] t.a59 t.d59
 q60:Tp K mg "behind_first_word" S60 ["text"] t.a60 t.d60
 q61:Tp K mg "is_figure" S61 ["sign"] t.a61 t.d61
 q62:Tp K mg "number_in" S62 ["word"] t.a62 t.d62
 q63:Tp K mg "number_above_0" S63 ["word"] t.a63 t.d63
 q64:Tp K mg "lean_in" S64 ["word"] t.a64 t.d64
 q65:Tp K mg "names_form" S65 ["text"] t.a65 t.d65
 q66:Tp K mg "numbered_form" S66 ["number","text"] t.a66 t.d66
 q67:Tp K mg "take_form" S67 ["text"] t.a67 t.d67
 q68:Tp K mg "lean_form" S68 ["text"] t.a68 t.d68
 q69:Tp K mg "sentence_form" S69 ["text"] t.a69 t.d69
 q70:Tp K mg "lost_form" S70 ["text"] t.a70 t.d70
 q71:Tp K mg "keep_form" S71 ["text"] t.a71 t.d71
 q73:Tp K mg "bare_form" S73 ["text"] t.a73 t.d73
 q74:Tp K mg "form_of" S74 ["row"] t.a74 t.d74
 q75:Mp K t.zb "__init__" "Course.__init__" S75 ["self","names"] t.a75 t.d75
 q76:Tp K mg "do_take" S76 ["course","firm","trees"] t.a76 t.d76
 q77:Tp K mg "do_give" S77 ["course","told","trees"] t.a77 t.d77
 q78:Tp K mg "do_lean" S78 ["course","lean","trees"] t.a78 t.d78
 q83:Tp K mg "answer_ask" S83 ["mind","trees"] t.a83 t.d83
 q86:Tp K mg "do_row" S86 ["course","form"] t.a86 t.d86
 q87:Tp K mg "lacks_a_mind" S87 ["course","form"] t.a87 t.d87
 q88:Tp K mg "word_against" S88 ["course","form"] t.a88 t.d88
 q89:Tp K mg "names_told" S89 ["rows"] t.a89 t.d89
 q90:Tp K mg "run" S90 ["text"] t.a90 t.d90
 q91:Tp K mg "_law_cell_at" S91 ["_law_script","_law_k"] t.a91 t.d91
 q92:Tp K mg "_law_whole" S92 ["_law_found"] t.a92 t.d92
 q93:Tp K mg "_law_mixed" S93 ["_law_cell","_law_k"] t.a93 t.d93
 q94:Tp K mg "_law_names_by" S94 ["_law_cell","_law_many"] t.a94 t.d94
 q95:Tp K mg "_law_tree_by" S95 ["_law_names","_law_cell","_law_deep"] t.a95 t.d95
 q96:Tp K mg "_law_column" S96 ["_law_many","_law_place"] t.a96 t.d96
 q97:Tp K mg "_law_table" S97 ["_law_names","_law_tree"] t.a97 t.d97
 q98:Tp K mg "_law_is_mind" S98 ["_law_found","_law_names"] t.a98 t.d98
 q99:Tp K mg "_law_sides" S99 ["_law_ranks","_law_told"] t.a99 t.d99
 q100:Tp K mg "_law_side_fits" Ff ["_law_before","_law_after","_law_least"] t.a100 t.d100
 q101:Tp K mg "_law_turned_fits" Fg ["_law_before","_law_after","_law_told","_law_lean"] t.a101 t.d101
 q102:Tp K mg "_law_written" Fi ["_law_tree"] t.a102 t.d102
 q103:Tp K mg "_law_plan_by" Fj ["_law_names","_law_cell","_law_k","_law_counts"] t.a103 t.d103
 q105:Tp K mg "_law_pairs_by" Fl ["_law_m","_law_kept"] t.a105 t.d105
 q106:Tp K mg "_law_counted" Fo ["_law_counts","_law_plan"] t.a106 t.d106
 q107:Tp K mg "_law_plans_by" Fp ["_law_names","_law_cells"] t.a107 t.d107
 q108:Tp K mg "_law_row_of" Fq ["_law_plan"] t.a108 t.d108
 q109:Tp K mg "_law_text_of" Ft ["_law_names","_law_plans"] t.a109 t.d109
 q110:Tp K mg "_law_run_fits" Fv ["_law_found","_law_answers","_law_deeds"] t.a110 t.d110
 q111:Tp K mg "_law_told_names" Fw ["_law_script"] t.a111 t.d111
 q112:Tp K mg "_law_deed_fits" Fx ["_law_before","_law_after","_law_plan"] t.a112 t.d112
 q113:Tp K mg "law" Fy ["_law_script"] t.a113 t.d113
 zt:mg "NoSentence"=some (.ref t.zj)
 zag:catches K t.zj=true
 zx:W.excIn K t.zj bmV "ValueError.__new__"=true
 zV:mg "TooDeep"=some (.ref t.zz)
 zah:catches K t.zz=true
 zac:W.excIn K t.zz bmV "ValueError.__new__"=true
 zU:mg "NoName"=some (.ref t.zg)
 zaf:catches K t.zg=true
 zab:W.excIn K t.zg bmV "ValueError.__new__"=true
 zH:mg "Always"=some (.ref t.zh)
 zR:catches K t.zh=true
 zZ:W.excIn K t.zh bmV "ValueError.__new__"=true
 zX:under K t.zh t.zh=true
 zJ:mg "Never"=some (.ref t.zi)
 zS:catches K t.zi=true
 zaa:W.excIn K t.zi bmV "ValueError.__new__"=true
 zaG:under K t.zi t.zh=false
 zY:under K t.zi t.zi=true
 zax:mg "NoBack"=some (.ref t.zQ)
 zae:catches K t.zQ=true
 zaw:mg "NoAgain"=some (.ref t.zP)
 zad:catches K t.zP=true
 zat:mg "Log"=some (.ref t.zc)
 zf:Cls K t.zc
 zaA:Mk K t.zc t.a33
 zO:NoAttr K t.zc "standing"
 zW:NoAttr K t.zc "taken_back"
 zay:mg "Unfinished"=some (.ref t.za)
 zd:Cls K t.za
 zaB:Mk K t.za t.a48
 zu:NoAttr K t.za "trees"
 zl:NoAttr K t.za "signs"
 zan:mg "Course"=some (.ref t.zb)
 zk:Cls K t.zb
 zaz:Mk K t.zb t.a75
 zy:NoAttr K t.zb "log"
 zaF:NoAttr K t.zb "kept"
 zM:NoAttr K t.zb "answers"
 zN:NoAttr K t.zb "minds_behind"
 zar:mg "LONGEST_NAME"=some (.int 8 t.zaj)
 zas:mg "LONGEST_TEXT"=some (.int 200 t.zak)
 zap:mg "GREATEST_DEPTH"=some (.int 40 t.zai)
 zau:mg "MOST_FIGURES"=some (.int 30 t.zal)
 zav:mg "MOST_NAMES"=some (.int 8 t.zam)
 zaq:mg "KINDS"=some (.ref t.zB)
 zB:MdK P w K t.zB [(.inr "&",.str "and"),(.inr "|",.str "or"),(.inr ">",.str "then"),(.inr "=",.str "same")]
 zI:mg "BINDS"=some (.ref t.zp)
 zp:MdK P w K t.zp [(.inr "&",.int 4),(.inr "|",.int 3),(.inr ">",.int 2),(.inr "=",.int 1)]
 zC:mg "FORMS"=some (.ref t.zn)
 zn:MdK P w K t.zn [(.inr "names",.ref t.a65),(.inr "take",.ref t.a67),(.inr "give",.ref t.a69),(.inr "lean",.ref t.a68),(.inr "keep",.ref t.a71),(.inr "pour",.ref t.a72),(.inr "back",.ref t.a73),(.inr "again",.ref t.a73),(.inr "ask",.ref t.a69),(.inr "lost",.ref t.a70),(.inr "worlds",.ref t.a73)]
 zao:mg "DEEDS"=some (.ref t.zA)
 zA:MdK P w K t.zA [(.inr "take",.ref t.a76),(.inr "give",.ref t.a77),(.inr "lean",.ref t.a78),(.inr "pour",.ref t.a79),(.inr "back",.ref t.a80),(.inr "again",.ref t.a81)]
 zT:mg "ANSWERS"=some (.ref t.zw)
 zw:MdK P w K t.zw [(.inr "ask",.ref t.a83),(.inr "lost",.ref t.a84),(.inr "worlds",.ref t.a85)]
 zK:mg "all"=none
 zaC:mg "bool"=none
 zq:mg "enumerate"=none
 zD:mg "int"=none
 zo:mg "isinstance"=none
 ze:mg "len"=none
 zL:mg "list"=none
 zE:mg "max"=none
 zF:mg "min"=none
 zr:mg "range"=none
 zaD:mg "sorted"=none
 zG:mg "str"=none
 zaE:mg "sum"=none
 zm:mg "tuple"=none
 bl:∀(s:Shared) (u:Value),BindsTo s t.d113 ⟨[u],[]⟩ [("_law_script",u)]
end K66
seal L2.PE L2.PT L2.PW L2.PA L2.PS L2.PSs L2.PG L2.PGs L2.PI L2.PC L2.PO L2.PTs
open PyProof.Rows
namespace K66
open PySem L2 Mc
inductive spCell(K:W.Frag)(vs:List V)(H:Hp)(Q:VK)(E:XK):Prop
 |mk (a:Addr) (ns:List Int) (k:Int) (_:vs=[.ref a,.int k]) (_:SqL K H a (ns.map V.int)) (_:0<=k) (_:Q (.int (ns.getD k.toNat 0)) H)
section
variable{P:Program}{w:World}{K:W.Frag}{mg:Str->Option Value}{base:Heap}{t:Adr}
abbrev FO(P:Program)(w:World)(K:W.Frag)(mg:Str->Option Value)(base:Heap):=FnOk P w K mg base (CX1 P w)
theorem KD:FnScope ["_law_script","_law_k"] ["_law_script","_law_k"] (aB S91):=mkS
theorem Jl(T:Txt P w K mg t):FO P w K mg base 1 t.a91 t.d91 ["_law_script","_law_k"] (spCell K):=by
 refine T.q91.F.ok2 KD (fun cdv A outer s H vs Q E hr h=>?_);obtain⟨a,ns,k,rfl,hS,hk,q⟩:=h
 refine⟨_,(ak (aR (aG nW (pvl 1) (bf aZ T.ze Bt.len (aa (pvl 0) aj)) (aJ _))
    (aq (aA (pix bN (pvl 0) (pvl 1))))
    aN)
   (aq (aA ao))),?_⟩
 refine⟨_,rfl,_,rfl,a,_,rfl,.inl hS,_,_,rfl,rfl,_,rfl,?_⟩;refine aU (fun e=>?_) (fun e=>?_)
 . have e:k<((ns.map V.int).length:Nat):=qod e
   rw[qlm]at e;refine⟨_,rfl,_,rfl,a,_,k,.int (ns.getD k.toNat 0),rfl,rfl,hS,jA hk ?_,q⟩;rw[qgm];have:k.toNat<ns.length:=by omega
   rw[List.getElem?_eq_getElem this];simp[List.getD,List.getElem?_eq_getElem this]
 . have e:¬ k<((ns.map V.int).length:Nat):=fun z=>e (qdt z)
   rw[qlm]at e
   have z:ns.getD k.toNat 0=0:=by
    rw[List.getD,List.getElem?_eq_none (by omega)]
    rfl
   rw[z]at q;exact q
theorem lkB{n:Nat}(h:n<=100000):n<=sizeLine:=qnt h (by decide)
theorem lW(o:Op):¬ o.str=("yes":Str)/\¬ o.str=("no":Str)/\¬ o.str=("not":Str)/\¬ o.str=("name":Str):=by cases o <;> decide +kernel
theorem Hv {t:Tr} (h:V.str t.tag=V.str ("name":Str)):∃ x,t = .nm x:=by
 have:=(jD t).mp (V.str.inj h);cases t <;> first|exact⟨_,rfl⟩|cases this
theorem Ce {t:Tr} (h:V.str t.tag=V.str ("yes":Str)):t = .yes:=by
 have h:=V.str.inj h;cases t with
 |yes=>rfl
 |nm x=>exact absurd (show("name":Str)="yes" from h) (by decide +kernel)
 |no=>exact absurd (show("no":Str)="yes" from h) (by decide +kernel)
 |not u=>exact absurd (show("not":Str)="yes" from h) (by decide +kernel)
 |bin o a b=>exact absurd (show o.str=("yes":Str)from h) (lW o).1
theorem Hw {t:Tr} (h:V.str t.tag=V.str ("no":Str)):t = .no:=by
 have h:=V.str.inj h;cases t with
 |no=>rfl
 |nm x=>exact absurd (show("name":Str)="no" from h) (by decide +kernel)
 |yes=>exact absurd (show("yes":Str)="no" from h) (by decide +kernel)
 |not u=>exact absurd (show("not":Str)="no" from h) (by decide +kernel)
 |bin o a b=>exact absurd (show o.str=("no":Str)from h) (lW o).2.1
theorem oG{o o':Op}(h:V.str o.str=V.str o'.str):o=o':=by
 have h:=V.str.inj h;cases o <;> cases o' <;> first|rfl|exact absurd h (by decide +kernel)
theorem yC{H:Hp}{a:Addr}{o:Op}{x y:Tr}(h:TrAt H (.ref a) (.bin o x y)):∃ v u,H a=some (.tup [.str o.str,v,u])/\TrAt H v x/\TrAt H u y:=by
 cases h with
 |bin e h1 h2=>exact⟨_,_,e,h1,h2⟩
theorem yD{H:Hp}{a:Addr}{x:Tr}(h:TrAt H (.ref a) (.not x)):∃ v,H a=some (.tup [.str "not",v])/\TrAt H v x:=by
 cases h with
 |not e h1=>exact⟨_,e,h1⟩
theorem Fz{H:Hp}{a:Addr}{x:Str}(h:TrAt H (.ref a) (.nm x)):H a=some (.tup [.str "name",.str x]):=by
 cases h with
 |nm e=>exact e
inductive spParts(vs:List V)(H:Hp)(Q:VK)(E:XK):Prop
 |mk (v t) (_:vs=[v]) (_:TrAt H v t) (_:∀(l:Addr)(us:List V)(H':Hp),H l=none->H' l=some (.lst us)->Same H H'->Paired (TrAt H') us t.kids->Q (.ref l) H')
inductive spBelow(vs:List V)(H:Hp)(Q:VK)(E:XK):Prop
 |mk (a:Addr) (us:List V) (ts:List Tr) (_:vs=[.ref a]) (_:H a=some (.lst us)) (_:Paired (TrAt H) us ts) (_:dh ts<=100000) (_:∀(l:Addr)(ws:List V)(H':Hp),H l=none->H' l=some (.lst ws)->Same H H'->Paired (TrAt H') ws (ts.flatMap Tr.kids)->Q (.ref l) H')
inductive spDepth(vs:List V)(H:Hp)(Q:VK)(E:XK):Prop
 |mk (v t) (_:vs=[v]) (_:TrAt H v t) (_:t.size<=100000) (_:∀ H',Same H H'->Q (.int t.depth) H')
theorem scParts:FnScope ["tree"] ["tree"] (aB S2):=mkS
theorem FJ(T:Txt P w K mg t):FO P w K mg base 1 t.a2 t.d2 ["tree"] spParts:=by
 refine T.q2.F.ok2 scParts (fun cdv A outer s H vs Q E hr h=>?_);obtain⟨v,tr,rfl,ht,k⟩:=h;obtain⟨a,rest,rfl,ha,hnm,hkid⟩:=ht.open;have nd:=scParts.nd
 refine⟨_,(ak (aR (aG aW (pix aM (pv 0) ao) az (aJ _))
    (aq (aA (bC aj)))
    aN)
   (aq (aA (rW uE rfl T.zL Bt.list (aa (gC J7 (pv 0) (gO ao) jo) aj))))),?_⟩
 refine⟨_,rfl,a,_,0,.str tr.tag,rfl,rfl,SqT.of ha,cM (j:=0) rfl,rfl,_,rfl,?_⟩;refine aU (fun e=>?_) (fun e=>?_)
 . have e:V.str tr.tag=V.str "name":=qod e
   have e:=(jD tr).mp (V.str.inj e);obtain⟨x,rfl,_⟩:=hnm e;exact⟨qnz _,fun l hl=>k l [] _ hl au (aD hl) .nil⟩
 . have e:¬ V.str tr.tag=V.str "name":=fun z=>e (qdt z)
   have e:tr.isNm=false:=by
    cases q:tr.isNm with
    |false=>rfl
    |true=>exact absurd (congrArg V.str ((jD tr).mpr q)) e
   have hk:=hkid e;refine⟨_,rfl,_,rfl,a,_,rfl,SqT.of ha,uX _ _,fun p hp=>⟨p,_,rfl,.inr (SqT.of au),fun l hl=>?_⟩⟩;rw[EY]at hl ⊢;exact k l rest _ (BW (aD hp) hl) au ((aD hp).trans (aD hl)) (cU ((aD hp).trans (aD hl)).tups hk)
theorem scBelow:FnScope ["layer","below","tree"] ["layer"] (aB S3):=mkS
theorem uY(T:Txt P w K mg t):FO P w K mg base 2 t.a3 t.d3 ["layer"] spBelow:=by
 refine T.q3.F.ok2 scBelow (fun cdv A outer s H vs Q E hr h=>?_);obtain⟨a,us,ts,rfl,ha,hp,hsz,k⟩:=h;have nd:=scBelow.nd;have G2:=FJ (base:=base) T
 refine⟨_,(ak (gZ (i:=1) nd rfl (by first|exact Or.inl rfl|exact Or.inr rfl) (bC aj))
   (ak (fL own1 rfl (dX (pv 0)) (qR (i:=2) nd rfl (by first|exact Or.inl rfl|exact Or.inr rfl))
    (aq (bF (cu PySem.F.plainAttrs_list PySem.F.slot_list_extend PySem.F.type_list_extend Aw (pv 1) (aa (ou G2 (hr.mo) rfl T.q2.m T.q2.k T.q2.b .nil aK (aa (pv 2) aj)) aj)))))
   (aq (aA (pv 1))))),?_⟩
 refine⟨qnz _,fun b hb=>?_⟩;have hab:a≠b:=aH ha hb;have s0:Same H (upd H b (.lst [])):=aD hb
 refine⟨_,rfl,a,rfl,⟨_,SqL.of (s0 _ _ ha)⟩,iC (K:=K) (a:=a) (xs:=us)
  (fun i σ H2=>∃(ws:List V)(v:Option V),σ=[some (.ref a),some (.ref b),v]/\Same H H2/\H2 b=some (.lst ws)/\Paired (TrAt H2) ws ((ts.take i).flatMap Tr.kids))
  ⟨[],none,rfl,s0,au,.nil⟩ (fun i σ H2 _ ⟨_,_,_,s2,_⟩=>SqL.of (s2 _ _ ha)) ?_ ?_⟩
 . rintro i y σ H2 hi ⟨ws,v,rfl,s2,hb2,hw⟩
   obtain⟨tr,htr,hy⟩:=cI hp i y hi;refine⟨_,rfl,.inl ⟨rfl,_,SqL.of hb2⟩,_,rfl,y,tr,rfl,hy.mono s2.tups,fun l us2 H3 hl hl3 s3 hk3=>?_⟩
   have hlen:ws.length+us2.length<=100000:=by
    have e1:=Paired.length hw;have e2:=Paired.length hk3
    have hsplit:ts=ts.take i++tr::ts.drop (i+1):=by
     have h1:=List.take_append_drop i ts
     have h2:ts.drop i=tr::ts.drop (i+1):=by
      obtain⟨hlt,he⟩:=List.getElem?_eq_some_iff.mp htr;rw[List.drop_eq_getElem_cons hlt,he]
     rw[<- h2,h1]
    have e3:=iT ts;have e4:(ts.flatMap Tr.kids).length <= dh (ts.flatMap Tr.kids):=qw _
    have e5:(ts.flatMap Tr.kids).length=((ts.take i).flatMap Tr.kids).length+(tr.kids.length+((ts.drop (i+1)).flatMap Tr.kids).length):=by
     conv=>lhs;rw[hsplit]
     rw[List.flatMap_append,List.flatMap_cons,List.length_append,List.length_append]
    omega
   have hbl:b≠l:=aH hb2 hl;have hb3:H3 b=some (.lst ws):=s3 _ _ hb2;refine⟨b,l,ws,us2,rfl,rfl,hb3,hl3,qnt hlen (by decide),?_⟩;refine⟨ws++us2,_,rfl,fun c o e=>?_,au,?_⟩
   . rw[aC (fun z=>by subst z;rw[hb]at e;cases e)]
     exact s3 _ _ (s2 _ _ e)
   . have e6:ts.take (i+1)=ts.take i++[tr]:=by
      rw[qta,htr]
      rfl
     rw[e6,List.flatMap_append,List.flatMap_cons,List.flatMap_nil,List.append_nil];exact cU (Fb hb3) (eE (cU s3.tups hw) hk3)
 . rintro σ H2 ⟨ws,v,rfl,s2,hb2,hw⟩
   refine⟨_,rfl,?_⟩;have e:=Paired.length hp;rw[e,List.take_length]at hw;exact k b ws H2 hb hb2 s2 hw
inductive spNames(vs:List V)(H:Hp)(Q:VK)(E:XK):Prop
 |mk (v t) (_:vs=[v]) (_:TrAt H v t) (_:t.size<=100000) (_:(∃ L:List Str,L.length<64/\∀ x∈t.names,x∈L)) (_:∀(l:Addr)(ys:List Str)(H':Hp),H l=none->H' l=some (.lst (ys.map V.str))->Same H H'->sortedS ys=true->ys.Nodup->(∀ x,x∈ys↔x∈t.names)->Q (.ref l) H')
theorem scNames:FnScope ["tree","found","layer","part"] ["tree"] (aB S5):=mkS
theorem FN(T:Txt P w K mg t):FO P w K mg base 3 t.a5 t.d5 ["tree"] spNames:=by
 refine T.q5.F.ok2 scNames (fun cdv A outer s H vs Q E hr h=>?_);obtain⟨v,tr,rfl,ht,hsz,⟨L,hL,hsub⟩,k⟩:=h;have nd:=scNames.nd;have hu:=gj hr;have G3:=uY (base:=base) T
 refine ⟨_,(ak (gZ (i:=1) nd rfl (by first|exact Or.inl rfl|exact Or.inr rfl) pF)
   (ak (gZ (i:=2) nd rfl (by first|exact Or.inl rfl|exact Or.inr rfl) (bC (aa (pv 0) aj)))
   (ak (ju own1 (gB (pv 2) (fun _=>rfl))
    (ak (fL own1 rfl (dX (pv 2)) (qR (i:=3) nd rfl (by first|exact Or.inl rfl|exact Or.inr rfl))
     (aq (aR (aG aW (pix aM (pv 3) ao) az (aJ _))
      (aq (qY hu (pv 1) (pix aM (pv 3) ao) dR rfl))
      aN)))
    (aq (gZ (i:=2) nd rfl (by first|exact Or.inl rfl|exact Or.inr rfl) (ou G3 (hr.mo) rfl T.q3.m T.q3.k T.q3.b .nil aK (aa (pv 2) aj))))))
   (aq (aA (uB (uM rfl) rfl T.zaD Bt.sorted (aa (pv 1) aj))))))),?_⟩
 intro d hd;refine⟨_,rfl,(lk (by first|exact qnb rfl|simp)),fun l hl=>?_⟩;have hdl:d≠l:=fun z=>by subst z;rw[au]at hl;cases hl
 have hl0:H l=none:=(aD hd).free hl
 let St0:Nat->L2.St->Hp->Prop:=fun m σ H2=>∃(l:Addr)(us:List V)(ts:List Tr)(kvs:List (Key×V))(ys:List Str)(pv:Option V),σ=[some v,some (.ref d),some (.ref l),pv]/\Same H H2/\H2 l=some (.lst us)/\Paired (TrAt H2) us ts/\dh ts<=100000 /\
  H2 d=some (.dK kvs)/\kvs.map (·.1)=ys.map Sum.inr/\ys.Nodup/\(∀ x,x∈tr.names↔x∈ys\/x∈cQ ts)/\m=dh ts
 have hys:∀{ys:List Str},ys.Nodup->(∀ x∈ys,x∈tr.names)->ys.length<64:=fun {ys} h1 h2=>Nat.lt_of_le_of_lt (jE h1 fun x hx=>hsub x (h2 x hx)) hL
 refine⟨St0,⟨_,l,[v],[tr],[],[],none,rfl,(aD hd).trans (aD hl),au,.cons (ht.mono ((aD hd).trans (aD hl)).tups) .nil,?_,?_,rfl,List.nodup_nil,?_,rfl⟩,?_⟩
 . show tr.size+0<=100000
   omega
 . rw[aC hdl,au]
 . intro x
   simp[cQ]
 rintro m σ H2 ⟨l,us,ts,kvs,ys,pv,rfl,s2,hl2,hp,hz,hd2,hk,hnd,hmem,rfl⟩;refine⟨_,rfl,_,.inl ⟨us,SqL.of hl2,rfl⟩,?_⟩;cases us with
 | nil =>
  cases hp;refine bj ?_
  have hmem':∀ x,x∈tr.names↔x∈ys:=fun x=>by
   have:=hmem x
   simpa[cQ]using this
  refine⟨_,rfl,d,kvs,ys,rfl,hd2,hk,hys hnd fun x hx=>(hmem' x).mpr hx,fun l' ys' hl' hp' hs'=>?_⟩;exact k l' ys' _ (s2.free hl') au (s2.trans (aD hl')) hs' (hp'.nodup_iff.mpr hnd) fun x=>by rw[hp'.mem_iff,hmem' x]
 | cons u us =>
  refine bO ?_;refine⟨fun σ' H'=>∃ m',m'<dh ts/\St0 m' σ' H',fun _ _ h=>h,?_⟩
  have hne:ts≠[]:=by
   intro z;subst z;cases hp
  have hlp:=Paired.length hp;have hld:l≠d:=fun z=>by subst z;rw[hl2]at hd2;cases hd2
  refine⟨_,rfl,l,rfl,⟨_,SqL.of hl2⟩,iC (K:=K) (a:=l) (xs:=u::us)
   (fun i σ H3=>∃(kvs:List (Key×V))(zs:List Str)(pv:Option V),σ=[some v,some (.ref d),some (.ref l),pv]/\(∀ b o,H2 b=some o->b≠d->H3 b=some o)/\H3 d=some (.dK kvs)/\kvs.map (·.1)=zs.map Sum.inr/\zs.Nodup /\
    (∀ x,x∈zs↔x∈ys\/Tr.nm x∈ts.take i))
   ⟨kvs,ys,pv,rfl,fun _ _ h _=>h,hd2,hk,hnd,fun x=>by simp⟩ (fun i σ H3 _ ⟨_,_,_,_,s3,_⟩=>SqL.of (s3 _ _ hl2 hld)) ?_ ?_⟩
  . rintro i y σ H3 hi ⟨kvs,zs,pv,rfl,s3,hd3,hk3,hn3,hm3⟩
    obtain⟨ty,hty,hy⟩:=cI hp i y hi;obtain⟨a,rest,rfl,ha,hnm,hkid⟩:=hy.open;have had:a≠d:=fun z=>by subst z;rw[ha]at hd2;cases hd2
    have ha3:=s3 _ _ ha had
    have e6:ts.take (i+1)=ts.take i++[ty]:=by
     rw[qta,hty]
     rfl
    have hin:∀ x,Tr.nm x∈ts.take (i+1)->x∈tr.names:=fun x hx=>(hmem x).mpr (.inr ((nq ts x).mpr (.inl (List.mem_of_mem_take hx))))
    refine⟨_,rfl,a,_,0,.str ty.tag,rfl,rfl,SqT.of ha3,cM (j:=0) rfl,rfl,_,rfl,?_⟩;refine aU (fun e=>?_) (fun e=>?_)
    . have e:V.str ty.tag=V.str "name":=qod e
      have e:=(jD ty).mp (V.str.inj e);obtain⟨x,rfl,rfl⟩:=hnm e
      have hlen:zs.length<64:=hys hn3 fun x hx=>by
       rcases(hm3 x).mp hx with h|h
       . exact(hmem x).mpr (.inl h)
       . exact hin x (by rw[e6];exact qal _ h)
      have hlk:kvs.length=zs.length:=by
       have:=congrArg List.length hk3
       rwa [qlm,qlm]at this
      refine⟨_,rfl,_,rfl,a,_,1,.str x,rfl,rfl,SqT.of ha3,rfl,d,_,rfl,DPut.k (k:=Sum.inr x) hd3 (fB (by omega)),?_⟩;refine⟨_,if x∈zs then zs else zs++[x],_,rfl,fun b o h hb=>?_,au,BX hk3 x _,?_,fun z=>?_⟩
      . rw[aC hb]
        exact s3 b o h hb
      . split
        . exact hn3
        . exact yz hn3 (by assumption)
      . rw [e6,List.mem_append,List.mem_singleton,Tr.nm.injEq]
        by_cases hx:x∈zs
        . rw[qp hx,hm3 z]
          constructor
          . rintro(h|h)
            . exact .inl h
            . exact .inr (.inl h)
          . rintro(h|h|h)
            . exact .inl h
            . exact .inr h
            . subst h;exact(hm3 z).mp hx
        . rw[qnZ hx,List.mem_append,List.mem_singleton,hm3 z]
          constructor
          . rintro((h|h)|h)
            . exact .inl h
            . exact .inr (.inl h)
            . exact .inr (.inr h)
          . rintro(h|h|h)
            . exact .inl (.inl h)
            . exact .inl (.inr h)
            . exact .inr h
    . have e:¬ V.str ty.tag=V.str "name":=fun z=>e (qdt z)
      have e:ty.isNm=false:=by
       cases q:ty.isNm with
       |false=>rfl
       |true=>exact absurd (congrArg V.str ((jD ty).mpr q)) e
      refine⟨kvs,zs,_,rfl,s3,hd3,hk3,hn3,fun z=>?_⟩;rw[hm3 z,e6,List.mem_append,List.mem_singleton]
      constructor
      . rintro(h|h)
        . exact .inl h
        . exact .inr (.inl h)
      . rintro(h|h|h)
        . exact .inl h
        . exact .inr h
        . subst h;cases e
  . rintro σ H3 ⟨kvs,zs,pv,rfl,s3,hd3,hk3,hn3,hm3⟩
    have t3:Tups H2 H3:=fun b xs h=>s3 b _ h (fun z=>by subst z;rw[hd2]at h;cases h)
    have hp3:=cU t3 hp;rw[hlp,List.take_length]at hm3;refine⟨_,rfl,l,u::us,ts,rfl,s3 _ _ hl2 hld,hp3,hz,fun l' ws H' hn hl' s' hp'=>?_⟩;have e2:=iT ts;have e3:0<ts.length:=List.length_pos_iff.mpr hne;refine⟨_,by omega,l',ws,ts.flatMap Tr.kids,kvs,zs,_,rfl,fun b o h=>s' b o (s3 b o (s2 b o h) (aH h hd)),hl',hp',by omega,s' _ _ hd3,hk3,hn3,fun x=>?_,rfl⟩;rw[hmem x,hm3 x,nq ts x,or_assoc]
def Two(H:Hp)(a:Addr)(x:Nat×Nat):Prop:=H a=some (.tup [.int x.1,.int x.2])
theorem Two.mono{H H':Hp}{a:Addr}{x:Nat×Nat}(s:Same H H')(h:Two H a x):Two H' a x:=s _ _ h
theorem Two.tups{H H':Hp}{a:Addr}{x:Nat×Nat}(s:Tups H H')(h:Two H a x):Two H' a x:=s _ _ h
inductive spTurnedA(vs:List V)(H:Hp)(Q:VK)(E:XK):Prop
 |mk (a x) (_:vs=[.ref a]) (_:Two H a x) (_:∀ q H',Same H H'->Two H' q (x.2,x.1)->Q (.ref q) H')
inductive spJoined(n:Nat)(vs:List V)(H:Hp)(Q:VK)(E:XK):Prop
 |mk (o a b x y) (_:vs=[.str (Op.str o),.ref a,.ref b]) (_:1<=n) (_:(o = .thn -> 2<=n)) (_:Two H a x) (_:Two H b y) (_:∀ q H',Same H H'->Two H' q (oE o x y)->Q (.ref q) H')
def Tells(H:Hp)(kvs:List (Key×V))(f:Str->Nat×Nat)(xs:List Str):Prop:=∀ x∈xs,∃ q,bR kvs (.inr x)=some (.ref q)/\Two H q (f x)
theorem Tells.mono{H H':Hp}{kvs:List (Key×V)}{f:Str->Nat×Nat}{xs:List Str}(s:Tups H H')(h:Tells H kvs f xs):Tells H' kvs f xs:=fun x hx=>let ⟨q,e,t⟩:=h x hx;⟨q,e,t.tups s⟩
inductive spSides(d:Nat)(vs:List V)(H:Hp)(Q:VK)(E:XK):Prop
 |mk (v tr m kvs f e) (_:vs=[v,.ref m,.int (e:Nat)]) (_:TrAt H v tr) (_:tr.depth<=d) (_:H m=some (.dK kvs)) (_:Tells H kvs f tr.names) (_:∀ q H',Same H H'->Two H' q (cR f e tr)->Q (.ref q) H')
theorem scTurnedA:FnScope ["side"] ["side"] (aB S10):=mkS
theorem qz(T:Txt P w K mg t):FO P w K mg base 1 t.a10 t.d10 ["side"] spTurnedA:=by
 refine T.q10.F.ok2 scTurnedA (fun cdv A outer s H vs Q E hr h=>?_);obtain⟨a,x,rfl,ha,k⟩:=h;have nd:=scTurnedA.nd;refine⟨_,(aq (aA (bh (aa (pix aM (pvl 0) ao) (aa (pix aM (pvl 0) ao) aj))))),?_⟩;refine⟨_,rfl,a,_,1,.int x.2,rfl,rfl,SqT.of ha,rfl,_,rfl,a,_,0,.int x.1,rfl,rfl,SqT.of ha,rfl,lk (by first|exact qnb rfl|simp),fun q hq=>?_⟩;exact k q _ (aD hq) au
theorem scJoined:FnScope ["kind","left","right","alike","unlike"] ["kind","left","right"] (aB S11):=mkS
theorem sO(T:Txt P w K mg t):∀ n:Nat,FO P w K mg base (n+2) t.a11 t.d11 ["kind","left","right"] (spJoined n)
 | 0=>by
  refine T.q11.F.ok1 scJoined (fun vs H Q E h=>by obtain⟨o,a,b,x,y,rfl,_⟩:=h;rfl) (fun cdv A outer s H vs Q E hr h=>?_);obtain⟨o,a,b,x,y,rfl,h1,_⟩:=h;omega
 | n + 1=>by
  have G11:=sO T n;have G10:=qz (base:=base) T;refine T.q11.F.ok1 scJoined (fun vs H Q E h=>by obtain⟨o,a,b,x,y,rfl,_⟩:=h;rfl) (fun cdv A outer s H vs Q E hr h=>?_);obtain⟨o,a,b,x,y,rfl,h1,h2,ha,hb,k⟩:=h;have nd:=scJoined.nd
  refine⟨_,(ak (aR (aG aW (pvl 0) az (aJ _))
    (aq (aA (bh (aa (aF gn (pix aM (pvl 1) ao) (pix aM (pvl 2) ao)) (aa (aF lJ (pix aM (pvl 1) ao) (pix aM (pvl 2) ao)) aj)))))
    aN)
   (ak (aR (aG aW (pvl 0) az (aJ _))
    (aq (aA (bh (aa (aF lJ (pix aM (pvl 1) ao) (pix aM (pvl 2) ao)) (aa (aF gn (pix aM (pvl 1) ao) (pix aM (pvl 2) ao)) aj)))))
    aN)
   (ak (aR (aG aW (pvl 0) az (aJ _))
    (aq (aA (aO G11 (hr.mo) T.q11.m T.q11.k T.q11.b aK (aa az (aa (aO G10 (hr.mo) T.q10.m T.q10.k T.q10.b aK (aa (pvl 1) aj)) (aa (pvl 2) aj))))))
    aN)
   (ak (psl 3 nd (aF lJ (aF gn (pix aM (pvl 1) ao) (pix aM (pvl 2) ao)) (aF gn (pix aM (pvl 1) ao) (pix aM (pvl 2) ao))))
   (ak (psl 4 nd (aF lJ (aF gn (pix aM (pvl 1) ao) (pix aM (pvl 2) ao)) (aF gn (pix aM (pvl 1) ao) (pix aM (pvl 2) ao))))
   (aq (aA (bh (aa (pvl 3) (aa (pvl 4) aj)))))))))),?_⟩
  refine⟨_,rfl,rfl,_,rfl,aU (fun c=>?A) (fun c1=>⟨_,rfl,rfl,_,rfl,aU (fun c=>?O) (fun c2=>⟨_,rfl,rfl,_,rfl,aU (fun c=>?T) (fun c3=>?S)⟩)⟩)⟩
  case A =>
   obtain rfl:o = .and:=oG (o':=.and) (qod c);refine⟨_,rfl,a,_,0,.int x.1,rfl,rfl,SqT.of ha,rfl,_,rfl,b,_,0,.int y.1,rfl,rfl,SqT.of hb,rfl,_,_,rfl,rfl,_,rfl,a,_,1,.int x.2,rfl,rfl,SqT.of ha,rfl,_,rfl,b,_,1,.int y.2,rfl,rfl,SqT.of hb,rfl,_,_,rfl,rfl,lk (by first|exact qnb rfl|simp),fun q hq=>?_⟩;exact k q _ (aD hq) (by unfold Two;rw[au];simp only[band,bor];rfl)
  case O =>
   obtain rfl:o = .or:=oG (o':=.or) (qod c);refine⟨_,rfl,a,_,0,.int x.1,rfl,rfl,SqT.of ha,rfl,_,rfl,b,_,0,.int y.1,rfl,rfl,SqT.of hb,rfl,_,_,rfl,rfl,_,rfl,a,_,1,.int x.2,rfl,rfl,SqT.of ha,rfl,_,rfl,b,_,1,.int y.2,rfl,rfl,SqT.of hb,rfl,_,_,rfl,rfl,lk (by first|exact qnb rfl|simp),fun q hq=>?_⟩;exact k q _ (aD hq) (by unfold Two;rw[au];simp only[band,bor];rfl)
  case T =>
   obtain rfl:o = .thn:=oG (o':=.thn) (qod c);refine⟨_,rfl,a,x,rfl,ha,fun q H1 s1 hq=>⟨_,rfl,.or,q,b,(x.2,x.1),y,rfl,by have:=h2 rfl;omega,(fun z=>by cases z),hq,hb.mono s1,fun q2 H2 s2 hq2=>?_⟩⟩;exact k q2 H2 (s1.trans s2) hq2
  case S =>
   obtain rfl:o = .same:=by
    cases o with
    |and=>exact absurd (qdt rfl) c1
    |or=>exact absurd (qdt rfl) c2
    |thn=>exact absurd (qdt rfl) c3
    |same=>rfl
   refine⟨_,rfl,a,_,0,.int x.1,rfl,rfl,SqT.of ha,rfl,_,rfl,b,_,0,.int y.1,rfl,rfl,SqT.of hb,rfl,_,_,rfl,rfl,_,rfl,a,_,1,.int x.2,rfl,rfl,SqT.of ha,rfl,_,rfl,b,_,1,.int y.2,rfl,rfl,SqT.of hb,rfl,_,_,rfl,rfl,_,_,rfl,rfl,?_⟩;refine⟨_,rfl,a,_,0,.int x.1,rfl,rfl,SqT.of ha,rfl,_,rfl,b,_,1,.int y.2,rfl,rfl,SqT.of hb,rfl,_,_,rfl,rfl,_,rfl,a,_,1,.int x.2,rfl,rfl,SqT.of ha,rfl,_,rfl,b,_,0,.int y.1,rfl,rfl,SqT.of hb,rfl,_,_,rfl,rfl,_,_,rfl,rfl,?_⟩;refine⟨_,rfl,_,rfl,lk (by first|exact qnb rfl|simp),fun q hq=>?_⟩;exact k q _ (aD hq) (by unfold Two;rw[au];simp only[band,bor];rfl)
theorem scSides:FnScope ["tree","of_names","every","kind","left"] ["tree","of_names","every"] (aB S9):=mkS
theorem uZ(T:Txt P w K mg t):∀ d:Nat,FO P w K mg base (d+5) t.a9 t.d9 ["tree","of_names","every"] (spSides d)
 | 0=>by
  refine T.q9.F.ok1 scSides (fun vs H Q E h=>by obtain⟨v,tr,m,kvs,f,e,rfl,_⟩:=h;rfl) (fun cdv A outer s H vs Q E hr h=>?_);obtain⟨v,tr,m,kvs,f,e,rfl,ht,hd,k⟩:=h;have:=tr.depth_pos;omega
 | d + 1=>by
  have G9:=uZ T d;have G10:=qz (base:=base) T;have G11:=sO (base:=base) T 2;refine T.q9.F.ok1 scSides (fun vs H Q E h=>by obtain⟨v,tr,m,kvs,f,e,rfl,_⟩:=h;rfl) (fun cdv A outer s H vs Q E hr h=>?_);obtain⟨v,tr,m,kvs,f,e,rfl,ht,hd,hm,htl,k⟩:=h;obtain⟨a,rest,rfl,ha,hnm,hkid⟩:=ht.open;have nd:=scSides.nd;have hu:=gj hr
  refine⟨_,(ak (psl 3 nd (pix aM (pvl 0) ao))
   (ak (aR (aG aW (pvl 3) az (aJ _))
    (aq (aA (wN hu (pvl 1) (pix aM (pvl 0) ao) (fun _ _=>rfl))))
    aN)
   (ak (aR (aG aW (pvl 3) az (aJ _))
    (aq (aA (bh (aa (pvl 2) (aa ao aj)))))
    aN)
   (ak (aR (aG aW (pvl 3) az (aJ _))
    (aq (aA (bh (aa ao (aa (pvl 2) aj)))))
    aN)
   (ak (psl 4 nd (aO G9 (hr.mo) T.q9.m T.q9.k T.q9.b aK (aa (pix aM (pvl 0) ao) (aa (pvl 1) (aa (pvl 2) aj)))))
   (ak (aR (aG aW (pvl 3) az (aJ _))
    (aq (aA (aO G10 (hr.mo) T.q10.m T.q10.k T.q10.b aK (aa (pvl 4) aj))))
    aN)
   (aq (aA (aO G11 (hr.mo) T.q11.m T.q11.k T.q11.b aK (aa (pvl 3) (aa (pvl 4) (aa (aO G9 (hr.mo) T.q9.m T.q9.k T.q9.b aK (aa (pix aM (pvl 0) ao) (aa (pvl 1) (aa (pvl 2) aj)))) aj)))))))))))),?_⟩
  refine⟨_,rfl,a,_,0,.str tr.tag,rfl,rfl,SqT.of ha,cM (j:=0) rfl,?_⟩;refine⟨_,rfl,rfl,_,rfl,aU (fun c=>?N) (fun c1=>⟨_,rfl,rfl,_,rfl,aU (fun c=>?Y) (fun c2=>⟨_,rfl,rfl,_,rfl,aU (fun c=>?O) (fun c3=>?R)⟩)⟩)⟩
  case N =>
   obtain⟨x,rfl⟩:=Hv (qod c);obtain⟨q,hq,h2⟩:=htl x qms;refine⟨_,rfl,_,rfl,a,_,1,.str x,rfl,rfl,SqT.of (Fz ht),rfl,m,_,rfl,?_,k q H (Same.refl H) h2⟩;have:=DGet.k (k:=.inr x) hm;rw[hq]at this;exact this
  case Y =>
   obtain rfl:=Ce (qod c);exact⟨_,rfl,lk (by first|exact qnb rfl|simp),fun q hq=>k q _ (aD hq) au⟩
  case O =>
   obtain rfl:=Hw (qod c);exact⟨_,rfl,lk (by first|exact qnb rfl|simp),fun q hq=>k q _ (aD hq) au⟩
  case R =>
   cases tr with
   |nm x=>exact absurd (qdt rfl) c1
   |yes=>exact absurd (qdt rfl) c2
   |no=>exact absurd (qdt rfl) c3
   | not u =>
    obtain⟨vu,hau,htu⟩:=yD ht;have hd:u.depth+1<=d+1:=hd;refine⟨_,rfl,a,_,1,vu,rfl,rfl,SqT.of hau,rfl,_,rfl,_,rfl,vu,u,m,kvs,f,e,rfl,htu,by omega,hm,htl,fun q H1 s1 hq=>?_⟩;refine⟨_,rfl,rfl,_,rfl,aU (fun c=>?_) (fun c4=>absurd (qdt rfl) c4)⟩;exact⟨_,rfl,q,_,rfl,hq,fun q2 H2 s2 hq2=>k q2 H2 (s1.trans s2) hq2⟩
   | bin o x y =>
    obtain⟨vx,vy,hab,htx,hty⟩:=yC ht;have hd:max x.depth y.depth+1<=d+1:=hd;refine⟨_,rfl,a,_,1,vx,rfl,rfl,SqT.of hab,rfl,_,rfl,_,rfl,vx,x,m,kvs,f,e,rfl,htx,by omega,hm,fun z hz=>htl z (qal _ hz),fun q H1 s1 hq=>?_⟩;refine⟨_,rfl,rfl,_,rfl,aU (fun c=>absurd (V.str.inj (qod c)) (lW o).2.2.1) (fun c4=>?_)⟩;refine⟨_,rfl,_,rfl,_,rfl,a,_,2,vy,rfl,rfl,SqT.of (s1 _ _ hab),rfl,_,rfl,_,rfl,vy,y,m,kvs,f,e,rfl,hty.mono s1.tups,by omega,s1 _ _ hm,?_,fun q2 H2 s2 hq2=>?_⟩
    . exact Tells.mono s1.tups fun z hz=>htl z (qar _ hz)
    . exact⟨o,q,q2,_,_,rfl,by decide,fun _=>qnr _,hq.mono s2,hq2,fun q3 H3 s3 hq3=>k q3 H3 ((s1.trans s2).trans s3) hq3⟩
def pM(n k:Nat):Nat:=if n.testBit k=true then 1 else 0
theorem FP(n k:Nat):Builtin.bitAnd ((n:Int) / 2 ^ ((k:Int)).toNat) 1=((pM n k:Nat):Int):=by
 have e:((n:Int) / 2 ^ ((k:Int)).toNat)=((n / 2 ^ k:Nat):Int):=by
  rw[Int.toNat_natCast];simp
 have e1:(1:Int)=((1:Nat):Int):=rfl;rw[e,e1,band,Nat.and_one_is_mod,Jj]
 rfl
inductive spBit(vs:List V)(H:Hp)(Q:VK)(E:XK):Prop
 |mk (n k:Nat) (_:vs=[.int n,.int k]) (_:Q (.int (pM n k:Nat)) H)
theorem u0(x:Str):∀ ns:List Str,inV (.str x) (ns.map V.str)=decide (x∈ns)
 |[]=>rfl
 | y::r=>by
  have ih:=u0 x r;unfold inV at ih ⊢;rw[List.map_cons,List.any_cons,ih]
  have e:eqV (.str y) (.str x)=decide (y=x):=by
   show(y == x)=_
   by_cases z:y=x
   . simp[z]
   . simp[z]
  rw[e]
  by_cases z:y=x
  . simp[z]
  . by_cases z2:x∈r
    . simp[z2]
    . have z3:¬ x=y:=fun h=>z h.symm
      simp[z,z2,z3]
theorem sS(ns:List Str):(ns.map V.str).all eQ=true:=by
 rw[List.all_map];exact List.all_eq_true.mpr fun _ _=>rfl
def qC(x:Str):Prop:=x.length<=1000/\∀ c∈x.cps.toList,c<16 ^ 8
theorem IsName.small{y:Str}(h:IsName y):qC y:=⟨by rw[lU];have:=h.le;omega,fun c hc=>by have:=(h.ok c hc).2;omega⟩
inductive spNeed(t:Adr)(vs:List V)(H:Hp)(Q:VK)(E:XK):Prop
 |mk (p:Addr) (v:V) (ns:List Str) (tr:Tr) (_:vs=[.ref p,v]) (_:H p=some (.tup (ns.map V.str))) (_:TrAt H v tr) (_:tr.size<=100000) (_:(∃ L:List Str,L.length<64/\∀ x∈tr.names,x∈L)) (_:(∀ x∈tr.names,qC x)) (_:((∀ x∈tr.names,x∈ns)->∀ H',Same H H'->Q .non H')) (_:((¬ ∀ x∈tr.names,x∈ns)->∀ H',Same H H'->E (.ref t.zg) none H'))
def Fits(H:Hp)(p:Addr)(v:V)(ns:List Str)(tr:Tr):Prop :=
 H p=some (.tup (ns.map V.str))/\ns.length<=8/\ns.Nodup/\TrAt H v tr/\tr.size<=100000/\tr.depth<=110/\(∃ L:List Str,L.length<64/\∀ x∈tr.names,x∈L)/\∀ x∈tr.names,qC x
theorem scBit:FnScope ["number","place"] ["number","place"] (aB S6):=mkS
theorem u5(T:Txt P w K mg t):FO P w K mg base 1 t.a6 t.d6 ["number","place"] spBit:=by
 refine T.q6.F.ok2 scBit (fun cdv A outer s H vs Q E hr h=>?_);obtain⟨n,k,rfl,q⟩:=h;have nd:=scBit.nd;refine⟨_,(aq (aA (aF gn (aF ux (pvl 0) (pvl 1)) ao))),?_⟩;refine⟨_,rfl,_,rfl,_,_,rfl,rfl,Int.natCast_nonneg k,_,_,rfl,rfl,?_⟩;rw[<- FP]at q;exact q
theorem scNeed:FnScope ["names","tree","name"] ["names","tree"] (aB S8):=mkS
theorem Jm(T:Txt P w K mg t):FO P w K mg base 4 t.a8 t.d8 ["names","tree"] (spNeed t):=by
 have G5:=FN (base:=base) T;refine T.q8.F.ok2 scNeed (fun cdv A outer s H vs Q E hr h=>?_);obtain⟨p,v,ns,tr,rfl,hp,ht,hsz,hL,hsm,k1,k2⟩:=h;have nd:=scNeed.nd
 refine ⟨_,(aq (fL own1 rfl (dX (aO G5 (hr.mo) T.q5.m T.q5.k T.q5.b aK (aa (pvl 1) aj))) (pgl 2 nd)
    (aq (aR (aG uD (pvl 2) (pvl 0) (by with_unfolding_all rfl))
     (aq (eN fP rfl T.zU T.zab (aa (En az (qZ (pvl 2)) az) aj)))
     aN)))),?_⟩
 refine⟨_,rfl,v,tr,rfl,ht,hsz,hL,fun l ys H1 hl hl1 s1 _ _ hmem=>?_⟩
 refine⟨l,rfl,⟨_,SqL.of hl1⟩,iC (K:=K) (a:=l) (xs:=ys.map V.str)
  (fun i σ H2=>∃ o:Option V,σ=[some (.ref p),some v,o]/\Same H1 H2/\∀ x∈ys.take i,x∈ns) ⟨none,rfl,Same.refl _,by simp⟩ (fun i σ H2 _ ⟨_,_,s2,_⟩=>SqL.of (s2 _ _ hl1)) ?_ ?_⟩
 . rintro i y σ H2 hi ⟨o,rfl,s2,hin⟩
   rw[qgm]at hi
   obtain⟨x,hx,rfl⟩:∃ x,ys[i]? = some x/\y=V.str x:=by
    cases e:ys[i]? with
    |none=>rw[e]at hi;cases hi
    |some x=>rw[e]at hi;exact⟨x,rfl,(qsi hi).symm⟩
   have hxt:x∈tr.names:=(hmem x).mp (qmg hx);refine⟨_,rfl,_,rfl,p,_,rfl,.inr (SqT.of (s2 _ _ (s1 _ _ hp))),rfl,sS ns,_,rfl,?_⟩;rw[qp rfl,u0]
   by_cases hm:x∈ns
   . rw[qdt hm]
     refine bj ?_;refine⟨_,rfl,s2,fun z hz=>?_⟩;rw[qta,hx]at hz;rcases List.mem_append.mp hz with hz|hz
     . exact hin z hz
     . have:z=x:=by simpa using hz
       rw[this];exact hm
   . rw[qdf hm]
     refine bO ?_;obtain⟨z1,z2⟩:=hsm x hxt;have e1:=PySem.StrLaws.reprText_len x z2;have e3:(Str.ofString "the name ").length=9:=by decide +kernel
     have e4:(Str.ofString " is not told").length=12:=by decide +kernel
     refine⟨_,rfl,(by decide +kernel),_,rfl,x,rfl,repr_fits z2 z1,_,rfl,?_,_,rfl,?_,(by show 1<=sizeLine;decide),k2 (fun z=>hm (z x hxt)) H2 (s1.trans s2)⟩
     . rw[strLen_append,e3];unfold sizeLine;omega
     . rw[strLen_append,strLen_append,e3,e4];unfold sizeLine;omega
 . rintro σ H2 ⟨o,rfl,s2,hin⟩
   rw[qlm,List.take_length]at hin;exact k1 (fun x hx=>hin x ((hmem x).mpr hx)) H2 (s1.trans s2)
theorem Cg(kvs:List (Key×V))(x y:Str)(v:V):bR (putK kvs (.inr x) v) (.inr y)=if y=x then some v else bR kvs (.inr y):=by
 rw[Ed]
 by_cases h:y=x
 . rw[qp h,qp (by rw[h])]
 . rw[qnZ h,qnZ (fun z=>h (by injection z))]
theorem Ci{ns:List Str}(hn:ns.Nodup){i j:Nat}(hi:i<ns.length)(hj:j<ns.length)(e:ns[i]=ns[j]):i=j:=by
 rcases Nat.lt_trichotomy i j with h|h|h
 . exact absurd e ((List.pairwise_iff_getElem.mp hn) i j hi hj h)
 . exact h
 . exact absurd e.symm ((List.pairwise_iff_getElem.mp hn) j i hj hi h)
theorem KH{ns:List Str}(hn:ns.Nodup){i:Nat}{x:Str}(h:ns[i]? = some x):ns.idxOf x=i:=by
 obtain⟨hi,e⟩:=List.getElem?_eq_some_iff.mp h;have h1:ns.idxOf x<ns.length:=List.idxOf_lt_length_iff.mpr (e ▸ List.getElem_mem hi);have h2:ns[ns.idxOf x]=x:=List.getElem_idxOf h1;exact Ci hn h1 hi (h2.trans e.symm)
inductive spFull(vs:List V)(H:Hp)(Q:VK)(E:XK):Prop
 |mk (p:Addr) (ns:List Str) (_:vs=[.ref p]) (_:H p=some (.tup (ns.map V.str))) (_:ns.length<=8) (_:Q (.int (cg ns.length:Nat)) H)
inductive spWith(vs:List V)(H:Hp)(Q:VK)(E:XK):Prop
 |mk (p:Addr) (ns:List Str) (k:Nat) (_:vs=[.ref p,.int k]) (_:H p=some (.tup (ns.map V.str))) (_:ns.length<=8) (_:∀ H',Same H H'->Q (.int (du ns.length k:Nat)) H')
def ofK(ns:List Str)(c:Int)(x:Str):Nat×Nat:=if (ns.idxOf x:Int)<c then ofN ns x else(0,0)
inductive spOf(vs:List V)(H:Hp)(Q:VK)(E:XK):Prop
 |mk (p:Addr) (ns:List Str) (c:Int) (_:vs=[.ref p,.int c]) (_:H p=some (.tup (ns.map V.str))) (_:ns.length<=8) (_:ns.Nodup) (_:∀ m kvs H',Same H H'->H' m=some (.dK kvs)->Tells H' kvs (ofK ns c) ns->Q (.ref m) H')
inductive spTable(t:Adr)(vs:List V)(H:Hp)(Q:VK)(E:XK):Prop
 |mk (p:Addr) (v:V) (ns:List Str) (tr:Tr) (_:vs=[.ref p,v]) (_:Fits H p v ns tr) (_:((∀ x∈tr.names,x∈ns)->∀ H',Same H H'->Q (.int (aQ ns tr:Nat)) H')) (_:((¬ ∀ x∈tr.names,x∈ns)->∀ H',Same H H'->E (.ref t.zg) none H'))
theorem u6(p:Nat->Bool):∀ m,((((List.range m).filter p).map fun i=>((2 ^ i:Nat):Int))).sum=((fJ p m:Nat):Int)
 | 0=>rfl
 | m+1=>by
  rw[List.range_succ,List.filter_append,List.map_append,List.sum_append,u6 p m];show _+(((List.filter p [m]).map fun i=>((2 ^ i:Nat):Int))).sum=((fJ p m+(if p m=true then 2 ^ m else 0):Nat):Int)
  cases hp:p m with
  |true=>simp[hp]
  |false=>simp[hp]
theorem scFull:FnScope ["names"] ["names"] (aB S12):=mkS
theorem rA(T:Txt P w K mg t):FO P w K mg base 1 t.a12 t.d12 ["names"] spFull:=by
 refine T.q12.F.ok2 scFull (fun cdv A outer s H vs Q E hr h=>?_);obtain⟨p,ns,rfl,hp,h8,k⟩:=h;have nd:=scFull.nd;refine⟨_,(aq (aA (aF cP (aF gb ao (aF gb ao (bf aZ T.ze Bt.len (aa (pvl 0) aj)))) ao))),?_⟩;have h256:2 ^ ns.length<=256:=Nat.pow_le_pow_right (n:=2) (by decide) h8
 have e1:(1:Int) * 2 ^ (((ns.map V.str).length:Nat):Int).toNat=((2 ^ ns.length:Nat):Int):=by
  rw[qlm,Int.toNat_natCast];simp
 have e2':cg ns.length=2 ^ (2 ^ ns.length) - 1:=rfl;have e3':du ns.length=fun k=>fJ (fun i=>i.testBit k) (2 ^ ns.length):=rfl
 generalize 2 ^ ns.length=N at h256 e1 e2' e3';refine⟨_,rfl,p,_,rfl,.inr (SqT.of hp),_,_,rfl,rfl,⟨by rw[qlm];omega,by rw[qlm];omega,by decide⟩,_,_,rfl,rfl,⟨?_,?_,by decide⟩,_,_,rfl,rfl,?_⟩
 . rw[e1];omega
 . rw[e1];omega
 . have e2:(1:Int) * 2 ^ ((1:Int) * 2 ^ (((ns.map V.str).length:Nat):Int).toNat).toNat - 1=((cg ns.length:Nat):Int):=by
    rw[e1,Int.toNat_natCast,e2'];have:1<=2 ^ N:=Nat.one_le_two_pow;rw[Int.one_mul,Int.ofNat_sub this];simp
   rw[<- e2]at k;exact k
theorem scWith:FnScope ["names","place"] ["names","place"] (aB S13):=mkS
theorem Jo(T:Txt P w K mg t):FO P w K mg base 2 t.a13 t.d13 ["names","place"] spWith:=by
 have G6:=u5 (base:=base) T;refine T.q13.F.ok2 scWith (fun cdv A outer s H vs Q E hr h=>?_);obtain⟨p,ns,k,rfl,hp,h8,q⟩:=h;have nd:=scWith.nd;refine⟨_,(aq (aA (bf (Bp rfl) T.zaE Bt.sum (aa (dg rfl ["world","place"] [none,some 1] (gU T.zr (aa (aF gb ao (bf aZ T.ze Bt.len (aa (pvl 0) aj))) aj)) (by kernel_rfl) (fun _ _ _ _ _ _=>(pgl 0 (ndS (l:=["world","place"])))) (fun _ _ _ _ _ _=>iD (aG aW (aO G6 (hr.mo) T.q6.m T.q6.k T.q6.b aK (aa (pvl 0) (aa (pvc 1) aj))) ao (aJ _))) (fun _ _ _ _ _ _=>(aF gb ao (pvl 0)))) aj)))),?_⟩;have h256:2 ^ ns.length<=256:=Nat.pow_le_pow_right (n:=2) (by decide) h8
 have e1:(1:Int) * 2 ^ (((ns.map V.str).length:Nat):Int).toNat=((2 ^ ns.length:Nat):Int):=by
  rw[qlm,Int.toNat_natCast];simp
 have e2':cg ns.length=2 ^ (2 ^ ns.length) - 1:=rfl;have e3':du ns.length=fun k=>fJ (fun i=>i.testBit k) (2 ^ ns.length):=rfl
 generalize 2 ^ ns.length=N at h256 e1 e2' e3';refine⟨_,rfl,p,_,rfl,.inr (SqT.of hp),_,_,rfl,rfl,⟨by rw[qlm];omega,by rw[qlm];omega,by decide⟩,?_⟩
 try dsimp only
 rw[e1];refine⟨_,rfl,by omega,by omega,?_⟩;rw[Int.toNat_natCast];refine lN (n:=N) (fun i ys H'=>H'=H/\ys=((List.range i).filter fun j=>j.testBit k).map fun j=>V.int ((2 ^ j:Nat):Int)) ⟨rfl,rfl⟩ (lkB (by omega)) (fun i ys H' ⟨_,e⟩=>?_) ?_ ?_
 . rw[e,qlm]
   refine qnt (List.length_filter_le _ _) ?_;rw[List.length_range];exact qnr _
 . rintro i ys H' hi ⟨rfl,rfl⟩
   refine⟨⟨rfl,trivial⟩,?_⟩;refine⟨_,rfl,_,rfl,i,k,?_,rfl,_,rfl,?_⟩
   . rw[Int.zero_add];rfl
   . unfold pM
     rw[List.range_succ,List.filter_append,List.map_append];cases hb:i.testBit k with
     | true =>
      refine bO ?_;refine⟨_,rfl,_,_,rfl,rfl,⟨by omega,by omega,by decide⟩,rfl,?_⟩
      try dsimp only
      rw[List.filter_cons,qp hb,Int.zero_add,Int.toNat_natCast];simp
     | false =>
      refine bj ⟨rfl,?_⟩;rw[List.filter_cons,qnZ (by rw[hb];decide)];simp
 . rintro ys H' ⟨rfl,rfl⟩ l hl
   refine⟨l,((List.range N).filter fun j=>j.testBit k).map fun j=>((2 ^ j:Nat):Int),rfl,SqL.of (by rw[au,List.map_map];rfl),?_⟩;have q:=q _ (aD (o:=.lst (((List.range N).filter fun j=>j.testBit k).map fun j=>V.int ((2 ^ j:Nat):Int))) hl);rw[e3']at q;dsimp only at q;rw[<- u6]at q;exact q
theorem scOf:FnScope ["names","known_ones","of_names","place","name","kept"] ["names","known_ones"] (aB S14):=mkS
theorem Mi(T:Txt P w K mg t):FO P w K mg base 3 t.a14 t.d14 ["names","known_ones"] spOf:=by
 have G13:=Jo (base:=base) T;have G12:=rA (base:=base) T;refine T.q14.F.ok2 scOf (fun cdv A outer s H vs Q E hr h=>?_);obtain⟨p,ns,c,rfl,hp,h8,hnd,k⟩:=h;have nd:=scOf.nd;have hu:=gj hr
 refine⟨_,(ak (psl 2 nd pF)
   (ak (fL own1 rfl (m8 (pvl 0) T.zq) (mQ (n:=2) rfl (bT (pgl 3 nd) (bT (pgl 4 nd) gf)))
    (ak (psl 5 nd (aO G13 (hr.mo) T.q13.m T.q13.k T.q13.b aK (aa (pvl 0) (aa (pvl 3) aj))))
    (aq (qY hu (pvl 2) (pvl 4) (eF (aG nW (pvl 3) (pvl 1) (aJ _)) (bh (aa (pvl 5) (aa (aF kW (aO G12 (hr.mo) T.q12.m T.q12.k T.q12.b aK (aa (pvl 0) aj)) (pvl 5)) aj))) (bh (aa ao (aa ao aj)))) rfl))))
   (aq (aA (pvl 2))))),?_⟩
 intro m hm;have s0:Same H (upd H m (.dK [])):=aD hm
 refine⟨_,rfl,p,rfl,⟨_,SqT.of (s0 _ _ hp)⟩,Bu (K:=K) (a:=p) (xs:=ns.map V.str)
  (fun i σ H2=>∃(o3 o4 o5:Option V)(kvs:List (Key×V)),σ=[some (.ref p),some (.int c),some (.ref m),o3,o4,o5]/\Same H H2/\H2 m=some (.dK kvs)/\kvs.length<=i/\Tells H2 kvs (ofK ns c) (ns.take i))
  ⟨none,none,none,[],rfl,s0,au,qnr _,(fun x hx=>by simp at hx)⟩ (fun i σ H2 _ ⟨_,_,_,_,_,s2,_⟩=>SqT.of (s2 _ _ hp)) ?_ ?_⟩
 . rintro i y σ H2 hi ⟨o3,o4,o5,kvs,rfl,s2,hm2,hl2,htl⟩ e he
   rw[qgm]at hi
   obtain⟨x,hx,rfl⟩:∃ x,ns[i]? = some x/\y=V.str x:=by
    cases q:ns[i]? with
    |none=>rw[q]at hi;cases hi
    |some x=>rw[q]at hi;exact⟨x,rfl,(qsi hi).symm⟩
   have hi8:i<8:=by
    have:=(List.getElem?_eq_some_iff.mp hx).1;omega
   have hix:=KH hnd hx;have s3:=aD (o:=.tup [.int i,.str x]) he;refine⟨e,_,rfl,SqT.of au,rfl,_,_,rfl,_,_,rfl,rfl,?_⟩;refine⟨_,rfl,_,rfl,p,ns,i,rfl,s3 _ _ (s2 _ _ hp),h8,fun H4 s4=>?_⟩;have s24:=s3.trans s4
   have fin:∀(q:Addr)(x1:Nat×Nat)(H5:Hp),Same H4 H5->Two H5 q x1->ofK ns c x=x1 ->
     (∃(o3 o4 o5:Option V)(kvs':List (Key×V)),[some (V.ref p),some (V.int c),some (V.ref m),some (V.int i),some (V.str x),some (V.int (du ns.length i:Nat))]=[some (.ref p),some (.int c),some (.ref m),o3,o4,o5]/\Same H (upd H5 m (.dK (putK kvs (.inr x) (.ref q))))/\(upd H5 m (.dK (putK kvs (.inr x) (.ref q)))) m=some (.dK kvs')/\kvs'.length<=i+1/\Tells (upd H5 m (.dK (putK kvs (.inr x) (.ref q)))) kvs' (ofK ns c) (ns.take (i+1))):=by
    intro q x1 H5 s5 hq hof;have hm5:=s5 _ _ (s24 _ _ hm2)
    have kt:Tups H5 (upd H5 m (.dK (putK kvs (.inr x) (.ref q)))):=fun b xs eb=>by
     rw[aC (fun z=>by subst z;rw[hm5]at eb;cases eb)];exact eb
    refine⟨_,_,_,_,rfl,fun b o eb=>?_,au,qnt (iR kvs (.inr x) (.ref q)) (by omega),fun z hz=>?_⟩
    . rw[aC (aH eb hm)]
      exact s5 _ _ (s24 _ _ (s2 _ _ eb))
    . rw [Cg]
      by_cases hzx:z=x
      . subst hzx
        rw[qp rfl,hof];exact⟨q,rfl,hq.tups kt⟩
      . rw[qnZ hzx]
        rw[qta,hx]at hz;rcases List.mem_append.mp hz with hz|hz
        . obtain⟨q',h1,h2⟩:=htl z hz
          exact⟨q',h1,h2.tups ((s24.trans s5).tups.trans kt)⟩
        . exact absurd (by simpa using hz) hzx
   refine⟨_,rfl,_,rfl,_,_,rfl,rfl,_,rfl,aU (fun cc=>?_) (fun cc=>?_)⟩
   . have cc:(i:Int)<c:=qod cc
     refine⟨_,rfl,_,rfl,p,ns,rfl,s24 _ _ (s2 _ _ hp),h8,_,rfl,_,_,rfl,rfl,lk (by first|exact qnb rfl|simp),fun q hq=>?_⟩;have hq0:=hq;have s5:=aD (o:=.tup [.int (du ns.length i:Nat),.int (Builtin.bitXor (cg ns.length:Nat) (du ns.length i:Nat))]) hq;refine⟨_,rfl,_,rfl,m,_,rfl,DPut.k (k:=Sum.inr x) (s5 _ _ (s24 _ _ hm2)) (fB (by omega)),?_⟩;refine fin q (du ns.length i,cg ns.length ^^^ du ns.length i) _ s5 (by unfold Two;rw[au];simp only[bxor]) ?_;unfold ofK ofN;rw[hix,qp cc]
   . have cc:¬ (i:Int)<c:=fun z=>cc (qdt z)
     refine⟨lk (by first|exact qnb rfl|simp),fun q hq=>?_⟩;have s5:=aD (o:=.tup [.int 0,.int 0]) hq;refine⟨_,rfl,_,rfl,m,_,rfl,DPut.k (k:=Sum.inr x) (s5 _ _ (s24 _ _ hm2)) (fB (by omega)),?_⟩;refine fin q (0,0) _ s5 au ?_;unfold ofK;rw[hix,qnZ cc]
 . rintro σ H2 ⟨o3,o4,o5,kvs,rfl,s2,hm2,hl2,htl⟩
   rw[qlm,List.take_length]at htl;exact⟨_,rfl,k m kvs H2 s2 hm2 htl⟩
theorem scTable:FnScope ["names","tree"] ["names","tree"] (aB S15):=mkS
theorem u9(T:Txt P w K mg t):FO P w K mg base 116 t.a15 t.d15 ["names","tree"] (spTable t):=by
 have G8:=Jm (base:=base) T;have G12:=rA (base:=base) T;have G14:=Mi (base:=base) T;have G9:=uZ (base:=base) T 110;refine T.q15.F.ok2 scTable (fun cdv A outer s H vs Q E hr h=>?_);obtain⟨p,v,ns,tr,rfl,⟨hp,h8,hnd,ht,hsz,hd,hL,hsm⟩,k1,k2⟩:=h;have nd:=scTable.nd
 refine⟨_,(ak (bF (aO G8 (hr.mo) T.q8.m T.q8.k T.q8.b bJ (aa (pvl 0) (aa (pvl 1) aj))))
   (aq (aA (pix aM (aO G9 (hr.mo) T.q9.m T.q9.k T.q9.b aK (aa (pvl 1) (aa (aO G14 (hr.mo) T.q14.m T.q14.k T.q14.b aK (aa (pvl 0) (aa (bf aZ T.ze Bt.len (aa (pvl 0) aj)) aj))) (aa (aO G12 (hr.mo) T.q12.m T.q12.k T.q12.b aK (aa (pvl 0) aj)) aj)))) ao)))),?_⟩
 refine⟨_,rfl,_,rfl,p,v,ns,tr,rfl,hp,ht,hsz,hL,hsm,fun hall H1 s1=>?_,fun hno H1 s1=>k2 hno H1 s1⟩;refine⟨_,rfl,_,rfl,_,rfl,p,_,rfl,.inr (SqT.of (s1 _ _ hp)),p,ns,_,rfl,s1 _ _ hp,h8,hnd,fun m kvs H2 s2 hm htl=>?_⟩;refine⟨_,rfl,p,ns,rfl,s2 _ _ (s1 _ _ hp),h8,v,tr,m,kvs,_,_,rfl,ht.mono (s1.trans s2).tups,hd,hm,fun x hx=>htl x (hall x hx),fun q H3 s3 hq=>?_⟩
 have e:(cR (ofK ns (((ns.map V.str).length:Nat):Int)) (cg ns.length) tr).1=aQ ns tr:=by
  rw[<- ww];refine congrArg Prod.fst (ie fun x hx=>?_);unfold ofK;rw[qp];have:=List.idxOf_lt_length_iff.mpr (hall x hx);rw[qlm];omega
 refine⟨q,_,0,_,rfl,rfl,SqT.of hq,rfl,?_⟩;have k1:=k1 hall H3 ((s1.trans s2).trans s3);rw[<- e]at k1;exact k1
inductive spBreak(t:Adr)(vs:List V)(H:Hp)(Q:VK)(E:XK):Prop
 |mk (p:Addr) (v:V) (ns:List Str) (tr:Tr) (_:vs=[.ref p,v]) (_:Fits H p v ns tr) (_:((∀ x∈tr.names,x∈ns)->∀ H',Same H H'->Q (.int (aP ns tr:Nat)) H')) (_:((¬ ∀ x∈tr.names,x∈ns)->∀ H',Same H H'->E (.ref t.zg) none H'))
theorem scBreak:FnScope ["names","tree"] ["names","tree"] (aB S16):=mkS
theorem vd(T:Txt P w K mg t):FO P w K mg base 117 t.a16 t.d16 ["names","tree"] (spBreak t):=by
 have G15:=u9 (base:=base) T;have G12:=rA (base:=base) T;refine T.q16.F.ok2 scBreak (fun cdv A outer s H vs Q E hr h=>?_);obtain⟨p,v,ns,tr,rfl,hf,k1,k2⟩:=h;have nd:=scBreak.nd;refine⟨_,(aq (aA (aF kW (aO G12 (hr.mo) T.q12.m T.q12.k T.q12.b aK (aa (pvl 0) aj)) (aO G15 (hr.mo) T.q15.m T.q15.k T.q15.b bJ (aa (pvl 0) (aa (pvl 1) aj)))))),?_⟩;refine⟨_,rfl,p,ns,rfl,hf.1,hf.2.1,_,rfl,_,rfl,p,v,ns,tr,rfl,hf,fun hall H1 s1=>?_,k2⟩;refine⟨_,_,rfl,rfl,?_⟩;have k1:=k1 hall H1 s1;rw[<- oW,<- bxor]at k1;exact k1
def kh:Option Int->V
 |none=>.non
 |some m=>.int m
def Mj:Option Int->Bool
 |none=>true
 |some m=>decide (0<m)
inductive spLeastR(vs:List V)(H:Hp)(Q:VK)(E:XK):Prop
 |mk (r:Addr) (rs:List Int) (wd:Nat) (_:vs=[.ref r,.int wd]) (_:H r=some (.tup (rs.map V.int))) (_:rs.length<=256) (_:∀ H',Same H H'->Q (kh (aV (sel rs wd))) H')
def MindAt(H:Hp)(a:Addr)(p r:Addr)(rs:List Int):Prop:=H a=some (.tup [.ref p,.ref r])/\H r=some (.tup (rs.map V.int))/\rs.length<=256
theorem MindAt.mono{H H':Hp}{a p r:Addr}{rs:List Int}(s:Same H H')(h:MindAt H a p r rs):MindAt H' a p r rs:=⟨s _ _ h.1,s _ _ h.2.1,h.2.2⟩
inductive spFirm(t:Adr)(vs:List V)(H:Hp)(Q:VK)(E:XK):Prop
 |mk (a p r:Addr) (rs:List Int) (v:V) (ns:List Str) (tr:Tr) (_:vs=[.ref a,v]) (_:MindAt H a p r rs) (_:Fits H p v ns tr) (_:((∀ x∈tr.names,x∈ns)->∀ H',Same H H'->Q (kh (aV (sel rs (aP ns tr)))) H')) (_:((¬ ∀ x∈tr.names,x∈ns)->∀ H',Same H H'->E (.ref t.zg) none H'))
inductive spHeld(t:Adr)(vs:List V)(H:Hp)(Q:VK)(E:XK):Prop
 |mk (a p r:Addr) (rs:List Int) (v:V) (ns:List Str) (tr:Tr) (_:vs=[.ref a,v]) (_:MindAt H a p r rs) (_:Fits H p v ns tr) (_:((∀ x∈tr.names,x∈ns)->∀ H',Same H H'->Q (.bl (Mj (aV (sel rs (aP ns tr))))) H')) (_:((¬ ∀ x∈tr.names,x∈ns)->∀ H',Same H H'->E (.ref t.zg) none H'))
theorem scLeastR:FnScope ["ranks","worlds"] ["ranks","worlds"] (aB S18):=mkS
theorem sU(T:Txt P w K mg t):FO P w K mg base 2 t.a18 t.d18 ["ranks","worlds"] spLeastR:=by
 have G6:=u5 (base:=base) T;refine T.q18.F.ok2 scLeastR (fun cdv A outer s H vs Q E hr h=>?_);obtain⟨r,rs,wd,rfl,hr0,hlen,k⟩:=h;have nd:=scLeastR.nd;refine⟨_,(aq (aA (Ja rfl (dg rfl ["world","rank","worlds"] [none,none,some 1] (m8 (pvl 0) T.zq) (by kernel_rfl) (fun _ _ _ _ _ _=>(lu (K:=K) (n:=2) rfl rfl (bT (pgl 0 (ndS (l:=["world","rank","worlds"]))) (bT (pgl 1 (ndS (l:=["world","rank","worlds"]))) gf)))) (fun _ _ _ _ _ _=>iD (aG aW (aO G6 (hr.mo) T.q6.m T.q6.k T.q6.b aK (aa (pvc 2) (aa (pvl 0) aj))) ao (aJ _))) (fun _ _ _ _ _ _=>(pvl 1))) T.zF))),?_⟩;refine⟨_,rfl,r,rfl,⟨_,SqT.of hr0⟩,?_⟩;refine ji (K:=K) (a:=r) (xs:=rs.map V.int) (fun i ys H'=>Same H H'/\ys=(dD rs wd i).map V.int) ⟨Same.refl _,rfl⟩ (lk (by rw[qlm];omega)) (fun i ys H' ⟨_,e⟩=>by rw[e,qlm];exact jU _ _ _) (fun i ys H' ⟨s1,_⟩=>SqT.of (s1 _ _ hr0)) ?_ ?_
 . rintro i y ys H1 hi ⟨s1,rfl⟩ e he
   rw[qgm]at hi
   obtain⟨x,hx,rfl⟩:∃ x,rs[i]? = some x/\y=V.int x:=by
    cases q:rs[i]? with
    |none=>rw[q]at hi;cases hi
    |some x=>rw[q]at hi;exact⟨x,rfl,(qsi hi).symm⟩
   have s2:=s1.trans (aD (o:=.tup [.int i,.int x]) he);refine⟨e,_,rfl,SqT.of au,rfl,_,_,rfl,_,_,rfl,rfl,⟨rfl,trivial⟩,?_⟩;refine⟨_,rfl,_,rfl,wd,i,rfl,rfl,_,rfl,?_⟩;rw[qx];unfold pM;have ex:rs.getD i 0=x:=by rw[List.getD,hx];rfl
   cases hb:wd.testBit i with
   | true =>
    refine bO ?_;refine⟨_,rfl,s2,?_⟩;rw[qp rfl,List.map_append,ex]
    rfl
   | false =>
    refine bj ⟨s2,?_⟩;rw[qnZ (by decide),List.append_nil]
 . rintro ys H1 ⟨s1,rfl⟩ l hl
   rw[qlm];have s2:=s1.trans (aD (o:=.lst ((dD rs wd rs.length).map V.int)) hl);refine⟨l,dD rs wd rs.length,rfl,SqL.of au,fun e=>?_,fun M h1 h2=>?_⟩
   . have k:=k _ s2
     unfold sel at k;rw[e]at k;exact e ▸ k
   . have k:=k _ s2
     unfold sel at k;rw[jF h1 h2]at k;exact k
theorem scFirm:FnScope ["mind","tree"] ["mind","tree"] (aB S19):=mkS
theorem rB(T:Txt P w K mg t):FO P w K mg base 118 t.a19 t.d19 ["mind","tree"] (spFirm t):=by
 have G16:=vd (base:=base) T;have G18:=sU (base:=base) T;refine T.q19.F.ok2 scFirm (fun cdv A outer s H vs Q E hr h=>?_);obtain⟨a,p,r,rs,v,ns,tr,rfl,hm,hf,k1,k2⟩:=h;have nd:=scFirm.nd;refine⟨_,(aq (aA (aO G18 (hr.mo) T.q18.m T.q18.k T.q18.b aK (aa (pix aM (pvl 0) ao) (aa (aO G16 (hr.mo) T.q16.m T.q16.k T.q16.b bJ (aa (pix aM (pvl 0) ao) (aa (pvl 1) aj))) aj))))),?_⟩;refine⟨_,rfl,a,_,1,.ref r,rfl,rfl,SqT.of hm.1,rfl,_,rfl,a,_,0,.ref p,rfl,rfl,SqT.of hm.1,rfl,_,rfl,p,v,ns,tr,rfl,hf,fun hall H1 s1=>?_,k2⟩;exact⟨r,rs,aP ns tr,rfl,s1 _ _ hm.2.1,hm.2.2,fun H2 s2=>k1 hall H2 (s1.trans s2)⟩
theorem scHeld:FnScope ["mind","tree","firm"] ["mind","tree"] (aB S20):=mkS
theorem Jp(T:Txt P w K mg t):FO P w K mg base 119 t.a20 t.d20 ["mind","tree"] (spHeld t):=by
 have G19:=rB (base:=base) T;refine T.q20.F.ok2 scHeld (fun cdv A outer s H vs Q E hr h=>?_);obtain⟨a,p,r,rs,v,ns,tr,rfl,hm,hf,k1,k2⟩:=h;have nd:=scHeld.nd
 refine⟨_,(ak (psl 2 nd (aO G19 (hr.mo) T.q19.m T.q19.k T.q19.b bJ (aa (pvl 0) (aa (pvl 1) aj))))
   (aq (aA (Lb (dY gq (pvl 2) bH (aJ _)) (jt (dY nZ (pvl 2) ao (aJ _))))))),?_⟩
 refine⟨_,rfl,_,rfl,a,p,r,rs,v,ns,tr,rfl,hm,hf,fun hall H1 s1=>?_,k2⟩;have k1:=k1 hall H1 s1;refine⟨_,rfl,rfl,_,rfl,?_⟩;cases ho:aV (sel rs (aP ns tr))with
 | none =>
  rw[ho]at k1;rw[show decide (kh none=V.non)=true from qdt rfl];exact bO k1
 | some m =>
  rw[ho]at k1;rw[show decide (kh (some m)=V.non)=false from qdf (by intro z;cases z)];refine bj ⟨_,rfl,_,_,rfl,rfl,k1⟩
inductive spBoth(t:Adr)(vs:List V)(H:Hp)(Q:VK)(E:XK):Prop
 |mk (a p r:Addr) (rs:List Int) (v:V) (ns:List Str) (tr:Tr) (_:vs=[.ref a,v]) (_:MindAt H a p r rs) (_:Fits H p v ns tr) (_:((∀ x∈tr.names,x∈ns)->match aV (sel rs (aP ns tr)),aV (sel rs (aQ ns tr))with|none,_=>∀ H',Same H H'->E (.ref t.zh) none H'|some _,none=>∀ H',Same H H'->E (.ref t.zi) none H'|some x,some y=>∀(b:Addr)(H':Hp),Same H H'->H' b=some (.tup [.int x,.int y])->Q (.ref b) H')) (_:((¬ ∀ x∈tr.names,x∈ns)->∀ H',Same H H'->E (.ref t.zg) none H'))
theorem scBoth:FnScope ["mind","tree","against","in_favour"] ["mind","tree"] (aB S21):=mkS
theorem xj(T:Txt P w K mg t):FO P w K mg base 119 t.a21 t.d21 ["mind","tree"] (spBoth t):=by
 have G19:=rB (base:=base) T;have G15:=u9 (base:=base) T;have G18:=sU (base:=base) T;refine T.q21.F.ok2 scBoth (fun cdv A outer s H vs Q E hr h=>?_);obtain⟨a,p,r,rs,v,ns,tr,rfl,hm,hf,k1,k2⟩:=h;have nd:=scBoth.nd
 refine⟨_,(ak (psl 2 nd (aO G19 (hr.mo) T.q19.m T.q19.k T.q19.b bJ (aa (pvl 0) (aa (pvl 1) aj))))
   (ak (aR (aG gq (pvl 2) bH (aJ _))
    (aq (eN fP rfl T.zH T.zZ (aa az aj)))
    aN)
   (ak (psl 3 nd (aO G18 (hr.mo) T.q18.m T.q18.k T.q18.b aK (aa (pix aM (pvl 0) ao) (aa (aO G15 (hr.mo) T.q15.m T.q15.k T.q15.b bJ (aa (pix aM (pvl 0) ao) (aa (pvl 1) aj))) aj))))
   (ak (aR (aG gq (pvl 3) bH (aJ _))
    (aq (eN fP rfl T.zJ T.zaa (aa az aj)))
    aN)
   (aq (aA (bh (aa (pvl 2) (aa (pvl 3) aj))))))))),?_⟩
 refine⟨_,rfl,_,rfl,a,p,r,rs,v,ns,tr,rfl,hm,hf,fun hall H1 s1=>?_,k2⟩;have k1:=k1 hall;refine⟨_,rfl,rfl,_,rfl,?_⟩;cases hb:aV (sel rs (aP ns tr))with
 | none =>
  rw[hb]at k1;rw[show decide (kh none=V.non)=true from qdt rfl];exact bO ⟨(by show 1<=sizeLine;decide),k1 H1 s1⟩
 | some x =>
  rw[hb]at k1;rw[show decide (kh (some x)=V.non)=false from qdf (by intro z;cases z)];refine bj ?_;have hm1:=hm.mono s1;obtain⟨hp,h8,hnd,ht,hsz,hd,hL,hsm⟩:=id hf;refine⟨_,rfl,a,_,1,.ref r,rfl,rfl,SqT.of hm1.1,rfl,_,rfl,a,_,0,.ref p,rfl,rfl,SqT.of hm1.1,rfl,_,rfl,p,v,ns,tr,rfl,⟨s1 _ _ hp,h8,hnd,ht.mono s1.tups,hsz,hd,hL,hsm⟩,fun _ H2 s2=>?_,fun z=>absurd hall z⟩;refine⟨r,rs,aQ ns tr,rfl,s2 _ _ hm1.2.1,hm1.2.2,fun H3 s3=>?_⟩;have s13:=(s1.trans s2).trans s3;refine⟨_,rfl,rfl,_,rfl,?_⟩;cases hk:aV (sel rs (aQ ns tr))with
  | none =>
   rw[hk]at k1;rw[show decide (kh none=V.non)=true from qdt rfl];exact bO ⟨(by show 1<=sizeLine;decide),k1 H3 s13⟩
  | some y =>
   rw[hk]at k1;rw[show decide (kh (some y)=V.non)=false from qdf (by intro z;cases z)];exact bj ⟨_,rfl,_,rfl,lk (by first|exact qnb rfl|simp),fun b hb=>k1 b _ (s13.trans (aD hb)) au⟩
inductive spLean(t:Adr)(vs:List V)(H:Hp)(Q:VK)(E:XK):Prop
 |mk (a p r:Addr) (rs:List Int) (v:V) (ns:List Str) (tr:Tr) (_:vs=[.ref a,v]) (_:MindAt H a p r rs) (_:Fits H p v ns tr) (_:((∀ x∈tr.names,x∈ns)->match aV (sel rs (aP ns tr)),aV (sel rs (aQ ns tr))with|none,_=>∀ H',Same H H'->E (.ref t.zh) none H'|some _,none=>∀ H',Same H H'->E (.ref t.zi) none H'|some x,some y=>∀ H',Same H H'->Q (.int (x - y)) H')) (_:((¬ ∀ x∈tr.names,x∈ns)->∀ H',Same H H'->E (.ref t.zg) none H'))
theorem scLean:FnScope ["mind","tree","leasts"] ["mind","tree"] (aB S22):=mkS
theorem Jq(T:Txt P w K mg t):FO P w K mg base 120 t.a22 t.d22 ["mind","tree"] (spLean t):=by
 have G21:=xj (base:=base) T;refine T.q22.F.ok2 scLean (fun cdv A outer s H vs Q E hr h=>?_);obtain⟨a,p,r,rs,v,ns,tr,rfl,hm,hf,k1,k2⟩:=h;have nd:=scLean.nd
 refine⟨_,(ak (psl 2 nd (aO G21 (hr.mo) T.q21.m T.q21.k T.q21.b bJ (aa (pvl 0) (aa (pvl 1) aj))))
   (aq (aA (aF cP (pix aM (pvl 2) ao) (pix aM (pvl 2) ao))))),?_⟩
 refine⟨_,rfl,_,rfl,a,p,r,rs,v,ns,tr,rfl,hm,hf,fun hall=>?_,k2⟩;have k1:=k1 hall;cases hb:aV (sel rs (aP ns tr))with
 |none=>rw[hb]at k1;exact k1
 | some x =>
  rw[hb]at k1;cases hk:aV (sel rs (aQ ns tr))with
  |none=>rw[hk]at k1;exact k1
  | some y =>
   rw[hk]at k1;exact fun b H1 s1 hb1=>⟨_,rfl,b,_,0,.int x,rfl,rfl,SqT.of hb1,rfl,_,rfl,b,_,1,.int y,rfl,rfl,SqT.of hb1,rfl,_,_,rfl,rfl,k1 H1 s1⟩
inductive spTurn(t:Adr)(vs:List V)(H:Hp)(Q:VK)(E:XK):Prop
 |mk (a p r:Addr) (rs:List Int) (v:V) (ns:List Str) (tr:Tr) (lean:Int) (_:vs=[.ref a,v,.int lean]) (_:MindAt H a p r rs) (_:Fits H p v ns tr) (_:((∀ x∈tr.names,x∈ns)->match aV (sel rs (aP ns tr)),aV (sel rs (aQ ns tr))with|none,_=>∀ H',Same H H'->E (.ref t.zh) none H'|some _,none=>∀ H',Same H H'->E (.ref t.zi) none H'|some x,some y=>∀(b q:Addr)(H':Hp),Same H H'->MindAt H' b p q (cJ rs (aP ns tr) x y lean)->Q (.ref b) H')) (_:((¬ ∀ x∈tr.names,x∈ns)->∀ H',Same H H'->E (.ref t.zg) none H'))
theorem scTurn:FnScope ["mind","tree","lean","leasts","for_breaking","for_keeping","against","ranks"] ["mind","tree","lean"] (aB S28):=mkS
theorem rC(T:Txt P w K mg t):FO P w K mg base 120 t.a28 t.d28 ["mind","tree","lean"] (spTurn t):=by
 have G21:=xj (base:=base) T;have G16:=vd (base:=base) T;have G6:=u5 (base:=base) T;refine T.q28.F.ok2 scTurn (fun cdv A outer s H vs Q E hr h=>?_);obtain⟨a,p,r,rs,v,ns,tr,lean,rfl,hm,hf,k1,k2⟩:=h;have nd:=scTurn.nd
 refine⟨_,(ak (psl 3 nd (aO G21 (hr.mo) T.q21.m T.q21.k T.q21.b bJ (aa (pvl 0) (aa (pvl 1) aj))))
   (ak (psc 4 nd (aF cP (bf (jO rfl) T.zE Bt.max (aa (pvl 2) (aa ao aj))) (pix aM (pvl 3) ao)))
   (ak (psc 5 nd (aF cP (bf (jO rfl) T.zE Bt.max (aa (lH jx (pvl 2)) (aa ao aj))) (pix aM (pvl 3) ao)))
   (ak (psc 6 nd (aO G16 (hr.mo) T.q16.m T.q16.k T.q16.b bJ (aa (pix aM (pvl 0) ao) (aa (pvl 1) aj))))
   (ak (gk (i:=7) rfl ["world","rank","for_breaking","for_keeping","against"] [none,none,some 4,some 5,some 6] nd rfl rfl (m8 (pix aM (pvl 0) ao) T.zq) (by kernel_rfl) (fun _ _ _ _ _ _=>(lu (K:=K) (n:=2) rfl rfl (bT (pgl 0 (ndS (l:=["world","rank","for_breaking","for_keeping","against"]))) (bT (pgl 1 (ndS (l:=["world","rank","for_breaking","for_keeping","against"]))) gf)))) (fun _ _ _ _ _ _=>dG) (fun _ _ _ _ _ _=>(aF cW (pvl 1) (eF (aG aW (aO G6 (hr.mo) T.q6.m T.q6.k T.q6.b aK (aa (pvc 4) (aa (pvl 0) aj))) ao (aJ _)) (pvc 2) (pvc 3)))))
   (aq (aA (bh (aa (pix aM (pvl 0) ao) (aa (fc dm T.zm Bt.tuple (aa (pvl 7) aj)) aj)))))))))),?_⟩
 refine⟨_,rfl,_,rfl,a,p,r,rs,v,ns,tr,rfl,hm,hf,fun hall=>?_,k2⟩;have k1:=k1 hall;cases hb:aV (sel rs (aP ns tr))with
 |none=>rw[hb]at k1;exact k1
 | some x =>
  rw[hb]at k1;cases hk:aV (sel rs (aQ ns tr))with
  |none=>rw[hk]at k1;exact k1
  | some y =>
   rw[hk]at k1;intro b H1 s1 hb1;have hm1:=hm.mono s1;obtain⟨hp,h8,hnd,ht,hsz,hd,hL,hsm⟩:=id hf;refine⟨_,rfl,_,_,rfl,_,rfl,b,_,0,.int x,rfl,rfl,SqT.of hb1,rfl,_,_,rfl,rfl,?_⟩;refine⟨_,rfl,_,rfl,_,_,rfl,_,rfl,b,_,1,.int y,rfl,rfl,SqT.of hb1,rfl,_,_,rfl,rfl,?_⟩;refine⟨_,rfl,a,_,0,.ref p,rfl,rfl,SqT.of hm1.1,rfl,_,rfl,p,v,ns,tr,rfl,⟨s1 _ _ hp,h8,hnd,ht.mono s1.tups,hsz,hd,hL,hsm⟩,fun _ H2 s2=>?_,fun z=>absurd hall z⟩;have hm2:=hm1.mono s2;have s12:=s1.trans s2;refine⟨_,rfl,a,_,1,.ref r,rfl,rfl,SqT.of hm2.1,rfl,r,rfl,⟨_,SqT.of hm2.2.1⟩,?_⟩;refine ji (K:=K) (a:=r) (xs:=rs.map V.int) (fun i ys H'=>Same H2 H'/\ys=(gr rs (aP ns tr) (cj lean - x) (cj (-lean) - y) i).map V.int) ⟨Same.refl _,rfl⟩ (lk (by rw[qlm];have:=hm.2.2;omega)) (fun i ys H' ⟨_,e⟩=>by rw[e,qlm,qy];exact qnr _) (fun i ys H' ⟨s3,_⟩=>SqT.of (s3 _ _ hm2.2.1)) ?_ ?_
   . rintro i z ys H3 hi ⟨s3,rfl⟩ e he
     rw[qgm]at hi
     obtain⟨u,hx,rfl⟩:∃ u,rs[i]? = some u/\z=V.int u:=by
      cases q:rs[i]? with
      |none=>rw[q]at hi;cases hi
      |some u=>rw[q]at hi;exact⟨u,rfl,(qsi hi).symm⟩
     have s4:=s3.trans (aD (o:=.tup [.int i,.int u]) he);refine⟨e,_,rfl,SqT.of au,rfl,_,_,rfl,_,_,rfl,rfl,⟨rfl,rfl,rfl,trivial⟩,?_⟩;refine⟨_,rfl,_,rfl,_,rfl,aP ns tr,i,rfl,rfl,_,rfl,?_⟩;rw[wy];unfold pM;have ex:rs.getD i 0=u:=by rw[List.getD,hx];rfl
     cases hbt:(aP ns tr).testBit i with
     | true =>
      refine bO ?_;refine⟨_,rfl,_,_,rfl,rfl,s4,?_⟩;rw[show(if true=true then cj lean - x else cj (-lean) - y)=cj lean - x from qp rfl,List.map_append,ex]
      rfl
     | false =>
      refine bj ?_;refine⟨_,rfl,_,_,rfl,rfl,s4,?_⟩;rw[show(if false=true then cj lean - x else cj (-lean) - y)=cj (-lean) - y from qnZ (by decide),List.map_append,ex]
      rfl
   . rintro ys H3 ⟨s3,rfl⟩ l hl
     rw[qlm];have s4:=s3.trans (aD (o:=.lst ((gr rs (aP ns tr) (cj lean - x) (cj (-lean) - y) rs.length).map V.int)) hl);refine⟨_,rfl,a,_,0,.ref p,rfl,rfl,SqT.of (s4 _ _ hm2.1),rfl,_,rfl,l,_,rfl,.inl ⟨SqL.of au,fun q hq=>?_⟩⟩;have s5:=aD (o:=.tup ((gr rs (aP ns tr) (cj lean - x) (cj (-lean) - y) rs.length).map V.int)) hq;refine⟨lk (by first|exact qnb rfl|simp),fun c hc=>?_⟩;have s6:=aD (o:=.tup [.ref p,.ref q]) hc;exact k1 c q _ (((s12.trans s4).trans s5).trans s6) ⟨au,s6 _ _ au,by rw[gY];exact hm.2.2⟩
inductive spGive(t:Adr)(vs:List V)(H:Hp)(Q:VK)(E:XK):Prop
 |mk (a p r:Addr) (rs:List Int) (v:V) (ns:List Str) (tr:Tr) (_:vs=[.ref a,v]) (_:MindAt H a p r rs) (_:Mind ns rs) (_:Fits H p v ns tr) (_:((∀ x∈tr.names,x∈ns)->match aV (sel rs (aP ns tr))with|none=>∀ H',Same H H'->E (.ref t.zh) none H'|some _=>∀(b q:Addr)(H':Hp),Same H H'->MindAt H' b p q (fU ns tr rs)->Q (.ref b) H')) (_:((¬ ∀ x∈tr.names,x∈ns)->∀ H',Same H H'->E (.ref t.zg) none H'))
theorem scGive:FnScope ["mind","tree"] ["mind","tree"] (aB S29):=mkS
theorem Jr(T:Txt P w K mg t):FO P w K mg base 121 t.a29 t.d29 ["mind","tree"] (spGive t):=by
 have G20:=Jp (base:=base) T;have G28:=rC (base:=base) T;refine T.q29.F.ok2 scGive (fun cdv A outer s H vs Q E hr h=>?_);obtain⟨a,p,r,rs,v,ns,tr,rfl,hm,hM,hf,k1,k2⟩:=h;have nd:=scGive.nd
 refine⟨_,(ak (aR (b7 (aO G20 (hr.mo) T.q20.m T.q20.k T.q20.b bJ (aa (pvl 0) (aa (pvl 1) aj))))
    (aq (aA (aO G28 (hr.mo) T.q28.m T.q28.k T.q28.b bJ (aa (pvl 0) (aa (pvl 1) (aa ao aj))))))
    aN)
   (aq (aA (pvl 0)))),?_⟩
 refine⟨_,rfl,_,rfl,a,p,r,rs,v,ns,tr,rfl,hm,hf,fun hall H1 s1=>?_,k2⟩;have k1:=k1 hall;obtain⟨hp,h8,hnd,ht,hsz,hd,hL,hsm⟩:=id hf;have hm1:=hm.mono s1;have hf1:Fits H1 p v ns tr:=⟨s1 _ _ hp,h8,hnd,ht.mono s1.tups,hsz,hd,hL,hsm⟩
 have eg:fU ns tr rs=match aV (sel rs (aP ns tr)),aV (sel rs (aQ ns tr))with|some x,some y=>if 0<x then cJ rs (aP ns tr) x y 0 else rs|_,_=>rs:=rfl
 cases hb:aV (sel rs (aP ns tr))with
 | none =>
  rw[hb]at k1;refine⟨_,rfl,bO ?_⟩;refine⟨_,rfl,_,rfl,a,p,r,rs,v,ns,tr,0,rfl,hm1,hf1,fun _=>?_,fun z=>absurd hall z⟩;rw[hb];exact fun H2 s2=>k1 H2 (s1.trans s2)
 | some x =>
  rw[hb]at k1 eg;refine⟨_,rfl,aU (fun c=>?_) (fun c=>?_)⟩
  . have c:0<x:=qod c
    refine⟨_,rfl,_,rfl,a,p,r,rs,v,ns,tr,0,rfl,hm1,hf1,fun _=>?_,fun z=>absurd hall z⟩;rw[hb];cases hk:aV (sel rs (aQ ns tr))with
    | none =>
     rcases Cd hM.len tr hM.zero with h|h
     . have:=(cz hb).2 _ h
       omega
     . rw[lV hk]at h;cases h
    | some y =>
     rw[hk]at eg;have eg:fU ns tr rs=if 0<x then cJ rs (aP ns tr) x y 0 else rs:=eg;rw[qp c]at eg;rw[eg]at k1;exact fun b q H2 s2 hm2=>k1 b q H2 (s1.trans s2) hm2
  . have c:¬ 0<x:=fun z=>c (qdt z)
    have eg:fU ns tr rs=rs:=by
     rw[eg];cases hk:aV (sel rs (aQ ns tr))with
     |none=>rfl
     |some y=>exact qnZ c
    rw[eg]at k1;exact⟨_,rfl,k1 a r H1 s1 hm1⟩
inductive spTake(t:Adr)(vs:List V)(H:Hp)(Q:VK)(E:XK):Prop
 |mk (a p r:Addr) (rs:List Int) (v:V) (ns:List Str) (tr:Tr) (firm:Int) (_:vs=[.ref a,v,.int firm]) (_:MindAt H a p r rs) (_:Fits H p v ns tr) (_:((∀ x∈tr.names,x∈ns)->match aV (sel rs (aP ns tr)),aV (sel rs (aQ ns tr))with|some _,none=>∀ H',Same H H'->E (.ref t.zi) none H'|_,_=>∀(b q:Addr)(H':Hp),Same H H'->MindAt H' b p q (fV ns tr rs firm)->Q (.ref b) H')) (_:((¬ ∀ x∈tr.names,x∈ns)->∀ H',Same H H'->E (.ref t.zg) none H'))
theorem scTake:FnScope ["mind","tree","firm"] ["mind","tree","firm"] (aB S30):=mkS
theorem Js(T:Txt P w K mg t):FO P w K mg base 121 t.a30 t.d30 ["mind","tree","firm"] (spTake t):=by
 have G19:=rB (base:=base) T;have G28:=rC (base:=base) T;refine T.q30.F.ok2 scTake (fun cdv A outer s H vs Q E hr h=>?_);obtain⟨a,p,r,rs,v,ns,tr,firm,rfl,hm,hf,k1,k2⟩:=h;have nd:=scTake.nd
 refine⟨_,(ak (aR (aG gq (aO G19 (hr.mo) T.q19.m T.q19.k T.q19.b bJ (aa (pvl 0) (aa (pvl 1) aj))) bH (aJ _))
    (aq (aA (pvl 0)))
    aN)
   (aq (aA (aO G28 (hr.mo) T.q28.m T.q28.k T.q28.b bJ (aa (pvl 0) (aa (pvl 1) (aa (pvl 2) aj))))))),?_⟩
 refine⟨_,rfl,_,rfl,a,p,r,rs,v,ns,tr,rfl,hm,hf,fun hall H1 s1=>?_,k2⟩;have k1:=k1 hall;obtain⟨hp,h8,hnd,ht,hsz,hd,hL,hsm⟩:=id hf;have hm1:=hm.mono s1;have hf1:Fits H1 p v ns tr:=⟨s1 _ _ hp,h8,hnd,ht.mono s1.tups,hsz,hd,hL,hsm⟩
 unfold fV at k1;refine⟨rfl,_,rfl,?_⟩;cases hb:aV (sel rs (aP ns tr))with
 | none =>
  rw[hb]at k1;rw[show decide (kh none=V.non)=true from qdt rfl];exact bO ⟨_,rfl,k1 a r H1 s1 hm1⟩
 | some x =>
  rw[hb]at k1;rw[show decide (kh (some x)=V.non)=false from qdf (by intro z;cases z)];refine bj ?_;refine⟨_,rfl,_,rfl,_,rfl,a,p,r,rs,v,ns,tr,firm,rfl,hm1,hf1,fun _=>?_,fun z=>absurd hall z⟩;rw[hb];cases hk:aV (sel rs (aQ ns tr))with
  | none =>
   rw[hk]at k1;exact fun H2 s2=>k1 H2 (s1.trans s2)
  | some y =>
   rw[hk]at k1;exact fun b q H2 s2 hm2=>k1 b q H2 (s1.trans s2) hm2
theorem Ml:¬ (("standing":Str)="taken_back"):=by decide +kernel
def lf(sl bl:Addr):List (Str×V):=bc "taken_back" (.ref bl) (bc "standing" (.ref sl) [])
theorem Hx(sl bl:Addr):(lf sl bl).lookup ("standing":Str)=some (.ref sl):=by
 unfold lf;rw[bu,qnZ Ml,bu,qp rfl]
theorem ig (sl bl:Addr) {m:Str} (h1:¬ m="taken_back") (h2:¬ m="standing"):(lf sl bl).lookup m=none:=by
 unfold lf;rw[bu,qnZ h1,bu,qnZ h2]
 rfl
theorem sV(f:Str)(u v:V):∀ l:List (Str×V),bc f u (bc f v l)=bc f u l
 |[]=>by simp[bc]
 | (g,x):: r=>by
  by_cases h:g=f
  . simp[bc,h]
  . simp[bc,h,sV f u v r]
theorem KJ(sl bl bl':Addr):bc "taken_back" (.ref bl') (lf sl bl)=lf sl bl':=sV _ _ _ _
structure LogAt(C:Addr)(H:Hp)(p dx sl bl:Addr)(mv bv:List V):Prop where
 ob:H p=some (.ins C dx (lf sl bl))
 ne:sl≠bl
 st:H sl=some (.lst mv)
 tb:H bl=some (.lst bv)
inductive spLMind(C:Addr)(vs:List V)(H:Hp)(Q:VK)(E:XK):Prop
 |mk (p dx sl bl:Addr) (mv bv:List V) (y:V) (_:vs=[.ref p]) (_:LogAt C H p dx sl bl (mv++[y]) bv) (_:Q y H)
inductive spLStand(C:Addr)(vs:List V)(H:Hp)(Q:VK)(E:XK):Prop
 |mk (p dx sl bl:Addr) (mv bv:List V) (y:V) (_:vs=[.ref p,y]) (_:LogAt C H p dx sl bl mv bv) (_:mv.length<=500) (_:∀(bl':Addr)(H':Hp),H bl'=none->LogAt C H' p dx sl bl' (mv++[y]) []->(∀ b o,H b=some o->b≠p->b≠sl->H' b=some o)->Q .non H')
theorem scLMind:FnScope ["self"] ["self"] (aB S41):=mkS
theorem lX(T:Txt P w K mg t):FO P w K mg base 1 t.a41 t.d41 ["self"] (spLMind t.zc):=by
 refine T.q41.F.ok2 scLMind (fun cdv A outer s H vs Q E hr h=>?_);obtain⟨p,dx,sl,bl,mv,bv,y,rfl,U,k⟩:=h;have nd:=scLMind.nd;refine⟨_,(aq (aA (pix bN (bK (pvl 0) rfl) (lH jx ao)))),?_⟩;exact⟨_,rfl,p,t.zc,dx,_,_,rfl,U.ob,T.zf,T.zO,Hx _ _,1,rfl,sl,_,_,y,rfl,rfl,SqL.of U.st,pC mv y,k⟩
theorem scLStand:FnScope ["self","behind"] ["self","behind"] (aB S34):=mkS
theorem nA(T:Txt P w K mg t):FO P w K mg base 1 t.a34 t.d34 ["self","behind"] (spLStand t.zc):=by
 refine T.q34.F.ok2 scLStand (fun cdv A outer s H vs Q E hr h=>?_);obtain⟨p,dx,sl,bl,mv,bv,y,rfl,U,h500,k⟩:=h;have nd:=scLStand.nd
 refine⟨_,(ak (bF (cu PySem.F.plainAttrs_list PySem.F.slot_list_append PySem.F.type_list_append cX (bK (pvl 0) rfl) (aa (pvl 1) aj)))
   (aq (g8 (pvl 0) (bC aj) rfl))),?_⟩
 have nps:p≠sl:=bz U.ob U.st (by intro z;cases z);refine⟨_,rfl,p,t.zc,dx,_,_,rfl,U.ob,T.zf,T.zO,Hx _ _,.inl ⟨rfl,_,SqL.of U.st⟩,_,rfl,sl,_,_,rfl,rfl,U.st,fB (by omega),?_⟩;refine⟨lk (by first|exact qnb rfl|simp),fun bl' hbl=>?_⟩;have hb0:bl'≠sl:=fun z=>by subst z;rw[au]at hbl;cases hbl
 have hbn:H bl'=none:=by rw[aC hb0]at hbl;exact hbl
 have npb:p≠bl':=aH U.ob hbn;refine⟨_,rfl,p,t.zc,dx,_,rfl,by rw[aC npb,aC nps];exact U.ob,T.zf,T.zW,(by show 2<1000;decide),?_⟩;rw[KJ];refine k bl' _ hbn ⟨au,Ne.symm hb0,?_,?_⟩ fun b o e h1 h2=>?_
 . rw[aC (Ne.symm nps),aC (Ne.symm hb0),au]
 . rw[aC (Ne.symm npb),au]
 . rw[aC h1,aC (aH e hbn),aC h2]
   exact e
theorem LogAt.mono{C:Addr}{H H':Hp}(s:Same H H'){p dx sl bl:Addr}{mv bv:List V}(U:LogAt C H p dx sl bl mv bv):LogAt C H' p dx sl bl mv bv:=⟨s _ _ U.ob,U.ne,s _ _ U.st,s _ _ U.tb⟩
def lY(p sl:Addr)(H H':Hp):Prop:=∀ b o,H b=some o->b≠p->b≠sl->H' b=some o
inductive spLTake(t:Adr)(vs:List V)(H:Hp)(Q:VK)(E:XK):Prop
 |mk (p dx sl bl:Addr) (mv bv:List V) (a np r:Addr) (rs:List Int) (v:V) (ns:List Str) (tr:Tr) (firm:Int) (_:vs=[.ref p,v,.int firm]) (_:LogAt t.zc H p dx sl bl (mv++[.ref a]) bv) (_:mv.length<=400) (_:MindAt H a np r rs) (_:Fits H np v ns tr) (_:((∀ x∈tr.names,x∈ns)->match aV (sel rs (aP ns tr)),aV (sel rs (aQ ns tr))with|some _,none=>∀ H',Same H H'->E (.ref t.zi) none H'|_,_=>∀(b q bl':Addr)(H':Hp),H bl'=none->lY p sl H H'->LogAt t.zc H' p dx sl bl' (mv++[.ref a]++[.ref b]) []->MindAt H' b np q (fV ns tr rs firm)->Q .non H')) (_:((¬ ∀ x∈tr.names,x∈ns)->∀ H',Same H H'->E (.ref t.zg) none H'))
inductive spLGive(t:Adr)(vs:List V)(H:Hp)(Q:VK)(E:XK):Prop
 |mk (p dx sl bl:Addr) (mv bv:List V) (a np r:Addr) (rs:List Int) (v:V) (ns:List Str) (tr:Tr) (_:vs=[.ref p,v]) (_:LogAt t.zc H p dx sl bl (mv++[.ref a]) bv) (_:mv.length<=400) (_:MindAt H a np r rs) (_:Mind ns rs) (_:Fits H np v ns tr) (_:((∀ x∈tr.names,x∈ns)->match aV (sel rs (aP ns tr))with|none=>∀ H',Same H H'->E (.ref t.zh) none H'|some _=>∀(b q bl':Addr)(H':Hp),H bl'=none->lY p sl H H'->LogAt t.zc H' p dx sl bl' (mv++[.ref a]++[.ref b]) []->MindAt H' b np q (fU ns tr rs)->Q .non H')) (_:((¬ ∀ x∈tr.names,x∈ns)->∀ H',Same H H'->E (.ref t.zg) none H'))
theorem nC{C:Addr}{H H':Hp}{p dx sl bl:Addr}{mv bv:List V}(U:LogAt C H p dx sl bl mv bv)(k:lY p sl H H'){b np q:Addr}{rs:List Int}(h:MindAt H b np q rs):MindAt H' b np q rs :=
 ⟨k _ _ h.1 (bz h.1 U.ob (by intro z;cases z)) (bz h.1 U.st (by intro z;cases z)),k _ _ h.2.1 (bz h.2.1 U.ob (by intro z;cases z)) (bz h.2.1 U.st (by intro z;cases z)),h.2.2⟩
theorem scLTake:FnScope ["self","tree","firm"] ["self","tree","firm"] (aB S35):=mkS
theorem FQ(T:Txt P w K mg t):FO P w K mg base 122 t.a35 t.d35 ["self","tree","firm"] (spLTake t):=by
 have G34:=nA (base:=base) T;have G41:=lX (base:=base) T;have G30:=Js (base:=base) T;refine T.q35.F.ok2 scLTake (fun cdv A outer s H vs Q E hr h=>?_);obtain⟨p,dx,sl,bl,mv,bv,a,np,r,rs,v,ns,tr,firm,rfl,U,h400,hm,fit,k,kn⟩:=h;have nd:=scLTake.nd;refine⟨_,(aq (bF (gM (pvl 0) T.zf T.q34.e G34 (hr.mo) T.q34.b .nil aK (aa (aO G30 (hr.mo) T.q30.m T.q30.k T.q30.b bJ (aa (dj (pvl 0) T.zf T.q41.e G41 (hr.mo) T.q41.b .nil aK) (aa (pvl 1) (aa (pvl 2) aj)))) aj)))),?_⟩
 have go:∀(b q:Addr)(H1:Hp),Same H H1->MindAt H1 b np q (fV ns tr rs firm)->(∀(b q bl':Addr)(H':Hp),H bl'=none->lY p sl H H'->LogAt t.zc H' p dx sl bl' (mv++[.ref a]++[.ref b]) []->MindAt H' b np q (fV ns tr rs firm)->Q .non H') ->
   spLStand t.zc [.ref p,.ref b] H1 (fun _ H'=>Q .non H') E0:=fun b q H1 s1 hm1 k=>⟨p,dx,sl,bl,mv++[.ref a],bv,.ref b,rfl,U.mono s1,by rw[List.length_append];show mv.length+1<=500;omega,fun bl' H2 hbn U2 kp=>k b q bl' H2 (s1.free hbn) (fun c o e h1 h2=>kp c o (s1 _ _ e) h1 h2) U2 (nC (U.mono s1) kp hm1)⟩
 refine⟨_,rfl,p,dx,_,rfl,U.ob,ig _ _ (by decide +kernel) (by decide +kernel),_,rfl,p,dx,_,rfl,U.ob,ig _ _ (by decide +kernel) (by decide +kernel),p,dx,sl,bl,mv,bv,.ref a,rfl,U,_,rfl,_,rfl,a,np,r,rs,v,ns,tr,firm,rfl,hm,fit,fun hall=>?_,kn⟩;have k:=k hall;cases hb:aV (sel rs (aP ns tr))with
 | none =>
  rw[hb]at k;exact fun b q H1 s1 hm1=>go b q H1 s1 hm1 k
 | some x =>
  cases hk:aV (sel rs (aQ ns tr))with
  | none =>
   rw[hb,hk]at k;exact k
  | some y =>
   rw[hb,hk]at k;exact fun b q H1 s1 hm1=>go b q H1 s1 hm1 k
theorem scLGive:FnScope ["self","tree"] ["self","tree"] (aB S36):=mkS
theorem FT(T:Txt P w K mg t):FO P w K mg base 122 t.a36 t.d36 ["self","tree"] (spLGive t):=by
 have G34:=nA (base:=base) T;have G41:=lX (base:=base) T;have G29:=Jr (base:=base) T;refine T.q36.F.ok2 scLGive (fun cdv A outer s H vs Q E hr h=>?_);obtain⟨p,dx,sl,bl,mv,bv,a,np,r,rs,v,ns,tr,rfl,U,h400,hm,hM,fit,k,kn⟩:=h;have nd:=scLGive.nd;refine⟨_,(aq (bF (gM (pvl 0) T.zf T.q34.e G34 (hr.mo) T.q34.b .nil aK (aa (aO G29 (hr.mo) T.q29.m T.q29.k T.q29.b bJ (aa (dj (pvl 0) T.zf T.q41.e G41 (hr.mo) T.q41.b .nil aK) (aa (pvl 1) aj))) aj)))),?_⟩;refine⟨_,rfl,p,dx,_,rfl,U.ob,ig _ _ (by decide +kernel) (by decide +kernel),_,rfl,p,dx,_,rfl,U.ob,ig _ _ (by decide +kernel) (by decide +kernel),p,dx,sl,bl,mv,bv,.ref a,rfl,U,_,rfl,a,np,r,rs,v,ns,tr,rfl,hm,hM,fit,fun hall=>?_,kn⟩;have k:=k hall;cases hb:aV (sel rs (aP ns tr))with
 | none =>
  rw[hb]at k;exact k
 | some x =>
  rw[hb]at k;exact fun b q H1 s1 hm1=>⟨p,dx,sl,bl,mv++[.ref a],bv,.ref b,rfl,U.mono s1,by rw[List.length_append];show mv.length+1<=500;omega,fun bl' H2 hbn U2 kp=>k b q bl' H2 (s1.free hbn) (fun c o e h1 h2=>kp c o (s1 _ _ e) h1 h2) U2 (nC (U.mono s1) kp hm1)⟩
inductive spFlat(vs:List V)(H:Hp)(Q:VK)(E:XK):Prop
 |mk (p:Addr) (ns:List Str) (_:vs=[.ref p]) (_:H p=some (.tup (ns.map V.str))) (_:1<=ns.length) (_:ns.length<=8) (_:∀(a r:Addr)(H':Hp),Same H H'->H' r=some (.tup ((List.replicate (2 ^ ns.length) (0:Int)).map V.int))->H' a=some (.tup [.ref p,.ref r])->Q (.ref a) H')
inductive spLInit(C:Addr)(vs:List V)(H:Hp)(Q:VK)(E:XK):Prop
 |mk (p dx np:Addr) (ns:List Str) (_:vs=[.ref p,.ref np]) (_:H p=some (.ins C dx [])) (_:H np=some (.tup (ns.map V.str))) (_:1<=ns.length) (_:ns.length<=8) (_:∀(sl bl m r:Addr)(H':Hp),H sl=none->H bl=none->LogAt C H' p dx sl bl [.ref m] []->MindAt H' m np r (List.replicate (2 ^ ns.length) (0:Int))->(∀ b o,H b=some o->b≠p->H' b=some o)->Q .non H')
theorem scFlat:FnScope ["names"] ["names"] (aB S17):=mkS
theorem Jt(T:Txt P w K mg t):FO P w K mg base 1 t.a17 t.d17 ["names"] spFlat:=by
 refine T.q17.F.ok2 scFlat (fun cdv A outer s H vs Q E hr h=>?_);obtain⟨p,ns,rfl,hp,h1,h8,k⟩:=h;have nd:=scFlat.nd;refine⟨_,(aq (aA (bh (aa (pvl 0) (aa (aF Jb (bh (aa ao aj)) (aF gb ao (bf aZ T.ze Bt.len (aa (pvl 0) aj)))) aj))))),?_⟩;have h256:2 ^ ns.length<=256:=Nat.pow_le_pow_right (n:=2) (by decide) h8;have h2:2<=2 ^ ns.length:=Nat.pow_le_pow_right (n:=2) (i:=1) (by decide) h1;have e1:(1:Int) * 2 ^ (((ns.map V.str).length:Nat):Int).toNat=((2 ^ ns.length:Nat):Int):=by rw[qlm,Int.toNat_natCast];simp
 have er:(List.replicate (2 ^ ns.length) [V.int 0]).flatten=(List.replicate (2 ^ ns.length) (0:Int)).map V.int:=by simp
 refine⟨_,rfl,lk (by first|exact qnb rfl|simp),fun q hq=>?_⟩;have u1:=aD (o:=.tup [.int 0]) hq;refine⟨_,rfl,p,_,rfl,.inr (SqT.of (u1 _ _ hp)),_,_,rfl,rfl,⟨by rw[qlm];omega,by rw[qlm];omega,by decide⟩,?_⟩
 try dsimp -proj -iota only
 rw[e1];refine⟨q,_,[.int 0],rfl,rfl,SqT.of au,List.cons_ne_nil _ _,by omega,by omega,?_,fun q2 hq2=>?_⟩
 . rw[Int.toNat_natCast]
   exact lk (by simp;omega)
 rw[Int.toNat_natCast,er];have u2:=aD (o:=.tup ((List.replicate (2 ^ ns.length) (0:Int)).map V.int)) hq2;refine⟨lk (by first|exact qnb rfl|simp),fun a ha=>?_⟩;have u3:=aD (o:=.tup [.ref p,.ref q2]) ha;exact k a q2 _ ((u1.trans u2).trans u3) (u3 _ _ au) au
theorem scLInit:FnScope ["self","names"] ["self","names"] (aB S33):=mkS
theorem FW(T:Txt P w K mg t):FO P w K mg base 2 t.a33 t.d33 ["self","names"] (spLInit t.zc):=by
 have G17:=Jt (base:=base) T;refine T.q33.F.ok2 scLInit (fun cdv A outer s H vs Q E hr h=>?_);obtain⟨p,dx,np,ns,rfl,hp,hn,h1,h8,k⟩:=h;have nd:=scLInit.nd
 refine⟨_,(ak (g8 (pvl 0) (bC (aa (aO G17 (hr.mo) T.q17.m T.q17.k T.q17.b aK (aa (pvl 1) aj)) aj)) rfl)
   (aq (g8 (pvl 0) (bC aj) rfl))),?_⟩
 refine⟨_,rfl,np,ns,rfl,hn,h1,h8,fun m r H1 s1 hr1 hm1=>⟨lk (by first|exact qnb rfl|simp),fun sl hsl=>?_⟩⟩;have u1:=aD (o:=.lst [.ref m]) hsl;have hp1:=s1 _ _ hp;have nps:p≠sl:=aH hp1 hsl;refine⟨_,rfl,p,t.zc,dx,_,rfl,u1 _ _ hp1,T.zf,T.zO,(by show 0<1000;decide),?_⟩;refine⟨lk (by first|exact qnb rfl|simp),fun bl hbl=>?_⟩;have npb:p≠bl:=aH au hbl;have hbl1:(upd H1 sl (.lst [.ref m])) bl=none:=by rw[aC (Ne.symm npb)]at hbl;exact hbl
 have nsb:sl≠bl:=aH au hbl1;have hbl2:H1 bl=none:=by rw[aC (Ne.symm nsb)]at hbl1;exact hbl1
 refine⟨_,rfl,p,t.zc,dx,_,rfl,by rw[aC npb];exact au,T.zf,T.zW,(by show 1<1000;decide),?_⟩
 have keep:∀ b o,H1 b=some o->b≠p->(upd (upd (upd (upd H1 sl (.lst [.ref m])) p (.ins t.zc dx (bc "standing" (.ref sl) []))) bl (.lst [])) p (.ins t.zc dx (bc "taken_back" (.ref bl) (bc "standing" (.ref sl) [])))) b=some o:=fun b o e hb=>by
  rw[aC hb,aC (aH e hbl2),aC hb,aC (aH e hsl)];exact e
 refine k sl bl m r _ (s1.free hsl) (s1.free hbl2) ⟨au,nsb,?_,?_⟩ ⟨keep _ _ hm1 (bz hm1 hp1 (by intro z;cases z)),keep _ _ hr1 (bz hr1 hp1 (by intro z;cases z)),?_⟩ fun b o e hb=>keep b o (s1 _ _ e) hb
 . rw[aC (Ne.symm nps),aC nsb,aC (Ne.symm nps),au]
 . rw[aC (Ne.symm npb),au]
 . rw[List.length_replicate]
   exact Nat.pow_le_pow_right (n:=2) (by decide) h8
inductive spMixed(vs:List V)(H:Hp)(Q:VK)(E:XK):Prop
 |mk (c k:Int) (_:vs=[.int c,.int k]) (_:0<=k) (_:k<2 ^ 20) (_:∀ m:Int,0<=m->Q (.int m) H)
theorem scMixed:FnScope ["_law_cell","_law_k"] ["_law_cell","_law_k"] (aB S93):=mkS
theorem FZ(T:Txt P w K mg t):FO P w K mg base 1 t.a93 t.d93 ["_law_cell","_law_k"] spMixed:=by
 refine T.q93.F.ok2 scMixed (fun cdv A outer s H vs Q E hr h=>?_);obtain⟨c,k,rfl,h0,h1,q⟩:=h;have nd:=scMixed.nd;refine⟨_,(aq (aA (aF bU (aF fZ (aF fZ (aF cW (aF bU (pvl 0) ao) ao) (aF cW (aF fZ (pvl 1) (pvl 1)) ao)) ao) ao))),?_⟩;have m1:CMul k k:=.inl ⟨by omega,by omega⟩;have b0:=qen c (show(2305843009213693951:Int)≠0 by decide);have b1:=qel c (show(0:Int)<2305843009213693951 by decide);have m2:CMul (c % 2305843009213693951+1) (k * k+48271):=.inl ⟨by omega,by omega⟩;refine⟨_,rfl,_,_,rfl,rfl,(by show(0:Int)<2305843009213693951;decide),_,_,rfl,rfl,_,rfl,_,rfl,_,_,rfl,rfl,m1,_,_,rfl,rfl,_,_,rfl,rfl,m2,_,_,rfl,rfl,.inr ⟨by decide,by decide⟩,_,_,rfl,rfl,(by show(0:Int)<2147483399;decide),q _ (qen _ (by decide))⟩
inductive spTB(n:Nat)(vs:List V)(H:Hp)(Q:VK)(E:XK):Prop
 |mk (p:Addr) (ns:List Str) (c d:Int) (_:vs=[.ref p,.int c,.int d]) (_:H p=some (.tup (ns.map V.str))) (_:1<=ns.length) (_:ns.length<=8) (_:0<=d) (_:d<n) (_:∀(v:V)(tr:Tr)(H':Hp),Same H H'->TrAt H' v tr->tr.depth<=n->tr.size+1<=2 ^ n->(∀ x∈tr.names,x∈ns)->Q v H')
theorem scTB:FnScope ["_law_names","_law_cell","_law_deep","_law_sort","_law_rest","_law_one","_law_verb"] ["_law_names","_law_cell","_law_deep"] (aB S95):=mkS
theorem Hy(T:Txt P w K mg t):∀ n:Nat,FO P w K mg base (n+1) t.a95 t.d95 ["_law_names","_law_cell","_law_deep"] (spTB n)
 | 0=>by
  refine T.q95.F.ok1 scTB (fun vs H Q E h=>by obtain⟨p,ns,c,d,rfl,_⟩:=h;rfl) (fun cdv A outer s H vs Q E hr h=>?_);obtain⟨p,ns,c,d,rfl,_,_,_,h0,h1,_⟩:=h;omega
 | n + 1 => by
  have G95:=Hy T n;refine T.q95.F.ok1 scTB (fun vs H Q E h=>by obtain⟨p,ns,c,d,rfl,_⟩:=h;rfl) (fun cdv A outer s H vs Q E hr h=>?_);obtain⟨p,ns,c,d,rfl,hp,h1,h8,hd0,hdn,k⟩:=h;have nd:=scTB.nd;have hpow:1<=2 ^ n:=Nat.one_le_two_pow;have hpow2:2 ^ (n+1)=2 ^ n+2 ^ n:=by rw[Nat.pow_succ];omega
  refine⟨_,(ak (psl 3 nd (aF bU (pvl 1) ao))
   (ak (psl 4 nd (aF fM (pvl 1) ao))
   (ak (aR (PW.pt (dB (aG aW (pvl 2) ao (aJ _)) (dZ (aG nW (pvl 3) ao (aJ _)))))
    (ak (aR (aG aW (aF bU (pvl 4) ao) ao (aJ _))
     (aq (aA (bh (aa az aj))))
     aN)
    (ak (aR (aG aW (aF bU (pvl 4) ao) ao (aJ _))
     (aq (aA (bh (aa az aj))))
     aN)
    (aq (aA (bh (aa az (aa (pix aM (pvl 0) (aF bU (aF fM (pvl 4) ao) (bf aZ T.ze Bt.len (aa (pvl 0) aj)))) aj)))))))
    aN)
   (ak (psl 5 nd (aO G95 (hr.mo) T.q95.m T.q95.k T.q95.b aK (aa (pvl 0) (aa (aF bU (aF fZ (pvl 4) ao) ao) (aa (aF cP (pvl 2) ao) aj)))))
   (ak (aR (aG nW (pvl 3) ao (aJ _))
    (aq (aA (bh (aa az (aa (pvl 5) aj)))))
    aN)
   (ak (psl 6 nd (pix bN (bC (aa az (aa az (aa az (aa az (aa az (aa az aj))))))) (aF cP (pvl 3) ao)))
   (aq (aA (bh (aa (pvl 6) (aa (pvl 5) (aa (aO G95 (hr.mo) T.q95.m T.q95.k T.q95.b aK (aa (pvl 0) (aa (aF bU (aF fZ (pvl 4) ao) ao) (aa (aF cP (pvl 2) ao) aj)))) aj)))))))))))),?_⟩
  refine⟨_,rfl,_,_,rfl,rfl,(by show(0:Int)<11;decide),?_⟩;refine⟨_,rfl,_,_,rfl,rfl,⟨by decide,by decide⟩,?_⟩
  try dsimp -proj -iota only
  have hw0:=qen c (show(11:Int)≠0 by decide);have hw9:=qel c (show(0:Int)<11 by decide);generalize c % 11=way at hw0 hw9 ⊢;generalize c / 11=rest;refine⟨_,rfl,rfl,_,rfl,aU (fun c1=>bO ?A1) (fun c1=>⟨_,rfl,_,_,rfl,rfl,_,rfl,aU (fun c2=>?A2) (fun c2=>?B)⟩)⟩
  case A1 | A2 =>
   refine⟨_,rfl,_,_,rfl,rfl,(by show(0:Int)<12;decide),rfl,_,rfl,aU (fun _=>?_) (fun _=>⟨_,rfl,_,_,rfl,rfl,(by show(0:Int)<12;decide),rfl,_,rfl,aU (fun _=>?_) (fun _=>?_)⟩)⟩
   . refine⟨lk (by first|exact qnb rfl|simp),fun p1 hp1=>?_⟩
     exact k (.ref p1) .yes _ (aD hp1) (.yes au) (by show 1<=n+1;omega) (by show 1+1<=2 ^ (n+1);omega) fun x hx=>by cases hx
   . refine⟨lk (by first|exact qnb rfl|simp),fun p1 hp1=>?_⟩
     exact k (.ref p1) .no _ (aD hp1) (.no au) (by show 1<=n+1;omega) (by show 1+1<=2 ^ (n+1);omega) fun x hx=>by cases hx
   . have el:((ns.map V.str).length:Int)=ns.length:=by rw[qlm]
     have hq0:=qen (rest / 12) (by omega:((ns.length:Int))≠0);have hq1:=qel (rest / 12) (by omega:0<(ns.length:Int));have hlt:(rest / 12 % (ns.length:Int)).toNat<ns.length:=by omega
     refine⟨_,rfl,_,rfl,_,_,rfl,rfl,⟨by decide,by decide⟩,_,rfl,p,_,rfl,.inr (SqT.of hp),_,_,rfl,rfl,(by rw[el];omega),p,_,_,V.str ns[(rest / 12 % (ns.length:Int)).toNat],rfl,rfl,SqT.of hp,jA (by rw[el];exact hq0) ?_,lk (by first|exact qnb rfl|simp),fun q hq=>?_⟩
     . rw[el,qgm,List.getElem?_eq_getElem hlt]
       rfl
     . exact k (.ref q) (.nm ns[(rest / 12 % (ns.length:Int)).toNat]) _ (aD hq) (.nm au) (by show 1<=n+1;omega) (by show 1+1<=2 ^ (n+1);omega) fun x hx=>by
        have hx:x∈[ns[(rest / 12 % (ns.length:Int)).toNat]]:=hx;rw[List.mem_singleton.mp hx];exact List.getElem_mem hlt
  case B =>
   have hd1:1<=d:=by
    have:¬ d=0:=fun z=>c1 (qdt (congrArg V.int z))
    omega
   have hw2:3<=way:=by
    have:¬ way<3:=fun z=>c2 (qdt z)
    omega
   refine⟨_,rfl,_,rfl,_,_,rfl,rfl,.inr ⟨by decide,by decide⟩,_,_,rfl,rfl,(by show(0:Int)<2147483647;decide),_,rfl,_,_,rfl,rfl,p,ns,_,d - 1,rfl,hp,h1,h8,by omega,by omega,fun v1 t1 H1 s1 ht1 hdp1 hsz1 hn1=>?_⟩;refine⟨_,rfl,_,_,rfl,rfl,_,rfl,aU (fun _=>?_) (fun c3=>?_)⟩
   . refine⟨_,rfl,lk (by first|exact qnb rfl|simp),fun q hq=>?_⟩
     exact k (.ref q) (.not t1) _ (s1.trans (aD hq)) (.not au (ht1.mono (aD hq).tups)) (by show t1.depth+1<=n+1;omega) (by show t1.size+1+1<=2 ^ (n+1);omega) hn1
   . have hw5:5<=way:=by
      have:¬ way<5:=fun z=>c3 (qdt z)
      omega
     refine⟨lk (by first|exact qnb rfl|simp),fun q1 hq1=>?_⟩;have s3:=aD (o:=.lst [.str "and",.str "or",.str "then",.str "same",.str "and",.str "or"]) hq1
     obtain⟨o,ho⟩:∃ o:Op,atI [V.str "and",V.str "or",V.str "then",V.str "same",V.str "and",V.str "or"] (way - 5)=some (.str o.str):=by
      have hw:way - 5=0\/way - 5=1\/way - 5=2\/way - 5=3\/way - 5=4\/way - 5=5:=by omega
      rcases hw with hw|hw|hw|hw|hw|hw <;> rw[hw]
      . exact⟨.and,rfl⟩
      . exact⟨.or,rfl⟩
      . exact⟨.thn,rfl⟩
      . exact⟨.same,rfl⟩
      . exact⟨.and,rfl⟩
      . exact⟨.or,rfl⟩
     refine⟨_,rfl,_,_,rfl,rfl,q1,_,_,.str o.str,rfl,rfl,SqL.of au,ho,?_⟩;have s13:=s1.trans s3;refine⟨_,rfl,_,rfl,_,rfl,_,rfl,_,_,rfl,rfl,.inr ⟨by decide,by decide⟩,_,_,rfl,rfl,(by show(0:Int)<2147483629;decide),_,rfl,_,_,rfl,rfl,p,ns,_,d - 1,rfl,s13 _ _ hp,h1,h8,by omega,by omega,fun v2 t2 H2 s2 ht2 hdp2 hsz2 hn2=>⟨lk (by first|exact qnb rfl|simp),fun q2 hq2=>?_⟩⟩;have s4:=aD (o:=.tup [.str o.str,v1,v2]) hq2;refine k (.ref q2) (.bin o t1 t2) _ ((s13.trans s2).trans s4) (.bin (o:=o) au (ht1.mono ((s3.trans s2).trans s4).tups) (ht2.mono s4.tups)) (by show max t1.depth t2.depth+1<=n+1;omega) (by show t1.size+t2.size+1+1<=2 ^ (n+1);omega) fun x hx=>?_
     rcases List.mem_append.mp hx with hx|hx
     . exact hn1 x hx
     . exact hn2 x hx
inductive spColumn(vs:List V)(H:Hp)(Q:VK)(E:XK):Prop
 |mk (n k:Nat) (_:vs=[.int n,.int k]) (_:k<n) (_:n<=8) (_:Q (.int (du n k:Nat)) H)
theorem pw1(k:Nat):(1:Int) * 2 ^ ((k:Nat):Int).toNat=((2 ^ k:Nat):Int):=by rw[Int.toNat_natCast];simp
theorem uf{k:Nat}(h:k<=8):2 ^ k<=256:=Nat.pow_le_pow_right (n:=2) (by decide) h
theorem pwI{k:Nat}(h:k<=8):(0:Int)<=((2 ^ k:Nat):Int)/\((2 ^ k:Nat):Int)<=1000:=⟨Int.natCast_nonneg _,Int.ofNat_le.mpr (qnt (uf h) (by decide))⟩
theorem lA{i j:Int}(h0:0<=j)(h1:j<=1000)(hi:i.natAbs<2 ^ 256 * 2 ^ 44):rm i j:=⟨h0,by omega,Nat.lt_of_lt_of_le hi (by rw[<- Nat.pow_add];exact Nat.pow_le_pow_right (by decide) (by decide))⟩
theorem nD:(1:Int).natAbs<2 ^ 256 * 2 ^ 44:=by decide
theorem yE{m:Nat}(h:m<=256):(((2 ^ m - 1:Nat):Int)).natAbs<2 ^ 256 * 2 ^ 44:=by
 rw[Int.natAbs_natCast];have h1:2 ^ m<=2 ^ 256:=Nat.pow_le_pow_right (by decide) h;have h2:1<=2 ^ m:=Nat.one_le_two_pow;omega
theorem pw2(m:Nat):(1:Int) * 2 ^ ((m:Nat):Int).toNat - 1=((2 ^ m - 1:Nat):Int):=by
 rw[pw1];have:1<=2 ^ m:=Nat.one_le_two_pow;omega
theorem Cj{j k:Nat}(h:j<=8):(((du j k:Nat):Int)).natAbs<2 ^ 256 * 2 ^ 44:=by
 rw[Int.natAbs_natCast];have h1:du j k<2 ^ (2 ^ j):=oA _ _;have h2:2 ^ (2 ^ j)<=2 ^ 256:=Nat.pow_le_pow_right (by decide) (uf h);omega
theorem scColumn:FnScope ["_law_many","_law_place","_law_told","_law_size"] ["_law_many","_law_place"] (aB S96):=mkS
theorem Ck(T:Txt P w K mg t):FO P w K mg base 1 t.a96 t.d96 ["_law_many","_law_place"] spColumn:=by
 refine T.q96.F.ok2 scColumn (fun cdv A outer s H vs Q E hr h=>?_);obtain⟨n,kk,rfl,hk,hn,k⟩:=h;have nd:=scColumn.nd
 refine⟨_,(ak (psl 2 nd (aF iH (aF cP (aF iH ao (aF iH ao (pvl 1))) ao) (aF iH ao (pvl 1))))
   (ak (psl 3 nd (aF iH ao (pvl 1)))
   (ak (ju own1 (aG nW (pvl 3) (aF iH ao (pvl 0)) (aJ _))
    (ak (psl 2 nd (aF lJ (pvl 2) (aF iH (pvl 2) (pvl 3))))
    (aq (psl 3 nd (aF fZ ao (pvl 3))))))
   (aq (aA (pvl 2)))))),?_⟩
 have hk8:=uf (show kk<=8 by omega);have cA:rm 1 ((kk:Nat):Int):=lA (by omega) (by omega) nD;have cA2:rm 2 ((kk:Nat):Int):=lA (by omega) (by omega) (by decide)
 have cB:rm 1 ((1:Int) * 2 ^ ((kk:Nat):Int).toNat):=by
  rw[pw1];exact lA (pwI (by omega)).1 (pwI (by omega)).2 nD
 have cC:rm ((1:Int) * 2 ^ ((1:Int) * 2 ^ ((kk:Nat):Int).toNat).toNat - 1) ((1:Int) * 2 ^ ((kk:Nat):Int).toNat):=by
  rw[pw1,pw2];exact lA (pwI (by omega)).1 (pwI (by omega)).2 (yE hk8)
 refine⟨_,rfl,_,_,rfl,rfl,cA,_,_,rfl,rfl,cB,_,_,rfl,rfl,_,rfl,_,_,rfl,rfl,cA,_,_,rfl,rfl,cC,?_⟩
 have e0:((1:Int) * 2 ^ ((1:Int) * 2 ^ ((kk:Nat):Int).toNat).toNat - 1) * 2 ^ ((1:Int) * 2 ^ ((kk:Nat):Int).toNat).toNat=((du (kk+1) kk:Nat):Int):=by
  rw[pw1,pw2,Int.toNat_natCast,<- Ca,Int.natCast_mul];simp
 try dsimp -proj -iota only
 rw[e0];refine⟨_,rfl,_,_,rfl,rfl,cA2,?_⟩
 have e1:(2:Int) * 2 ^ ((kk:Nat):Int).toNat=((2 ^ (kk+1):Nat):Int):=by
  rw[Int.toNat_natCast,Nat.pow_succ,Nat.mul_comm,Int.natCast_mul];simp
 try dsimp -proj -iota only
 rw[e1];refine⟨fun m σ H2=>∃ j:Nat,σ=[some (.int n),some (.int kk),some (.int (du j kk:Nat)),some (.int (2 ^ j:Nat))]/\H2=H/\kk<j/\j<=n/\m=n - j,⟨_,kk+1,rfl,rfl,by omega,by omega,rfl⟩,?_⟩;rintro m σ H2 ⟨j,rfl,rfl,hj,hjn,rfl⟩;refine⟨_,rfl,_,rfl,_,_,rfl,rfl,lA (by omega) (by omega) nD,?_⟩
 try dsimp -proj -iota only
 rw[pw1];refine⟨_,_,rfl,rfl,_,rfl,aU (fun c=>?_) (fun c=>?_)⟩
 . have c:((2 ^ j:Nat):Int)<((2 ^ n:Nat):Int):=qod c
   have hjl:j<n:=by
    rcases Nat.lt_or_ge j n with h|h
    . exact h
    . have:2 ^ n<=2 ^ j:=Nat.pow_le_pow_right (by decide) h
      omega
   have hj8:=uf (show j<=8 by omega);refine⟨fun σ' H'=>∃ m',m'<n - j/\∃ j:Nat,σ'=[some (.int n),some (.int kk),some (.int (du j kk:Nat)),some (.int (2 ^ j:Nat))]/\H'=H2/\kk<j/\j<=n/\m'=n - j,fun _ _ h=>h,?_⟩;refine⟨_,rfl,_,rfl,_,rfl,_,_,rfl,rfl,lA (pwI (by omega)).1 (pwI (by omega)).2 (Cj (by omega)),?_⟩;have e2:((du j kk:Nat):Int) * 2 ^ ((2 ^ j:Nat):Int).toNat=((du j kk * 2 ^ (2 ^ j):Nat):Int):=by rw[Int.toNat_natCast,Int.natCast_mul];simp
   try dsimp -proj -iota only
   rw[e2];refine⟨_,_,rfl,rfl,?_⟩
   try dsimp -proj -iota only
   rw[bor,Fe hj];refine⟨_,rfl,_,_,rfl,rfl,.inl ⟨by decide,by decide⟩,?_⟩;have e3:(2:Int) * ((2 ^ j:Nat):Int)=((2 ^ (j+1):Nat):Int):=by rw[Nat.pow_succ];omega
   try dsimp -proj -iota only
   rw[e3];exact⟨_,by omega,j+1,rfl,rfl,by omega,by omega,rfl⟩
 . have c:¬ ((2 ^ j:Nat):Int)<((2 ^ n:Nat):Int):=fun z=>c (qdt z)
   have hjl:j=n:=by
    rcases Nat.lt_or_ge j n with h|h
    . have:2 ^ j<2 ^ n:=Nat.pow_lt_pow_right (by decide) h
      omega
    . omega
   subst hjl;exact⟨_,rfl,k⟩
inductive spLTable(d:Nat)(vs:List V)(H:Hp)(Q:VK)(E:XK):Prop
 |mk (p:Addr) (v:V) (ns:List Str) (tr:Tr) (_:vs=[.ref p,v]) (_:H p=some (.tup (ns.map V.str))) (_:ns.length<=8) (_:TrAt H v tr) (_:tr.depth<=d) (_:(∀ x∈tr.names,x∈ns)) (_:∀ H',Same H H'->Q (.int (aQ ns tr:Nat)) H')
theorem xm(x y:Str):eqV (.str x) (.str y)=decide (x=y):=by
 show(x == y)=_
 by_cases z:x=y
 . simp[z]
 . simp[z]
theorem sW(ns:List Str){j:Nat}(h:j<ns.length):(ns.map V.str).getD j .non = .str ns[j]:=by
 rw[List.getD,qgm,List.getElem?_eq_getElem h]
 rfl
theorem yF{ns:List Str}{x:Str}{m:Nat}(h:m<ns.idxOf x)(hm:m<ns.length):¬ ns[m]=x:=by
 have:=List.not_of_lt_findIdx (p:=fun y=>y == x) (xs:=ns) (i:=m) h;intro z;rw[z]at this;simp at this
theorem scLTable:FnScope ["_law_names","_law_tree","_law_every","_law_one","_law_other"] ["_law_names","_law_tree"] (aB S97):=mkS
theorem nF(T:Txt P w K mg t):∀ d:Nat,FO P w K mg base (d+2) t.a97 t.d97 ["_law_names","_law_tree"] (spLTable d)
 | 0=>by
  refine T.q97.F.ok1 scLTable (fun vs H Q E h=>by obtain⟨p,v,ns,tr,rfl,_⟩:=h;rfl) (fun cdv A outer s H vs Q E hr h=>?_);obtain⟨p,v,ns,tr,rfl,hp,h8,ht,hd,k⟩:=h;have:=tr.depth_pos;omega
 | d + 1=>by
  have G97:=nF T d;have G96:=Ck (base:=base) T;refine T.q97.F.ok1 scLTable (fun vs H Q E h=>by obtain⟨p,v,ns,tr,rfl,_⟩:=h;rfl) (fun cdv A outer s H vs Q E hr h=>?_);obtain⟨p,v,ns,tr,rfl,hp,h8,ht,hd,hin,k⟩:=h;obtain⟨a,rest,rfl,ha,hnm,hkid⟩:=ht.open;have nd:=scLTable.nd
  refine⟨_,(ak (psl 2 nd (aF cP (aF gb ao (aF gb ao (bf aZ T.ze Bt.len (aa (pvl 0) aj)))) ao))
   (ak (aR (aG aW (pix aM (pvl 1) ao) az (aJ _))
    (aq (aA (aO G96 (hr.mo) T.q96.m T.q96.k T.q96.b aK (aa (bf aZ T.ze Bt.len (aa (pvl 0) aj)) (aa (Ks PySem.F.slot_tuple_index PySem.F.type_tuple_index Bk (pvl 0) (aa (pix aM (pvl 1) ao) aj)) aj)))))
    aN)
   (ak (aR (aG aW (pix aM (pvl 1) ao) az (aJ _))
    (aq (aA (pvl 2)))
    aN)
   (ak (aR (aG aW (pix aM (pvl 1) ao) az (aJ _))
    (aq (aA ao))
    aN)
   (ak (psl 3 nd (aO G97 (hr.mo) T.q97.m T.q97.k T.q97.b aK (aa (pvl 0) (aa (pix aM (pvl 1) ao) aj))))
   (ak (aR (aG aW (pix aM (pvl 1) ao) az (aJ _))
    (aq (aA (aF kW (pvl 2) (pvl 3))))
    aN)
   (ak (psl 4 nd (aO G97 (hr.mo) T.q97.m T.q97.k T.q97.b aK (aa (pvl 0) (aa (pix aM (pvl 1) ao) aj))))
   (ak (aR (aG aW (pix aM (pvl 1) ao) az (aJ _))
    (aq (aA (aF gn (pvl 3) (pvl 4))))
    aN)
   (ak (aR (aG aW (pix aM (pvl 1) ao) az (aJ _))
    (aq (aA (aF lJ (pvl 3) (pvl 4))))
    aN)
   (ak (aR (aG aW (pix aM (pvl 1) ao) az (aJ _))
    (aq (aA (aF lJ (aF kW (pvl 2) (pvl 3)) (pvl 4))))
    aN)
   (aq (aA (aF kW (aF kW (pvl 2) (pvl 3)) (pvl 4)))))))))))))),?_⟩
  have el:(ns.map V.str).length=ns.length:=qlm _;have ix0:atI (V.str tr.tag::rest) 0=some (.str tr.tag):=cM (j:=0) rfl;have c1:mR 1 (((ns.map V.str).length:Nat):Int):=⟨by omega,by rw[el];omega,by decide⟩
  have c2:mR 1 ((1:Int) * 2 ^ (((ns.map V.str).length:Nat):Int).toNat):=by
   rw[el,pw1];exact⟨(pwI h8).1,by have:=(pwI h8).2;omega,by decide⟩
  have ef:(1:Int) * 2 ^ ((1:Int) * 2 ^ (((ns.map V.str).length:Nat):Int).toNat).toNat - 1=((cg ns.length:Nat):Int):=by
   rw[el,pw1,pw2]
   rfl
  refine⟨_,rfl,p,_,rfl,.inr (SqT.of hp),_,_,rfl,rfl,c1,_,_,rfl,rfl,c2,_,_,rfl,rfl,?_⟩
  try dsimp -proj -iota only
  rw[ef];refine⟨_,rfl,a,_,0,.str tr.tag,rfl,rfl,SqT.of ha,ix0,rfl,_,rfl,aU (fun c=>?N) (fun c1=>⟨_,rfl,a,_,0,.str tr.tag,rfl,rfl,SqT.of ha,ix0,rfl,_,rfl,aU (fun c=>?Y) (fun c2=>⟨_,rfl,a,_,0,.str tr.tag,rfl,rfl,SqT.of ha,ix0,rfl,_,rfl,aU (fun c=>?O) (fun c3=>?R)⟩)⟩)⟩
  case N =>
   obtain⟨x,rfl⟩:=Hv (qod c);have hx:x∈ns:=hin x qms;have hi:=List.idxOf_lt_length_iff.mpr hx;have hg:ns[ns.idxOf x]=x:=List.getElem_idxOf hi;refine⟨_,rfl,p,_,rfl,.inr (SqT.of hp),_,rfl,p,_,rfl,hp,_,rfl,a,_,1,.str x,rfl,rfl,SqT.of (Fz ht),rfl,p,_,.str x,ns.idxOf x,rfl,rfl,SqT.of hp,rfl,sS ns,by rw[el];exact hi,?_,fun m hm=>?_,ns.length,ns.idxOf x,?_,hi,h8,k H (Same.refl H)⟩
   . rw[sW ns hi,hg,xm,qdt rfl]
   . rw[sW ns (by omega),xm]
     exact qdf (yF hm (by omega))
   . rw[el];rfl
  case Y =>
   obtain rfl:=Ce (qod c);have k:=k H (Same.refl H);rw[Kw]at k;exact⟨_,rfl,k⟩
  case O =>
   obtain rfl:=Hw (qod c);have k:=k H (Same.refl H);rw[Mg]at k;exact k
  case R =>
   cases tr with
   |nm x=>exact absurd (qdt rfl) c1
   |yes=>exact absurd (qdt rfl) c2
   |no=>exact absurd (qdt rfl) c3
   | not u =>
    obtain⟨vu,hau,htu⟩:=yD ht;have hd:u.depth+1<=d+1:=hd;refine⟨_,rfl,_,rfl,a,_,1,vu,rfl,rfl,SqT.of hau,rfl,p,vu,ns,u,rfl,hp,h8,htu,by omega,hin,fun H1 s1=>?_⟩;refine⟨_,rfl,a,_,0,.str "not",rfl,rfl,SqT.of (s1 _ _ hau),rfl,rfl,_,rfl,aU (fun c=>?_) (fun c=>absurd (qdt rfl) c)⟩;refine⟨_,rfl,_,rfl,_,_,rfl,rfl,?_⟩;have k:=k H1 s1;rw[Ky,<- bxor]at k;exact k
   | bin o x y =>
    obtain⟨vx,vy,hab,htx,hty⟩:=yC ht;have hd:max x.depth y.depth+1<=d+1:=hd;have nn:¬ (decide (V.str o.str=V.str ("not":Str))=true):=fun z=>(lW o).2.2.1 (V.str.inj (qod z))
    refine⟨_,rfl,_,rfl,a,_,1,vx,rfl,rfl,SqT.of hab,rfl,p,vx,ns,x,rfl,hp,h8,htx,by omega,fun z hz=>hin z (qal _ hz),fun H1 s1=>?_⟩;refine⟨_,rfl,a,_,0,.str o.str,rfl,rfl,SqT.of (s1 _ _ hab),rfl,rfl,_,rfl,aU (fun c=>absurd c nn) (fun _=>?_)⟩;refine⟨_,rfl,_,rfl,a,_,2,vy,rfl,rfl,SqT.of (s1 _ _ hab),rfl,p,vy,ns,y,rfl,s1 _ _ hp,h8,hty.mono s1.tups,by omega,fun z hz=>hin z (qar _ hz),fun H2 s2=>?_⟩;have s12:=s1.trans s2;have k:=k H2 s12;refine⟨_,rfl,a,_,0,.str o.str,rfl,rfl,SqT.of (s12 _ _ hab),rfl,rfl,_,rfl,aU (fun c=>?A) (fun c1=>⟨_,rfl,a,_,0,.str o.str,rfl,rfl,SqT.of (s12 _ _ hab),rfl,rfl,_,rfl,aU (fun c=>?O) (fun c2=>⟨_,rfl,a,_,0,.str o.str,rfl,rfl,SqT.of (s12 _ _ hab),rfl,rfl,_,rfl,aU (fun c=>?T) (fun c3=>?S)⟩)⟩)⟩
    case A =>
     obtain rfl:o = .and:=oG (o':=.and) (qod c);rw[Kz,<- band]at k;exact⟨_,rfl,_,rfl,_,_,rfl,rfl,k⟩
    case O =>
     obtain rfl:o = .or:=oG (o':=.or) (qod c);rw[Mh,<- bor]at k;exact⟨_,rfl,_,rfl,_,_,rfl,rfl,k⟩
    case T =>
     obtain rfl:o = .thn:=oG (o':=.thn) (qod c);rw[KC,<- bor,<- bxor]at k;exact⟨_,rfl,_,rfl,_,_,rfl,rfl,_,rfl,_,_,rfl,rfl,k⟩
    case S =>
     obtain rfl:o = .same:=by
      cases o with
      |and=>exact absurd (qdt rfl) c1
      |or=>exact absurd (qdt rfl) c2
      |thn=>exact absurd (qdt rfl) c3
      |same=>rfl
     rw[Jk,<- bxor,<- bxor]at k;exact⟨_,rfl,_,rfl,_,_,rfl,rfl,_,rfl,_,_,rfl,rfl,k⟩
inductive spWhole(vs:List V)(H:Hp)(Q:VK)(E:XK):Prop
 |mk (i) (_:vs=[.int i]) (_:Q (.bl true) H)
theorem scWhole:FnScope ["_law_found"] ["_law_found"] (aB S92):=mkS
theorem Ga(T:Txt P w K mg t):FO P w K mg base 1 t.a92 t.d92 ["_law_found"] spWhole:=by
 refine T.q92.F.ok2 scWhole (fun cdv A outer s H vs Q E hr h=>?_);obtain⟨i,rfl,k⟩:=h;have nd:=scWhole.nd;refine⟨_,(aq (aA (kJ (bf fG T.zo Bt.isinstance (aa (pvl 0) (aa (jh (v:=.ty "int") T.zD Bt.int rfl) aj))) (jt (JW (bf fG T.zo Bt.isinstance (aa (pvl 0) (aa (jh (v:=.ty "bool") T.zaC Bt.bool rfl) aj)))))))),?_⟩;refine⟨_,rfl,_,_,_,_,true,rfl,rfl,.int _,rfl,_,rfl,?_⟩;exact⟨_,rfl,_,_,_,_,false,rfl,rfl,.int _,rfl,_,rfl,k⟩
inductive spLTurn(t:Adr)(vs:List V)(H:Hp)(Q:VK)(E:XK):Prop
 |mk (p dx sl bl:Addr) (mv bv:List V) (a np r:Addr) (rs:List Int) (v:V) (ns:List Str) (tr:Tr) (lean:Int) (_:vs=[.ref p,v,.int lean]) (_:LogAt t.zc H p dx sl bl (mv++[.ref a]) bv) (_:mv.length<=400) (_:MindAt H a np r rs) (_:Fits H np v ns tr) (_:((∀ x∈tr.names,x∈ns)->match aV (sel rs (aP ns tr)),aV (sel rs (aQ ns tr))with|none,_=>∀ H',Same H H'->E (.ref t.zh) none H'|some _,none=>∀ H',Same H H'->E (.ref t.zi) none H'|some x,some y=>∀(b q bl':Addr)(H':Hp),H bl'=none->lY p sl H H'->LogAt t.zc H' p dx sl bl' (mv++[.ref a]++[.ref b]) []->MindAt H' b np q (cJ rs (aP ns tr) x y lean)->Q .non H')) (_:((¬ ∀ x∈tr.names,x∈ns)->∀ H',Same H H'->E (.ref t.zg) none H'))
theorem scLTurn:FnScope ["self","tree","lean"] ["self","tree","lean"] (aB S37):=mkS
theorem Gb(T:Txt P w K mg t):FO P w K mg base 121 t.a37 t.d37 ["self","tree","lean"] (spLTurn t):=by
 have G34:=nA (base:=base) T;have G41:=lX (base:=base) T;have G28:=rC (base:=base) T;refine T.q37.F.ok2 scLTurn (fun cdv A outer s H vs Q E hr h=>?_);obtain⟨p,dx,sl,bl,mv,bv,a,np,r,rs,v,ns,tr,lean,rfl,U,h400,hm,fit,k,kn⟩:=h;have nd:=scLTurn.nd;refine⟨_,(aq (bF (gM (pvl 0) T.zf T.q34.e G34 (hr.mo) T.q34.b .nil aK (aa (aO G28 (hr.mo) T.q28.m T.q28.k T.q28.b bJ (aa (dj (pvl 0) T.zf T.q41.e G41 (hr.mo) T.q41.b .nil aK) (aa (pvl 1) (aa (pvl 2) aj)))) aj)))),?_⟩;refine⟨_,rfl,p,dx,_,rfl,U.ob,ig _ _ (by decide +kernel) (by decide +kernel),_,rfl,p,dx,_,rfl,U.ob,ig _ _ (by decide +kernel) (by decide +kernel),p,dx,sl,bl,mv,bv,.ref a,rfl,U,_,rfl,_,rfl,a,np,r,rs,v,ns,tr,lean,rfl,hm,fit,fun hall=>?_,kn⟩;have k:=k hall;cases hb:aV (sel rs (aP ns tr))with
 | none =>
  rw[hb]at k;exact k
 | some x =>
  cases hk:aV (sel rs (aQ ns tr))with
  | none =>
   rw[hb,hk]at k;exact k
  | some y =>
   rw[hb,hk]at k;exact fun b q H1 s1 hm1=>⟨p,dx,sl,bl,mv++[.ref a],bv,.ref b,rfl,U.mono s1,by rw[List.length_append];show mv.length+1<=500;omega,fun bl' H2 hbn U2 kp=>k b q bl' H2 (s1.free hbn) (fun c o e h1 h2=>kp c o (s1 _ _ e) h1 h2) U2 (nC (U.mono s1) kp hm1)⟩
structure Names(ns:List Str):Prop where
 nd:ns.Nodup
 nm:∀ x∈ns,IsName x
inductive spNames2(vs:List V)(H:Hp)(Q:VK)(E:XK):Prop
 |mk (c n:Int) (_:vs=[.int c,.int n]) (_:1<=n) (_:n<=8) (_:∀(p:Addr)(ns:List Str)(H':Hp),Same H H'->H' p=some (.tup (ns.map V.str))->ns.length=n.toNat->Names ns->Q (.ref p) H')
def pN(c:Nat)(n:Nat):Str:=⟨(List.replicate n c).toArray⟩
theorem nG(c n:Nat):(pN c n).cps.toList=List.replicate n c:=by simp[pN]
theorem Ju(c:Nat)(n:Int):Txt.mul ⟨#[c]⟩ n=pN c n.toNat:=by
 refine Ji ?_;rw[mul_one_list,nG]
theorem jj{i:Int}(h0:0<=i)(h:i<26):atI letters.cps.toList i=some (97+i.toNat):=jA h0 (yx i.toNat (by omega))
theorem rD(c:Nat):(⟨#[c]⟩:Str).length=1:=rfl
theorem Jv(f:Nat->Nat)(n:Nat)(z:Str):(((List.range n).map fun i=>(⟨#[f i]⟩:Str)).map (·.length)).sum+((List.range n).map fun i=>(⟨#[f i]⟩:Str)).length * z.length=n+n * z.length:=by
 have e:∀ l:List Nat,((l.map fun i=>(⟨#[f i]⟩:Str)).map (·.length)).sum=l.length:=by
  intro l
  induction l with
  |nil=>rfl
  | cons x r ih =>
   rw[List.map_cons,List.map_cons,List.sum_cons,ih,List.length_cons];show 1+r.length=_;omega
 rw[e,qlm,List.length_range]
theorem vf(f:Nat->Nat):∀ l:List Nat,(l.flatMap fun i=>[f i])=l.map f
 |[]=>rfl
 |x::r=>by rw[List.flatMap_cons,List.map_cons,vf f r];rfl
theorem Cm:("":Str)=⟨#[]⟩:=by decide +kernel
theorem Gd(x:Str){u:Int}(hu:0<=u):(dq x (some u) none).cps.toList=x.cps.toList.drop u.toNat:=by
 rw[eG];have e:HT.sIx x.length x.length none=x.length:=rfl
 have e0:HT.sIx x.length 0 (some u)=min u.toNat x.length:=by
  show(if u<0 then _ else _)=_;rw[qnZ (by omega)]
 have lx:x.cps.toList.length=x.length:=Array.length_toList;rw[e,e0];rcases Nat.le_total u.toNat x.length with h1|h1
 . rw[Nat.min_eq_left h1]
   exact List.take_of_length_le (by rw[List.length_drop];omega)
 . rw[Nat.min_eq_right h1,List.drop_of_length_le (show x.cps.toList.length<=x.length by omega),List.drop_of_length_le (show x.cps.toList.length<=u.toNat by omega),List.take_nil]
theorem nH{n:Nat}(f:Nat->Str)(hi:∀ i j,i<n->j<n->f i=f j->i=j)(hn:∀ i,i<n->IsName (f i)):Names ((List.range n).map f):=by
 refine⟨?_,fun x hx=>?_⟩
 . rw[List.nodup_iff_pairwise_ne,List.pairwise_map]
   refine List.Pairwise.imp_of_mem (R:=fun a b=>a≠b) (fun {a b} ha hb hab e=>hab ?_) (List.nodup_iff_pairwise_ne.mp List.nodup_range);exact hi a b (List.mem_range.mp ha) (List.mem_range.mp hb) e
 . obtain⟨i,h,rfl⟩:=List.mem_map.mp hx
   exact hn i (List.mem_range.mp h)
def sgC(first:Int)(k:Nat):Nat:=97+((first+5 * k) % 26).toNat
def nmE(stem:Str)(place first:Int)(k:Nat):Str:=dq stem none (some place)++⟨#[sgC first k]⟩++dq stem (some place) none
theorem xn{first:Int}{i j:Nat}(hi:i<8)(hj:j<8)(h:sgC first i=sgC first j):i=j:=by
 unfold sgC at h;omega
theorem Cp(first:Int)(k:Nat):97<=sgC first k/\sgC first k<=122:=by unfold sgC;omega
theorem ug{stem:Str}{place first:Int}(h0:0<=place)(k:Nat):(nmE stem place first k).cps.toList=stem.cps.toList.take place.toNat++[sgC first k]++stem.cps.toList.drop place.toNat:=by
 unfold nmE;rw[ue,ue,Ke _ h0,Gd _ h0]
def verbsL:List Str:=["back","take","worlds","again","names","give","lean","ask"]
theorem wz(m:Nat):Names (verbsL.take m):=by
 refine⟨List.Sublist.nodup (List.take_sublist _ _) (by decide +kernel),fun x hx=>?_⟩;have h:∀ x∈verbsL,1<=x.cps.toList.length/\x.cps.toList.length<=8/\∀ c∈x.cps.toList,97<=c/\c<=122:=by decide +kernel
 have:=h x (List.mem_of_mem_take hx);exact⟨this.1,this.2.1,this.2.2⟩
theorem scNames2:FnScope ["_law_cell","_law_many","_law_letters","_law_first","_law_size","_law_place","_law_stem"] ["_law_cell","_law_many"] (aB S94):=mkS
theorem Cq(T:Txt P w K mg t):FO P w K mg base 1 t.a94 t.d94 ["_law_cell","_law_many"] spNames2:=by
 refine T.q94.F.ok2 scNames2 (fun cdv A outer s H vs Q E hr h=>?_);obtain⟨c,n,rfl,hn1,hn8,k⟩:=h;have nd:=scNames2.nd
 refine⟨_,(ak (psc 2 nd az)
   (ak (aR (aG aW (aF bU (pvc 0) ao) ao (aJ _))
    (aq (aA (fc dm T.zm Bt.tuple (aa (gC qW (bC (aa az (aa az (aa az (aa az (aa az (aa az (aa az (aa az aj))))))))) jo (gO (pvc 1))) aj))))
    aN)
   (ak (psc 3 nd (aF bU (aF fM (pvc 0) ao) ao))
   (ak (aR (aG aW (aF bU (pvc 0) ao) ao (aJ _))
    (aq (aA (fc dm T.zm Bt.tuple (aa (dg rfl ["_law_k","_law_letters","_law_first"] [none,some 2,some 3] (gU T.zr (aa (pvc 1) aj)) (by kernel_rfl) (fun _ _ _ _ _ _=>(pgl 0 (ndS (l:=["_law_k","_law_letters","_law_first"])))) (fun _ _ _ _ _ _=>dG) (fun _ _ _ _ _ _=>(pix mV (pvc 1) (aF bU (aF cW (pvc 2) (aF fZ ao (pvl 0))) ao)))) aj))))
    aN)
   (ak (aR (aG aW (aF bU (pvc 0) ao) ao (aJ _))
    (aq (aA (fc dm T.zm Bt.tuple (aa (dg rfl ["_law_k","_law_letters","_law_first","_law_many"] [none,some 2,some 3,some 1] (gU T.zr (aa (pvc 1) aj)) (by kernel_rfl) (fun _ _ _ _ _ _=>(pgl 0 (ndS (l:=["_law_k","_law_letters","_law_first","_law_many"])))) (fun _ _ _ _ _ _=>dG) (fun _ _ _ _ _ _=>(aF yp (pix mV (pvc 1) (pvc 2)) (aF cP (pvc 3) (pvl 0))))) aj))))
    aN)
   (ak (psl 4 nd (aF cW ao (aF bU (aF fM (pvc 0) ao) ao)))
   (ak (psc 5 nd (aF bU (aF fM (pvc 0) ao) (aF cW (pvl 4) ao)))
   (ak (psc 6 nd (cu PySem.F.plainAttrs_str PySem.F.slot_str_join PySem.F.type_str_join wV az (aa (dg rfl ["_law_k","_law_letters","_law_cell"] [none,some 2,some 0] (gU T.zr (aa (pvl 4) aj)) (by kernel_rfl) (fun _ _ _ _ _ _=>(pgl 0 (ndS (l:=["_law_k","_law_letters","_law_cell"])))) (fun _ _ _ _ _ _=>dG) (fun _ _ _ _ _ _=>(pix mV (pvc 1) (aF bU (aF cW (aF fM (pvc 2) ao) (aF fZ ao (pvl 0))) ao)))) aj)))
   (aq (aA (fc dm T.zm Bt.tuple (aa (dg rfl ["_law_k","_law_stem","_law_letters","_law_place","_law_first"] [none,some 6,some 2,some 5,some 3] (gU T.zr (aa (pvc 1) aj)) (by kernel_rfl) (fun _ _ _ _ _ _=>(pgl 0 (ndS (l:=["_law_k","_law_stem","_law_letters","_law_place","_law_first"])))) (fun _ _ _ _ _ _=>dG) (fun _ _ _ _ _ _=>(aF bA (aF bA (gC uL (pvc 1) jo (gO (pvc 3))) (pix mV (pvc 2) (aF bU (aF cW (pvc 4) (aF fZ ao (pvl 0))) ao))) (gC uL (pvc 1) (gO (pvc 3)) jo)))) aj)))))))))))),?_⟩
 have lts:letters.length<=sizeLine:=by rw[wk];decide
 refine⟨_,rfl,_,_,rfl,rfl,(by show(0:Int)<16;decide),rfl,_,rfl,aU (fun _=>?b0) (fun _=>?b1)⟩
 case b0 =>
  refine⟨lk (by first|exact qnb rfl|simp),fun q0 hq0=>?_⟩;have s0:=aD (o:=.lst (verbsL.map V.str)) hq0;refine⟨_,rfl,_,rfl,q0,verbsL.map V.str,rfl,SqL.of au,fun p3 hp3=>?_⟩
  have ec:gD (verbsL.map V.str) none (some n)=(verbsL.take n.toNat).map V.str:=by
   rw[List.map_take];unfold gD HT.sIx;simp only[List.drop_zero,qlm];rw[qnZ (by omega),Nat.sub_zero,Nat.min_eq_left (by show n.toNat<=8;omega)]
  rw[ec];have s1:=aD (o:=.lst ((verbsL.take n.toNat).map V.str)) hp3;refine⟨p3,_,rfl,.inl ⟨SqL.of au,fun l hl=>?_⟩⟩;exact k l _ _ ((s0.trans s1).trans (aD hl)) au (by rw[List.length_take];show min n.toNat 8=_;omega) (wz _)
 case b1 =>
 refine⟨_,rfl,_,_,rfl,rfl,⟨by decide,by decide⟩,_,_,rfl,rfl,(by show(0:Int)<26;decide),?_⟩
 try dsimp -proj -iota only
 obtain⟨first,hfi,hf0,hf1⟩:∃ first:Int,c / 5 % 26=first/\0<=first/\first<26:=⟨_,rfl,by omega,by omega⟩
 rw[hfi];have hn:n.toNat<=8:=by omega
 have fin:∀(f:Nat->Str)(p3:Addr)(H2 H3:Hp),Same H H2->H2 p3=none->H3=upd H2 p3 (.lst (((List.range n.toNat).map f).map V.str))->Names ((List.range n.toNat).map f)->∀ l,H3 l=none->Q (.ref l) (upd H3 l (.tup (((List.range n.toNat).map f).map V.str))):=by
  rintro f p3 H2 H3 s2 hp3 rfl hN l hl;exact k l _ _ ((s2.trans (aD hp3)).trans (aD hl)) au (by simp) hN
 refine⟨_,rfl,_,_,rfl,rfl,(by show(0:Int)<5;decide),rfl,_,rfl,aU (fun _=>?a0) (fun _=>⟨_,rfl,_,_,rfl,rfl,(by show(0:Int)<5;decide),rfl,_,rfl,aU (fun _=>?a1) (fun _=>?a2)⟩)⟩
 case a0 =>
  refine⟨_,rfl,n,rfl,by omega,by omega,?_⟩;refine eZ (n:=n.toNat) (fun i=>.str ⟨#[sgC first i]⟩) (lk (by omega)) (fun i R hi r=>?_) (fun p3 hp3=>?_)
  . refine⟨⟨rfl,rfl,trivial⟩,?_⟩
    refine⟨_,rfl,_,rfl,_,rfl,_,_,rfl,rfl,.inl ⟨by decide,by decide⟩,_,_,rfl,rfl,_,_,rfl,rfl,(by show(0:Int)<26;decide),_,_,_,rfl,rfl,lts,jj (by omega) (by omega),?_⟩;have e:sgC first i=97+((first+5 * (0+(i:Int))) % 26).toNat:=by unfold sgC;rw[Int.zero_add]
    rw[<- e];exact r
  . have e:((List.range n.toNat).map fun i=>V.str ⟨#[sgC first i]⟩)=((List.range n.toNat).map fun i=>(⟨#[sgC first i]⟩:Str)).map V.str:=by rw[List.map_map];rfl
    rw[e]
    exact⟨p3,_,rfl,.inl ⟨SqL.of au,fun l hl=>fin _ p3 _ _ (Same.refl H) hp3 rfl (nH _ (fun i j hi hj h=>xn (first:=first) (by omega) (by omega) (by have:=congrArg (fun z:Str=>z.cps.toList) h;exact(List.cons.inj this).1)) (fun i _=>⟨by show 1<=1;decide,by show 1<=8;decide,fun x hx=>by
     have hx:x∈[sgC first i]:=hx
     rw[List.mem_singleton.mp hx];exact Cp first i⟩)) l hl⟩⟩
 case a1 =>
  obtain⟨fill,hfe,hff⟩:∃ fill:Nat,97+first.toNat=fill/\97<=fill/\fill<=122:=⟨_,rfl,by omega,by omega⟩
  refine⟨_,rfl,n,rfl,by omega,by omega,?_⟩;refine eZ (n:=n.toNat) (fun(i:Nat)=>.str (pN fill (n - i).toNat)) (lk (by omega)) (fun i R hi r=>?_) (fun p3 hp3=>?_)
  . refine⟨⟨rfl,rfl,rfl,trivial⟩,?_⟩
    refine⟨_,rfl,_,rfl,_,_,_,rfl,rfl,lts,jj hf0 hf1,_,rfl,_,rfl,_,_,rfl,rfl,_,_,rfl,rfl,(by rw[rD];decide),?_,?_,?_⟩
    . show(-1000:Int)<=n - (0+(i:Int))
      omega
    . show n - (0+(i:Int))<=(1000:Int)
      omega
    . have e:Txt.mul ⟨#[97+first.toNat]⟩ (n - (0+(i:Int)))=pN fill (n - i).toNat:=by
       rw[Ju,Int.zero_add,hfe]
      rw[<- e]at r;exact r
  . have e:((List.range n.toNat).map fun(i:Nat)=>V.str (pN fill (n - i).toNat))=((List.range n.toNat).map fun(i:Nat)=>pN fill (n - i).toNat).map V.str:=by rw[List.map_map];rfl
    rw[e]
    exact⟨p3,_,rfl,.inl ⟨SqL.of au,fun l hl=>fin _ p3 _ _ (Same.refl H) hp3 rfl (nH _ (fun i j hi hj h=>by
     have h:=congrArg (fun z:Str=>z.cps.toList.length) h;simp only[nG,List.length_replicate]at h
     omega) (fun i hi=>⟨by rw[nG,List.length_replicate];omega,by rw[nG,List.length_replicate];omega,fun x hx=>by
     rw[nG]at hx
     rw[(List.mem_replicate.mp hx).2];exact hff⟩)) l hl⟩⟩
 case a2 =>
  refine⟨_,rfl,_,_,rfl,rfl,⟨by decide,by decide⟩,_,_,rfl,rfl,(by show(0:Int)<7;decide),_,_,rfl,rfl,?_⟩
  try dsimp -proj -iota only
  obtain⟨size,hse,hs1,hs7⟩:∃ size:Int,1+c / 130 % 7=size/\1<=size/\size<=7:=⟨_,rfl,by omega,by omega⟩
  rw[hse];refine⟨_,rfl,_,_,rfl,rfl,⟨by decide,by decide⟩,_,rfl,_,_,rfl,rfl,_,_,rfl,rfl,(by show(0:Int)<size+1;omega),?_⟩
  try dsimp -proj -iota only
  have hp0:=qen (c / 910) (show size+1≠0 by omega);have hp1:=qel (c / 910) (show 0<size+1 by omega);generalize c / 910 % (size+1)=place at hp0 hp1 ⊢;refine⟨rfl,_,rfl,size,rfl,by omega,by omega,?_⟩;refine eZ (n:=size.toNat) (fun(i:Nat)=>.str ⟨#[97+((c / 6370+3 * (i:Int)) % 26).toNat]⟩) (lk (by omega)) (fun i R hi r=>?_) (fun p1 hp1'=>?_)
  . refine⟨⟨rfl,rfl,trivial⟩,?_⟩
    refine⟨_,rfl,_,rfl,_,_,rfl,rfl,⟨by decide,by decide⟩,_,rfl,_,_,rfl,rfl,.inl ⟨by decide,by decide⟩,_,_,rfl,rfl,_,_,rfl,rfl,(by show(0:Int)<26;decide),_,_,_,rfl,rfl,lts,jj (by omega) (by omega),?_⟩;have e:97+((c / 6370+3 * (0+(i:Int))) % 26).toNat=97+((c / 6370+3 * (i:Int)) % 26).toNat:=by rw[Int.zero_add]
    rw[e];exact r
  have hsum:(((List.range size.toNat).map fun(i:Nat)=>(⟨#[97+((c / 6370+3 * (i:Int)) % 26).toNat]⟩:Str)).map (·.length)).sum+((List.range size.toNat).map fun(i:Nat)=>(⟨#[97+((c / 6370+3 * (i:Int)) % 26).toNat]⟩:Str)).length * ("":Str).length <= 16777216:=by
   rw[Jv (fun(i:Nat)=>97+((c / 6370+3 * (i:Int)) % 26).toNat) size.toNat]
   try simp only[qlm,List.length_range]
   have e:("":Str).length=0:=by decide +kernel
   rw[e];omega
  refine⟨_,p1,(List.range size.toNat).map fun(i:Nat)=>⟨#[97+((c / 6370+3 * (i:Int)) % 26).toNat]⟩,rfl,rfl,SqL.of (by rw[au,List.map_map];rfl),hsum,?_⟩
  have hstem:(Txt.join ("":Str) ((List.range size.toNat).map fun(i:Nat)=>(⟨#[97+((c / 6370+3 * (i:Int)) % 26).toNat]⟩:Str))).cps.toList=(List.range size.toNat).map fun(i:Nat)=>97+((c / 6370+3 * (i:Int)) % 26).toNat:=by
   rw[Cm,Kv,List.flatMap_map];exact vf (fun(i:Nat)=>97+((c / 6370+3 * (i:Int)) % 26).toNat) _
  generalize Txt.join ("":Str) ((List.range size.toNat).map fun(i:Nat)=>(⟨#[97+((c / 6370+3 * (i:Int)) % 26).toNat]⟩:Str))=stem at hstem ⊢;have hsl:stem.cps.toList.length=size.toNat:=by rw[hstem,qlm,List.length_range]
  have hso:∀ x∈stem.cps.toList,97<=x/\x<=122:=fun x hx=>by
   rw[hstem]at hx;obtain⟨i,_,rfl⟩:=List.mem_map.mp hx;omega
  have hln:stem.length<=sizeLine:=lk (by rw[lU,hsl];omega);have s1:=aD (o:=.lst ((List.range size.toNat).map fun(i:Nat)=>V.str ⟨#[97+((c / 6370+3 * (i:Int)) % 26).toNat]⟩)) hp1';generalize upd H p1 (.lst ((List.range size.toNat).map fun(i:Nat)=>V.str ⟨#[97+((c / 6370+3 * (i:Int)) % 26).toNat]⟩))=H1 at s1 ⊢
  have cl:∀ lo hi,(dq stem lo hi).length <= 8:=fun lo hi=>by
   rw[lU,eG,List.length_take,List.length_drop,hsl];omega
  refine⟨_,rfl,n,rfl,by omega,by omega,?_⟩;refine eZ (n:=n.toNat) (fun i=>.str (nmE stem place first i)) (lk (by omega)) (fun i R hi r=>?_) (fun p3 hp3=>?_)
  . refine⟨⟨rfl,rfl,rfl,rfl,trivial⟩,?_⟩
    refine⟨_,rfl,_,rfl,_,rfl,stem,rfl,hln,_,rfl,_,rfl,_,rfl,_,_,rfl,rfl,.inl ⟨by decide,by decide⟩,_,_,rfl,rfl,_,_,rfl,rfl,(by show(0:Int)<26;decide),_,_,_,rfl,rfl,lts,jj (by omega) (by omega),_,_,rfl,rfl,lk (by rw[rD];have:=cl none (some place);omega),_,rfl,_,rfl,_,rfl,stem,rfl,hln,_,_,rfl,rfl,lk (by rw[Str.length_append,rD];have:=cl none (some place);have:=cl (some place) none;omega),?_⟩
    have e:dq stem none (some place)++(⟨#[97+((first+5 * (0+(i:Int))) % 26).toNat]⟩:Str)++dq stem (some place) none=nmE stem place first i:=by
     unfold nmE sgC;rw[Int.zero_add]
    rw[<- e]at r;exact r
  . have e:((List.range n.toNat).map fun i=>V.str (nmE stem place first i))=((List.range n.toNat).map (nmE stem place first)).map V.str:=by rw[List.map_map];rfl
    rw[e]
    exact⟨p3,_,rfl,.inl ⟨SqL.of au,fun l hl=>fin _ p3 _ _ s1 hp3 rfl (nH _ (fun i j hi hj h=>by
     have h:=congrArg (fun z:Str=>z.cps.toList) h;simp only[ug hp0]at h;rw[List.append_assoc,List.append_assoc]at h;have h:=List.append_cancel_left h;simp only[List.singleton_append,List.cons.injEq]at h
     exact xn (by omega) (by omega) h.1) (fun i _=>⟨by
     rw[ug hp0];simp only[List.length_append,List.length_take,List.length_drop,List.length_singleton];omega,by
     rw[ug hp0];simp only[List.length_append,List.length_take,List.length_drop,List.length_singleton];omega,fun x hx=>by
     rw[ug hp0]at hx;rcases List.mem_append.mp hx with hx|hx
     . rcases List.mem_append.mp hx with hx|hx
       . exact hso x (List.mem_of_mem_take hx)
       . rw[List.mem_singleton.mp hx];exact Cp first i
     . exact hso x (List.mem_of_mem_drop hx)⟩)) l hl⟩⟩
theorem Nq(b:Bool):∃ n:Int,atI [V.int 8,V.int 4] (if b=true then 1 else 0)=some (.int n)/\0<n/\n<=8:=by
 cases b with
 |false=>exact⟨8,rfl,by decide,by decide⟩
 |true=>exact⟨4,rfl,by decide,by decide⟩
inductive spToldN(K:W.Frag)(vs:List V)(H:Hp)(Q:VK)(E:XK):Prop
 |mk (a:Addr) (cs:List Int) (_:vs=[.ref a]) (_:SqL K H a (cs.map V.int)) (_:∀(np:Addr)(ns:List Str)(H':Hp),Same H H'->H' np=some (.tup (ns.map V.str))->1<=ns.length->ns.length<=8->Names ns->Q (.ref np) H')
theorem scToldN:FnScope ["_law_script","_law_first"] ["_law_script"] (aB Fw):=mkS
theorem Ge(T:Txt P w K mg t):FO P w K mg base 2 t.a111 t.d111 ["_law_script"] (spToldN K):=by
 have G91:=Jl (base:=base) T;have G94:=Cq (base:=base) T;refine T.q111.F.ok2 scToldN (fun cdv A outer s H vs Q E hr h=>?_);obtain⟨a,cs,rfl,hS,k⟩:=h;have nd:=scToldN.nd
 refine⟨_,(ak (psl 1 nd (aO G91 (hr.mo) T.q91.m T.q91.k T.q91.b aK (aa (pvl 0) (aa ao aj))))
   (aq (aA (aO G94 (hr.mo) T.q94.m T.q94.k T.q94.b aK (aa (pvl 1) (aa (aF cW ao (aF bU (aF fM (pvl 1) ao) (pix bN (bC (aa ao (aa ao aj))) (fc rO T.zD Bt.int (aa (dY nZ (bf aZ T.ze Bt.len (aa (pvl 0) aj)) ao (aJ _)) aj))))) aj)))))),?_⟩
 refine⟨_,rfl,a,cs,0,rfl,hS,by decide,?_⟩
 try dsimp -proj -iota only
 generalize cs.getD (0:Int).toNat 0=first
 obtain⟨n8,hat,hn0,hn8⟩:=Nq (decide ((20:Int)<((cs.map V.int).length:Nat)));have hm0:=qen (first / 3) (show n8≠0 by omega);have hm1:=qel (first / 3) hn0;refine⟨_,rfl,_,rfl,_,_,rfl,rfl,⟨by decide,by decide⟩,lk (by first|exact qnb rfl|simp),fun q0 hq0=>?_⟩;have s0:=aD (o:=.lst [.int 8,.int 4]) hq0;refine⟨_,rfl,a,_,rfl,.inl (s0.seq hS),_,_,rfl,rfl,.inr ⟨_,rfl,q0,_,_,.int n8,rfl,rfl,SqL.of au,hat,_,_,rfl,rfl,hn0,_,_,rfl,rfl,first,1+first / 3 % n8,rfl,by omega,by omega,fun np ns H1 s1 hnp hnl hN=>?_⟩⟩;exact k np ns H1 (s0.trans s1) hnp (by omega) (by omega) hN
inductive spIsMindN(vs:List V)(H:Hp)(Q:VK)(E:XK):Prop
 |mk (a np p r:Addr) (ns:List Str) (rs:List Int) (_:vs=[.ref a,.ref p]) (_:MindAt H a np r rs) (_:H np=some (.tup (ns.map V.str))) (_:H p=some (.tup (ns.map V.str))) (_:ns.length<=8) (_:Mind ns rs) (_:Q (.bl true) H)
theorem scIsMindN:FnScope ["_law_found","_law_names","_law_rank"] ["_law_found","_law_names"] (aB S98):=mkS
theorem yG(T:Txt P w K mg t):FO P w K mg base 2 t.a98 t.d98 ["_law_found","_law_names"] spIsMindN:=by
 have G92:=Ga (base:=base) T;refine T.q98.F.ok2 scIsMindN (fun cdv A outer s H vs Q E hr h=>?_);obtain⟨a,np,p,r,ns,rs,rfl,⟨ha,hr',h256⟩,hnp,hp,h8,hM,k⟩:=h;have nd:=scIsMindN.nd;have hu:=gj hr
 refine ⟨_,(ak (aR (PW.pt (dB (cV (b7 (bf fG T.zo Bt.isinstance (aa (pvl 0) (aa (jh (v:=.ty "tuple") T.zm Bt.tuple rfl) aj))))) (dB (aG gh (bf aZ T.ze Bt.len (aa (pvl 0) aj)) ao (aJ _)) (dB (cV (b7 (bf fG T.zo Bt.isinstance (aa (pix aM (pvl 0) ao) (aa (jh (v:=.ty "tuple") T.zm Bt.tuple rfl) aj))))) (dZ (aG (Jc (Nat.lt_of_succ_lt hu)) (pix aM (pvl 0) ao) (pvl 1) (aJ _)))))))
    (aq (aA dR))
    aN)
   (ak (aR (PW.pt (dB (cV (b7 (bf fG T.zo Bt.isinstance (aa (pix aM (pvl 0) ao) (aa (jh (v:=.ty "tuple") T.zm Bt.tuple rfl) aj))))) (dZ (aG gh (bf aZ T.ze Bt.len (aa (pix aM (pvl 0) ao) aj)) (aF gb ao (bf aZ T.ze Bt.len (aa (pvl 1) aj))) (aJ _)))))
    (aq (aA dR))
    aN)
   (ak (fL own1 rfl (J3 (pix aM (pvl 0) ao)) (pgl 2 nd)
    (aq (aR (PW.pt (dB (cV (b7 (aO G92 (hr.mo) T.q92.m T.q92.k T.q92.b aK (aa (pvl 2) aj)))) (dZ (aG nW (pvl 2) ao (aJ _)))))
     (aq (aA dR))
     aN)))
   (aq (aA (dY aW (bf (BJ rfl) T.zF Bt.min (aa (pix aM (pvl 0) ao) aj)) ao (aJ _))))))),?_⟩
 have el:(ns.map V.str).length=ns.length:=qlm _;have c1:mR 1 (((ns.map V.str).length:Nat):Int):=⟨by omega,by rw[el];omega,by decide⟩
 have e1:(1:Int) * 2 ^ (((ns.map V.str).length:Nat):Int).toNat=((rs.length:Nat):Int):=by rw[el,pw1,hM.len]
 refine⟨_,rfl,_,_,_,_,true,rfl,rfl,.tup ha,rfl,_,rfl,bj ?_⟩;refine⟨_,rfl,a,_,rfl,.inr (SqT.of ha),rfl,_,rfl,aU (fun c=>absurd c (by rw[qdt (show V.int (([V.ref np,V.ref r].length:Nat):Int)=V.int 2 from rfl)];decide)) (fun _=>?_)⟩;refine⟨_,rfl,a,_,0,_,rfl,rfl,SqT.of ha,rfl,_,_,_,_,true,rfl,rfl,.tup hnp,rfl,_,rfl,bj ?_⟩;refine⟨_,rfl,a,_,0,_,rfl,rfl,SqT.of ha,rfl,_,rfl,np,p,ns,ns,rfl,rfl,SqT.of hnp,SqT.of hp,_,rfl,?_⟩;rw[qdt (rfl:ns=ns)];refine bj ?_;refine⟨_,rfl,a,_,1,_,rfl,rfl,SqT.of ha,rfl,_,_,_,_,true,rfl,rfl,.tup hr',rfl,_,rfl,bj ?_⟩;refine⟨_,rfl,a,_,1,_,rfl,rfl,SqT.of ha,rfl,r,_,rfl,.inr (SqT.of hr'),_,rfl,p,_,rfl,.inr (SqT.of hp),_,_,rfl,rfl,c1,?_⟩
 try dsimp -proj -iota only
 rw[e1,qlm];refine⟨rfl,_,rfl,aU (fun c=>absurd c (by rw[qdt rfl];decide)) (fun _=>?_)⟩;refine⟨_,rfl,a,_,1,_,rfl,rfl,SqT.of ha,rfl,r,rfl,⟨_,SqT.of hr'⟩,Ie (K:=K) (a:=r) (xs:=rs.map V.int) (fun i σ H2=>∃(o:Option V),σ=[some (.ref a),some (.ref p),o]/\H2=H) ⟨none,rfl,rfl⟩ (fun i σ H2 _ ⟨_,_,e⟩=>by subst e;exact SqT.of hr') ?_ ?_⟩
 . rintro i y σ H2 hi ⟨o,rfl,rfl⟩
   rw[qgm]at hi
   obtain⟨x,hx,rfl⟩:∃ x,rs[i]? = some x/\y=V.int x:=by
    cases e:rs[i]? with
    |none=>rw[e]at hi;cases hi
    |some x=>rw[e]at hi;exact⟨x,rfl,(qsi hi).symm⟩
   have h0:=hM.ge x (qmg hx);refine⟨_,rfl,x,rfl,_,rfl,bj ?_⟩;exact⟨_,rfl,_,_,rfl,rfl,_,rfl,aU (fun c=>absurd (qod c) (by omega)) (fun _=>⟨_,rfl,rfl⟩)⟩
 . rintro σ H2 ⟨o,rfl,rfl⟩
   refine⟨_,rfl,a,_,1,_,rfl,rfl,SqT.of ha,rfl,r,rs,rfl,SqT.of hr',List.length_pos_of_mem hM.zero,fun M h1 h2=>⟨rfl,?_⟩⟩;have e:M=0:=Int.le_antisymm (h2 0 hM.zero) (hM.ge M h1);subst e;exact k
def Bnd(B:Int)(rs:List Int):Prop:=∀ z∈rs,z<=B
theorem xq{l D:Int}(h0:0<=D)(h:l<=D):cj l<=D:=by
 unfold cj
 split
 . exact h0
 . exact h
theorem Cr{rs:List Int}{z:Int}(h:z∈rs):∃ i,i<rs.length/\rs.getD i 0=z:=by
 obtain⟨i,hi,e⟩:=List.getElem_of_mem h;exact⟨i,hi,by rw[List.getD,List.getElem?_eq_getElem hi];exact e⟩
theorem KN{rs:List Int}{i:Nat}(h:i<rs.length):rs.getD i 0∈rs:=by
 rw[List.getD,List.getElem?_eq_getElem h];exact List.getElem_mem h
theorem pO{rs:List Int}{bk:Nat}{x y lean B D:Int}(hx:0<=x)(hy:0<=y)(h0:0<=D)(h1:lean<=D)(h2 : -lean<=D)(hb:Bnd B rs):Bnd (B+D) (cJ rs bk x y lean):=fun z hz=>by
 obtain⟨i,hi,rfl⟩:=Cr hz;rw[gY]at hi;rw[gG hi];have a1:=hb _ (KN hi);have p1:=xq h0 h1;have p2:=xq h0 h2
 split <;> omega
theorem eO{ns:List Str}{rs:List Int}(h:Mind ns rs){sd:Nat}{x:Int}(hx:aV (sel rs sd)=some x):0<=x:=h.ge x (lw (cz hx).1)
theorem Bnd.more{B B':Int}{rs:List Int}(h:Bnd B rs)(hb:B<=B'):Bnd B' rs:=fun z hz=>Int.le_trans (h z hz) hb
theorem Gf{ns:List Str}{tr:Tr}{rs:List Int}{B D:Int}(hM:Mind ns rs)(h0:0<=D)(hb:Bnd B rs):Bnd (B+D) (fU ns tr rs):=by
 unfold fU
 split
 . rename_i x y hx hy
   split
   . exact pO (eO hM hx) (eO hM hy) h0 h0 (by omega) hb
   . exact hb.more (by omega)
 . exact hb.more (by omega)
theorem Gg{ns:List Str}{tr:Tr}{rs:List Int}{firm B D:Int}(hM:Mind ns rs)(h0:0<=D)(h1:firm<=D)(h2 : -firm<=D)(hb:Bnd B rs):Bnd (B+D) (fV ns tr rs firm):=by
 unfold fV
 split
 . rename_i x y hx hy
   exact pO (eO hM hx) (eO hM hy) h0 h1 h2 hb
 . exact hb.more (by omega)
theorem Mm{G:L2.St->Hp->Prop}{B:Prop}(S:L2.St->Hp->Prop)(h:(∀ σ H',S σ H'->G σ H')->B)(g:∀ σ H',S σ H'->G σ H'):B:=h g
theorem yH{S L B:Prop}(hh:(S->L)->B)(gg:S->L):B:=hh gg
def bY(x:Str):Prop:=x="&"\/x="|"\/x=">"\/x="="
def dF(x:Str):Int:=if x="&" then 4 else if x="|" then 3 else if x=">" then 2 else 1
def fj(e l:Str):Bool:=if e="(" then false else if e="~" then true else if e=l then !decide (l=">")else decide (dF l<dF e)
abbrev bdL:List (Key×V):=[(.inr "&",.int 4),(.inr "|",.int 3),(.inr ">",.int 2),(.inr "=",.int 1)]
abbrev kdL:List (Key×V):=[(.inr "&",.str "and"),(.inr "|",.str "or"),(.inr ">",.str "then"),(.inr "=",.str "same")]
theorem yI{x:Str}(h:bY x):bR bdL (.inr x)=some (.int (dF x)):=by
 rcases h with rfl|rfl|rfl|rfl <;> decide +kernel
theorem Mr{x:Str}(h:¬ bY x):bR bdL (.inr x)=none:=by
 have h1:¬ x="&":=fun z=>h (.inl z)
 have h2:¬ x="|":=fun z=>h (.inr (.inl z))
 have h3:¬ x=">":=fun z=>h (.inr (.inr (.inl z)))
 have h4:¬ x="=":=fun z=>h (.inr (.inr (.inr z)))
 simp[bR,List.find?,Ne.symm h1,Ne.symm h2,Ne.symm h3,Ne.symm h4,fun z=>h1 (Eq.symm z),fun z=>h2 (Eq.symm z),fun z=>h3 (Eq.symm z),fun z=>h4 (Eq.symm z)]
inductive spTakes(vs:List V)(H:Hp)(Q:VK)(E:XK):Prop
 |mk (e l) (_:vs=[.str e,.str l]) (_:(e="("\/e="~"\/bY e)) (_:bY l) (_:Q (.bl (fj e l)) H)
theorem scTakes:FnScope ["earlier","later"] ["earlier","later"] (aB S47):=mkS
theorem Gh(T:Txt P w K mg t):FO P w K mg base 1 t.a47 t.d47 ["earlier","later"] spTakes:=by
 refine T.q47.F.ok2 scTakes (fun cdv A outer s H vs Q E hr h=>?_);obtain⟨e,l,rfl,he,hl,k⟩:=h;have nd:=scTakes.nd;have hu:=gj hr
 refine⟨_,(ak (aR (aG aW (pvl 0) az (aJ _))
    (aq (aA dR))
    aN)
   (ak (aR (aG aW (pvl 0) az (aJ _))
    (aq (aA dR))
    aN)
   (ak (aR (aG aW (pvl 0) (pvl 1) (aJ _))
    (aq (aA (dY gh (pvl 1) az (aJ _))))
    aN)
   (aq (aA (dY nZ (iG T.zp hu (eU (v:=.ref t.zp) T.zI rfl) (pvl 0) (fun _ _=>rfl)) (iG T.zp hu (eU (v:=.ref t.zp) T.zI rfl) (pvl 1) (fun _ _=>rfl)) (aJ _))))))),?_⟩
 unfold fj at k;refine⟨_,rfl,rfl,_,rfl,?_⟩;refine aU (fun e1=>?_) (fun e1=>?_)
 . have e1:e="(":=V.str.inj (qod e1)
   rw[qp e1]at k;exact k
 have e1:¬ e="(":=fun z=>e1 (qdt (congrArg V.str z))
 rw[qnZ e1]at k;refine⟨_,rfl,rfl,_,rfl,?_⟩;refine aU (fun e2=>?_) (fun e2=>?_)
 . have e2:e="~":=V.str.inj (qod e2)
   rw[qp e2]at k;exact k
 have e2:¬ e="~":=fun z=>e2 (qdt (congrArg V.str z))
 rw[qnZ e2]at k;have he:bY e:=by rcases he with z|z|z;exact absurd z e1;exact absurd z e2;exact z
 refine⟨_,rfl,_,rfl,rfl,_,rfl,?_⟩;refine aU (fun e3=>?_) (fun e3=>?_)
 . have e3:e=l:=V.str.inj (qod e3)
   rw[qp e3]at k;refine⟨_,rfl,rfl,?_⟩
   have q:(!decide (V.str l=V.str (Str.ofString ">"))) = !decide (l=">"):=by
    by_cases z:l=">"
    . simp[z]
    . simp[z]
   rw[q];exact k
 have e3:¬ e=l:=fun z=>e3 (qdt (congrArg V.str z))
 rw[qnZ e3]at k;refine⟨_,rfl,.inr e,_,rfl,rfl,yI he,_,rfl,.inr l,_,rfl,rfl,yI hl,_,_,rfl,rfl,?_⟩;exact k
def cO(c:Nat):Bool:=decide (97<=c) && decide (c<=122)
def isName(x:Str):Bool:=(decide (1<=(x.length:Int)) && decide ((x.length:Int)<=8)) && x.cps.toList.all cO
def Small(x:Str):Prop:=x.length<=1000/\∀ c∈x.cps.toList,c<16 ^ 8
inductive spLetter(vs:List V)(H:Hp)(Q:VK)(E:XK):Prop
 |mk (c) (_:vs=[.str ⟨#[c]⟩]) (_:Q (.bl (cO c)) H)
inductive spIsName(vs:List V)(H:Hp)(Q:VK)(E:XK):Prop
 |mk (x) (_:vs=[.str x]) (_:x.length<=sizeLine) (_:∀ H',(∀ b o,H b=some o->H' b=some o)->Q (.bl (isName x)) H')
theorem qD(a b:Nat):decide (([a]:List Nat) < [b])=decide (a<b):=by
 have e:(([a]:List Nat) < [b])↔a<b:=by simp[List.cons_lt_cons_iff]
 simp[e]
theorem Nr(c:Nat):(!decide ((⟨#[c]⟩:Str).cps.toList<(Str.ofString "a").cps.toList))=decide (97<=c):=by
 show(!decide ([c] < [97]))=_;rw[qD]
 by_cases h:97<=c
 . simp[h]
 . simp[h];omega
theorem Nt(c:Nat):(!decide ((Str.ofString "z").cps.toList<(⟨#[c]⟩:Str).cps.toList))=decide (c<=122):=by
 show(!decide ([122] < [c]))=_;rw[qD]
 by_cases h:c<=122
 . simp[h]
 . simp[h];omega
theorem scLetter:FnScope ["sign"] ["sign"] (aB S0):=mkS
theorem sX(T:Txt P w K mg t):FO P w K mg base 1 t.a0 t.d0 ["sign"] spLetter:=by
 refine T.q0.F.ok2 scLetter (fun cdv A outer s H vs Q E hr h=>?_);obtain⟨c,rfl,k⟩:=h;have nd:=scLetter.nd;refine⟨_,(aq (aA (pq jQ jQ az (pvl 0) az))),?_⟩;refine⟨_,rfl,_,_,rfl,rfl,?_⟩;rw[Nr];refine⟨_,rfl,?_⟩
 by_cases h1:97<=c
 . rw[qp (qdt h1)]
   refine⟨_,_,rfl,rfl,?_⟩;rw[Nt];have e:cO c=decide (c<=122):=by simp[cO,h1]
   rw[<- e];exact k
 . rw[qnZ (by simpa using h1)]
   have e:cO c=false:=by simp[cO,h1]
   rw[e]at k;exact k
theorem scIsName:FnScope ["text"] ["text"] (aB S1):=mkS
theorem nJ(T:Txt P w K mg t):FO P w K mg base 2 t.a1 t.d1 ["text"] spIsName:=by
 refine T.q1.F.ok2 scIsName (fun cdv A outer s H vs Q E hr h=>?_);obtain⟨x,rfl,hx,k⟩:=h;have nd:=scIsName.nd;have G0:=sX (base:=base) T;refine⟨_,(aq (aA (kJ (pq nY nY ao (bf jy T.ze Bt.len (aa (pvl 0) aj)) (eU (v:=.int 8) T.zar ⟨_,rfl⟩)) (jt (bf (mZ rfl) T.zK Bt.all (aa (dg rfl ["sign"] [none] (uR (pvl 0)) (by kernel_rfl) (fun _ _ _ _ _ _=>(pgl 0 (ndS (l:=["sign"])))) (fun _ _ _ _ _ _=>dG) (fun _ _ _ _ _ _=>(aO G0 (hr.mo) T.q0.m T.q0.k T.q0.b aK (aa (pvl 0) aj)))) aj)))))),?_⟩;refine⟨_,rfl,_,rfl,hx,_,_,rfl,rfl,_,rfl,?_⟩;have fin:isName x=false->Q (.bl false) H:=fun e=>by have:=k H (fun _ _ z=>z);rw[e]at this;exact this
 refine aU (fun e1=>?_) (fun e1=>⟨_,rfl,fin (by simp at e1;simp[isName];omega)⟩);have e1:=qod e1;refine⟨_,_,rfl,rfl,_,rfl,?_⟩;refine aU (fun e2=>?_) (fun e2=>fin (by simp at e2;simp[isName];omega));have e2:=qod e2;refine⟨_,rfl,x,rfl,m6 (fun c=>.bl (cO c)) hx (fun c R _ hR=>⟨True.intro,_,rfl,c,rfl,hR⟩) fun p hp=>?_⟩;refine⟨p,x.cps.toList.map cO,rfl,?_,?_⟩
 . refine SqL.of ?_
   rw[au,List.map_map];rfl
 . have:=k (upd H p (.lst (x.cps.toList.map fun c=>V.bl (cO c)))) (fun b o q=>by rw[aC (fun z=>by rw[z,hp]at q;cases q)];exact q)
   have e:isName x=(x.cps.toList.map cO).all id:=by simp[isName,e1,e2]
   rw[e]at this;exact this
inductive spWLeaf(t:Adr)(vs:List V)(H:Hp)(Q:VK)(E:XK):Prop
 |mk (x) (_:vs=[.str x]) (_:Small x) (_:((x="1"/\∀ p,H p=none->Q (.ref p) (upd H p (.tup [.str "yes"])))\/(x="0"/\∀ p,H p=none->Q (.ref p) (upd H p (.tup [.str "no"])))\/(¬ x="1"/\¬ x="0"/\∀ H',(∀ b o,H b=some o->H' b=some o)->if isName x=true then ∀ p,H' p=none->Q (.ref p) (upd H' p (.tup [.str "name",.str x]))else E (.ref t.zj) none H')))
theorem scWLeaf:FnScope ["word"] ["word"] (aB S46):=mkS
theorem Gi(T:Txt P w K mg t):FO P w K mg base 3 t.a46 t.d46 ["word"] (spWLeaf t):=by
 refine T.q46.F.ok2 scWLeaf (fun cdv A outer s H vs Q E hr h=>?_);obtain⟨x,rfl,hx,k⟩:=h;have nd:=scWLeaf.nd;have G1:=nJ (base:=base) T
 refine⟨_,(ak (aR (aG aW (pvl 0) az (aJ _))
    (aq (aA (bh (aa az aj))))
    aN)
   (ak (aR (aG aW (pvl 0) az (aJ _))
    (aq (aA (bh (aa az aj))))
    aN)
   (ak (aR (cV (b7 (aO G1 (hr.mo) T.q1.m T.q1.k T.q1.b aK (aa (pvl 0) aj))))
    (aq (eN fP rfl T.zt T.zx (aa (uU az (qZ (pvl 0))) aj)))
    aN)
   (aq (aA (bh (aa az (aa (pvl 0) aj)))))))),?_⟩
 refine⟨_,rfl,rfl,_,rfl,?_⟩;refine aU (fun e=>?_) (fun e=>?_)
 . have e:x="1":=V.str.inj (qod e)
   rcases k with⟨_,k⟩|⟨e',_⟩|⟨e',_⟩
   . exact⟨(by show 1<=sizeLine;decide),fun p hp=>k p hp⟩
   . rw[e]at e';exact absurd e' (by decide +kernel)
   . exact absurd e e'
 have e1:¬ x="1":=fun z=>e (qdt (congrArg V.str z))
 refine⟨_,rfl,rfl,_,rfl,?_⟩;refine aU (fun e=>?_) (fun e=>?_)
 . have e:x="0":=V.str.inj (qod e)
   rcases k with⟨e',_⟩|⟨_,k⟩|⟨_,e',_⟩
   . exact absurd e' e1
   . exact⟨(by show 1<=sizeLine;decide),fun p hp=>k p hp⟩
   . exact absurd e e'
 have e0:¬ x="0":=fun z=>e (qdt (congrArg V.str z))
 have k:∀ H',(∀ b o,H b=some o->H' b=some o)->if isName x=true then ∀ p,H' p=none->Q (.ref p) (upd H' p (.tup [.str "name",.str x]))else E (.ref t.zj) none H':=by
  rcases k with⟨e',_⟩|⟨e',_⟩|⟨_,_,k⟩
  . exact absurd e' e1
  . exact absurd e' e0
  . exact k
 refine⟨_,rfl,x,rfl,qnt hx.1 (by decide),fun H' s'=>?_⟩;have k':=k H' s';refine⟨_,rfl,?_⟩;cases hn:isName x with
 | true =>
  rw[hn,qp rfl]at k';exact⟨_,rfl,(by show 2<=sizeLine;decide),fun p hp=>k' p hp⟩
 | false =>
  rw[hn,qnZ (by decide)]at k';rw[qp (show(!false)=true from rfl)];refine⟨_,rfl,(by decide +kernel),_,rfl,x,rfl,repr_fits hx.2 hx.1,_,rfl,?_,(by show 1<=sizeLine;decide),k'⟩;have e1:=PySem.StrLaws.reprText_len x hx.2;have e2:=hx.1;rw[strLen_append];have e3:(Str.ofString "no part of a sentence begins with ").length=34:=by decide +kernel
  rw[e3];unfold sizeLine;omega
def di(st:List Str×Str)(c:Nat):List Str×Str :=
 if cO c=true then(st.1,st.2++⟨#[c]⟩)else
  (if c=32 then(if st.2="" then st.1 else st.1++[st.2])else(if st.2="" then st.1 else st.1++[st.2])++[⟨#[c]⟩],"")
def eV(l:List Nat):List Str×Str:=l.foldl di ([],"")
theorem jk(l:List Nat)(c:Nat):eV (l++[c])=di (eV l) c:=by simp[eV]
def jb(x:Str):List Str:=(eV (x.cps.toList++[32])).1
theorem Cu{st:List Str×Str}{c n:Nat}(h1:st.1.length<=2 * n)(h2:st.2.length<=n):(di st c).1.length<=2 * (n+1)/\(di st c).2.length<=n+1:=by
 unfold di;have e0:(Str.ofString "").length=0:=rfl
 split
 . refine⟨by show st.1.length<=_;omega,?_⟩
   show(st.2++⟨#[c]⟩:Str).length <= _;rw[strLen_append];have:(⟨#[c]⟩:Str).length=1:=rfl;omega
 . refine⟨?_,?_⟩
   . show(if c=32 then _ else _:List Str).length <= _
     split <;> split <;> first|omega | (simp only[List.length_append,List.length_cons,List.length_nil];omega)
   . show(Str.ofString "").length <= _
     rw[e0];exact qnz _
theorem jV:∀(k:Nat)(l:List Nat),l.length=k->(eV l).1.length<=2 * l.length/\(eV l).2.length<=l.length
 | 0,l,h=>by
  have:l=[]:=List.length_eq_zero_iff.mp h;subst this;exact⟨qnr _,qnr _⟩
 | k+1,l,h=>by
  have hne:l≠[]:=fun z=>by rw[z]at h;cases h
  obtain⟨l',c,rfl⟩:∃ l' c,l=l'++[c]:=⟨l.dropLast,l.getLast hne,(List.dropLast_concat_getLast hne).symm⟩
  rw[jk];have hk:l'.length=k:=by simpa using h
  obtain⟨h1,h2⟩:=jV k l' hk;have:=Cu (c:=c) h1 h2
  simpa using this
inductive spWords(vs:List V)(H:Hp)(Q:VK)(E:XK):Prop
 |mk (x) (_:vs=[.str x]) (_:x.length<=1000) (_:∀ p,H p=none->Q (.ref p) (upd H p (.lst ((jb x).map V.str))))
theorem scWords:FnScope ["text","words","name","sign"] ["text"] (aB S45):=mkS
theorem Gj(T:Txt P w K mg t):FO P w K mg base 2 t.a45 t.d45 ["text"] spWords:=by
 refine T.q45.F.ok2 scWords (fun cdv A outer s H vs Q E hr h=>?_);obtain⟨x,rfl,hx,k⟩:=h;have nd:=scWords.nd;have G0:=sX (base:=base) T
 refine ⟨_,(ak (psl 1 nd (bC aj))
   (ak (psl 2 nd az)
   (ak (fL own1 rfl (uR (aF bA (pvl 0) az)) (pgl 3 nd)
    (ak (aR (b7 (aO G0 (hr.mo) T.q0.m T.q0.k T.q0.b aK (aa (pvl 3) aj)))
     (ak (pal 2 nd (pvl 3) vX)
     (aq vW))
     aN)
    (ak (aR (aG gh (pvl 2) az (aJ _))
     (ak (bF (cu PySem.F.plainAttrs_list PySem.F.slot_list_append PySem.F.type_list_append cX (pvl 1) (aa (pvl 2) aj)))
     (aq (psl 2 nd az)))
     aN)
    (aq (aR (aG gh (pvl 3) az (aJ _))
     (aq (bF (cu PySem.F.plainAttrs_list PySem.F.slot_list_append PySem.F.type_list_append cX (pvl 1) (aa (pvl 3) aj))))
     aN)))))
   (aq (aA (pvl 1)))))),?_⟩
 have hl:x.length+(Str.ofString " ").length <= sizeLine:=by
  have:(Str.ofString " ").length=1:=rfl;unfold sizeLine;omega
 refine⟨qnz _,fun p hp=>?_⟩
 refine⟨_,rfl,_,_,rfl,rfl,hl,_,rfl,IW (x:=x++Str.ofString " ") (fun i σ H2=>∃ sg,σ=[some (.str x),some (.ref p),some (.str (eV ((x++Str.ofString " ").cps.toList.take i)).2),sg]/\H2=upd H p (.lst ((eV ((x++Str.ofString " ").cps.toList.take i)).1.map V.str)))
  ⟨none,rfl,rfl⟩ ?_ ?_⟩
 . rintro i c σ H2 hi ⟨sg,rfl,rfl⟩
   have hi':(x++Str.ofString " ").cps.toList[i]? = some c:=by simpa using hi
   have e1:eV ((x++Str.ofString " ").cps.toList.take (i+1))=di (eV ((x++Str.ofString " ").cps.toList.take i)) c:=by
    rw[qta,hi'];exact jk _ _
   have hb:=jV _ ((x++Str.ofString " ").cps.toList.take i) rfl
   have hn:((x++Str.ofString " ").cps.toList.take i).length <= 1001:=by
    have q1:(x++Str.ofString " ").length=x.length+1:=strLen_append _ _;have q2:(x++Str.ofString " ").cps.toList.length=(x++Str.ofString " ").length:=by simp[Str.length]
    rw[List.length_take];omega
   rw[e1];generalize eV ((x++Str.ofString " ").cps.toList.take i)=st at hb ⊢;obtain⟨ws,nm⟩:=st;obtain⟨hb1,hb2⟩:=hb;dsimp only at hb1 hb2 ⊢;refine⟨_,rfl,c,rfl,_,rfl,?_⟩;unfold di;cases hL:cO c with
   | true =>
    rw[qp rfl];refine⟨_,rfl,_,rfl,_,_,rfl,rfl,?_,⟨_,rfl,rfl⟩⟩;have:(⟨#[c]⟩:Str).length=1:=rfl;unfold sizeLine;omega
   | false =>
    rw[qnZ (by decide)]
    have hc:(⟨#[c]⟩:Str)=Str.ofString " "↔c=32:=by
     constructor
     . intro z
       have z:=congrArg (fun y:Str=>y.cps.toList) z;have z:[c]=[32]:=z
       simpa using z
     . rintro rfl;rfl
    refine⟨_,rfl,rfl,_,rfl,?_⟩;refine aU (fun e=>?_) (fun e=>?_)
    . have e:¬ nm="":=by
       intro z;subst z;simp at e
      refine⟨_,rfl,.inl ⟨rfl,_,SqL.of au⟩,_,rfl,p,_,_,rfl,rfl,au,(by unfold sizeLine;simp;omega),?_⟩;refine⟨_,rfl,rfl,_,rfl,?_⟩;refine aU (fun e2=>?_) (fun e2=>?_)
      . have e2:¬ c=32:=by
         intro z;have:=hc.mpr z;rw[this]at e2;simp at e2
        refine⟨_,rfl,.inl ⟨rfl,_,SqL.of au⟩,_,rfl,p,_,_,rfl,rfl,au,(by unfold sizeLine;simp;omega),?_⟩;refine⟨_,rfl,?_⟩;rw[nU,nU];simp[e,e2]
      . have e2:c=32:=by
         apply Classical.byContradiction;intro z;exact e2 (by simp[show ¬ (⟨#[c]⟩:Str)=Str.ofString " " from fun y=>z (hc.mp y)])
        refine⟨_,rfl,?_⟩;rw[nU];simp[e,e2]
    . have e:nm="":=by
       apply Classical.byContradiction;intro z;exact e (by simp[z])
      refine⟨_,rfl,rfl,_,rfl,?_⟩;refine aU (fun e2=>?_) (fun e2=>?_)
      . have e2:¬ c=32:=by
         intro z;have:=hc.mpr z;rw[this]at e2;simp at e2
        refine⟨_,rfl,.inl ⟨rfl,_,SqL.of au⟩,_,rfl,p,_,_,rfl,rfl,au,(by unfold sizeLine;simp;omega),?_⟩;refine⟨_,by rw[e];rfl,?_⟩;rw[nU];simp[e,e2]
      . have e2:c=32:=by
         apply Classical.byContradiction;intro z;exact e2 (by simp[show ¬ (⟨#[c]⟩:Str)=Str.ofString " " from fun y=>z (hc.mp y)])
        refine⟨_,by rw[e];rfl,?_⟩;simp[e,e2]
 . rintro σ H2 ⟨sg,rfl,rfl⟩
   have e:(x++Str.ofString " ").cps.toList.take (x++Str.ofString " ").cps.size=x.cps.toList++[32]:=by
    rw[List.take_of_length_le (by simp)];show(x.cps ++ #[32]).toList=_;simp
   rw[e];exact⟨_,rfl,k p hp⟩
theorem Ms:¬ (("trees":Str)="signs"):=by decide +kernel
def fl(tl sl:Addr):List (Str×V):=bc "signs" (.ref sl) (bc "trees" (.ref tl) [])
theorem iK(tl sl:Addr):(fl tl sl).lookup ("trees":Str)=some (.ref tl):=by
 unfold fl;rw[bu,qnZ Ms,bu,qp rfl]
theorem dw(tl sl:Addr):(fl tl sl).lookup ("signs":Str)=some (.ref sl):=by
 unfold fl;rw[bu,qp rfl]
theorem jW (tl sl:Addr) {m:Str} (h1:¬ m="signs") (h2:¬ m="trees"):(fl tl sl).lookup m=none:=by
 unfold fl;rw[bu,qnZ h1,bu,qnZ h2]
 all_goals rfl
structure UAt(C:Addr)(H:Hp)(p dx tl sl:Addr)(ts:List Tr)(ss:List Str):Prop where
 ob:H p=some (.ins C dx (fl tl sl))
 ne:tl≠sl
 tr:∃ us,H tl=some (.lst us)/\Paired (TrAt H) us.reverse ts
 sg:H sl=some (.lst (ss.reverse.map V.str))
def Keep(tl sl:Addr)(H H':Hp):Prop:=∀ b o,H b=some o->b≠tl->b≠sl->H' b=some o
inductive spUInit(C:Addr)(vs:List V)(H:Hp)(Q:VK)(E:XK):Prop
 |mk (p dx) (_:vs=[.ref p]) (_:H p=some (.ins C dx [])) (_:∀ tl sl H',H tl=none->H sl=none->UAt C H' p dx tl sl [] []->(∀ b o,H b=some o->b≠p->H' b=some o)->Q .non H')
def nM(x:Str):Op:=if x="&" then .and else if x="|" then .or else if x=">" then .thn else .same
theorem Mt{x:Str}(h:bY x):bR kdL (.inr x)=some (.str (nM x).str):=by
 rcases h with rfl|rfl|rfl|rfl <;> decide +kernel
def dU(s:Str):List Tr->List Tr
 | r::rest=>if s="~" then .not r::rest else match rest with
  |l::rest'=>.bin (nM s) l r::rest'
  |[]=>[r]
 |[]=>[]
inductive spFold(C:Addr)(vs:List V)(H:Hp)(Q:VK)(E:XK):Prop
 |mk (p dx tl sl ts s ss) (_:vs=[.ref p]) (_:UAt C H p dx tl sl ts (s::ss)) (_:((s="~"/\1<=ts.length)\/(bY s/\2<=ts.length))) (_:ts.length<=5000) (_:∀ H',UAt C H' p dx tl sl (dU s ts) ss->Keep tl sl H H'->Q .non H')
theorem scUInit:FnScope ["self"] ["self"] (aB S48):=mkS
theorem Gk(T:Txt P w K mg t):FO P w K mg base 1 t.a48 t.d48 ["self"] (spUInit t.za):=by
 refine T.q48.F.ok2 scUInit (fun cdv A outer s H vs Q E hr h=>?_);obtain⟨p,dx,rfl,hp,k⟩:=h;have nd:=scUInit.nd
 refine⟨_,(ak (g8 (pvl 0) (bC aj) rfl)
   (aq (g8 (pvl 0) (bC aj) rfl))),?_⟩
 refine⟨qnz _,fun tl htl=>?_⟩;have n1:p≠tl:=aH hp htl;refine⟨_,rfl,p,t.za,dx,_,rfl,by rw[aC n1];exact hp,T.zd,T.zu,(by show 0<1000;decide),?_⟩;refine⟨qnz _,fun sl hsl=>?_⟩;have n2:p≠sl:=aH au hsl
 have n3:tl≠sl:=by
  intro z;subst z;rw[aC (Ne.symm n1),au]at hsl;cases hsl
 refine⟨_,rfl,p,t.za,dx,_,rfl,by rw[aC n2,au],T.zd,T.zl,(by show 1<1000;decide),?_⟩;refine k tl sl _ htl ?_ ⟨au,n3,⟨[],?_,.nil⟩,?_⟩ fun b o e hb=>?_
 . rw[aC (Ne.symm n2),aC (Ne.symm n3)]at hsl;exact hsl
 . rw[aC (Ne.symm n1),aC n3,aC (Ne.symm n1),au]
 . rw[aC (Ne.symm n2),au];rfl
 . have b1:b≠tl:=aH e htl
   have b2:b≠sl:=aH (by rw[aC hb,aC b1];exact e) hsl;rw[aC hb,aC b2,aC hb,aC b1];exact e
theorem scFold:FnScope ["self","sign","right","left"] ["self"] (aB S51):=mkS
theorem xr(T:Txt P w K mg t):FO P w K mg base 1 t.a51 t.d51 ["self"] (spFold t.za):=by
 refine T.q51.F.ok2 scFold (fun cdv A outer s H vs Q E hr h=>?_);obtain⟨p,dx,tl,sl,ts,sg,ss,rfl,U,hs,hl,k⟩:=h;have nd:=scFold.nd;have hu:=gj hr
 refine⟨_,(ak (psl 1 nd (mW PySem.F.plainAttrs_list PySem.F.slot_list_pop PySem.F.type_list_pop mX (bK (pvl 0) rfl)))
   (ak (psl 2 nd (mW PySem.F.plainAttrs_list PySem.F.slot_list_pop PySem.F.type_list_pop mX (bK (pvl 0) rfl)))
   (ak (aR (aG aW (pvl 1) az (aJ _))
    (ak (bF (cu PySem.F.plainAttrs_list PySem.F.slot_list_append PySem.F.type_list_append cX (bK (pvl 0) rfl) (aa (bh (aa az (aa (pvl 2) aj))) aj)))
    (aq Ib))
    aN)
   (ak (psl 3 nd (mW PySem.F.plainAttrs_list PySem.F.slot_list_pop PySem.F.type_list_pop mX (bK (pvl 0) rfl)))
   (aq (bF (cu PySem.F.plainAttrs_list PySem.F.slot_list_append PySem.F.type_list_append cX (bK (pvl 0) rfl) (aa (bh (aa (iG T.zB hu (eU (v:=.ref t.zB) T.zaq rfl) (pvl 1) (fun _ _=>rfl)) (aa (pvl 3) (aa (pvl 2) aj)))) aj)))))))),?_⟩
 obtain⟨ob,ne,⟨us,htl,hpu⟩,hsl⟩:=U;have hsl':H sl=some (.lst (ss.reverse.map V.str++[.str sg])):=by rw[hsl];simp
 have nps:p≠sl:=bz ob hsl (by intro z;cases z);have npt:p≠tl:=bz ob htl (by intro z;cases z)
 obtain⟨r,rest,rfl⟩:∃ r rest,ts=r::rest:=by
  cases ts with
  |nil=>rcases hs with⟨_,z⟩|⟨_,z⟩ <;> simp at z
  |cons r rest=>exact⟨r,rest,rfl⟩
 obtain⟨ur,vr,hus,hr1,hpr⟩:∃ ur vr,us=vr.reverse++[ur]/\TrAt H ur r/\Paired (TrAt H) vr rest:=by
  generalize hq:us.reverse=q at hpu;cases hpu with
  |cons h1 h2=>exact⟨_,_,by rw[<- List.reverse_reverse us,hq];simp,h1,h2⟩
 subst hus;refine⟨_,rfl,p,t.za,dx,_,_,rfl,ob,T.zd,T.zl,dw _ _,.inl ⟨rfl,_,SqL.of hsl⟩,sl,_,.str sg,rfl,rfl,hsl',by simp,?_⟩;rw[List.dropLast_concat];generalize hH1:upd H sl (.lst (ss.reverse.map V.str))=H1;have o1:∀ b,b≠sl->H1 b=H b:=fun b hb=>by rw[<- hH1,aC hb]
 refine⟨_,rfl,p,t.za,dx,_,_,rfl,(o1 p nps).trans ob,T.zd,T.zu,iK _ _,.inl ⟨rfl,_,SqL.of ((o1 tl ne).trans htl)⟩,tl,_,ur,rfl,rfl,(o1 tl ne).trans htl,by simp,?_⟩;rw[List.dropLast_concat];generalize hH2:upd H1 tl (.lst vr.reverse)=H2;have o2:∀ b,b≠sl->b≠tl->H2 b=H b:=fun b hb hb'=>by rw[<- hH2,aC hb',o1 b hb]
 have htl2:H2 tl=some (.lst vr.reverse):=by rw[<- hH2,au]
 have hsl2:H2 sl=some (.lst (ss.reverse.map V.str)):=by rw[<- hH2,aC (Ne.symm ne),<- hH1,au]
 have tup2:Tups H H2:=fun b xs e=>(o2 b (bz e hsl (by intro z;cases z)) (bz e htl (by intro z;cases z))).trans e
 refine⟨_,rfl,rfl,_,rfl,?_⟩;refine aU (fun e=>?_) (fun e=>?_)
 . have e:sg="~":=V.str.inj (qod e)
   refine⟨_,rfl,p,t.za,dx,_,_,rfl,(o2 p nps npt).trans ob,T.zd,T.zu,iK _ _,.inl ⟨rfl,_,SqL.of htl2⟩,_,rfl,(by show 2<=sizeLine;decide),fun q hq=>?_⟩;have n1:tl≠q:=aH htl2 hq;have n2:sl≠q:=aH hsl2 hq;refine⟨tl,_,_,rfl,rfl,by rw[aC n1];exact htl2,?_,?_⟩
   . have:=Paired.length hpr
     simp at hl ⊢;unfold sizeLine;omega
   have up:∀ b o,H2 b=some o->b≠tl->upd (upd H2 q (.tup [.str "not",ur])) tl (.lst (vr.reverse++[.ref q])) b=some o:=fun b o z hb=>by
    rw[aC hb,aC (aH z hq)];exact z
   have tup3:Tups H (upd (upd H2 q (.tup [.str "not",ur])) tl (.lst (vr.reverse++[.ref q]))):=fun b xs z=>up b _ (tup2 b xs z) (bz z htl (by intro z;cases z))
   refine k _ ⟨up p _ ((o2 p nps npt).trans ob) npt,ne,⟨_,au,?_⟩,up sl _ hsl2 (Ne.symm ne)⟩ fun b o z h1 h2=>up b o ((o2 b h2 h1).trans z) h1
   rw[List.reverse_append];simp only[dU,e,if_true,List.reverse_reverse];refine .cons (.not ?_ (hr1.mono tup3)) (cU tup3 hpr);rw[aC (Ne.symm n1),au]
 . have e:¬ sg="~":=fun z=>e (qdt (congrArg V.str z))
   obtain⟨hop,h2⟩:bY sg/\2<=(r::rest).length:=by rcases hs with⟨z,_⟩|z;exact absurd z e;exact z
   obtain⟨l,rest',rfl⟩:∃ l rest',rest=l::rest':=by
    cases rest with
    |nil=>simp at h2
    |cons l rest'=>exact⟨l,rest',rfl⟩
   obtain⟨ul,vr',rfl,hl1,hpr⟩:∃ ul vr',vr=ul::vr'/\TrAt H ul l/\Paired (TrAt H) vr' rest':=by
    cases hpr with
    |cons h1 h2=>exact⟨_,_,rfl,h1,h2⟩
   have htl2':H2 tl=some (.lst (vr'.reverse++[ul])):=by rw[htl2];simp
   refine⟨_,rfl,p,t.za,dx,_,_,rfl,(o2 p nps npt).trans ob,T.zd,T.zu,iK _ _,.inl ⟨rfl,_,SqL.of htl2⟩,tl,_,ul,rfl,rfl,htl2',by simp,?_⟩;rw[List.dropLast_concat];generalize hH3:upd H2 tl (.lst vr'.reverse)=H3;have o3:∀ b,b≠sl->b≠tl->H3 b=H b:=fun b hb hb'=>by rw[<- hH3,aC hb',o2 b hb hb']
   have htl3:H3 tl=some (.lst vr'.reverse):=by rw[<- hH3,au]
   have hsl3:H3 sl=some (.lst (ss.reverse.map V.str)):=by rw[<- hH3,aC (Ne.symm ne),hsl2]
   have tup3:Tups H H3:=fun b xs e=>(o3 b (bz e hsl (by intro z;cases z)) (bz e htl (by intro z;cases z))).trans e
   refine⟨_,rfl,p,t.za,dx,_,_,rfl,(o3 p nps npt).trans ob,T.zd,T.zu,iK _ _,.inl ⟨rfl,_,SqL.of htl3⟩,_,rfl,.inr sg,_,rfl,rfl,Mt hop,_,rfl,_,rfl,(by show 3<=sizeLine;decide),fun q hq=>?_⟩;have n1:tl≠q:=aH htl3 hq;have n2:sl≠q:=aH hsl3 hq;refine⟨tl,_,_,rfl,rfl,by rw[aC n1];exact htl3,?_,?_⟩
   . have:=Paired.length hpr
     simp at hl ⊢;unfold sizeLine;omega
   have up:∀ b o,H3 b=some o->b≠tl->upd (upd H3 q (.tup [.str (nM sg).str,ul,ur])) tl (.lst (vr'.reverse++[.ref q])) b=some o:=fun b o z hb=>by
    rw[aC hb,aC (aH z hq)];exact z
   have tup4:Tups H (upd (upd H3 q (.tup [.str (nM sg).str,ul,ur])) tl (.lst (vr'.reverse++[.ref q]))):=fun b xs z=>up b _ (tup3 b xs z) (bz z htl (by intro z;cases z))
   refine k _ ⟨up p _ ((o3 p nps npt).trans ob) npt,ne,⟨_,au,?_⟩,up sl _ hsl3 (Ne.symm ne)⟩ fun b o z h1 h2=>up b o ((o3 b h2 h1).trans z) h1
   rw[List.reverse_append];simp only[dU,e,if_false,List.reverse_reverse];refine .cons (.bin ?_ (hl1.mono tup4) (hr1.mono tup4)) (cU tup4 hpr);rw[aC (Ne.symm n1),au]
def okS(ss:List Str):Prop:=∀ s∈ss,s="("\/s="~"\/bY s
def nb(ss:List Str):Nat:=ss.countP fun s:Str=>!decide (s="(") && !decide (s="~")
def aY(c:Str->Bool):List Tr->List Str->List Tr×List Str
 |ts,[]=>(ts,[])
 |ts,s::ss=>if c s=true then aY c (dU s ts) ss else(ts,s::ss)
theorem jX{s:Str}(h:bY s):¬ s="("/\¬ s="~":=by
 rcases h with rfl|rfl|rfl|rfl <;> exact⟨by decide +kernel,by decide +kernel⟩
theorem vg(ss:List Str):nb ("~" :: ss)=nb ss:=by
 unfold nb;rw[List.countP_cons];simp
theorem Hz{s:Str}(h:bY s)(ss:List Str):nb (s::ss)=nb ss+1:=by
 unfold nb;rw[List.countP_cons];simp[(jX h).1,(jX h).2]
theorem HD(ss:List Str):nb ("(" :: ss)=nb ss:=by
 unfold nb;rw[List.countP_cons];simp
theorem jl {s:Str} {ss:List Str} {ts:List Tr} (ho:s="~"\/bY s) (h:ts.length=nb (s::ss)+1):((s="~"/\1<=ts.length)\/(bY s/\2<=ts.length))/\(dU s ts).length=nb ss+1:=by
 rcases ho with rfl|ho
 . rw[vg]at h
   refine⟨.inl ⟨rfl,by omega⟩,?_⟩;cases ts with
   |nil=>simp at h
   |cons r rest=>simpa[dU]using h
 . rw[Hz ho]at h
   refine⟨.inr ⟨ho,by omega⟩,?_⟩
   match ts,h with
   |r::l::rest,h=>simpa[dU,(jX ho).2]using h
theorem Keep.trans{tl sl:Addr}{H H1 H2:Hp}(a:Keep tl sl H H1)(b:Keep tl sl H1 H2):Keep tl sl H H2:=fun c o e h1 h2=>b c o (a c o e h1 h2) h1 h2
def bx(s:Str):Bool:=!decide (s="(")
inductive spFtb(C:Addr)(vs:List V)(H:Hp)(Q:VK)(E:XK):Prop
 |mk (p dx tl sl ts ss) (_:vs=[.ref p]) (_:UAt C H p dx tl sl ts ss) (_:okS ss) (_:ts.length=nb ss+1) (_:ts.length<=5000) (_:∀ H',UAt C H' p dx tl sl (aY bx ts ss).1 (aY bx ts ss).2 -> Keep tl sl H H'->Q .non H')
theorem scFtb:FnScope ["self"] ["self"] (aB S52):=mkS
theorem Cv(T:Txt P w K mg t):FO P w K mg base 2 t.a52 t.d52 ["self"] (spFtb t.za):=by
 refine T.q52.F.ok2 scFtb (fun cdv A outer s H vs Q E hr h=>?_);obtain⟨p,dx,tl,sl,ts,ss,rfl,U,hok,hc,hl,k⟩:=h;have nd:=scFtb.nd;have G51:=xr (base:=base) T
 refine⟨_,(aq (ju own1 (PW.pt (fY (gB (bK (pvl 0) rfl) (fun _=>rfl)) (eX (aG gh (pix bN (bK (pvl 0) rfl) (lH jx ao)) az (aJ _)))))
    (aq (bF (dj (pvl 0) T.zd T.q51.e G51 (hr.mo) T.q51.b .nil aK))))),?_⟩
 refine⟨fun m σ H2=>∃ ts' ss',m=ss'.length/\σ=[some (.ref p)]/\UAt t.za H2 p dx tl sl ts' ss'/\Keep tl sl H H2/\okS ss'/\ts'.length=nb ss' + 1/\ts'.length<=5000/\aY bx ts' ss'=aY bx ts ss,
  ⟨_,ts,ss,rfl,rfl,U,fun _ _ z _ _=>z,hok,hc,hl,rfl⟩,?_⟩
 rintro m σ H2 ⟨ts',ss',rfl,rfl,U2,k2,hok2,hc2,hl2,hf⟩;refine⟨_,rfl,p,_,dx,_,_,rfl,U2.ob,T.zd,T.zl,dw _ _,_,.inl ⟨_,SqL.of U2.sg,rfl⟩,?_⟩;cases ss' with
 | nil =>
  refine bj ?_;refine bj ?_;rw[<- hf]at k;exact k H2 U2 k2
 | cons s1 ss1 =>
  have hsg:H2 sl=some (.lst (ss1.reverse.map V.str++[.str s1])):=by rw[U2.sg];simp
  rw[qp (by simp)];refine⟨_,rfl,p,_,dx,_,_,rfl,U2.ob,T.zd,T.zl,dw _ _,_,rfl,sl,_,-1,.str s1,rfl,rfl,SqL.of hsg,pC _ _,rfl,_,rfl,?_⟩;refine aU (fun e=>?_) (fun e=>?_)
  . have e:¬ s1="(":=by intro z;subst z;simp at e
    have ho:s1="~"\/bY s1:=(hok2 s1 (by simp)).resolve_left e;obtain⟨q1,q2⟩:=jl ho hc2;refine⟨fun σ' H'=>σ'=[some (.ref p)]/\UAt t.za H' p dx tl sl (dU s1 ts') ss1/\Keep tl sl H2 H',?_,?_⟩
    . rintro σ' H' ⟨rfl,U3,k3⟩
      refine⟨ss1.length,by simp,dU s1 ts',ss1,rfl,rfl,U3,k2.trans k3,fun s hs=>hok2 s (by simp[hs]),q2,?_,?_⟩
      . have h1:nb ss1<=nb (s1::ss1):=by unfold nb;rw[List.countP_cons];omega
        omega
      . rw[<- hf];simp[aY,bx,e]
    . exact⟨_,rfl,p,dx,_,rfl,U2.ob,jW _ _ (by decide +kernel) (by decide +kernel),p,dx,tl,sl,ts',s1,ss1,rfl,U2,q1,hl2,fun H' U3 k3=>⟨rfl,U3,k3⟩⟩
  . have e:s1="(":=by
     apply Classical.byContradiction;intro z;exact e (by simp[z])
    have:aY bx ts' (s1::ss1)=(ts',s1::ss1):=by simp[aY,bx,e]
    rw[<- hf,this]at k;exact k H2 U2 k2
inductive spClose(t:Adr)(vs:List V)(H:Hp)(Q:VK)(E:XK):Prop
 |mk (p dx tl sl ts ss) (_:vs=[.ref p]) (_:UAt t.za H p dx tl sl ts ss) (_:okS ss) (_:ts.length=nb ss+1) (_:ts.length<=5000) (_:(∀ H',(aY bx ts ss).2=[]->Keep tl sl H H'->E (.ref t.zj) none H')) (_:(∀ H' s2 ss2,(aY bx ts ss).2=s2::ss2->UAt t.za H' p dx tl sl (aY bx ts ss).1 ss2->Keep tl sl H H'->Q .non H'))
inductive spUWhole(t:Adr)(vs:List V)(H:Hp)(Q:VK)(E:XK):Prop
 |mk (p dx tl sl ts ss) (_:vs=[.ref p]) (_:UAt t.za H p dx tl sl ts ss) (_:okS ss) (_:ts.length=nb ss+1) (_:ts.length<=5000) (_:(∀ H',¬ (aY bx ts ss).2=[]->Keep tl sl H H'->E (.ref t.zj) none H')) (_:(∀ H' v r rest,(aY bx ts ss).2=[]->(aY bx ts ss).1=r::rest->TrAt H' v r->Keep tl sl H H'->Q v H'))
theorem wA{ts:List Tr}{ss:List Str}(ho:okS ss)(h:ts.length=nb ss+1):(aY bx ts ss).1.length=nb (aY bx ts ss).2+1:=by
 induction ss generalizing ts with
 |nil=>exact h
 | cons s ss ih =>
  unfold aY
  by_cases e:s="("
  . simp[bx,e];rw[e]at h;exact h
  . have ho':s="~"\/bY s:=(ho s (by simp)).resolve_left e
    have q:=jl ho' h;simp only[bx,e,decide_false,Bool.not_false,if_true];exact ih (fun x hx=>ho x (by simp[hx])) q.2
theorem scClose:FnScope ["self"] ["self"] (aB S53):=mkS
theorem Gm(T:Txt P w K mg t):FO P w K mg base 3 t.a53 t.d53 ["self"] (spClose t):=by
 refine T.q53.F.ok2 scClose (fun cdv A outer s H vs Q E hr h=>?_);obtain⟨p,dx,tl,sl,ts,ss,rfl,U,hok,hc,hl,kE,kQ⟩:=h;have nd:=scClose.nd;have G52:=Cv (base:=base) T
 refine⟨_,(ak (bF (dj (pvl 0) T.zd T.q52.e G52 (hr.mo) T.q52.b .nil aK))
   (ak (aR (cV (gB (bK (pvl 0) rfl) (fun _=>rfl)))
    (aq (eN fP rfl T.zt T.zx (aa az aj)))
    aN)
   (aq (bF (mW PySem.F.plainAttrs_list PySem.F.slot_list_pop PySem.F.type_list_pop mX (bK (pvl 0) rfl)))))),?_⟩
 refine⟨_,rfl,p,dx,_,rfl,U.ob,jW _ _ (by decide +kernel) (by decide +kernel),p,dx,tl,sl,ts,ss,rfl,U,hok,hc,hl,fun H2 U2 k2=>?_⟩;generalize aY bx ts ss=f at *;obtain⟨ts2,ss2⟩:=f;refine⟨_,rfl,p,_,dx,_,_,rfl,U2.ob,T.zd,T.zl,dw _ _,_,.inl ⟨_,SqL.of U2.sg,rfl⟩,?_⟩;cases ss2 with
 |nil=>exact bO ⟨by show 1<=sizeLine;decide,kE H2 rfl k2⟩
 | cons s2 ss3 =>
  rw[qnZ (by simp)];have hsg:H2 sl=some (.lst (ss3.reverse.map V.str++[.str s2])):=by rw[U2.sg];simp
  have nps:p≠sl:=bz U2.ob hsg (by intro z;cases z);refine⟨_,rfl,p,_,dx,_,_,rfl,U2.ob,T.zd,T.zl,dw _ _,.inl ⟨rfl,_,SqL.of hsg⟩,sl,_,.str s2,rfl,rfl,hsg,by simp,?_⟩;rw[List.dropLast_concat];obtain⟨us,htl,hpu⟩:=U2.tr;have up:∀ b o,H2 b=some o->b≠sl->upd H2 sl (.lst (ss3.reverse.map V.str)) b=some o:=fun b o z hb=>by rw[aC hb];exact z
  have tup:Tups H2 (upd H2 sl (.lst (ss3.reverse.map V.str))):=fun b xs z=>up b _ z (bz z hsg (by intro z;cases z))
  exact kQ _ s2 ss3 rfl ⟨up p _ U2.ob nps,U2.ne,⟨us,up tl _ htl U2.ne,cU tup hpu⟩,au⟩ (k2.trans fun b o z h1 h2=>up b o z h2)
theorem scUWhole:FnScope ["self"] ["self"] (aB S54):=mkS
theorem Cw(T:Txt P w K mg t):FO P w K mg base 3 t.a54 t.d54 ["self"] (spUWhole t):=by
 refine T.q54.F.ok2 scUWhole (fun cdv A outer s H vs Q E hr h=>?_);obtain⟨p,dx,tl,sl,ts,ss,rfl,U,hok,hc,hl,kE,kQ⟩:=h;have nd:=scUWhole.nd;have G52:=Cv (base:=base) T
 refine⟨_,(ak (bF (dj (pvl 0) T.zd T.q52.e G52 (hr.mo) T.q52.b .nil aK))
   (ak (aR (gB (bK (pvl 0) rfl) (fun _=>rfl))
    (aq (eN fP rfl T.zt T.zx (aa az aj)))
    aN)
   (aq (aA (mW PySem.F.plainAttrs_list PySem.F.slot_list_pop PySem.F.type_list_pop mX (bK (pvl 0) rfl)))))),?_⟩
 have hc2:=wA hok hc;refine⟨_,rfl,p,dx,_,rfl,U.ob,jW _ _ (by decide +kernel) (by decide +kernel),p,dx,tl,sl,ts,ss,rfl,U,hok,hc,hl,fun H2 U2 k2=>?_⟩;generalize aY bx ts ss=f at *;obtain⟨ts2,ss2⟩:=f;refine⟨_,rfl,p,_,dx,_,_,rfl,U2.ob,T.zd,T.zl,dw _ _,_,.inl ⟨_,SqL.of U2.sg,rfl⟩,?_⟩;cases ss2 with
 | cons s2 ss3 =>
  rw[qp (by simp)];exact⟨by show 1<=sizeLine;decide,kE H2 (by simp) k2⟩
 | nil =>
  refine bj ?_;obtain⟨us,htl,hpu⟩:=U2.tr;have hc3:ts2.length=1:=hc2
  obtain⟨r,rest,rfl⟩:∃ r rest,ts2=r::rest:=by
   cases ts2 with
   |nil=>simp at hc3
   |cons r rest=>exact⟨r,rest,rfl⟩
  obtain⟨ur,vr,rfl,hr1,_⟩:∃(ur:V)(vr:List V),us=vr.reverse++[ur]/\TrAt H2 ur r/\Paired (TrAt H2) vr rest:=by
   have hpu':Paired (TrAt H2) us.reverse (r::rest):=hpu;generalize hq:us.reverse=q at hpu';cases hpu' with
   |cons h1 h2=>exact⟨_,_,by rw[<- List.reverse_reverse us,hq];simp,h1,h2⟩
  refine⟨_,rfl,p,_,dx,_,_,rfl,U2.ob,T.zd,T.zu,iK _ _,.inl ⟨rfl,_,SqL.of htl⟩,tl,_,ur,rfl,rfl,htl,by simp,?_⟩;rw[List.dropLast_concat];have up:∀ b o,H2 b=some o->b≠tl->upd H2 tl (.lst vr.reverse) b=some o:=fun b o z hb=>by rw[aC hb];exact z
  have tup:Tups H2 (upd H2 tl (.lst vr.reverse)):=fun b xs z=>up b _ z (bz z htl (by intro z;cases z))
  exact kQ _ ur r rest rfl rfl (hr1.mono tup) (k2.trans fun b o z h1 h2=>up b o z h1)
inductive spBegin(t:Adr)(vs:List V)(H:Hp)(Q:VK)(E:XK):Prop
 |mk (p dx tl sl ts ss x) (_:vs=[.ref p,.str x]) (_:UAt t.za H p dx tl sl ts ss) (_:Small x) (_:ts.length<=5000) (_:ss.length<=5000) (_:(if x="~"\/x="(" then ∀ H',UAt t.za H' p dx tl sl ts (x::ss)->Keep tl sl H H'->Q (.bl true) H' else if x="1" then ∀ H',UAt t.za H' p dx tl sl (.yes::ts) ss->Keep tl sl H H'->Q (.bl false) H' else if x="0" then ∀ H',UAt t.za H' p dx tl sl (.no::ts) ss->Keep tl sl H H'->Q (.bl false) H' else if isName x=true then ∀ H',UAt t.za H' p dx tl sl (.nm x::ts) ss->Keep tl sl H H'->Q (.bl false) H' else ∀ H',Keep tl sl H H'->E (.ref t.zj) none H'))
theorem UAt.sign{C:Addr}{H:Hp}{p dx tl sl:Addr}{ts:List Tr}{ss:List Str}(U:UAt C H p dx tl sl ts ss)(x:Str):UAt C (upd H sl (.lst (ss.reverse.map V.str++[.str x]))) p dx tl sl ts (x::ss)/\Keep tl sl H (upd H sl (.lst (ss.reverse.map V.str++[.str x]))):=by
 obtain⟨us,htl,hpu⟩:=U.tr;have nps:p≠sl:=bz U.ob U.sg (by intro z;cases z);have up:∀ b o,H b=some o->b≠sl->upd H sl (.lst (ss.reverse.map V.str++[.str x])) b=some o:=fun b o z hb=>by rw[aC hb];exact z
 have tup:Tups H (upd H sl (.lst (ss.reverse.map V.str++[.str x]))):=fun b xs z=>up b _ z (bz z U.sg (by intro z;cases z))
 exact⟨⟨up p _ U.ob nps,U.ne,⟨us,up tl _ htl U.ne,cU tup hpu⟩,by rw[au];simp⟩,fun b o z _ h2=>up b o z h2⟩
theorem UAt.part{C:Addr}{H H1:Hp}{p dx tl sl:Addr}{ts:List Tr}{ss:List Str}(U:UAt C H p dx tl sl ts ss)(s1:∀ b o,H b=some o->H1 b=some o){v:V}{r:Tr}(hv:TrAt H1 v r){us:List V}(hus:H tl=some (.lst us)):
  UAt C (upd H1 tl (.lst (us++[v]))) p dx tl sl (r::ts) ss/\Keep tl sl H (upd H1 tl (.lst (us++[v]))):=by
 obtain⟨us',htl,hpu⟩:=U.tr;rw[hus]at htl;cases htl;have npt:p≠tl:=bz U.ob hus (by intro z;cases z);have up:∀ b o,H1 b=some o->b≠tl->upd H1 tl (.lst (us++[v])) b=some o:=fun b o z hb=>by rw[aC hb];exact z
 have tup1:Tups H1 (upd H1 tl (.lst (us++[v]))):=fun b xs z=>up b _ z (bz z (s1 _ _ hus) (by intro z;cases z))
 have tup:Tups H (upd H1 tl (.lst (us++[v]))):=fun b xs z=>tup1 b xs (s1 b _ z)
 refine⟨⟨up p _ (s1 _ _ U.ob) npt,U.ne,⟨_,au,?_⟩,up sl _ (s1 _ _ U.sg) (Ne.symm U.ne)⟩,fun b o z h1 _=>up b o (s1 b o z) h1⟩;rw[List.reverse_append];exact .cons (hv.mono tup1) (cU tup hpu)
theorem scBegin:FnScope ["self","word"] ["self","word"] (aB S49):=mkS
theorem Gn(T:Txt P w K mg t):FO P w K mg base 4 t.a49 t.d49 ["self","word"] (spBegin t):=by
 refine T.q49.F.ok2 scBegin (fun cdv A outer s H vs Q E hr h=>?_);obtain⟨p,dx,tl,sl,ts,ss,x,rfl,U,hx,hl1,hl2,k⟩:=h;have nd:=scBegin.nd;have G46:=Gi (base:=base) T
 refine⟨_,(ak (aR (PW.pt (dB (aG aW (pvl 1) az (aJ _)) (dZ (aG aW (pvl 1) az (aJ _)))))
    (ak (bF (cu PySem.F.plainAttrs_list PySem.F.slot_list_append PySem.F.type_list_append cX (bK (pvl 0) rfl) (aa (pvl 1) aj)))
    (aq (aA dR)))
    aN)
   (ak (bF (cu PySem.F.plainAttrs_list PySem.F.slot_list_append PySem.F.type_list_append cX (bK (pvl 0) rfl) (aa (aO G46 (hr.mo) T.q46.m T.q46.k T.q46.b bJ (aa (pvl 1) aj)) aj)))
   (aq (aA dR)))),?_⟩
 obtain⟨us,htl,hpu⟩:=U.tr;have hlen:us.length=ts.length:=by rw[<- Paired.length hpu];simp
 have lay:∀(H1:Hp)(v:V)(r:Tr),(∀ b o,H b=some o->H1 b=some o)->TrAt H1 v r->(∀ H',UAt t.za H' p dx tl sl (r::ts) ss->Keep tl sl H H'->Q (.bl false) H')->rAppend (.ref tl) [v] H1 (fun _ H2=>Q (.bl false) H2):=fun H1 v r s1 hv k' =>
  ⟨tl,us,v,rfl,rfl,s1 _ _ htl,by unfold sizeLine;omega,k' _ (U.part s1 hv htl).1 (U.part s1 hv htl).2⟩
 have sgn:(∀ H',UAt t.za H' p dx tl sl ts (x::ss)->Keep tl sl H H'->Q (.bl true) H')->rAppend (.ref sl) [.str x] H (fun _ H2=>Q (.bl true) H2):=fun k' =>
  ⟨sl,_,_,rfl,rfl,U.sg,by simp;unfold sizeLine;omega,k' _ (U.sign x).1 (U.sign x).2⟩
 refine⟨_,rfl,rfl,_,rfl,?_⟩;refine aU (fun e=>?_) (fun e=>?_)
 . have e:x="~":=V.str.inj (qod e)
   rw[qp (.inl e)]at k;refine bO ?_;exact⟨_,rfl,p,_,dx,_,_,rfl,U.ob,T.zd,T.zl,dw _ _,.inl ⟨rfl,_,SqL.of U.sg⟩,_,rfl,sgn k⟩
 have e1:¬ x="~":=fun z=>e (qdt (congrArg V.str z))
 refine⟨_,rfl,rfl,_,rfl,?_⟩;refine aU (fun e=>?_) (fun e=>?_)
 . have e:x="(":=V.str.inj (qod e)
   rw[qp (.inr e)]at k;exact⟨_,rfl,p,_,dx,_,_,rfl,U.ob,T.zd,T.zl,dw _ _,.inl ⟨rfl,_,SqL.of U.sg⟩,_,rfl,sgn k⟩
 have e2:¬ x="(":=fun z=>e (qdt (congrArg V.str z))
 rw[qnZ (by rintro(z|z);exact e1 z;exact e2 z)]at k;refine⟨_,rfl,p,_,dx,_,_,rfl,U.ob,T.zd,T.zu,iK _ _,.inl ⟨rfl,_,SqL.of htl⟩,_,rfl,x,rfl,hx,?_⟩;have fresh:∀(H1:Hp)(q:Addr)(o:HO),H1 q=none->∀ b u,H1 b=some u->upd H1 q o b=some u:=fun H1 q o hq b u z=>by rw[aC (aH z hq)];exact z
 by_cases h1:x="1"
 . rw[qp h1]at k
   exact .inl ⟨h1,fun q hq=>lay _ _ _ (fresh H q _ hq) (.yes au) k⟩
 rw[qnZ h1]at k
 by_cases h0:x="0"
 . rw[qp h0]at k
   exact .inr (.inl ⟨h0,fun q hq=>lay _ _ _ (fresh H q _ hq) (.no au) k⟩)
 rw[qnZ h0]at k;refine .inr (.inr ⟨h1,h0,fun H1 s1=>?_⟩);cases hn:isName x with
 | true =>
  rw[qp hn]at k;exact bO fun q hq=>lay _ _ _ (fun b o z=>fresh H1 q _ hq b o (s1 b o z)) (.nm au) k
 | false =>
  rw[qnZ (by rw[hn];decide)]at k;exact bj (k H1 fun b o z _ _=>s1 b o z)
def tk(x:Str)(s:Str):Bool:=fj s x
def Gp(t:Adr):Sp:=fun vs H Q E=>∃ p dx tl sl ts ss x,vs=[.ref p,.str x]/\UAt t.za H p dx tl sl ts ss/\okS ss/\ts.length=nb ss+1/\ts.length<=5000/\ss.length<=5000/\Small x /\
 (x=")"->(∀ H',(aY bx ts ss).2=[]->Keep tl sl H H'->E (.ref t.zj) none H')/\(∀ H' s2 ss2,(aY bx ts ss).2=s2::ss2->UAt t.za H' p dx tl sl (aY bx ts ss).1 ss2->Keep tl sl H H'->Q (.bl false) H')) /\
 (¬ x=")"->¬ bY x->∀ H',Keep tl sl H H'->E (.ref t.zj) none H') /\
 (¬ x=")"->bY x->∀ H',UAt t.za H' p dx tl sl (aY (tk x) ts ss).1 (x::(aY (tk x) ts ss).2)->Keep tl sl H H'->Q (.bl true) H')
theorem HF(x:Str):tk x "("=false:=by simp[tk,fj]
theorem scFollow:FnScope ["self","word"] ["self","word"] (aB S50):=mkS
theorem Cy(T:Txt P w K mg t):FO P w K mg base 4 t.a50 t.d50 ["self","word"] (Gp t):=by
 refine T.q50.F.ok1 scFollow (fun vs H Q E h=>by obtain⟨p,dx,tl,sl,ts,ss,x,rfl,_⟩:=h;rfl) (fun cdv A outer s H vs Q E hr h=>?_);obtain⟨p,dx,tl,sl,ts,ss,x,rfl,U,hok,hc,hl,hl2,hx,kB,kN,kO⟩:=h;have nd:=scFollow.nd;have G51:=xr (base:=base) T;have G53:=Gm (base:=base) T;have G47:=Gh (base:=base) T
 refine⟨_,(ak (aR (aG aW (pvl 1) az (aJ _))
    (ak (bF (dj (pvl 0) T.zd T.q53.e G53 (hr.mo) T.q53.b .nil bJ))
    (aq (aA dR)))
    aN)
   (ak (aR (p8 (m7 T.zp (pvl 1) (eU (v:=.ref t.zp) T.zI rfl)))
    (aq (eN fP rfl T.zt T.zx (aa (uU (qZ (pvl 1)) az) aj)))
    aN)
   (ak (ju own1 (PW.pt (fY (gB (bK (pvl 0) rfl) (fun _=>rfl)) (eX (b7 (aO G47 (hr.mo) T.q47.m T.q47.k T.q47.b aK (aa (pix bN (bK (pvl 0) rfl) (lH jx ao)) (aa (pvl 1) aj)))))))
    (aq (bF (dj (pvl 0) T.zd T.q51.e G51 (hr.mo) T.q51.b .nil aK))))
   (ak (bF (cu PySem.F.plainAttrs_list PySem.F.slot_list_append PySem.F.type_list_append cX (bK (pvl 0) rfl) (aa (pvl 1) aj)))
   (aq (aA dR)))))),?_⟩
 refine⟨_,rfl,rfl,_,rfl,?_⟩;refine aU (fun e=>?_) (fun e=>?_)
 . have e:x=")":=V.str.inj (qod e)
   obtain⟨k1,k2⟩:=kB e;exact⟨_,rfl,p,dx,_,rfl,U.ob,jW _ _ (by decide +kernel) (by decide +kernel),p,dx,tl,sl,ts,ss,rfl,U,hok,hc,hl,k1,fun H' s2 ss2 h1 U2 h2=>k2 H' s2 ss2 h1 U2 h2⟩
 have e1:¬ x=")":=fun z=>e (qdt (congrArg V.str z))
 refine⟨_,rfl,.inr x,rfl,rfl,_,rfl,?_⟩
 by_cases ho:bY x
 case neg =>
  rw[Mr ho];refine bO ?_;refine⟨_,rfl,x,rfl,repr_fits hx.2 hx.1,_,rfl,repr_fits hx.2 hx.1,_,rfl,?_,(by show 1<=sizeLine;decide),kN e1 ho H fun _ _ z _ _=>z⟩;have q1:=PySem.StrLaws.reprText_len x hx.2;have q2:=hx.1;rw[strLen_append];have q3:(Str.ofString " can't follow a part of a sentence").length=34:=by decide +kernel
  rw[q3];unfold sizeLine;omega
 case pos =>
  rw[yI ho];refine bj ?_;have kO:=kO e1 ho
  refine⟨fun m σ H2=>∃ ts' ss',m=ss'.length/\σ=[some (.ref p),some (.str x)]/\UAt t.za H2 p dx tl sl ts' ss'/\Keep tl sl H H2/\okS ss'/\ts'.length=nb ss' + 1/\ts'.length<=5000/\ss'.length<=5000/\aY (tk x) ts' ss'=aY (tk x) ts ss,
   ⟨_,ts,ss,rfl,rfl,U,fun _ _ z _ _=>z,hok,hc,hl,hl2,rfl⟩,?_⟩
  rintro m σ H2 ⟨ts',ss',rfl,rfl,U2,k2,hok2,hc2,hl3,hl4,hf⟩
  have fin:aY (tk x) ts' ss'=(ts',ss')->rAppend (.ref sl) [.str x] H2 (fun _ H3=>Q (.bl true) H3):=fun hq=>by
   rw[<- hf,hq]at kO;exact⟨sl,_,_,rfl,rfl,U2.sg,by simp;unfold sizeLine;omega,kO _ (U2.sign x).1 (k2.trans (U2.sign x).2)⟩
  refine⟨_,rfl,p,_,dx,_,_,rfl,U2.ob,T.zd,T.zl,dw _ _,_,.inl ⟨_,SqL.of U2.sg,rfl⟩,?_⟩;cases ss' with
  | nil =>
   refine bj ?_;refine bj ?_;exact⟨_,rfl,p,_,dx,_,_,rfl,U2.ob,T.zd,T.zl,dw _ _,.inl ⟨rfl,_,SqL.of U2.sg⟩,_,rfl,fin rfl⟩
  | cons s1 ss1 =>
   have hsg:H2 sl=some (.lst (ss1.reverse.map V.str++[.str s1])):=by rw[U2.sg];simp
   rw[qp (by simp)];refine⟨_,rfl,p,_,dx,_,_,rfl,U2.ob,T.zd,T.zl,dw _ _,_,rfl,sl,_,-1,.str s1,rfl,rfl,SqL.of hsg,pC _ _,_,rfl,s1,x,rfl,hok2 s1 (by simp),ho,_,rfl,?_⟩;cases ht:fj s1 x with
   | true =>
    refine bO ?_;have e:¬ s1="(":=by intro z;subst z;have:=HF x;unfold tk at this;rw[ht]at this;cases this
    have ho':s1="~"\/bY s1:=(hok2 s1 (by simp)).resolve_left e;obtain⟨q1,q2⟩:=jl ho' hc2;refine⟨fun σ' H'=>σ'=[some (.ref p),some (.str x)]/\UAt t.za H' p dx tl sl (dU s1 ts') ss1/\Keep tl sl H2 H',?_,?_⟩
    . rintro σ' H' ⟨rfl,U3,k3⟩
      refine⟨ss1.length,by simp,dU s1 ts',ss1,rfl,rfl,U3,k2.trans k3,fun s hs=>hok2 s (by simp[hs]),q2,?_,?_,?_⟩
      . have h1:nb ss1<=nb (s1::ss1):=by unfold nb;rw[List.countP_cons];omega
        omega
      . simp at hl4;omega
      . rw[<- hf];simp[aY,tk,ht]
    . exact⟨_,rfl,p,dx,_,rfl,U2.ob,jW _ _ (by decide +kernel) (by decide +kernel),p,dx,tl,sl,ts',s1,ss1,rfl,U2,q1,hl3,fun H' U3 k3=>⟨rfl,U3,k3⟩⟩
   | false =>
    refine bj ?_;exact⟨_,rfl,p,_,dx,_,_,rfl,U2.ob,T.zd,T.zl,dw _ _,.inl ⟨rfl,_,SqL.of U2.sg⟩,_,rfl,fin (by simp[aY,tk,ht])⟩
def fW(x:Str):Option Tr:=if x="1" then some .yes else if x="0" then some .no else if isName x=true then some (.nm x)else none
instance (x:Str):Decidable (bY x):=by unfold bY;infer_instance
abbrev Rd:=List Tr×List Str×Bool
def bV(st:Rd)(x:Str):Option Rd :=
 if st.2.2=true then(if x="~"\/x="(" then some (st.1,x::st.2.1,true)else(fW x).map fun r=>(r::st.1,st.2.1,false))
 else if x=")" then(match (aY bx st.1 st.2.1).2 with
  |[]=>none
  |_::ss=>some ((aY bx st.1 st.2.1).1,ss,false))
 else if bY x then some ((aY (tk x) st.1 st.2.1).1,x::(aY (tk x) st.1 st.2.1).2,true)
 else none
def cY:List Str->Rd->Option Rd
 |[],st=>some st
 |x::ws,st=>(bV st x).bind (cY ws)
def pP(st:Rd):Option Tr:=if st.2.2=true then none else match (aY bx st.1 st.2.1).2,(aY bx st.1 st.2.1).1 with
 |[],r::_=>some r
 |_,_=>none
def iV(ws:List Str):Option Tr:=(cY ws ([],[],true)).bind pP
theorem Cz(ws:List Str)(x:Str)(st:Rd):cY (ws++[x]) st=(cY ws st).bind fun s=>bV s x:=by
 induction ws generalizing st with
 |nil=>simp[cY]
 | cons y ws ih =>
  simp only[List.cons_append,cY,Option.bind_assoc]
  congr 1
  funext s
  exact ih s
theorem CG{ws:List Str}{i:Nat}{x:Str}{st s1:Rd}(h:cY (ws.take i) st=some s1)(hx:ws[i]? = some x)(hn:bV s1 x=none):cY ws st=none:=by
 have e:ws=ws.take i++x::ws.drop (i+1):=by
  obtain⟨hi,hv⟩:=List.getElem?_eq_some_iff.mp hx;have e2:ws.drop i=x::ws.drop (i+1):=by rw[List.drop_eq_getElem_cons hi,hv]
  rw[<- e2,List.take_append_drop]
 rw[e]
 have gen:∀(u v:List Str)(s:Rd),cY (u++v) s=(cY u s).bind (cY v):=by
  intro u
  induction u with
  |nil=>intro v s;rfl
  |cons y u ih=>intro v s;simp only[List.cons_append,cY,Option.bind_assoc];congr 1;funext z;exact ih v z
 rw[gen,h];simp[cY,hn]
theorem vh{c:Str->Bool}{ts:List Tr}{ss:List Str}(h:okS ss):okS (aY c ts ss).2:=by
 induction ss generalizing ts with
 |nil=>exact h
 | cons s ss ih =>
  unfold aY
  split
  . exact ih fun x hx=>h x (by simp[hx])
  . exact h
theorem sY{c:Str->Bool}{ts:List Tr}{ss:List Str}:(aY c ts ss).2.length<=ss.length:=by
 induction ss generalizing ts with
 |nil=>exact qnr _
 | cons s ss ih =>
  unfold aY
  split
  . exact qnt ih (by simp)
  . exact qnr _
theorem sZ {c:Str->Bool} (hb:c "("=false) {ts:List Tr} {ss:List Str} (ho:okS ss) (h:ts.length=nb ss+1):(aY c ts ss).1.length=nb (aY c ts ss).2+1:=by
 induction ss generalizing ts with
 |nil=>exact h
 | cons s ss ih =>
  unfold aY
  split
  . rename_i hc
    have e:¬ s="(":=by intro z;rw[z,hb]at hc;cases hc
    exact ih (fun x hx=>ho x (by simp[hx])) (jl ((ho s (by simp)).resolve_left e) h).2
  . exact h
theorem yJ{c:Str->Bool}{ts:List Tr}{ss r:List Str}{s:Str}(h:(aY c ts ss).2=s::r):c s=false:=by
 induction ss generalizing ts with
 |nil=>cases h
 | cons y ss ih =>
  unfold aY at h
  split at h
  . exact ih h
  . rename_i hc
    cases h;exact Bool.eq_false_iff.mpr hc
structure Fit(n:Nat)(st:Rd):Prop where
 ok:okS st.2.1
 cnt:st.1.length=nb st.2.1+(if st.2.2=true then 0 else 1)
 ss:st.2.1.length<=n
theorem HH(ss:List Str):nb ss<=ss.length:=List.countP_le_length
theorem Fit.step{n:Nat}{st st':Rd}{x:Str}(F:Fit n st)(h:bV st x=some st'):Fit (n+1) st':=by
 obtain⟨ts,ss,due⟩:=st;obtain⟨ok,cnt,hs⟩:=F;dsimp only at ok cnt hs;unfold bV at h;dsimp only at h;cases due with
 | true =>
  rw[qp rfl]at h cnt
  split at h
  . rename_i hx
    cases h;refine⟨fun s hs=>?_,?_,by simp;omega⟩
    . rcases List.mem_cons.mp hs with rfl|hs
      . rcases hx with z|z;exact .inr (.inl z);exact .inl z
      . exact ok s hs
    . show ts.length=nb (x::ss)+0
      rcases hx with rfl|rfl
      . rw[vg];exact cnt
      . rw[HD];exact cnt
  . cases hl:fW x with
    |none=>rw[hl]at h;cases h
    | some r =>
     rw[hl]at h;cases h;exact⟨ok,by show(r::ts).length=nb ss+1;simp;omega,by show ss.length<=_;omega⟩
 | false =>
  rw[qnZ (by decide)]at h cnt
  split at h
  . split at h
    . cases h
    . rename_i s2 ss2 he
      cases h;have o:=vh (c:=bx) (ts:=ts) ok;have l:=sY (c:=bx) (ts:=ts) (ss:=ss);have c:=sZ (c:=bx) (by simp[bx]) ok cnt;rw[he]at o l c
      have hb:s2="(":=by
       have z:=yJ he;unfold bx at z
       simpa using z
      subst hb;rw[HD]at c;exact⟨fun s hs=>o s (by simp[hs]),c,by show ss2.length<=_;simp at l;omega⟩
  . split at h
    . rename_i ho
      cases h;have o:=vh (c:=tk x) (ts:=ts) ok;have l:=sY (c:=tk x) (ts:=ts) (ss:=ss);have c:=sZ (c:=tk x) (HF x) ok cnt;refine⟨fun s hs=>?_,?_,?_⟩
      . rcases List.mem_cons.mp hs with rfl|hs
        . exact .inr (.inr ho)
        . exact o s hs
      . show _=nb (x::_)+0
        rw[Hz ho];exact c
      . show(x::_:List Str).length <= _
        simp;omega
    . cases h
inductive spTree(t:Adr)(vs:List V)(H:Hp)(Q:VK)(E:XK):Prop
 |mk (a:Addr) (ws:List Str) (_:vs=[.ref a]) (_:H a=some (.lst (ws.map V.str))) (_:ws.length<=2500) (_:(∀ x∈ws,Small x)) (_:(iV ws=none->∀ H',Same H H'->E (.ref t.zj) none H')) (_:(∀ r,iV ws=some r->∀ v H',Same H H'->TrAt H' v r->Q v H'))
theorem scTree:FnScope ["words","unfinished","part_due","word"] ["words"] (aB S55):=mkS
theorem Jw(T:Txt P w K mg t):FO P w K mg base 5 t.a55 t.d55 ["words"] (spTree t):=by
 refine T.q55.F.ok2 scTree (fun cdv A outer s H vs Q E hr h=>?_);obtain⟨a,ws,rfl,ha,hl,hsm,kE,kQ⟩:=h;have nd:=scTree.nd;have G48:=Gk (base:=base) T;have G49:=Gn (base:=base) T;have G50:=Cy (base:=base) T;have G54:=Cw (base:=base) T
 refine ⟨_,(ak (psl 1 nd (Kq T.zaB G48 (hr.mo) T.zay T.q48.b aK))
   (ak (psl 2 nd dR)
   (ak (fL own1 rfl (dX (pvl 0)) (pgl 3 nd)
    (aq (aR (b7 (pvl 2))
     (aq (psl 2 nd (gM (pvl 1) T.zd T.q49.e G49 (hr.mo) T.q49.b .nil bJ (aa (pvl 3) aj))))
     (aq (psl 2 nd (gM (pvl 1) T.zd T.q50.e G50 (hr.mo) T.q50.b .nil bJ (aa (pvl 3) aj)))))))
   (ak (aR (b7 (pvl 2))
    (aq (eN fP rfl T.zt T.zx (aa az aj)))
    aN)
   (aq (aA (dj (pvl 1) T.zd T.q54.e G54 (hr.mo) T.q54.b .nil bJ))))))),?_⟩
 intro p dx hp hdx hne;refine⟨p,dx,rfl,au,fun tl sl H1 htl hsl U kp=>⟨rfl,?_⟩⟩;have s1:Same H H1:=fun b o z=>kp b o (by rw[aC (aH z hp),aC (aH z hdx)];exact z) (aH z hp)
 have fr:∀ b o,H b=some o->b≠tl/\b≠sl:=fun b o z=>by
  have z':upd (upd H dx (.own p)) p (.ins t.za dx []) b=some o:=by rw[aC (aH z hp),aC (aH z hdx)];exact z
  exact⟨aH z' htl,aH z' hsl⟩
 have kS:∀{H2 H3:Hp},Same H H2->Keep tl sl H2 H3->Same H H3:=fun s2 k3 b o z=>k3 b o (s2 b o z) (fr b o z).1 (fr b o z).2
 refine⟨_,rfl,a,rfl,⟨_,SqL.of (s1 _ _ ha)⟩,iC (K:=K) (a:=a) (xs:=ws.map V.str)
  (fun i σ H2=>∃ ts ss due v,cY (ws.take i) ([],[],true)=some (ts,ss,due)/\σ=[some (.ref a),some (.ref p),some (.bl due),v]/\UAt t.za H2 p dx tl sl ts ss/\Same H H2/\Fit i (ts,ss,due))
  ⟨[],[],true,none,rfl,rfl,U,s1,⟨(fun _ z=>nomatch z),rfl,qnr _⟩⟩ (fun i σ H2 _ ⟨_,_,_,_,_,_,_,s2,_⟩=>SqL.of (s2 _ _ ha)) ?_ ?_⟩
 . rintro i y σ H2 hi ⟨ts,ss,due,v,hrun,rfl,U2,s2,F⟩
   obtain⟨x,hx,rfl⟩:∃ x,ws[i]? = some x/\V.str x=y:=by
    rw[qgm]at hi;exact Option.map_eq_some_iff.mp hi
   have hil:i<ws.length:=(List.getElem?_eq_some_iff.mp hx).1;have hxs:Small x:=hsm x (qmg hx)
   have fl1:ts.length<=5000:=by
    have c:=F.cnt;have n:=HH ss;have l:=F.ss;dsimp only at c l
    split at c <;> omega
   have fl2:ss.length<=5000:=by have l:=F.ss;dsimp only at l;omega
   have go:∀ st',bV (ts,ss,due) x=some st'->cY (ws.take (i+1)) ([],[],true)=some st'/\Fit (i+1) st':=fun st' h=>by
    refine⟨?_,F.step h⟩;rw[qta,hx];show cY (ws.take i++[x]) _=_;rw[Cz,hrun];exact h
   have bad:bV (ts,ss,due) x=none->∀ H',Same H H'->E (.ref t.zj) none H':=fun h=>kE (by unfold iV;rw[CG hrun hx h];rfl)
   refine⟨_,rfl,_,rfl,?_⟩;cases due with
   | true =>
    refine bO ?_;refine⟨_,rfl,p,dx,_,rfl,U2.ob,jW _ _ (by decide +kernel) (by decide +kernel),_,rfl,p,dx,tl,sl,ts,ss,x,rfl,U2,hxs,fl1,fl2,?_⟩
    have st1:∀ r,¬ (x="~"\/x="(")->fW x=r->bV (ts,ss,true) x=r.map fun r=>(r::ts,ss,false):=fun r h1 h2=>by
     unfold bV;dsimp only;rw[qp rfl,qnZ h1,h2]
    by_cases hx1:x="~"\/x="("
    . rw[qp hx1]
      intro H3 U3 k3;have g:=go (ts,x::ss,true) (by unfold bV;dsimp only;rw[qp rfl,qp hx1]);exact⟨ts,x::ss,true,_,g.1,rfl,U3,kS s2 k3,g.2⟩
    rw[qnZ hx1]
    by_cases h1:x="1"
    . rw[qp h1]
      intro H3 U3 k3;have g:=go (.yes::ts,ss,false) (st1 (some .yes) hx1 (by unfold fW;rw[qp h1]));exact⟨_,ss,false,_,g.1,rfl,U3,kS s2 k3,g.2⟩
    rw[qnZ h1]
    by_cases h0:x="0"
    . rw[qp h0]
      intro H3 U3 k3;have g:=go (.no::ts,ss,false) (st1 (some .no) hx1 (by unfold fW;rw[qnZ h1,qp h0]));exact⟨_,ss,false,_,g.1,rfl,U3,kS s2 k3,g.2⟩
    rw[qnZ h0]
    by_cases hn:isName x=true
    . rw[qp hn]
      intro H3 U3 k3;have g:=go (.nm x::ts,ss,false) (st1 (some (.nm x)) hx1 (by unfold fW;rw[qnZ h1,qnZ h0,qp hn]));exact⟨_,ss,false,_,g.1,rfl,U3,kS s2 k3,g.2⟩
    . rw[qnZ hn]
      intro H3 k3;exact bad (st1 none hx1 (by unfold fW;rw[qnZ h1,qnZ h0,qnZ hn])) H3 (kS s2 k3)
   | false =>
    refine bj ?_;refine⟨_,rfl,p,dx,_,rfl,U2.ob,jW _ _ (by decide +kernel) (by decide +kernel),_,rfl,p,dx,tl,sl,ts,ss,x,rfl,U2,F.ok,F.cnt,fl1,fl2,hxs,?_⟩;refine⟨fun e=>⟨fun H3 he k3=>bad ?_ H3 (kS s2 k3),fun H3 s3 ss3 he U3 k3=>?_⟩,fun e1 e2 H3 k3=>bad ?_ H3 (kS s2 k3),fun e1 e2 H3 U3 k3=>?_⟩
    . unfold bV;dsimp only;rw[qnZ (by decide),qp e,he]
    . have g:=go ((aY bx ts ss).1,ss3,false) (by unfold bV;dsimp only;rw[qnZ (by decide),qp e,he])
      exact⟨_,ss3,false,_,g.1,rfl,U3,kS s2 k3,g.2⟩
    . unfold bV;dsimp only;rw[qnZ (by decide),qnZ e1,qnZ e2]
    . have g:=go ((aY (tk x) ts ss).1,x::(aY (tk x) ts ss).2,true) (by unfold bV;dsimp only;rw[qnZ (by decide),qnZ e1,qp e2])
      exact⟨_,_,true,_,g.1,rfl,U3,kS s2 k3,g.2⟩
 . rintro σ H2 ⟨ts,ss,due,v,hrun,rfl,U2,s2,F⟩
   rw[qlm,List.take_length]at hrun;have hlm:(ws.map V.str).length=ws.length:=qlm _;have tf:iV ws=pP (ts,ss,due):=by unfold iV;rw[hrun];rfl
   refine⟨_,rfl,_,rfl,?_⟩;cases due with
   |true=>exact bO ⟨by show 1<=sizeLine;decide,kE (by rw[tf];rfl) H2 s2⟩
   | false =>
    refine bj ?_
    have fl1:ts.length<=5000:=by
     have c:=F.cnt;have n:=HH ss;have l:=F.ss;dsimp only at c l;rw[hlm]at l
     split at c <;> omega
    refine⟨_,rfl,p,dx,_,rfl,U2.ob,jW _ _ (by decide +kernel) (by decide +kernel),p,dx,tl,sl,ts,ss,rfl,U2,F.ok,F.cnt,fl1,fun H3 hn k3=>kE ?_ H3 (kS s2 k3),fun H3 v r rest h1 h2 hv k3=>kQ r ?_ v H3 (kS s2 k3) hv⟩
    . rw[tf]
      unfold pP
      try dsimp only
      rw[qnZ (by decide)]
      split
      . rename_i h1 _;exact absurd h1 hn
      . rfl
    . rw[tf]
      unfold pP
      try dsimp only
      rw[qnZ (by decide),h1,h2]
theorem scDepth:FnScope ["tree","layers","layer"] ["tree"] (aB S4):=mkS
theorem Gq(T:Txt P w K mg t):FO P w K mg base 3 t.a4 t.d4 ["tree"] spDepth:=by
 refine T.q4.F.ok2 scDepth (fun cdv A outer s H vs Q E hr h=>?_);obtain⟨v,tr,rfl,ht,hsz,k⟩:=h;have nd:=scDepth.nd;have G3:=uY (base:=base) T
 refine⟨_,(ak (gZ (i:=1) nd rfl (by first|exact Or.inl rfl|exact Or.inr rfl) ao)
   (ak (gZ (i:=2) nd rfl (by first|exact Or.inl rfl|exact Or.inr rfl) (bC (aa (pv 0) aj)))
   (ak (ju own1 (gB (pv 2) (fun _=>rfl))
    (ak (Ah (i:=1) nd rfl (by first|exact Or.inl rfl|exact Or.inr rfl) ao J1)
    (aq (gZ (i:=2) nd rfl (by first|exact Or.inl rfl|exact Or.inr rfl) (ou G3 (hr.mo) rfl T.q3.m T.q3.k T.q3.b .nil aK (aa (pv 2) aj))))))
   (aq (aA (pv 1)))))),?_⟩
 refine⟨_,rfl,(lk (by first|exact qnb rfl|simp)),fun l hl=>?_⟩
 refine⟨fun m σ H2=>∃(n:Nat)(l:Addr)(us:List V)(ts:List Tr),σ=[some v,some (.int n),some (.ref l)]/\Same H H2/\H2 l=some (.lst us)/\Paired (TrAt H2) us ts/\dh ts<=100000/\n+je ts=tr.depth/\m=dh ts,
  ⟨_,0,l,[v],[tr],rfl,aD hl,au,.cons (ht.mono (aD hl).tups) .nil,?_,?_,rfl⟩,?_⟩
 . show tr.size+0<=100000
   omega
 . show 0+max tr.depth 0=tr.depth
   omega
 rintro m σ H2 ⟨n,l,us,ts,rfl,s2,hl2,hp,hz,hd,rfl⟩;refine⟨_,rfl,_,.inl ⟨us,SqL.of hl2,rfl⟩,?_⟩;cases us with
 | nil =>
  cases hp;refine bj ?_;refine⟨_,rfl,?_⟩;have hd:n+0=tr.depth:=hd;have e:n=tr.depth:=by omega
  subst e;exact k H2 s2
 | cons u us =>
  refine bO ?_;refine⟨fun σ' H'=>∃ m',m'<dh ts/\∃(n:Nat)(l:Addr)(us:List V)(ts:List Tr),σ'=[some v,some (.int n),some (.ref l)]/\Same H H'/\H' l=some (.lst us)/\Paired (TrAt H') us ts/\dh ts<=100000/\n+je ts=tr.depth/\m'=dh ts,fun _ _ h=>h,?_⟩;refine⟨_,rfl,_,_,rfl,rfl,_,rfl,l,u::us,ts,rfl,hl2,hp,hz,fun l' ws H' hn hl' s' hp'=>?_⟩
  have hne:ts≠[]:=by
   intro z;subst z;cases hp
  have e1:=qu ts hne;have e2:=iT ts;have e3:0<ts.length:=List.length_pos_iff.mpr hne;exact⟨_,by omega,n+1,l',ws,ts.flatMap Tr.kids,rfl,s2.trans s',hl',hp',by omega,by omega,rfl⟩
inductive Out where
 |tree (r:Tr)|sentence|deep
def uh(x:Str):Out:=if 200<x.length then .sentence else match iV (jb x)with
 |none=>.sentence
 |some r=>if 40<r.depth then .deep else .tree r
inductive spRead(t:Adr)(vs:List V)(H:Hp)(Q:VK)(E:XK):Prop
 |mk (x) (_:vs=[.str x]) (_:x.length<=sizeLine) (_:(∀ c∈x.cps.toList,c<16 ^ 8)) (_:∀ H',Same H H'->(match uh x with | .tree r=>∀ v,TrAt H' v r->Q v H' | .sentence=>E (.ref t.zj) none H' | .deep=>E (.ref t.zz) none H'))
theorem bZ(x y:Str):(x++y).cps.toList=x.cps.toList++y.cps.toList:=by
 show(x.cps++y.cps).toList=_;simp
theorem oX:∀(k:Nat)(l:List Nat),l.length=k->(∀ c∈l,c<16 ^ 8) ->
  (∀ y,y∈(eV l).1 \/ y=(eV l).2 -> y.length<=l.length+1/\∀ c∈y.cps.toList,c<16 ^ 8)
 | 0,l,h,_=>by
  have:l=[]:=List.length_eq_zero_iff.mp h;subst this;intro y hy;rcases hy with hy|rfl
  . exact nomatch hy
  . exact⟨qnz _,fun c hc=>nomatch hc⟩
 | k + 1,l,h,hc=>by
  have hne:l≠[]:=fun z=>by rw[z]at h;cases h
  obtain⟨l',c,rfl⟩:∃ l' c,l=l'++[c]:=⟨l.dropLast,l.getLast hne,(List.dropLast_concat_getLast hne).symm⟩
  have hk:l'.length=k:=by simpa using h
  have ih:=oX k l' hk (fun d hd=>hc d (by simp[hd]));have lb:=(jV _ l' rfl).2;have hcc:c<16 ^ 8:=hc c (by simp)
  have one:(⟨#[c]⟩:Str).length <= (l'++[c]).length+1/\∀ d∈(⟨#[c]⟩:Str).cps.toList,d<16 ^ 8:=by
   refine⟨by show 1<=_;simp,fun d hd=>?_⟩;have:d=c:=by simpa using hd
   rw[this];exact hcc
  have nil:(Str.ofString "").length <= (l'++[c]).length+1/\∀ d∈(Str.ofString "").cps.toList,d<16 ^ 8:=⟨qnz _,fun d hd=>nomatch hd⟩
  have up:∀ y,(y∈(eV l').1 \/ y=(eV l').2)->y.length<=(l'++[c]).length+1/\∀ d∈y.cps.toList,d<16 ^ 8:=fun y hy=>⟨by have:=(ih y hy).1;simp;omega,(ih y hy).2⟩
  rw[jk];generalize eV l'=st at ih lb up;obtain⟨ws,nm⟩:=st;intro y hy;unfold di at hy
  split at hy
  . rcases hy with hy|rfl
    . exact up y (.inl hy)
    . have q:=up nm (.inr rfl)
      refine⟨?_,fun d hd=>?_⟩
      . show(nm++⟨#[c]⟩:Str).length <= _
        rw[strLen_append];have:(⟨#[c]⟩:Str).length=1:=rfl;dsimp only at lb;simp;omega
      . have hd:d∈(nm++⟨#[c]⟩:Str).cps.toList:=hd
        rw[bZ]at hd;rcases List.mem_append.mp hd with hd|hd
        . exact q.2 d hd
        . exact one.2 d hd
  . rcases hy with hy|rfl
    . have hy:y∈(if c=32 then _ else _:List Str):=hy
      split at hy <;> split at hy
      . exact up y (.inl hy)
      . rcases List.mem_append.mp hy with hy|hy
        . exact up y (.inl hy)
        . exact up y (.inr (by simpa using hy))
      . rcases List.mem_append.mp hy with hy|hy
        . exact up y (.inl hy)
        . have:y=⟨#[c]⟩:=by simpa using hy
          rw[this];exact one
      . rcases List.mem_append.mp hy with hy|hy
        . rcases List.mem_append.mp hy with hy|hy
          . exact up y (.inl hy)
          . exact up y (.inr (by simpa using hy))
        . have:y=⟨#[c]⟩:=by simpa using hy
          rw[this];exact one
    . exact nil
theorem wB{x:Str}(hl:x.length<=200)(hc:∀ c∈x.cps.toList,c<16 ^ 8):(jb x).length <= 2500/\∀ y∈jb x,Small y:=by
 have hlen:(x.cps.toList++[32]).length=x.length+1:=by simp[Str.length]
 unfold jb;refine⟨?_,fun y hy=>?_⟩
 . have:=(jV _ (x.cps.toList++[32]) rfl).1
   omega
 . have:=oX _ (x.cps.toList++[32]) rfl (fun c h=>by
    rcases List.mem_append.mp h with h|h
    . exact hc c h
    . have:c=32:=by simpa using h
      rw[this];decide) y (.inl hy)
   exact⟨by omega,this.2⟩
def tot(ts:List Tr)(ss:List Str):Nat:=(ts.map Tr.size).sum+ss.length
theorem CJ(s:Str)(ts:List Tr):((dU s ts).map Tr.size).sum <= (ts.map Tr.size).sum+1:=by
 match ts with
 |[]=>simp[dU]
 | [r] =>
  show((if s="~" then [Tr.not r]else [r]).map Tr.size).sum <= _
  split <;> simp[Tr.size]
 | r::l::rest =>
  show((if s="~" then Tr.not r::l::rest else .bin (nM s) l r::rest).map Tr.size).sum <= _
  split <;> simp[Tr.size] <;> omega
theorem nO{c:Str->Bool}{ts:List Tr}{ss:List Str}:tot (aY c ts ss).1 (aY c ts ss).2 <= tot ts ss:=by
 induction ss generalizing ts with
 |nil=>exact qnr _
 | cons s ss ih =>
  unfold aY
  split
  . refine qnt ih ?_
    have:=CJ s ts;unfold tot;simp;omega
  . exact qnr _
theorem Gr{st st':Rd}{x:Str}(h:bV st x=some st'):tot st'.1 st'.2.1<=tot st.1 st.2.1+1:=by
 obtain⟨ts,ss,due⟩:=st;unfold bV at h;dsimp only at h
 split at h
 . split at h
   . cases h;unfold tot;simp;omega
   . unfold fW at h
     split at h
     . cases h;unfold tot;simp[Tr.size];omega
     . split at h
       . cases h;unfold tot;simp[Tr.size];omega
       . split at h
         . cases h;unfold tot;simp[Tr.size];omega
         . cases h
 . split at h
   . split at h
     . cases h
     . rename_i s2 ss2 he
       cases h;have q:=nO (c:=bx) (ts:=ts) (ss:=ss);rw[he]at q;unfold tot at q ⊢;simp at q ⊢;omega
   . split at h
     . cases h
       have q:=nO (c:=tk x) (ts:=ts) (ss:=ss);unfold tot at q ⊢;simp;omega
     . cases h
theorem Jx{ws:List Str}{st st':Rd}(h:cY ws st=some st'):tot st'.1 st'.2.1<=tot st.1 st.2.1+ws.length:=by
 induction ws generalizing st with
 |nil=>cases h;exact qnr _
 | cons x ws ih =>
  unfold cY at h;obtain⟨s1,h1,h2⟩:=Option.bind_eq_some_iff.mp h;have:=Gr h1;have:=ih h2;simp;omega
theorem CK{ws:List Str}{r:Tr}(h:iV ws=some r)(hl:ws.length<=2500):r.size<=100000:=by
 unfold iV at h;obtain⟨st,h1,h2⟩:=Option.bind_eq_some_iff.mp h;have q:=Jx h1;unfold pP at h2
 split at h2
 . cases h2
 . split at h2
   . rename_i e1 e2
     cases h2;have z:=nO (c:=bx) (ts:=st.1) (ss:=st.2.1);rw[e2]at z;unfold tot at z q;simp at z q;omega
   . cases h2
theorem scRead:FnScope ["text","tree"] ["text"] (aB S56):=mkS
theorem Jy(T:Txt P w K mg t):FO P w K mg base 6 t.a56 t.d56 ["text"] (spRead t):=by
 refine T.q56.F.ok2 scRead (fun cdv A outer s H vs Q E hr h=>?_);obtain⟨x,rfl,hl,hc,k⟩:=h;have nd:=scRead.nd;have G45:=Gj (base:=base) T;have G55:=Jw (base:=base) T;have G4:=Gq (base:=base) T
 refine⟨_,(ak (aR (aG nZ (bf jy T.ze Bt.len (aa (pvl 0) aj)) (eU (v:=.int 200) T.zas ⟨_,rfl⟩) (aJ _))
    (aq (eN fP rfl T.zt T.zx (aa az aj)))
    aN)
   (ak (psl 1 nd (aO G55 (hr.mo) T.q55.m T.q55.k T.q55.b bJ (aa (aO G45 (hr.mo) T.q45.m T.q45.k T.q45.b aK (aa (pvl 0) aj)) aj)))
   (ak (aR (aG nZ (aO G4 (hr.mo) T.q4.m T.q4.k T.q4.b aK (aa (pvl 1) aj)) (eU (v:=.int 40) T.zap ⟨_,rfl⟩) (aJ _))
    (aq (eN fP rfl T.zV T.zac (aa az aj)))
    aN)
   (aq (aA (pvl 1)))))),?_⟩
 refine⟨_,rfl,_,rfl,hl,_,_,rfl,rfl,_,rfl,?_⟩;unfold uh at k;refine aU (fun e=>?_) (fun e=>?_)
 . have e:(200:Int)<x.length:=qod e
   rw[qp (by omega)]at k;exact⟨by show 1<=sizeLine;decide,k H fun _ _ z=>z⟩
 have e:¬ (200:Int)<x.length:=fun z=>e (qdt z)
 rw[qnZ (by omega)]at k;obtain⟨w1,w2⟩:=wB (by omega) hc;refine⟨_,rfl,x,rfl,by omega,fun p hp=>⟨p,jb x,rfl,au,w1,w2,fun hn H1 s1=>?_,fun r hr1 v H1 s1 hv=>?_⟩⟩
 . rw[hn]at k
   exact k H1 ((aD hp).trans s1)
 . rw[hr1]at k
   refine⟨_,rfl,v,r,rfl,hv,CK hr1 w1,fun H2 s2=>?_⟩;have k:=k H2 ((aD hp).trans (s1.trans s2));refine⟨_,_,rfl,rfl,_,rfl,?_⟩;refine aU (fun e=>?_) (fun e=>?_)
   . have e:(40:Int)<r.depth:=qod e
     dsimp only at k;rw[qp (by omega)]at k;exact⟨by show 1<=sizeLine;decide,k⟩
   . have e:¬ (40:Int)<r.depth:=fun z=>e (qdt z)
     dsimp only at k;rw[qnZ (by omega)]at k;exact⟨_,rfl,k v (hv.mono s2.tups)⟩
inductive Wr:Int->Tr->List Str->Prop
 |leaf {n:Int} {x:Str} {t:Tr} (h:fW x=some t) (h1:¬ x="~") (h2:¬ x="("):Wr n t [x]
 |not {n:Int} {t:Tr} {ws:List Str} (h:Wr 5 t ws):Wr n (.not t) ("~" :: ws)
 |bra {n:Int} {t:Tr} {ws:List Str} (h:Wr 0 t ws):Wr n t ("(" :: (ws++[(")":Str)]))
 |bin {n nl nr:Int} {o:Str} {l r:Tr} {wl wr:List Str} (ho:bY o) (hn:n<=dF o) (hl:dF o<=nl/\(o=">"->dF o<nl)) (hr:dF o<=nr/\(¬ o=">"->dF o<nr)) (h1:Wr nl l wl) (h2:Wr nr r wr):Wr n (.bin (nM o) l r) (wl++o::wr)
def Free(n:Int):List Str->Prop
 |[]=>True
 |s::_=>∀ o,bY o->n<=dF o->fj s o=false
theorem Free.more{n m:Int}(h:n<=m):∀{ss:List Str},Free n ss->Free m ss
 |[],_=>trivial
 |_::_,f=>fun o ho hn=>f o ho (Int.le_trans h hn)
def Nu(n:Int)(s:Str):Prop:=s="~"\/(bY s/\n<=dF s)
theorem vm{o:Str}(h:bY o):dF o<=4:=by
 rcases h with rfl|rfl|rfl|rfl <;> decide +kernel
theorem KQ{o:Str}(h:bY o):1<=dF o:=by
 rcases h with rfl|rfl|rfl|rfl <;> decide +kernel
theorem Gs{o p:Str}(h:bY o)(h':bY p)(e:dF o=dF p):o=p:=by
 rcases h with rfl|rfl|rfl|rfl <;> rcases h' with rfl|rfl|rfl|rfl <;> first|rfl|exact absurd e (by decide +kernel)
theorem vp{s o:Str}(hs:bY s)(ho:bY o):fj s o=if s=o then !decide (o=">")else decide (dF o<dF s):=by
 unfold fj;rw[qnZ (jX hs).1,qnZ (jX hs).2]
theorem yK(o:Str):fj "~" o=true:=by
 unfold fj;rw[qnZ (by decide +kernel),qp rfl]
theorem CN(o:Str):fj "(" o=false:=by
 unfold fj;rw[qp rfl]
theorem vq{c:Str->Bool}{ts:List Tr}{s:Str}{ss:List Str}(h:¬ c s=true):aY c ts (s::ss)=(ts,s::ss):=by
 show(if c s=true then _ else _)=_;rw[qnZ h]
theorem tu{c:Str->Bool}{ts:List Tr}{s:Str}{ss:List Str}(h:c s=true):aY c ts (s::ss)=aY c (dU s ts) ss:=by
 show(if c s=true then _ else _)=_;rw[qp h]
theorem yL{o:Str}(ho:bY o){n:Int}(hn:n<=dF o){ts:List Tr}:∀{ss:List Str},Free n ss->aY (tk o) ts ss=(ts,ss)
 |[],_=>rfl
 | s::ss,f=>vq (by
  have:tk o s=false:=f o ho hn;rw[this]
  decide)
theorem yM(r:Tr)(rest:List Tr):dU "~" (r::rest) = .not r::rest:=by
 simp[dU]
theorem Gu{o:Str}(ho:bY o)(r l:Tr)(rest:List Tr):dU o (r::l::rest) = .bin (nM o) l r::rest:=by
 simp[dU,(jX ho).2]
theorem vz(u v:List Str)(s:Rd):cY (u++v) s=(cY u s).bind (cY v):=by
 induction u generalizing s with
 |nil=>rfl
 | cons y u ih =>
  simp only[List.cons_append,cY,Option.bind_assoc]
  congr 1
  funext z
  exact ih z
theorem qF {x:Str} (h:x="~"\/x="(") (ts:List Tr) (ss:List Str):bV (ts,ss,true) x=some (ts,x::ss,true):=by
 unfold bV;rw[qp rfl,qp h]
theorem CP {x:Str} {r:Tr} (h1:¬ x="~") (h2:¬ x="(") (h:fW x=some r) (ts:List Tr) (ss:List Str):bV (ts,ss,true) x=some (r::ts,ss,false):=by
 unfold bV;rw[qp rfl,qnZ (fun z=>z.elim h1 h2),h]
 rfl
theorem Jz{o:Str}(ho:bY o)(ts:List Tr)(ss:List Str):bV (ts,ss,false) o=some ((aY (tk o) ts ss).1,o::(aY (tk o) ts ss).2,true):=by
 unfold bV;have hne:¬ o=")":=by rcases ho with rfl|rfl|rfl|rfl <;> decide +kernel
 rw[qnZ qbf,qnZ hne,qp ho]
theorem yN{ts ts':List Tr}{ss ss':List Str}{x:Str}(h:aY bx ts ss=(ts',x::ss')):bV (ts,ss,false) ")"=some (ts',ss',false):=by
 unfold bV;rw[qnZ qbf,qp rfl]
 try dsimp only
 rw[h]
theorem KR{n:Int}{t:Tr}{ws:List Str}(h:Wr n t ws):∀(ts:List Tr)(ss:List Str),Free n ss ->
  ∃(ts':List Tr)(ps:List Str),cY ws (ts,ss,true)=some (ts',ps++ss,false)/\(∀ s∈ps,Nu n s)/\∀ c:Str->Bool,(∀ s∈ps,c s=true)->aY c ts' (ps++ss)=aY c (t::ts) ss:=by
 induction h with
 | leaf h h1 h2 =>
  intro ts ss _;refine⟨_,[],?_,(fun s hs=>nomatch hs),fun c _=>rfl⟩;show(bV _ _).bind _=_;rw[CP h1 h2 h]
  rfl
 | @not n t ws h ih =>
  intro ts ss _;obtain⟨ts',ps,e,hp,hc⟩:=ih ts ("~" :: ss) (fun o ho hn=>by have:=vm ho;omega);refine⟨ts',ps++[("~":Str)],?_,fun s hs=>?_,fun c hcs=>?_⟩
  . show(bV _ _).bind _=_
    rw[qF (.inl rfl)];show cY ws _=_;rw[e,List.append_assoc]
    rfl
  . rcases List.mem_append.mp hs with hs|hs
    . rcases hp s hs with h|⟨ho,h⟩
      . exact .inl h
      . have:=vm ho
        omega
    . exact .inl (List.mem_singleton.mp hs)
  . rw[List.append_assoc]
    show aY c ts' (ps++("~":Str):: ss)=_;rw[hc c fun s hs=>hcs s (qal _ hs),tu (hcs "~" (by simp)),yM]
 | @bra n t ws h ih =>
  intro ts ss _;obtain⟨ts',ps,e,hp,hc⟩:=ih ts ("(" :: ss) (fun o _ _=>CN o);refine⟨t::ts,[],?_,fun s hs=>(nomatch hs),fun c _=>rfl⟩;show(bV _ _).bind _=_;rw[qF (.inr rfl)];show cY (ws++[(")":Str)]) _=_;rw[vz,e];show(bV _ _).bind _=_
  have hf:aY bx ts' (ps++("(":Str):: ss)=(t::ts,("(":Str):: ss):=by
   rw[hc bx fun s hs=>?_]
   . exact vq (by decide +kernel)
   . rcases hp s hs with rfl|⟨ho,_⟩
     . decide +kernel
     . unfold bx
       rw[qdf (jX ho).1]
       rfl
  rw[yN hf]
  rfl
 | @bin n nl nr o l r wl wr ho hn hl hr h1 h2 ih1 ih2 =>
  intro ts ss hf;obtain⟨tsl,psl,el,hpl,hcl⟩:=ih1 ts ss (hf.more (Int.le_trans hn hl.1))
  have tkl:∀ s∈psl,tk o s=true:=fun s hs=>by
   rcases hpl s hs with rfl|⟨hs',hb⟩
   . exact yK o
   . show fj s o=true
     rw[vp hs' ho]
     by_cases e:s=o
     . rw[qp e,qdf fun z=>?_]
       . rfl
       . have:=hl.2 z
         rw[e]at hb;omega
     . rw[qnZ e]
       refine qdt ?_;have h1:=hl.1;have h2:dF s≠dF o:=fun z=>e (Gs hs' ho z)
       omega
  have fl:aY (tk o) tsl (psl++ss)=(l::ts,ss):=by rw[hcl _ tkl,yL ho hn hf]
  obtain⟨tsr,psr,er,hpr,hcr⟩:=ih2 (l::ts) (o::ss) (fun p hp hb=>by
   rw[vp ho hp]
   by_cases e:o=p
   . rw[qp e]
     by_cases e2:p=">"
     . rw[qdt e2];rfl
     . have:=hr.2 (by rw[e];exact e2)
       rw[e]at this;omega
   . rw[qnZ e]
     refine qdf ?_;have h1:=hr.1
     omega)
  refine⟨tsr,psr++[o],?_,fun s hs=>?_,fun c hcs=>?_⟩
  . rw[vz,el]
    show(bV _ _).bind _=_;rw[Jz ho,fl];show cY wr _=_;rw[er,List.append_assoc]
    rfl
  . rcases List.mem_append.mp hs with hs|hs
    . rcases hpr s hs with h|⟨h,hb⟩
      . exact .inl h
      . exact .inr ⟨h,by have:=hr.1;omega⟩
    . rw[List.mem_singleton.mp hs]
      exact .inr ⟨ho,hn⟩
  . rw[List.append_assoc]
    show aY c tsr (psr++o::ss)=_;rw[hcr c fun s hs=>hcs s (qal _ hs),tu (hcs o (by simp)),Gu ho]
theorem JB{n:Int}{t:Tr}{ws:List Str}(h:Wr n t ws):iV ws=some t:=by
 obtain⟨ts',ps,e,hp,hc⟩:=KR h [] [] trivial;unfold iV;rw[e];show pP (ts',ps++[],false)=some t
 have hf:=hc bx fun s hs=>by
  rcases hp s hs with rfl|⟨ho,_⟩
  . decide +kernel
  . unfold bx
    rw[qdf (jX ho).1]
    rfl
 unfold pP;rw[qnZ qbf]
 try dsimp only
 rw[hf]
 rfl
def flush(st:List Str×Str):List Str:=if st.2="" then st.1 else st.1++[st.2]
def cZ(cs:List Nat)(ws:List Str):Prop:=∀ acc:List Str,flush (cs.foldl di (acc,""))=acc++ws
theorem vA{x:Str}{ws:List Str}(h:cZ x.cps.toList ws):jb x=ws:=by
 unfold jb;rw[jk];have h:=h [];show(di (List.foldl di ([],"") x.cps.toList) 32).1=ws;generalize List.foldl di ([],"") x.cps.toList=st at h;unfold di;rw[qnZ (by decide),qp rfl];exact h
def isSign(c:Nat):Prop:=cO c=false/\¬ c=32
theorem jm{c:Nat}(h:isSign c)(st:List Str×Str):di st c=(flush st++[⟨#[c]⟩],("":Str)):=by
 unfold di flush;rw[qnZ (by rw[h.1];decide),qnZ h.2]
theorem oY(st:List Str×Str):di st 32=(flush st,("":Str)):=by
 unfold di flush;rw[qnZ (by decide),qp rfl]
theorem fQ(l:List Str):flush (l,"")=l:=qp rfl
theorem CQ{c:Nat}{cs:List Nat}{ws:List Str}(h:isSign c)(hs:cZ cs ws):cZ (c::cs) (⟨#[c]⟩:: ws):=fun acc=>by
 rw[List.foldl_cons,jm h,fQ,hs];simp
theorem JC{c:Nat}{cs:List Nat}{ws:List Str}(h:isSign c)(hs:cZ cs ws):cZ (cs++[c]) (ws++[⟨#[c]⟩]):=fun acc=>by
 rw[List.foldl_append,List.foldl_cons,List.foldl_nil,jm h,fQ,hs];simp
theorem xu{c:Nat}(h:isSign c):cZ [c] [⟨#[c]⟩]:=fun acc=>by
 rw[List.foldl_cons,List.foldl_nil,jm h,fQ,fQ]
theorem KY{c:Nat}{cs ds:List Nat}{ws vs:List Str}(hc:isSign c)(h:cZ cs ws)(hd:cZ ds vs):cZ (cs++c::ds) (ws++⟨#[c]⟩:: vs):=fun acc=>by
 rw[List.foldl_append,List.foldl_cons,jm hc,h,hd];simp
theorem Gv{cs:List Nat}{ws:List Str}(h:cZ cs ws):cZ (32::cs) ws:=fun acc=>by
 rw[List.foldl_cons,oY,fQ,h]
theorem CT{cs:List Nat}{ws:List Str}(h:cZ cs ws):cZ (cs++[32]) ws:=fun acc=>by
 rw[List.foldl_append,List.foldl_cons,List.foldl_nil,oY,fQ,h]
theorem nP(acc:List Str):∀(cs:List Nat)(y:Str),(∀ c∈cs,cO c=true)->cs.foldl di (acc,y)=(acc,⟨(y.cps.toList++cs).toArray⟩)
 | [],y,_=>by
  show(acc,y)=_;rw[List.append_nil]
 | c::cs,y,h=>by
  rw[List.foldl_cons]
  have e:di (acc,y) c=(acc,y++⟨#[c]⟩):=by
   unfold di;rw[qp (h c qms)]
  rw[e,nP acc cs _ fun d hd=>h d (qmm _ hd),bZ];simp
theorem JD{x:Str}(h:isName x=true):cZ x.cps.toList [x]:=fun acc=>by
 unfold isName at h;obtain⟨h1,h2⟩:=Bool.and_eq_true_iff.mp h;obtain⟨h1,_⟩:=Bool.and_eq_true_iff.mp h1;have h1:=qod h1;rw[nP acc x.cps.toList "" fun c hc=>List.all_eq_true.mp h2 c hc];have e0:("":Str).cps.toList=[]:=by decide +kernel
 have e:(⟨(("":Str).cps.toList++x.cps.toList).toArray⟩:Str)=x:=by
  rw[e0];simp
 rw[e];unfold flush;rw[qnZ fun z=>?_];have z:x="":=z;rw[z]at h1;exact absurd h1 (by decide +kernel)
theorem vB:("(":Str)=⟨#[40]⟩:=by decide +kernel
theorem xx:(")":Str)=⟨#[41]⟩:=by decide +kernel
theorem vC:("~":Str)=⟨#[126]⟩:=by decide +kernel
theorem lZ:("1":Str)=⟨#[49]⟩:=by decide +kernel
theorem jc:("0":Str)=⟨#[48]⟩:=by decide +kernel
theorem JF:(" ":Str)=⟨#[32]⟩:=by decide +kernel
theorem oH{x:Str}(h:isName x=true){c:Nat}(hc:cO c=false):¬ x=⟨#[c]⟩:=fun z=>by
 rw[z]at h;unfold isName at h;have h2:=(Bool.and_eq_true_iff.mp h).2;have:cO c=true:=List.all_eq_true.mp h2 c (by simp);rw[hc]at this;cases this
theorem CV{x:Str}(h:isName x=true):fW x=some (.nm x):=by
 unfold fW;rw[qnZ (by rw[lZ];exact oH h (by decide)),qnZ (by rw[jc];exact oH h (by decide)),qp h]
theorem jY{x:Str}(h:IsName x):isName x=true:=by
 have e:x.length=x.cps.toList.length:=Array.length_toList.symm;unfold isName;rw[qdt (show(1:Int)<=(x.length:Int)by have:=h.pos;omega),qdt (show(x.length:Int)<=8 by have:=h.le;omega)];refine List.all_eq_true.mpr fun c hc=>?_
 have:=h.ok c hc;unfold cO;rw[qdt this.1,qdt this.2]
 rfl
def jG(cs:List Nat):Str:=⟨cs.toArray⟩
theorem CW(cs:List Nat):(jG cs).cps.toList=cs:=by simp[jG]
theorem lB{x y:Str}(h:x.cps.toList=y.cps.toList):x=y:=by
 cases x;cases y;exact congrArg Str.mk (Array.toList_inj.mp h)
def cL(x:Str):Str:=jG (cH 32 x.cps.toList)
def bL(x:Str):Str:=jG ((b8 32 x.cps.toList).dropWhile (· == 32))
theorem pQ:(" ":Str)=⟨#[32]⟩:=by decide +kernel
inductive spFirst(vs:List V)(H:Hp)(Q:VK)(E:XK):Prop
 |mk (x) (_:vs=[.str x]) (_:x.length<=sizeLine) (_:∀ H',(∀ b o,H b=some o->H' b=some o)->Q (.str (cL x)) H')
inductive spBehindF(vs:List V)(H:Hp)(Q:VK)(E:XK):Prop
 |mk (x) (_:vs=[.str x]) (_:x.length<=sizeLine) (_:∀ H',(∀ b o,H b=some o->H' b=some o)->Q (.str (bL x)) H')
theorem nQ(c:Nat):∀ l:List Nat,(cH c l).length <= l.length
 |[]=>qnr _
 | d::r=>by
  have:=nQ c r;show(if d=c then []else d::cH c r).length <= r.length+1
  split
  . exact qnz _
  . show(cH c r).length+1<=_
    omega
theorem jZ(c:Nat):∀ l:List Nat,(b8 c l).length <= l.length
 |[]=>qnr _
 | d::r=>by
  have:=jZ c r;show(if d=c then r else b8 c r).length <= r.length+1
  split
  . omega
  . omega
def gm(c:Nat):Bool:=decide (48<=c) && decide (c<=57)
def fX(x:Str):Bool:=(decide (1<=(x.length:Int)) && decide ((x.length:Int)<=30)) && x.cps.toList.all gm && !(decide (x.cps.toList.head? = some 48) && !decide (x="0"))
def pR(x:Str):V:=if fX x=true then .int (fH x.cps.toList:Nat)else .non
inductive spFig(vs:List V)(H:Hp)(Q:VK)(E:XK):Prop
 |mk (c) (_:vs=[.str ⟨#[c]⟩]) (_:Q (.bl (gm c)) H)
inductive spNumIn(vs:List V)(H:Hp)(Q:VK)(E:XK):Prop
 |mk (x) (_:vs=[.str x]) (_:x.length<=sizeLine) (_:∀ H',(∀ b o,H b=some o->H' b=some o)->Q (pR x) H')
theorem le_0(c:Nat):(!decide ((⟨#[c]⟩:Str).cps.toList<(Str.ofString "0").cps.toList))=decide (48<=c):=by
 show(!decide ([c] < [48]))=_;rw[qD]
 by_cases h:48<=c
 . simp[h]
 . simp[h];omega
theorem Nv(c:Nat):(!decide ((Str.ofString "9").cps.toList<(⟨#[c]⟩:Str).cps.toList))=decide (c<=57):=by
 show(!decide ([57] < [c]))=_;rw[qD]
 by_cases h:c<=57
 . simp[h]
 . simp[h];omega
theorem scFirst:FnScope ["text"] ["text"] (aB S59):=mkS
theorem mj(T:Txt P w K mg t):FO P w K mg base 1 t.a59 t.d59 ["text"] spFirst:=by
 refine T.q59.F.ok2 scFirst (fun cdv A outer s H vs Q E hr h=>?_);obtain⟨x,rfl,hx,k⟩:=h;have nd:=scFirst.nd;refine⟨_,(aq (aA (pix aM (cu PySem.F.plainAttrs_str PySem.F.slot_str_partition PySem.F.type_str_partition jB (pvl 0) (aa az aj)) ao))),?_⟩;refine⟨_,rfl,rfl,x,_,32,rfl,rfl,pQ,hx,fun p b hp=>⟨p,_,0,_,rfl,rfl,SqT.of au,rfl,?_⟩⟩;exact k _ (fun b' o e=>by rw[aC (aH e hp)];exact e)
theorem scBehindF:FnScope ["text"] ["text"] (aB S60):=mkS
theorem my(T:Txt P w K mg t):FO P w K mg base 1 t.a60 t.d60 ["text"] spBehindF:=by
 refine T.q60.F.ok2 scBehindF (fun cdv A outer s H vs Q E hr h=>?_);obtain⟨x,rfl,hx,k⟩:=h;have nd:=scBehindF.nd;refine⟨_,(aq (aA (cu PySem.F.plainAttrs_str PySem.F.slot_str_lstrip PySem.F.type_str_lstrip yr (pix aM (cu PySem.F.plainAttrs_str PySem.F.slot_str_partition PySem.F.type_str_partition jB (pvl 0) (aa az aj)) ao) (aa az aj)))),?_⟩;refine⟨_,rfl,rfl,x,_,32,rfl,rfl,pQ,hx,fun p b hp=>⟨p,_,2,_,rfl,rfl,SqT.of au,rfl,rfl,_,_,rfl,rfl,?_,?_⟩⟩
 . have h1:=jZ 32 x.cps.toList
   have h2:x.length=x.cps.toList.length:=Array.length_toList.symm;show(b8 32 x.cps.toList).toArray.size<=sizeLine;rw[List.size_toArray];omega
 . have e:Txt.lstripChars ⟨(b8 32 x.cps.toList).toArray⟩ " "=bL x:=by
    refine lB ?_;rw[pQ,Ew];unfold bL;rw[CW]
   rw[e];exact k _ (fun b' o e=>by rw[aC (aH e hp)];exact e)
theorem scFig:FnScope ["sign"] ["sign"] (aB S61):=mkS
theorem KZ(T:Txt P w K mg t):FO P w K mg base 1 t.a61 t.d61 ["sign"] spFig:=by
 refine T.q61.F.ok2 scFig (fun cdv A outer s H vs Q E hr h=>?_);obtain⟨c,rfl,k⟩:=h;have nd:=scFig.nd;refine⟨_,(aq (aA (pq jQ jQ az (pvl 0) az))),?_⟩;refine⟨_,rfl,_,_,rfl,rfl,_,rfl,?_⟩;rw[le_0];unfold gm at k;cases h:decide (48<=c)with
 | false =>
  rw[h]at k;rw[qnZ qbf];exact k
 | true =>
  rw[h]at k;rw[qp rfl];refine⟨_,_,rfl,rfl,?_⟩;rw[Nv];exact k
theorem aX{H:Hp}{p:Addr}{o:HO}(hp:H p=none):∀ b u,H b=some u->(upd H p o) b=some u:=fun b u q=>by
 rw[aC (fun z=>by rw[z,hp]at q;cases q)];exact q
def ik(x:Str):V:=if fX x=true then(if fH x.cps.toList=0 then .non else .int (fH x.cps.toList:Nat))else .non
def Nx:V->V
 | .int i=>.int (-i)
 |v=>v
def j4(x:Str):V:=if Txt.startswith x "-"=true then Nx (ik (dq x (some 1) none))else pR x
inductive spNum0(vs:List V)(H:Hp)(Q:VK)(E:XK):Prop
 |mk (x) (_:vs=[.str x]) (_:x.length<=sizeLine) (_:∀ H',(∀ b o,H b=some o->H' b=some o)->Q (ik x) H')
inductive spLeanIn(vs:List V)(H:Hp)(Q:VK)(E:XK):Prop
 |mk (x) (_:vs=[.str x]) (_:x.length<=sizeLine) (_:∀ H',(∀ b o,H b=some o->H' b=some o)->Q (j4 x) H')
theorem scNumIn:FnScope ["word"] ["word"] (aB S62):=mkS
theorem vD(T:Txt P w K mg t):FO P w K mg base 2 t.a62 t.d62 ["word"] spNumIn:=by
 have G61:=KZ (base:=base) T;refine T.q62.F.ok2 scNumIn (fun cdv A outer s H vs Q E hr h=>?_);obtain⟨x,rfl,hx,k⟩:=h;have nd:=scNumIn.nd
 refine⟨_,(ak (aR (PW.pt (dB (cV (uy nY nY ao (bf jy T.ze Bt.len (aa (pvl 0) aj)) (eU (v:=.int 30) T.zau ⟨_,rfl⟩))) (dZ (cV (b7 (bf (mZ rfl) T.zK Bt.all (aa (dg rfl ["sign"] [none] (uR (pvl 0)) (by kernel_rfl) (fun _ _ _ _ _ _=>(pgl 0 (ndS (l:=["sign"])))) (fun _ _ _ _ _ _=>dG) (fun _ _ _ _ _ _=>(aO G61 (hr.mo) T.q61.m T.q61.k T.q61.b aK (aa (pvl 0) aj)))) aj)))))))
    (aq (aA bH))
    aN)
   (ak (aR (PW.pt (fY (aG aW (pix mV (pvl 0) ao) az (aJ _)) (eX (aG gh (pvl 0) az (aJ _)))))
    (aq (aA bH))
    aN)
   (aq (aA (fc BL T.zD Bt.int (aa (pvl 0) aj)))))),?_⟩
 have hxl:x.length=x.cps.toList.length:=Array.length_toList.symm
 have fin:∀ H',(∀ b o,H b=some o->H' b=some o)->fX x=false->Q .non H':=fun H' s' e=>by
  have:=k H' s';unfold pR at this;rw[e,qnZ qbf]at this;exact this
 have sid:∀ b o,H b=some o->H b=some o:=fun _ _ z=>z
 refine⟨_,rfl,_,rfl,hx,_,_,rfl,rfl,_,rfl,?_⟩;refine aU (fun e1=>?_) (fun e1=>⟨_,rfl,bO (fin H sid (by simp at e1;simp[fX];omega))⟩);have e1:=qod e1;refine⟨_,_,rfl,rfl,_,rfl,?_⟩;cases e2:decide ((x.length:Int)<=30)with
 |false=>exact bO (fin H sid (by simp at e2;simp[fX];omega))
 |true =>
 refine bj ?_;refine⟨_,rfl,x,rfl,m6 (fun c=>.bl (gm c)) hx (fun c R _ hR=>⟨True.intro,_,rfl,c,rfl,hR⟩) fun p hp=>?_⟩;have s1:=aX (o:=.lst (x.cps.toList.map fun c=>V.bl (gm c))) hp;refine⟨p,x.cps.toList.map gm,rfl,?_,?_⟩
 . refine SqL.of ?_
   rw[au,List.map_map];rfl
 generalize upd H p (.lst (x.cps.toList.map fun c=>V.bl (gm c)))=H1 at s1 ⊢;have eall:(x.cps.toList.map gm).all id=x.cps.toList.all gm:=by simp
 rw[eall];cases e3:x.cps.toList.all gm with
 |false=>exact⟨_,rfl,bO (fin H1 s1 (by simp only[fX,e3];simp))⟩
 |true =>
 refine⟨_,rfl,bj ?_⟩;have e2':=qod e2
 obtain⟨c0,r,hc⟩:∃ c0 r,x.cps.toList=c0::r:=by
  cases h:x.cps.toList with
  |nil=>rw[h]at hxl;have:x.length=0:=hxl;omega
  |cons a b=>exact⟨a,b,rfl⟩
 have hfig:∀ c∈c0::r,48<=c/\c<=57:=fun c hc'=>by
  have:=List.all_eq_true.mp e3 c (by rw[hc];exact hc');unfold gm at this
  simpa using this
 have hat:x.cps[0]? = some c0:=by rw[<- Array.getElem?_toList,hc];rfl
 have e48:("0":Str)=⟨#[48]⟩:=by decide +kernel
 have done:(49<=c0/\c0<=57\/c0=48/\r=[])->fX x=true->Q (.int (fH (c0::r):Nat)) H1:=fun _ e=>by
  have:=k H1 s1;unfold pR at this;rw[e,qp rfl,hc]at this;exact this
 have hr600:r.length<600:=by
  rw[hc]at hxl;have:x.length=r.length+1:=hxl;omega
 have isn:fX x = !(decide (c0=48) && !decide (x="0")):=by
  unfold fX;rw[qdt e1,qdt e2',e3,hc];simp
 have hat:atI x.cps.toList 0=some c0:=cM (j:=0) (by rw[hc];rfl)
 have eq0:decide (V.str ⟨#[c0]⟩=V.str ("0":Str))=decide (c0=48):=by
  by_cases e:c0=48
  . rw[qdt e,qdt (by rw[e48,e])]
  . rw[qdf e,qdf (fun z=>e (by
     have h:=V.str.inj z;rw[e48]at h;have h2:=congrArg (fun y:Str=>y.cps.toList) h
     exact(List.cons.inj h2).1))]
 have eqx:decide (V.str x=V.str ("0":Str))=decide (x="0"):=by
  by_cases e:x="0"
  . rw[qdt e,qdt (by rw[e])]
  . rw[qdf e,qdf (fun z=>e (V.str.inj z))]
 have hlast:fX x=true->∃(x':Str)(c0':Nat)(r':List Nat),[V.str x]=[V.str x']/\x'.cps.toList=c0'::r'/\(49<=c0'/\c0'<=57\/c0'=48/\r'=[])/\(∀ c∈r',48<=c/\c<=57)/\r'.length<600/\Q (.int (fH (c0'::r'):Nat)) H1:=fun e=>by
  have h0:=hfig c0 qms
  have hor:49<=c0/\c0<=57\/c0=48/\r=[]:=by
   by_cases e4:c0=48
   . refine .inr ⟨e4,?_⟩
     rw[isn,qdt e4]at e;have e5:x="0":=by simpa using e
     rw[e5,e48]at hc;have hc:[48]=c0::r:=hc;exact(List.cons.inj hc).2.symm
   . exact .inl (by omega)
  exact⟨x,c0,r,rfl,hc,hor,fun c hc'=>hfig c (qmm _ hc'),hr600,done hor e⟩
 refine⟨_,rfl,x,0,c0,rfl,rfl,hx,hat,rfl,_,rfl,?_⟩;rw[eq0];cases e4:decide (c0=48)with
 |false=>exact bj (bj ⟨_,rfl,hlast (by rw[isn,e4];rfl)⟩)
 | true =>
  refine bO ⟨_,rfl,rfl,_,rfl,?_⟩;rw[eqx];cases e5:decide (x="0")with
  |true=>exact bj ⟨_,rfl,hlast (by rw[isn,e4,e5];rfl)⟩
  |false=>exact bO (fin H1 s1 (by rw[isn,e4,e5];rfl))
theorem scNum0:FnScope ["word","number"] ["word"] (aB S63):=mkS
theorem xF(T:Txt P w K mg t):FO P w K mg base 3 t.a63 t.d63 ["word"] spNum0:=by
 have G62:=vD (base:=base) T;refine T.q63.F.ok2 scNum0 (fun cdv A outer s H vs Q E hr h=>?_);obtain⟨x,rfl,hx,k⟩:=h;have nd:=scNum0.nd
 refine⟨_,(ak (psl 1 nd (aO G62 (hr.mo) T.q62.m T.q62.k T.q62.b aK (aa (pvl 0) aj)))
   (aq (aA (eF (aG aW (pvl 1) ao (aJ _)) bH (pvl 1))))),?_⟩
 refine⟨_,rfl,x,rfl,hx,fun H1 s1=>?_⟩;have k1:=k H1 s1;unfold ik at k1;unfold pR;cases h:fX x with
 | false =>
  rw[h,qnZ qbf]at k1;rw[qnZ qbf];exact⟨_,rfl,rfl,_,rfl,aU (fun z=>k1) (fun _=>⟨_,rfl,k1⟩)⟩
 | true =>
  rw[h,qp rfl]at k1;rw[qp rfl];refine⟨_,rfl,rfl,_,rfl,aU (fun z=>?_) (fun z=>?_)⟩
  . have z:=V.int.inj (qod z)
    rw[qp (by omega)]at k1;exact k1
  . have z:¬ fH x.cps.toList=0:=fun e=>z (qdt (by rw[e];rfl))
    rw[qnZ z]at k1;exact⟨_,rfl,k1⟩
theorem scLeanIn:FnScope ["word","number"] ["word"] (aB S64):=mkS
theorem CZ(T:Txt P w K mg t):FO P w K mg base 4 t.a64 t.d64 ["word"] spLeanIn:=by
 have G62:=vD (base:=base) T;have G63:=xF (base:=base) T;refine T.q64.F.ok2 scLeanIn (fun cdv A outer s H vs Q E hr h=>?_);obtain⟨x,rfl,hx,k⟩:=h;have nd:=scLeanIn.nd
 refine⟨_,(ak (aR (cV (b7 (cu PySem.F.plainAttrs_str PySem.F.slot_str_startswith PySem.F.type_str_startswith tX (pvl 0) (aa az aj))))
    (aq (aA (aO G62 (hr.mo) T.q62.m T.q62.k T.q62.b aK (aa (pvl 0) aj))))
    aN)
   (ak (psl 1 nd (aO G63 (hr.mo) T.q63.m T.q63.k T.q63.b aK (aa (gC uL (pvl 0) (gO ao) jo) aj)))
   (aq (aA (eF (aG gq (pvl 1) bH (aJ _)) bH (lH jx (pvl 1))))))),?_⟩
 refine⟨_,rfl,rfl,x,_,rfl,rfl,_,rfl,?_⟩;unfold j4 at k;cases h:Txt.startswith x "-" with
 | false =>
  rw[h,qnZ qbf]at k;exact bO ⟨_,rfl,x,rfl,hx,k⟩
 | true =>
  rw[h,qp rfl]at k;refine bj ?_;refine⟨_,rfl,_,rfl,x,rfl,hx,dq x (some 1) none,rfl,qnt (wR x _ _) hx,fun H1 s1=>?_⟩;have k1:=k H1 s1;unfold ik at k1 ⊢;cases h2:fX (dq x (some 1) none)with
  | false =>
   rw[h2,qnZ qbf]at k1;rw[qnZ qbf];exact⟨_,rfl,rfl,_,rfl,aU (fun _=>k1) (fun z=>absurd (qdt rfl) z)⟩
  | true =>
   rw[h2,qp rfl]at k1;rw[qp rfl]
   by_cases h3:fH (dq x (some 1) none).cps.toList=0
   . rw[qp h3]at k1 ⊢
     exact⟨_,rfl,rfl,_,rfl,aU (fun _=>k1) (fun z=>absurd (qdt rfl) z)⟩
   . rw[qnZ h3]at k1 ⊢
     exact⟨_,rfl,rfl,_,rfl,aU (fun z=>absurd (qod z) (by intro z;cases z)) (fun _=>⟨_,rfl,_,rfl,k1⟩)⟩
def fK:Nat:=1000000
theorem iM:fK+10<=sizeLine:=by decide
def Dc(H:Hp)(v pay:V)(ts:List Str):Prop:=∃ q l,v = .ref q/\H q=some (.tup [pay,.ref l])/\H l=some (.lst (ts.map V.str))
def HJ(H:Hp)(v:V):Option (V×List Str)->Prop
 |none=>v = .non
 |some (pay,ts)=>Dc H v pay ts
def spF(f:Str->Option (V×List Str)):Sp:=fun vs H Q _=>∃ x,vs=[.str x]/\x.length<=fK/\∀ r H',(∀ b o,H b=some o->H' b=some o)->HJ H' r (f x)->Q r H'
def yO(v:V)(ts:List Str):Option (V×List Str):=if v = .non then none else some (v,ts)
def um(x:Str):Option (V×List Str):=some (.non,[x])
def yP(x:Str):Option (V×List Str):=if x="" then some (.non,[])else none
def yQ(x:Str):Option (V×List Str):=if isName x=true then some (.str x,[])else none
def qG(x:Str):Option (V×List Str):=yO (ik (cL x)) [bL x]
def qH(x:Str):Option (V×List Str):=yO (j4 (cL x)) [bL x]
inductive spNumbered(vs:List V)(H:Hp)(Q:VK)(E:XK):Prop
 |mk (v x) (_:vs=[v,.str x]) (_:(v = .non \/ ∃ i,v = .int i)) (_:x.length<=fK) (_:∀ r H',(∀ b o,H b=some o->H' b=some o)->HJ H' r (yO v [bL x])->Q r H')
theorem bD{H H1 H2:Hp}(s:∀ b o,H b=some o->H1 b=some o)(s':∀ b o,H1 b=some o->H2 b=some o):∀ b o,H b=some o->H2 b=some o:=fun b o e=>s' b o (s b o e)
theorem tD(x:Str):(cL x).length <= x.length:=by
 have h1:=nQ 32 x.cps.toList;have h2:x.length=x.cps.toList.length:=Array.length_toList.symm;show(cH 32 x.cps.toList).toArray.size<=_;rw[List.size_toArray];omega
theorem tE(x:Str):ik x = .non \/ ∃ i,ik x = .int i:=by
 unfold ik
 split
 . split
   . exact .inl rfl
   . exact .inr ⟨_,rfl⟩
 . exact .inl rfl
theorem Dd(x:Str):j4 x = .non \/ ∃ i,j4 x = .int i:=by
 unfold j4
 split
 . rcases tE (dq x (some 1) none)with e|⟨i,e⟩
   . rw[e];exact .inl rfl
   . rw[e];exact .inr ⟨_,rfl⟩
 . unfold pR
   split
   . exact .inr ⟨_,rfl⟩
   . exact .inl rfl
theorem scSentF:FnScope ["text"] ["text"] (aB S69):=mkS
theorem vG(T:Txt P w K mg t):FO P w K mg base 1 t.a69 t.d69 ["text"] (spF um):=by
 refine T.q69.F.ok1 scSentF (fun vs H Q E h=>by obtain⟨x,rfl,_⟩:=h;rfl) (fun cdv A outer s H vs Q E hr h=>?_);obtain⟨x,rfl,hx,k⟩:=h;have nd:=scSentF.nd;refine⟨_,(aq (aA (bh (aa bH (aa (bC (aa (pvl 0) aj)) aj))))),?_⟩;refine⟨_,rfl,(by show 1<=sizeLine;decide),fun l hl=>⟨(by show 2<=sizeLine;decide),fun q hq=>?_⟩⟩;exact k _ _ (bD (aX hl) (aX hq)) ⟨q,l,rfl,au,aX hq _ _ au⟩
theorem scBareF:FnScope ["text"] ["text"] (aB S73):=mkS
theorem pU(T:Txt P w K mg t):FO P w K mg base 1 t.a73 t.d73 ["text"] (spF yP):=by
 refine T.q73.F.ok1 scBareF (fun vs H Q E h=>by obtain⟨x,rfl,_⟩:=h;rfl) (fun cdv A outer s H vs Q E hr h=>?_);obtain⟨x,rfl,hx,k⟩:=h;have nd:=scBareF.nd;refine⟨_,(aq (aA (eF (aG aW (pvl 0) az (aJ _)) (bh (aa bH (aa (bC aj) aj))) bH))),?_⟩;unfold yP at k;refine⟨_,rfl,rfl,_,rfl,aU (fun z=>?_) (fun z=>?_)⟩
 . rw[qp (V.str.inj (qod z))]at k
   refine⟨(by show 0<=sizeLine;decide),fun l hl=>⟨(by show 2<=sizeLine;decide),fun q hq=>?_⟩⟩;exact k _ _ (bD (aX hl) (aX hq)) ⟨q,l,rfl,au,aX hq _ _ au⟩
 . rw[qnZ (fun e=>z (qdt (by rw[e])))]at k
   exact k _ _ (fun _ _ e=>e) rfl
theorem scKeepF:FnScope ["text"] ["text"] (aB S71):=mkS
theorem Gw(T:Txt P w K mg t):FO P w K mg base 3 t.a71 t.d71 ["text"] (spF yQ):=by
 have G1:=nJ (base:=base) T;refine T.q71.F.ok1 scKeepF (fun vs H Q E h=>by obtain⟨x,rfl,_⟩:=h;rfl) (fun cdv A outer s H vs Q E hr h=>?_);obtain⟨x,rfl,hx,k⟩:=h;have nd:=scKeepF.nd;refine⟨_,(aq (aA (eF (b7 (aO G1 (hr.mo) T.q1.m T.q1.k T.q1.b aK (aa (pvl 0) aj))) (bh (aa (pvl 0) (aa (bC aj) aj))) bH))),?_⟩;unfold yQ at k;refine⟨_,rfl,x,rfl,qnt hx (by decide),fun H1 s1=>⟨_,rfl,?_⟩⟩;cases h:isName x with
 | true =>
  rw[h,qp rfl]at k;refine bO ⟨_,rfl,(by show 0<=sizeLine;decide),fun l hl=>⟨(by show 2<=sizeLine;decide),fun q hq=>?_⟩⟩;exact k _ _ (bD s1 (bD (aX hl) (aX hq))) ⟨q,l,rfl,au,aX hq _ _ au⟩
 | false =>
  rw[h,qnZ qbf]at k;exact bj (k _ _ s1 rfl)
theorem scNumbered:FnScope ["number","text"] ["number","text"] (aB S66):=mkS
theorem oZ(T:Txt P w K mg t):FO P w K mg base 2 t.a66 t.d66 ["number","text"] spNumbered:=by
 have G60:=my (base:=base) T;refine T.q66.F.ok2 scNumbered (fun cdv A outer s H vs Q E hr h=>?_);obtain⟨v,x,rfl,hv,hx,k⟩:=h;have nd:=scNumbered.nd;refine⟨_,(aq (aA (eF (aG gq (pvl 0) bH (aJ _)) bH (bh (aa (pvl 0) (aa (bC (aa (aO G60 (hr.mo) T.q60.m T.q60.k T.q60.b aK (aa (pvl 1) aj)) aj)) aj)))))),?_⟩;unfold yO at k;rcases hv with rfl|⟨i,rfl⟩
 . rw[qp rfl]at k
   exact⟨_,rfl,rfl,_,rfl,aU (fun _=>k _ _ (fun _ _ e=>e) rfl) (fun z=>absurd (qdt rfl) z)⟩
 . rw[qnZ (by intro z;cases z)]at k
   refine⟨_,rfl,rfl,_,rfl,aU (fun z=>absurd (qod z) (by intro z;cases z)) (fun _=>?_)⟩;refine⟨_,rfl,_,rfl,x,rfl,qnt hx (by decide),fun H1 s1=>⟨(by show 1<=sizeLine;decide),fun l hl=>⟨(by show 2<=sizeLine;decide),fun q hq=>?_⟩⟩⟩;exact k _ _ (bD s1 (bD (aX hl) (aX hq))) ⟨q,l,rfl,au,aX hq _ _ au⟩
theorem scTakeF:FnScope ["text"] ["text"] (aB S67):=mkS
theorem Gx(T:Txt P w K mg t):FO P w K mg base 4 t.a67 t.d67 ["text"] (spF qG):=by
 have G63:=xF (base:=base) T;have G59:=mj (base:=base) T;have G66:=oZ (base:=base) T;refine T.q67.F.ok1 scTakeF (fun vs H Q E h=>by obtain⟨x,rfl,_⟩:=h;rfl) (fun cdv A outer s H vs Q E hr h=>?_);obtain⟨x,rfl,hx,k⟩:=h;have nd:=scTakeF.nd;refine⟨_,(aq (aA (aO G66 (hr.mo) T.q66.m T.q66.k T.q66.b aK (aa (aO G63 (hr.mo) T.q63.m T.q63.k T.q63.b aK (aa (aO G59 (hr.mo) T.q59.m T.q59.k T.q59.b aK (aa (pvl 0) aj)) aj)) (aa (pvl 0) aj))))),?_⟩;have hfl:=tD x;refine⟨_,rfl,x,rfl,qnt hx (by decide),fun H1 s1=>⟨cL x,rfl,qnt hfl (qnt hx (by decide)),fun H2 s2=>?_⟩⟩;exact⟨_,rfl,_,x,rfl,tE _,hx,fun r H3 s3 hr'=>k r H3 (bD s1 (bD s2 s3)) hr'⟩
theorem scLeanF:FnScope ["text"] ["text"] (aB S68):=mkS
theorem Gy(T:Txt P w K mg t):FO P w K mg base 5 t.a68 t.d68 ["text"] (spF qH):=by
 have G64:=CZ (base:=base) T;have G59:=mj (base:=base) T;have G66:=oZ (base:=base) T;refine T.q68.F.ok1 scLeanF (fun vs H Q E h=>by obtain⟨x,rfl,_⟩:=h;rfl) (fun cdv A outer s H vs Q E hr h=>?_);obtain⟨x,rfl,hx,k⟩:=h;have nd:=scLeanF.nd;refine⟨_,(aq (aA (aO G66 (hr.mo) T.q66.m T.q66.k T.q66.b aK (aa (aO G64 (hr.mo) T.q64.m T.q64.k T.q64.b aK (aa (aO G59 (hr.mo) T.q59.m T.q59.k T.q59.b aK (aa (pvl 0) aj)) aj)) (aa (pvl 0) aj))))),?_⟩;have hfl:=tD x;refine⟨_,rfl,x,rfl,qnt hx (by decide),fun H1 s1=>⟨cL x,rfl,qnt hfl (qnt hx (by decide)),fun H2 s2=>?_⟩⟩;exact⟨_,rfl,_,x,rfl,Dd _,hx,fun r H3 s3 hr'=>k r H3 (bD s1 (bD s2 s3)) hr'⟩
def c7(x:Str):List Str:=(Txt.split x " ").filter fun(w:Str)=>!decide (w="")
inductive spWordsIn(vs:List V)(H:Hp)(Q:VK)(E:XK):Prop
 |mk (x) (_:vs=[.str x]) (_:x.length<=fK) (_:∀ p H',(∀ b o,H b=some o->H' b=some o)->H' p=some (.lst ((c7 x).map V.str))->Q (.ref p) H')
def jH(x:Str):Str:=Txt.stripChars x " "
def yR(x:Str):Option (V×List Str):=if Txt.contains x ":"=true then some (.non,[jH (jG (cH 58 x.cps.toList)),jH (jG (b8 58 x.cps.toList))])else none
theorem Mu:(":":Str)=⟨#[58]⟩:=by decide +kernel
def fu(ns:List Str):Bool:=(decide (1<=(ns.length:Int)) && decide ((ns.length:Int)<=8)) && ns.all fun n=>isName n && decide ((ns.map V.str).countP (fun z=>eqV z (.str n))=1)
inductive spNamesF(vs:List V)(H:Hp)(Q:VK)(E:XK):Prop
 |mk (x) (_:vs=[.str x]) (_:x.length<=fK) (_:∀ r H',(∀ b o,H b=some o->H' b=some o)->(if fu (c7 x)=true then ∃ p,Dc H' r (.ref p) []/\H' p=some (.tup ((c7 x).map V.str))else r = .non)->Q r H')
theorem scWordsIn:FnScope ["text"] ["text"] (aB S58):=mkS
theorem yS(T:Txt P w K mg t):FO P w K mg base 1 t.a58 t.d58 ["text"] spWordsIn:=by
 refine T.q58.F.ok2 scWordsIn (fun cdv A outer s H vs Q E hr h=>?_);obtain⟨x,rfl,hx,k⟩:=h;have nd:=scWordsIn.nd;refine⟨_,(aq (aA (dg rfl ["word"] [none] (dX (cu PySem.F.plainAttrs_str PySem.F.slot_str_split PySem.F.type_str_split uW (pvl 0) (aa az aj))) (by kernel_rfl) (fun _ _ _ _ _ _=>(pgl 0 (ndS (l:=["word"])))) (fun _ _ _ _ _ _=>iD (aG gh (pvl 0) az (aJ _))) (fun _ _ _ _ _ _=>(pvl 0))))),?_⟩;have hm:=iM;have hsl:=PyProof.Rows.split_le x " ";refine⟨_,rfl,rfl,x,_,rfl,rfl,(by rw[pQ];decide),by omega,by omega,fun p hp=>?_⟩;have s1:=aX (o:=.lst ((Txt.split x " ").map V.str)) hp;have hp1:(upd H p (.lst ((Txt.split x " ").map V.str))) p=some (.lst ((Txt.split x " ").map V.str)):=au;generalize upd H p (.lst ((Txt.split x " ").map V.str))=H1 at s1 hp1 ⊢;refine⟨p,rfl,⟨_,SqL.of hp1⟩,?_⟩
 refine gR (K:=K) (a:=p) (xs:=(Txt.split x " ").map V.str) (fun i ys H'=>H'=H1/\ys=(((Txt.split x " ").take i).filter fun(w:Str)=>!decide (w="")).map V.str) ⟨rfl,rfl⟩ (by rw[qlm];omega) (fun i ys H' ⟨_,e⟩=>by
  rw[e,qlm];have:=List.length_filter_le (fun w:Str=>!decide (w="")) ((Txt.split x " ").take i);rw[List.length_take]at this
  omega) (fun i ys H' ⟨e,_⟩=>by subst e;exact SqL.of hp1) ?_ ?_
 . rintro i z ys H' hi ⟨e,rfl⟩
   subst e;rw[qgm]at hi
   obtain⟨c,hc,rfl⟩:∃ c,(Txt.split x " ")[i]? = some c/\z=V.str c:=by
    cases q:(Txt.split x " ")[i]? with
    |none=>rw[q]at hi;cases hi
    |some c=>rw[q]at hi;exact⟨c,rfl,(qsi hi).symm⟩
   have et:(((Txt.split x " ").take (i+1)).filter fun(w:Str)=>!decide (w=""))=(((Txt.split x " ").take i).filter fun(w:Str)=>!decide (w=""))++(if c="" then []else [c]):=by
    rw[qta,hc,List.filter_append]
    congr 1
    show List.filter _ [c]=_
    by_cases h:c=""
    . rw[qp h,List.filter_cons_of_neg (by rw[qdt h];decide)]
      rfl
    . rw[qnZ h,List.filter_cons_of_pos (by rw[qdf h];rfl)]
      rfl
   refine⟨trivial,_,rfl,rfl,_,rfl,aU (fun z=>?_) (fun z=>?_)⟩
   . have z:¬ c="":=fun e=>by rw[e,qdt rfl]at z;cases z
     refine⟨_,rfl,rfl,?_⟩;rw[et,qnZ z,List.map_append]
     rfl
   . have z:c="":=Classical.byContradiction fun e=>z (by rw[qdf (fun q=>e (V.str.inj q))];rfl)
     refine⟨rfl,?_⟩;rw[et,qp z,List.append_nil]
 rintro ys H' ⟨e,rfl⟩;subst e;show ∀ l,H' l=none->_;rw[qlm,List.take_length];intro l hl;exact k l _ (bD s1 (aX hl)) au
theorem scLostF:FnScope ["text","parts"] ["text"] (aB S70):=mkS
theorem Gz(T:Txt P w K mg t):FO P w K mg base 1 t.a70 t.d70 ["text"] (spF yR):=by
 refine T.q70.F.ok1 scLostF (fun vs H Q E h=>by obtain⟨x,rfl,_⟩:=h;rfl) (fun cdv A outer s H vs Q E hr h=>?_);obtain⟨x,rfl,hx,k⟩:=h;have nd:=scLostF.nd
 refine⟨_,(ak (aR (aG vZ az (pvl 0) (by with_unfolding_all rfl))
    (aq (aA bH))
    aN)
   (ak (psl 1 nd (cu PySem.F.plainAttrs_str PySem.F.slot_str_partition PySem.F.type_str_partition jB (pvl 0) (aa az aj)))
   (aq (aA (bh (aa bH (aa (bC (aa (cu PySem.F.plainAttrs_str PySem.F.slot_str_strip PySem.F.type_str_strip ni (pix aM (pvl 1) ao) (aa az aj)) (aa (cu PySem.F.plainAttrs_str PySem.F.slot_str_strip PySem.F.type_str_strip ni (pix aM (pvl 1) ao) (aa az aj)) aj))) aj))))))),?_⟩
 have hm:=iM;have hxl:x.length=x.cps.toList.length:=Array.length_toList.symm;unfold yR at k;refine⟨_,rfl,_,_,rfl,rfl,_,rfl,?_⟩;cases h:Txt.contains x ":" with
 | false =>
  rw[h,qnZ qbf]at k;exact bO (k _ _ (fun _ _ e=>e) rfl)
 | true =>
  rw[h,qp rfl]at k;refine bj ?_;refine⟨_,rfl,rfl,x,_,58,rfl,rfl,Mu,by omega,fun p b hp=>?_⟩;have s1:=aX (o:=.tup [.str ⟨(cH 58 x.cps.toList).toArray⟩,.str b,.str ⟨(b8 58 x.cps.toList).toArray⟩]) hp;have hp1:(upd H p (.tup [.str ⟨(cH 58 x.cps.toList).toArray⟩,.str b,.str ⟨(b8 58 x.cps.toList).toArray⟩])) p=some (.tup [.str (jG (cH 58 x.cps.toList)),.str b,.str (jG (b8 58 x.cps.toList))]):=au;generalize upd H p (.tup [.str ⟨(cH 58 x.cps.toList).toArray⟩,.str b,.str ⟨(b8 58 x.cps.toList).toArray⟩])=H1 at s1 hp1 ⊢
  have hA:(jG (cH 58 x.cps.toList)).length <= sizeLine:=by
   have:=nQ 58 x.cps.toList;show(cH 58 x.cps.toList).toArray.size<=_;rw[List.size_toArray];omega
  have hB:(jG (b8 58 x.cps.toList)).length <= sizeLine:=by
   have:=jZ 58 x.cps.toList;show(b8 58 x.cps.toList).toArray.size<=_;rw[List.size_toArray];omega
  refine⟨_,rfl,p,_,0,_,rfl,rfl,SqT.of hp1,rfl,rfl,_,_,rfl,rfl,hA,_,rfl,p,_,2,_,rfl,rfl,SqT.of hp1,rfl,rfl,_,_,rfl,rfl,hB,(by show 2<=sizeLine;decide),fun l hl=>⟨(by show 2<=sizeLine;decide),fun q hq=>?_⟩⟩;exact k _ _ (bD s1 (bD (aX hl) (aX hq))) ⟨q,l,rfl,au,aX hq _ _ au⟩
theorem wC{x n:Str}(h:n∈c7 x):n.length<=x.length:=PyProof.Rows.part_short (List.mem_filter.mp h).1
theorem yU(x:Str):(c7 x).length <= x.length+2:=qnt (List.length_filter_le _ _) (PyProof.Rows.split_le x " ")
theorem yV(ns:List Str):(ns.map V.str).all eQ=true:=by
 rw[List.all_eq_true];intro v hv;obtain⟨n,_,rfl⟩:=List.mem_map.mp hv
 rfl
theorem scNamesF:FnScope ["text","names"] ["text"] (aB S65):=mkS
theorem De(T:Txt P w K mg t):FO P w K mg base 3 t.a65 t.d65 ["text"] spNamesF:=by
 have G58:=yS (base:=base) T;have G1:=nJ (base:=base) T;refine T.q65.F.ok2 scNamesF (fun cdv A outer s H vs Q E hr h=>?_);obtain⟨x,rfl,hx,k⟩:=h;have nd:=scNamesF.nd
 refine⟨_,(ak (psc 1 nd (aO G58 (hr.mo) T.q58.m T.q58.k T.q58.b aK (aa (pvl 0) aj)))
   (ak (aR (cV (uy nY nY ao (bf aZ T.ze Bt.len (aa (pvc 1) aj)) (eU (v:=.int 8) T.zav ⟨_,rfl⟩)))
    (aq (aA bH))
    aN)
   (ak (aR (cV (b7 (bf (mZ rfl) T.zK Bt.all (aa (dg rfl ["name","names"] [none,some 1] (dX (pvc 1)) (by kernel_rfl) (fun _ _ _ _ _ _=>(pgl 0 (ndS (l:=["name","names"])))) (fun _ _ _ _ _ _=>dG) (fun _ _ _ _ _ _=>(kJ (aO G1 (hr.mo) T.q1.m T.q1.k T.q1.b aK (aa (pvl 0) aj)) (jt (dY aW (Bg (K:=K) rfl PySem.F.plainAttrs_list PySem.F.slot_list_count PySem.F.type_list_count (BR (K:=K)) (pvc 1) (aa (pvl 0) aj)) ao (aJ _)))))) aj))))
    (aq (aA bH))
    aN)
   (aq (aA (bh (aa (fc dm T.zm Bt.tuple (aa (pvc 1) aj)) (aa (bC aj) aj)))))))),?_⟩
 have hm:=iM;refine⟨_,rfl,x,rfl,hx,fun p H1 s1 hp1=>?_⟩;have hns:∀ n∈c7 x,n.length<=sizeLine:=fun n hn=>by have:=wC hn;omega
 have hnl:=yU x;generalize c7 x=ns at hp1 hns hnl k;have fin:∀ H',(∀ b o,H b=some o->H' b=some o)->fu ns=false->Q .non H':=fun H' s' e=>k _ _ s' (by rw[e,qnZ qbf])
 refine⟨_,rfl,p,_,rfl,.inl (SqL.of hp1),_,_,rfl,rfl,_,rfl,?_⟩;rw[qlm];refine aU (fun e1=>?_) (fun e1=>⟨_,rfl,bO (fin H1 s1 (by simp at e1;simp[fu];omega))⟩);have e1:=qod e1;refine⟨_,_,rfl,rfl,_,rfl,?_⟩;cases e2:decide ((ns.length:Int)<=8)with
 |false=>exact bO (fin H1 s1 (by simp at e2;simp[fu];omega))
 |true =>
 refine bj ?_;refine⟨_,rfl,p,rfl,⟨_,SqL.of hp1⟩,?_⟩;refine gR (K:=K) (a:=p) (xs:=ns.map V.str) (fun i ys H'=>(∀ b o,H1 b=some o->H' b=some o)/\ys=((ns.take i).map fun n=>isName n && decide ((ns.map V.str).countP (fun z=>eqV z (.str n))=1)).map V.bl) ⟨fun _ _ e=>e,rfl⟩ (by rw[qlm];omega) (fun i ys H' ⟨_,e⟩=>by rw[e,qlm,qlm,List.length_take];omega) (fun i ys H' ⟨s',_⟩=>SqL.of (s' _ _ hp1)) ?_ ?_
 . rintro i z ys H2 hi ⟨s2,rfl⟩
   rw[qgm]at hi
   obtain⟨n,hn,rfl⟩:∃ c,ns[i]? = some c/\z=V.str c:=by
    cases q:ns[i]? with
    |none=>rw[q]at hi;cases hi
    |some c=>rw[q]at hi;exact⟨c,rfl,(qsi hi).symm⟩
   have hnm:n∈ns:=qmg hn
   have et:∀ b:Bool,(isName n && decide ((ns.map V.str).countP (fun z=>eqV z (.str n))=1))=b->((ns.take i).map fun n=>isName n && decide ((ns.map V.str).countP (fun z=>eqV z (.str n))=1)).map V.bl++[V.bl b]=((ns.take (i+1)).map fun n=>isName n && decide ((ns.map V.str).countP (fun z=>eqV z (.str n))=1)).map V.bl:=fun b e=>by
    rw[qta,hn,List.map_append,List.map_append,<- e]
    rfl
   refine⟨⟨rfl,trivial⟩,_,rfl,n,rfl,hns n hnm,fun H3 s3=>⟨_,rfl,?_⟩⟩;have s23:=bD s2 s3;cases h:isName n with
   |false=>exact bj ⟨s23,et false (by rw[h];rfl)⟩
   | true =>
    refine bO ⟨_,rfl,.inl ⟨rfl,_,SqL.of (s23 _ _ hp1)⟩,_,rfl,p,_,.str n,rfl,rfl,SqL.of (s23 _ _ hp1),rfl,yV ns,fun j hj ej=>⟨rfl,s23,et _ ?_⟩⟩;rw[h,Bool.true_and,<- ej]
    by_cases e:j=1
    . rw[qdt e,qdt (by rw[e];rfl)]
    . rw[qdf e,qdf (fun z=>e (by have:=V.int.inj z;omega))]
 rintro ys H2 ⟨s2,rfl⟩ lc hlc;rw[qlm,List.take_length];have s3:=aX (o:=.lst ((ns.map fun n=>isName n && decide ((ns.map V.str).countP (fun z=>eqV z (.str n))=1)).map V.bl)) hlc;refine⟨lc,_,rfl,SqL.of au,?_⟩;generalize upd H2 lc (.lst ((ns.map fun n=>isName n && decide ((ns.map V.str).countP (fun z=>eqV z (.str n))=1)).map V.bl))=H3 at s3 ⊢;have s13:=bD s1 (bD s2 s3);have hp3:=s3 _ _ (s2 _ _ hp1)
 have ea:(ns.map fun n=>isName n && decide ((ns.map V.str).countP (fun z=>eqV z (.str n))=1)).all id=ns.all fun n=>isName n && decide ((ns.map V.str).countP (fun z=>eqV z (.str n))=1):=by
  rw[List.all_map]
  rfl
 rw[ea];have e2':=qod e2
 have eb:fu ns=ns.all fun n=>isName n && decide ((ns.map V.str).countP (fun z=>eqV z (.str n))=1):=by
  unfold fu;rw[qdt e1,qdt e2']
  rfl
 rw[<- eb];cases h:fu ns with
 |false=>exact⟨_,rfl,bO (fin H3 s13 h)⟩
 | true =>
  refine⟨_,rfl,bj ?_⟩;refine⟨_,rfl,p,_,rfl,.inl ⟨SqL.of hp3,fun q hq=>⟨(by show 0<=sizeLine;decide),fun l hl=>⟨(by show 2<=sizeLine;decide),fun r hr'=>?_⟩⟩⟩⟩;refine k _ _ (bD s13 (bD (aX hq) (bD (aX hl) (aX hr')))) ?_;rw[h,qp rfl];exact⟨q,⟨r,l,rfl,au,aX hr' _ _ au⟩,aX hr' _ _ (aX hl _ _ au)⟩
def Ny(H:Hp)(v:V)(kd:Str):Option (V×List Str)->Prop
 |none=>v = .non
 |some (pay,ts)=>∃ q l,v = .ref q/\H q=some (.tup [.str kd,pay,.ref l])/\H l=some (.lst (ts.map V.str))
theorem qI(x:Str):(bL x).length <= x.length:=by
 have h1:=jZ 32 x.cps.toList;have h2:x.length=x.cps.toList.length:=Array.length_toList.symm
 have h3:((b8 32 x.cps.toList).dropWhile (· == 32)).length <= (b8 32 x.cps.toList).length:=by
  rw[<- iI,List.length_drop];omega
 show((b8 32 x.cps.toList).dropWhile (· == 32)).toArray.size<=_;rw[List.size_toArray];omega
def kj(kd:Str):Option (Str->Option (V×List Str)):=
 if kd="take" then some qG else if kd="give"\/kd="ask" then some um else if kd="lean" then some qH else if kd="keep" then some yQ else if kd="back"\/kd="again"\/kd="worlds" then some yP else if kd="lost" then some yR else none
inductive spFormOf(vs:List V)(H:Hp)(Q:VK)(E:XK):Prop
 |mk (x:Str) (O:Str->Option (V×List Str)) (_:vs=[.str x]) (_:x.length<=fK) (_:kj (cL x)=some O) (_:∀ r H',(∀ b o,H b=some o->H' b=some o)->Ny H' r (cL x) (O (bL x))->Q r H')
theorem scFormOf:FnScope ["row","kind","pair"] ["row"] (aB S74):=mkS
theorem Df(T:Txt P w K mg t):FO P w K mg base 6 t.a74 t.d74 ["row"] spFormOf:=by
 have G59:=mj (base:=base) T;have G60:=my (base:=base) T;refine T.q74.F.ok2 (k:=5) scFormOf (fun cdv A outer s H vs Q E hr h=>?_);obtain⟨x,O,rfl,hx,hO,k⟩:=h;have nd:=scFormOf.nd;have hu:=gj hr
 refine⟨_,(ak (psl 1 nd (aO G59 (hr.mo) T.q59.m T.q59.k T.q59.b aK (aa (pvl 0) aj)))
   (ak (aR (p8 (m7 T.zn (pvl 1) (eU (v:=.ref t.zn) T.zC rfl)))
    (aq (aA bH))
    aN)
   (ak (psl 2 nd (lR (iG T.zn hu (eU (v:=.ref t.zn) T.zC rfl) (pvl 1) (fun _ _=>rfl)) (aa (aO G60 (hr.mo) T.q60.m T.q60.k T.q60.b aK (aa (pvl 0) aj)) aj)))
   (aq (aA (eF (aG gq (pvl 2) bH (aJ _)) bH (bh (aa (pvl 1) (aa (pix aM (pvl 2) ao) (aa (pix aM (pvl 2) ao) aj)))))))))),?_⟩
 have hm:=iM;have hb:=qI x;refine⟨_,rfl,x,rfl,by omega,fun H1 s1=>?_⟩;generalize cL x=kd at hO k
 obtain ⟨f,fd,hv,F,hk,hbd⟩:∃(f:Addr) (fd:FuncData),bR ([(.inr "names",.ref t.a65),(.inr "take",.ref t.a67),(.inr "give",.ref t.a69),(.inr "lean",.ref t.a68),(.inr "keep",.ref t.a71),(.inr "pour",.ref t.a72),(.inr "back",.ref t.a73),(.inr "again",.ref t.a73),(.inr "ask",.ref t.a69),(.inr "lost",.ref t.a70),(.inr "worlds",.ref t.a73)]:List (Key×V)) (Sum.inr kd:Key)=some (V.ref f)/\FO P w K mg base 5 f fd ["text"] (spF O)/\W.keepIn K (.ref f)=true/\Binds K fd ["text"] []:=by
  unfold kj at hO
  split at hO
  . rename_i e
    cases hO;subst e;exact⟨t.a67,t.d67,by kernel_rfl,(Gx T).mono (by decide),T.q67.k,T.q67.b⟩
  . split at hO
    . rename_i e
      cases hO;rcases e with e|e
      . subst e
        exact⟨t.a69,t.d69,by kernel_rfl,(vG T).mono (by decide),T.q69.k,T.q69.b⟩
      . subst e
        exact⟨t.a69,t.d69,by kernel_rfl,(vG T).mono (by decide),T.q69.k,T.q69.b⟩
    . split at hO
      . rename_i e
        cases hO;subst e;exact⟨t.a68,t.d68,by kernel_rfl,(Gy T).mono (by decide),T.q68.k,T.q68.b⟩
      . split at hO
        . rename_i e
          cases hO;subst e;exact⟨t.a71,t.d71,by kernel_rfl,(Gw T).mono (by decide),T.q71.k,T.q71.b⟩
        . split at hO
          . rename_i e
            cases hO;rcases e with e|e|e
            . subst e
              exact⟨t.a73,t.d73,by kernel_rfl,(pU T).mono (by decide),T.q73.k,T.q73.b⟩
            . subst e
              exact⟨t.a73,t.d73,by kernel_rfl,(pU T).mono (by decide),T.q73.k,T.q73.b⟩
            . subst e
              exact⟨t.a73,t.d73,by kernel_rfl,(pU T).mono (by decide),T.q73.k,T.q73.b⟩
          . split at hO
            . rename_i e
              cases hO;subst e;exact⟨t.a70,t.d70,by kernel_rfl,(Gz T).mono (by decide),T.q70.k,T.q70.b⟩
            . cases hO
 refine⟨_,rfl,.inr kd,rfl,rfl,_,rfl,?_⟩;rw[hv];refine bj ?_;refine⟨_,rfl,.inr kd,V.ref f,rfl,rfl,hv,f,CX1 P w,5,fd,["text"],spF O,_,rfl,F,hr,hk,hbd,aK,_,rfl,x,rfl,by omega,fun H2 s2=>⟨bL x,rfl,by omega,fun r H3 s3 hr3=>?_⟩⟩;have s13:=bD s1 (bD s2 s3);cases ho:O (bL x)with
 | none =>
  rw[ho]at hr3 k;have hr3:r = .non:=hr3;subst hr3;exact⟨_,rfl,rfl,_,rfl,aU (fun _=>k _ _ s13 rfl) (fun z=>absurd (qdt rfl) z)⟩
 | some pr =>
  obtain⟨pay,ts⟩:=pr;rw[ho]at hr3 k;obtain⟨q,l,rfl,hq,hl⟩:=hr3;refine⟨_,rfl,rfl,_,rfl,aU (fun z=>absurd (qod z) (by intro z;cases z)) (fun _=>?_)⟩;refine⟨_,rfl,_,rfl,q,_,0,pay,rfl,rfl,SqT.of hq,rfl,_,rfl,q,_,1,.ref l,rfl,rfl,SqT.of hq,rfl,(by show 3<=sizeLine;decide),fun m hm'=>?_⟩;exact k _ _ (bD s13 (aX hm')) ⟨m,l,rfl,au,aX hm' _ _ hl⟩
theorem K1:("\n":Str)=⟨#[10]⟩:=by decide +kernel
def gA(x:Str):List (Nat×Str):=(Txt.split x "\n").zipIdx.map fun p=>(p.2,jH p.1)
def oJ(x:Str):List (Nat×Str):=(gA x).filter fun(r:Nat×Str)=>!decide (r.2="")
def RwAt(H:Hp)(v:V)(r:Nat×Str):Prop:=∃ q,v = .ref q/\H q=some (.tup [.int (r.1:Int),.str r.2])
theorem RwAt.mono{H H':Hp}(s:∀ b o,H b=some o->H' b=some o){v:V}{r:Nat×Str}:RwAt H v r->RwAt H' v r:=fun⟨q,h1,h2⟩=>⟨q,h1,s _ _ h2⟩
inductive spRowsIn(vs:List V)(H:Hp)(Q:VK)(E:XK):Prop
 |mk (x) (_:vs=[.str x]) (_:x.length<=fK) (_:∀ p us H',(∀ b o,H b=some o->H' b=some o)->H' p=some (.lst us)->Paired (RwAt H') us (oJ x)->Q (.ref p) H')
theorem Dg(x:Str):(gA x).length=(Txt.split x "\n").length:=by
 unfold gA;rw[qlm,List.length_zipIdx]
theorem GC {x:Str} {i:Nat} {s:Str} (h:(Txt.split x "\n")[i]? = some s):(gA x)[i]? = some (i,jH s):=by
 unfold gA;rw[qgm,List.getElem?_zipIdx,h];simp
theorem scRowsIn:FnScope ["text","rows"] ["text"] (aB S57):=mkS
theorem Dh(T:Txt P w K mg t):FO P w K mg base 1 t.a57 t.d57 ["text"] spRowsIn:=by
 refine T.q57.F.ok2 scRowsIn (fun cdv A outer s H vs Q E hr h=>?_);obtain⟨x,rfl,hx,k⟩:=h;have nd:=scRowsIn.nd
 refine⟨_,(ak (gk (i:=1) rfl ["place","row"] [none,none] nd rfl rfl (ym (cu PySem.F.plainAttrs_str PySem.F.slot_str_split PySem.F.type_str_split uW (pvl 0) (aa az aj)) T.zq) (by kernel_rfl) (fun _ _ _ _ _ _=>(lu (K:=K) (n:=2) rfl rfl (bT (pgl 0 (ndS (l:=["place","row"]))) (bT (pgl 1 (ndS (l:=["place","row"]))) gf)))) (fun _ _ _ _ _ _=>dG) (fun _ _ _ _ _ _=>(bh (aa (pvl 0) (aa (Bg (K:=K) rfl PySem.F.plainAttrs_str PySem.F.slot_str_strip PySem.F.type_str_strip ni (pvl 1) (aa az aj)) aj)))))
   (aq (aA (dg rfl ["pair"] [none] (dX (pvl 1)) (by kernel_rfl) (fun _ _ _ _ _ _=>(pgl 0 (ndS (l:=["pair"])))) (fun _ _ _ _ _ _=>iD (aG gh (pix (wW (K:=K)) (pvl 0) ao) az (aJ _))) (fun _ _ _ _ _ _=>(pvl 0)))))),?_⟩
 have hm:=iM;have hsl:=PyProof.Rows.split_le x "\n";refine⟨_,rfl,rfl,x,_,rfl,rfl,(by rw[K1];decide),by omega,by omega,fun p hp=>?_⟩;have s1:=aX (o:=.lst ((Txt.split x "\n").map V.str)) hp;have hp1:(upd H p (.lst ((Txt.split x "\n").map V.str))) p=some (.lst ((Txt.split x "\n").map V.str)):=au;generalize upd H p (.lst ((Txt.split x "\n").map V.str))=H1 at s1 hp1 ⊢;have hal:=Dg x;refine⟨p,rfl,⟨_,SqL.of hp1⟩,?_⟩;refine Bm (K:=K) (a:=p) (xs:=(Txt.split x "\n").map V.str) (fun i ys H'=>(∀ b o,H1 b=some o->H' b=some o)/\Paired (RwAt H') ys ((gA x).take i)) ⟨fun _ _ e=>e,.nil⟩ (by rw[qlm];omega) (fun i ys H' ⟨_,e⟩=>by rw[Paired.length e,List.length_take];omega) (fun i ys H' ⟨s',_⟩=>SqL.of (s' _ _ hp1)) ?_ ?_
 . rintro i y ys H2 hi ⟨s2,hP⟩ e he
   rw[qgm]at hi
   obtain⟨c,hc,rfl⟩:∃ c,(Txt.split x "\n")[i]? = some c/\y=V.str c:=by
    cases q:(Txt.split x "\n")[i]? with
    |none=>rw[q]at hi;cases hi
    |some c=>rw[q]at hi;exact⟨c,rfl,(qsi hi).symm⟩
   have hcl:c.length<=sizeLine:=by have:=PyProof.Rows.part_short (qmg hc);omega
   have s3:=aX (o:=.tup [.int (i:Int),.str c]) he;refine⟨e,_,rfl,SqT.of au,rfl,_,_,rfl,_,_,rfl,rfl,trivial,?_⟩;refine⟨_,rfl,_,rfl,rfl,c,_,rfl,rfl,hcl,(by show 2<=sizeLine;decide),fun m hm'=>?_⟩;have s4:=aX (o:=.tup [.int (i:Int),.str (Txt.stripChars c " ")]) hm';refine⟨bD s2 (bD s3 s4),?_⟩;rw[qta,GC hc];exact eE (Paired.mapP hP fun _ _ z=>RwAt.mono (bD s3 s4) z) (.cons ⟨m,rfl,au⟩ .nil)
 rintro ys H2 ⟨s2,hP⟩ l hl;rw[qlm,<- hal,List.take_length]at hP;have s3:=aX (o:=.lst ys) hl;have hl3:(upd H2 l (.lst ys)) l=some (.lst ys):=au;have hP3:=Paired.mapP hP fun _ _ z=>RwAt.mono s3 z
 generalize upd H2 l (.lst ys)=H3 at s3 hl3 hP3 ⊢;have s13:=bD s1 (bD s2 s3);have hyl:=Paired.length hP;refine⟨_,rfl,l,rfl,⟨_,SqL.of hl3⟩,?_⟩
 refine gR (K:=K) (a:=l) (xs:=ys) (fun i zs H'=>H'=H3/\Paired (RwAt H3) zs (((gA x).take i).filter fun(r:Nat×Str)=>!decide (r.2=""))) ⟨rfl,.nil⟩ (by omega) (fun i zs H' ⟨_,e⟩=>by
  rw[Paired.length e];have:=List.length_filter_le (fun r:Nat×Str=>!decide (r.2="")) ((gA x).take i);rw[List.length_take]at this
  omega) (fun i zs H' ⟨e,_⟩=>by subst e;exact SqL.of hl3) ?_ ?_
 . rintro i v zs H' hi ⟨e,hZ⟩
   subst e;obtain⟨r,hr',q,rfl,hq⟩:=cI hP3 i v hi
   have et:((gA x).take (i+1)).filter (fun(r:Nat×Str)=>!decide (r.2=""))=((gA x).take i).filter (fun(r:Nat×Str)=>!decide (r.2=""))++(if r.2="" then []else [r]):=by
    rw[qta,hr',List.filter_append]
    congr 1
    show List.filter _ [r]=_
    by_cases h:r.2=""
    . rw[qp h,List.filter_cons_of_neg (by rw[qdt h];decide)]
      rfl
    . rw[qnZ h,List.filter_cons_of_pos (by rw[qdf h];rfl)]
      rfl
   refine⟨trivial,_,rfl,q,_,1,.str r.2,rfl,rfl,SqT.of hq,rfl,rfl,_,rfl,aU (fun z=>?_) (fun z=>?_)⟩
   . have z:¬ r.2="":=fun e=>by rw[e,qdt rfl]at z;cases z
     refine⟨_,rfl,rfl,?_⟩;rw[et,qnZ z];exact eE hZ (.cons ⟨q,rfl,hq⟩ .nil)
   . have z:r.2="":=Classical.byContradiction fun e=>z (by rw[qdf (fun q=>e (V.str.inj q))];rfl)
     refine⟨rfl,?_⟩;rw[et,qp z,List.append_nil];exact hZ
 rintro zs H' ⟨e,hZ⟩ l2 hl2;subst e;have el:ys.length=(gA x).length:=hyl;rw[el,List.take_length]at hZ;exact k l2 zs _ (bD s13 (aX hl2)) au (Paired.mapP hZ fun _ _ z=>RwAt.mono (aX hl2) z)
inductive spFormN(vs:List V)(H:Hp)(Q:VK)(E:XK):Prop
 |mk (x) (_:vs=[.str x]) (_:x.length<=fK) (_:cL x="names") (_:fu (c7 (bL x))=true) (_:∀ q p l H',(∀ b o,H b=some o->H' b=some o)->H' q=some (.tup [.str "names",.ref p,.ref l])->H' p=some (.tup ((c7 (bL x)).map V.str))->Q (.ref q) H')
inductive spNamesTold(vs:List V)(H:Hp)(Q:VK)(E:XK):Prop
 |mk (l:Addr) (v:V) (us:List V) (i:Nat) (x:Str) (_:vs=[.ref l]) (_:H l=some (.lst (v::us))) (_:us.length<=fK) (_:RwAt H v (i,x)) (_:x.length<=fK) (_:cL x="names") (_:fu (c7 (bL x))=true) (_:∀ p H',(∀ b o,H b=some o->H' b=some o)->H' p=some (.tup ((c7 (bL x)).map V.str))->Q (.ref p) H')
theorem GD(T:Txt P w K mg t):FO P w K mg base 6 t.a74 t.d74 ["row"] spFormN:=by
 have G59:=mj (base:=base) T;have G60:=my (base:=base) T;refine T.q74.F.ok2 (k:=5) scFormOf (fun cdv A outer s H vs Q E hr h=>?_);obtain⟨x,rfl,hx,hO,hB,k⟩:=h;have nd:=scFormOf.nd;have hu:=gj hr
 refine⟨_,(ak (psl 1 nd (aO G59 (hr.mo) T.q59.m T.q59.k T.q59.b aK (aa (pvl 0) aj)))
   (ak (aR (p8 (m7 T.zn (pvl 1) (eU (v:=.ref t.zn) T.zC rfl)))
    (aq (aA bH))
    aN)
   (ak (psl 2 nd (lR (iG T.zn hu (eU (v:=.ref t.zn) T.zC rfl) (pvl 1) (fun _ _=>rfl)) (aa (aO G60 (hr.mo) T.q60.m T.q60.k T.q60.b aK (aa (pvl 0) aj)) aj)))
   (aq (aA (eF (aG gq (pvl 2) bH (aJ _)) bH (bh (aa (pvl 1) (aa (pix aM (pvl 2) ao) (aa (pix aM (pvl 2) ao) aj)))))))))),?_⟩
 have hm:=iM;have hb:=qI x;refine⟨_,rfl,x,rfl,by omega,fun H1 s1=>?_⟩;generalize cL x=kd at hO;subst hO;have hv:bR ([(.inr "names",.ref t.a65),(.inr "take",.ref t.a67),(.inr "give",.ref t.a69),(.inr "lean",.ref t.a68),(.inr "keep",.ref t.a71),(.inr "pour",.ref t.a72),(.inr "back",.ref t.a73),(.inr "again",.ref t.a73),(.inr "ask",.ref t.a69),(.inr "lost",.ref t.a70),(.inr "worlds",.ref t.a73)]:List (Key×V)) (Sum.inr "names" : Key)=some (V.ref t.a65):=by kernel_rfl
 refine⟨_,rfl,.inr "names",rfl,rfl,_,rfl,?_⟩;rw[hv];refine bj ?_;refine⟨_,rfl,.inr "names",V.ref t.a65,rfl,rfl,hv,t.a65,CX1 P w,5,t.d65,["text"],spNamesF,_,rfl,(De T).mono (by decide),hr,T.q65.k,T.q65.b,aK,_,rfl,x,rfl,by omega,fun H2 s2=>⟨bL x,rfl,by omega,fun r H3 s3 hr3=>?_⟩⟩;have s13:=bD s1 (bD s2 s3);rw[hB,qp rfl]at hr3;obtain⟨p,⟨q,l,rfl,hq,hl⟩,hp⟩:=hr3;refine⟨_,rfl,rfl,_,rfl,aU (fun z=>absurd (qod z) (by intro z;cases z)) (fun _=>?_)⟩;refine⟨_,rfl,_,rfl,q,_,0,.ref p,rfl,rfl,SqT.of hq,rfl,_,rfl,q,_,1,.ref l,rfl,rfl,SqT.of hq,rfl,(by show 3<=sizeLine;decide),fun m hm'=>?_⟩;exact k m p l _ (bD s13 (aX hm')) au (aX hm' _ _ hp)
theorem scNamesTold:FnScope ["rows","form"] ["rows"] (aB S89):=mkS
theorem vH(T:Txt P w K mg t):FO P w K mg base 7 t.a89 t.d89 ["rows"] spNamesTold:=by
 have G74:=GD (base:=base) T;refine T.q89.F.ok2 (k:=6) scNamesTold (fun cdv A outer s H vs Q E hr h=>?_);obtain⟨l,v,us,i,x,rfl,hl,hul,⟨qv,rfl,hqv⟩,hx,hk,hB,k⟩:=h;have nd:=scNamesTold.nd
 refine⟨_,(ak (aR (aG aW (bf aZ T.ze Bt.len (aa (pvl 0) aj)) ao (aJ _))
    (aq ph)
    aN)
   (ak (psl 1 nd (aO G74 (hr.mo) T.q74.m T.q74.k T.q74.b aK (aa (pix aM (pix bN (pvl 0) ao) ao) aj)))
   (ak (aR (PW.pt (dB (aG gq (pvl 1) bH (aJ _)) (dZ (aG gh (pix aM (pvl 1) ao) az (aJ _)))))
    (aq ph)
    aN)
   (aq (aA (pix aM (pvl 1) ao)))))),?_⟩
 have hm:=iM;refine⟨_,rfl,l,_,rfl,.inl (SqL.of hl),rfl,_,rfl,aU (fun z=>absurd (V.int.inj (qod z)) (by show ¬ ((us.length+1:Nat):Int)=0;omega)) (fun _=>?_)⟩;refine⟨_,rfl,l,_,0,.ref qv,rfl,rfl,SqL.of hl,cM (j:=0) rfl,qv,_,1,.str x,rfl,rfl,SqT.of hqv,rfl,x,rfl,hx,hk,hB,fun q p l2 H1 s1 hq hp=>?_⟩;refine⟨_,rfl,rfl,_,rfl,aU (fun z=>absurd (qod z) (by intro z;cases z)) (fun _=>?_)⟩;refine⟨_,rfl,q,_,0,_,rfl,rfl,SqT.of hq,rfl,rfl,_,rfl,aU (fun z=>absurd z (by rw[qdt rfl];decide)) (fun _=>?_)⟩;exact⟨_,rfl,q,_,1,.ref p,rfl,rfl,SqT.of hq,rfl,k p H1 s1 hp⟩
def yW(i:Int):Str:=if i=0 then "open" else if 0<i then("held ":Str)++(toString i:String)else("denied ":Str)++(toString (-i):String)
def rE(rs:List Int)(ns:List Str)(tr:Tr):Str:=match aV (sel rs (aP ns tr)),aV (sel rs (aQ ns tr))with
 |none,_ => "always"
 |some _,none => "never"
 |some m,some y=>yW (m - y)
inductive spAsk(vs:List V)(H:Hp)(Q:VK)(E:XK):Prop
 |mk (a p r l:Addr) (rs:List Int) (v:V) (us:List V) (ns:List Str) (tr:Tr) (_:vs=[.ref a,.ref l]) (_:MindAt H a p r rs) (_:H l=some (.lst (v::us))) (_:Fits H p v ns tr) (_:(∀ x∈tr.names,x∈ns)) (_:(∀ m y,aV (sel rs (aP ns tr))=some m->aV (sel rs (aQ ns tr))=some y->(m - y).natAbs.log2<1920)) (_:∀ H',Same H H'->Q (.str (rE rs ns tr)) H')
theorem mO{K:W.Frag}{C M:Addr}(h:L2.under K C M=true):(j8 K C).isSome=true:=by
 unfold L2.under at h;cases e:j8 K C with
 |none=>rw[e]at h;cases h
 |some b=>rfl
theorem scAsk:FnScope ["mind","trees","lean"] ["mind","trees"] (aB S83):=mkS
theorem K3(T:Txt P w K mg t):FO P w K mg base 121 t.a83 t.d83 ["mind","trees"] spAsk:=by
 have G22:=Jq (base:=base) T;refine T.q83.F.ok2 (k:=120) scAsk (fun cdv A outer s H vs Q E hr h=>?_);obtain⟨a,p,r,l,rs,v,us,ns,tr,rfl,hm,hl,hf,hall,hlog,k⟩:=h;have nd:=scAsk.nd
 refine⟨_,(ak (xf (uO (IK (i:=2) nd rfl (Or.inl rfl) (Bo G22 (hr.mo) T.q22.m T.q22.k T.q22.b (aa (pvl 0) (aa (pix bN (pvl 1) ao) aj)))))
    (.cons T.zH T.zR (by kernel_rfl) (by kernel_rfl) (fun e=>(aq (aA az))) (.cons T.zJ T.zS (by kernel_rfl) (by kernel_rfl) (fun e=>(aq (aA az))) .nil)))
   (ak (aR (aG aW (pvl 2) ao (aJ _))
    (aq (aA az))
    aN)
   (aq (aA (eF (aG nZ (pvl 2) ao (aJ _)) (aF bA az (fc nj T.zG Bt.str (aa (pvl 2) aj))) (aF bA az (fc nj T.zG Bt.str (aa (lH jx (pvl 2)) aj)))))))),?_⟩
 unfold rE at k;refine⟨_,rfl,_,rfl,l,_,0,v,rfl,rfl,SqL.of hl,cM (j:=0) rfl,a,p,r,rs,v,ns,tr,rfl,hm,hf,fun _=>?_,fun z=>absurd hall z⟩;cases ho:aV (sel rs (aP ns tr))with
 | none =>
  rw[ho]at k;exact fun H1 s1=>⟨t.zh,rfl,mO T.zX,.inl ⟨T.zX,k H1 s1⟩⟩
 | some m =>
  rw[ho]at k;cases hk:aV (sel rs (aQ ns tr))with
  | none =>
   rw[hk]at k;exact fun H1 s1=>⟨t.zi,rfl,mO T.zY,.inr ⟨T.zaG,.inl ⟨T.zY,k H1 s1⟩⟩⟩
  | some y =>
   rw[hk]at k;have hlg:=hlog m y ho hk;intro H1 s1;have k1:Q (.str (yW (m - y))) H1:=k H1 s1;generalize m - y=i at hlg k1;unfold yW at k1;refine⟨_,rfl,rfl,_,rfl,aU (fun z=>?_) (fun z=>?_)⟩
   . rw[qp (V.int.inj (qod z))]at k1
     exact k1
   . have z:¬ i=0:=fun e=>z (qdt (by rw[e]))
     rw[qnZ z]at k1;refine⟨_,rfl,_,_,rfl,rfl,_,rfl,aU (fun g=>?_) (fun g=>?_)⟩
     . have g:0<i:=qod g
       rw[qp g]at k1;refine⟨_,rfl,i,rfl,hlg,_,_,rfl,rfl,?_,k1⟩;have:=PyProof.Rows.int_text_len_1921 hlg;have e5:("held ":Str).length=5:=by decide +kernel
       rw[e5];exact qnt (Nat.add_le_add_left this 5) (by decide)
     . have g:¬ 0<i:=fun e=>g (qdt e)
       rw[qnZ g]at k1;refine⟨_,rfl,_,rfl,-i,rfl,by rw[Int.natAbs_neg];exact hlg,_,_,rfl,rfl,?_,k1⟩;have:=PyProof.Rows.int_text_len_1921 (i:=-i) (by rw[Int.natAbs_neg];exact hlg);have e7:("denied ":Str).length=7:=by decide +kernel
       rw[e7];exact qnt (Nat.add_le_add_left this 7) (by decide)
def cf(lg kp al ml:Addr):List (Str×V):=bc "minds_behind" (.ref ml) (bc "answers" (.ref al) (bc "kept" (.ref kp) (bc "log" (.ref lg) [])))
theorem qJ(lg kp al ml:Addr):(cf lg kp al ml).lookup ("log":Str)=some (.ref lg):=by
 unfold cf;rw[bu,qnZ (by decide +kernel),bu,qnZ (by decide +kernel),bu,qnZ (by decide +kernel),bu,qp rfl]
theorem HN(lg kp al ml:Addr):(cf lg kp al ml).lookup ("answers":Str)=some (.ref al):=by
 unfold cf;rw[bu,qnZ (by decide +kernel),bu,qp rfl]
theorem HQ(lg kp al ml:Addr):(cf lg kp al ml).lookup ("minds_behind":Str)=some (.ref ml):=by
 unfold cf;rw[bu,qp rfl]
structure CA where
 (c cx p dx sl kp al ml:Addr)
structure CoAt(t:Adr)(H:Hp)(g:CA)(bl:Addr)(mv bv:List V)(xs:List Str)(ms:List V):Prop where
 co:H g.c=some (.ins t.zb g.cx (cf g.p g.kp g.al g.ml))
 lg:LogAt t.zc H g.p g.dx g.sl bl mv bv
 an:H g.al=some (.lst (xs.map V.str))
 mb:H g.ml=some (.lst ms)
 n1:g.al≠g.sl
 n2:g.al≠bl
 n3:g.ml≠g.sl
 n4:g.ml≠bl
 n5:g.al≠g.ml
 n6:g.p≠g.c
def KeepC(g:CA)(H H':Hp):Prop:=∀ b o,H b=some o->b≠g.p->b≠g.sl->b≠g.al->b≠g.ml->H' b=some o
theorem LogAt.other{C:Addr}{H:Hp}{p dx sl bl:Addr}{mv bv:List V}(U:LogAt C H p dx sl bl mv bv){c:Addr}{o:HO}(h1:p≠c)(h2:sl≠c)(h3:bl≠c):LogAt C (upd H c o) p dx sl bl mv bv :=
 ⟨by rw[aC h1];exact U.ob,U.ne,by rw[aC h2];exact U.st,by rw[aC h3];exact U.tb⟩
theorem MindAt.otherI{H:Hp}{a np r:Addr}{rs:List Int}(h:MindAt H a np r rs){c:Addr}{o u:HO}(hc:H c=some u)(hu:∀ xs,u≠.tup xs):MindAt (upd H c o) a np r rs :=
 ⟨by rw[aC (bz h.1 hc (fun z=>hu _ z.symm))];exact h.1,by rw[aC (bz h.2.1 hc (fun z=>hu _ z.symm))];exact h.2.1,h.2.2⟩
theorem MindAt.same{H H':Hp}(s:Same H H'){a np r:Addr}{rs:List Int}(h:MindAt H a np r rs):MindAt H' a np r rs:=⟨s _ _ h.1,s _ _ h.2.1,h.2.2⟩
def bW(ns:List Str):List Int:=List.replicate (2 ^ ns.length) (0:Int)
inductive spCInit(t:Adr)(vs:List V)(H:Hp)(Q:VK)(E:XK):Prop
 |mk (c cx np:Addr) (ns:List Str) (_:vs=[.ref c,.ref np]) (_:H c=some (.ins t.zb cx [])) (_:H np=some (.tup (ns.map V.str))) (_:1<=ns.length) (_:ns.length<=8) (_:∀(p dx sl kp al ml bl m r:Addr)(H':Hp),CoAt t H' ⟨c,cx,p,dx,sl,kp,al,ml⟩ bl [.ref m] [] [] []->MindAt H' m np r (bW ns)->H p=none->H sl=none->H al=none->H ml=none->(∀ b o,H b=some o->b≠c->H' b=some o)->Q .non H')
theorem scCInit:FnScope ["self","names"] ["self","names"] (aB S75):=mkS
theorem GF(T:Txt P w K mg t):FO P w K mg base 5 t.a75 t.d75 ["self","names"] (spCInit t):=by
 have G33:=FW (base:=base) T;refine T.q75.F.ok2 (k:=4) scCInit (fun cdv A outer s H vs Q E hr h=>?_);obtain⟨c,cx,np,ns,rfl,hc,hn,h1,h8,k⟩:=h;have nd:=scCInit.nd
 refine⟨_,(ak (g8 (pvl 0) (Hu T.zaA G33 (hr.mo) T.zat T.q33.b aK (aa (pvl 1) aj)) rfl)
   (ak (g8 (pvl 0) pF rfl)
   (ak (g8 (pvl 0) (bC aj) rfl)
   (aq (g8 (pvl 0) (bC aj) rfl))))),?_⟩
 refine⟨_,rfl,fun p dx hp hdx hpd=>?_⟩;have ncp:c≠p:=aH hc hp;have ncd:c≠dx:=aH hc hdx;refine⟨p,dx,np,ns,rfl,au,by rw[aC (aH hn hp),aC (aH hn hdx)];exact hn,h1,h8,fun sl bl m r H1 hsl hbl U hm keep=>⟨rfl,?_⟩⟩;have k1:Same H H1:=fun b o e=>keep b o (by rw[aC (aH e hp),aC (aH e hdx)];exact e) (aH e hp)
 have nsl:H sl=none:=by
  by_cases e:sl=p
  . rw[e];exact hp
  . by_cases e2:sl=dx
    . rw[e2];exact hdx
    . rw[aC e,aC e2]at hsl;exact hsl
 have hc1:=k1 _ _ hc;have ncs:c≠sl:=bz hc1 U.st (by intro z;cases z);have ncb:c≠bl:=bz hc1 U.tb (by intro z;cases z);have il:∀ xs:List V,HO.ins t.zb cx []≠.tup xs:=fun xs z=>by cases z
 refine⟨_,rfl,c,t.zb,cx,_,rfl,hc1,T.zk,T.zy,(by show 0<1000;decide),?_⟩;have U2:=U.other (c:=c) (o:=.ins t.zb cx (bc "log" (.ref p) [])) (Ne.symm ncp) (Ne.symm ncs) (Ne.symm ncb);have hm2:=hm.otherI (c:=c) (o:=.ins t.zb cx (bc "log" (.ref p) [])) hc1 (fun xs z=>by cases z);have hc2:(upd H1 c (.ins t.zb cx (bc "log" (.ref p) []))) c=some (.ins t.zb cx (bc "log" (.ref p) [])):=au;have k2:∀ b o,H b=some o->b≠c->(upd H1 c (.ins t.zb cx (bc "log" (.ref p) []))) b=some o:=fun b o e hb=>by rw[aC hb];exact k1 _ _ e
 generalize upd H1 c (.ins t.zb cx (bc "log" (.ref p) []))=H2 at U2 hm2 hc2 k2 ⊢;intro kp hkp;have s3:=aD (o:=.dK []) hkp;have nck:c≠kp:=aH hc2 hkp;refine⟨_,rfl,c,t.zb,cx,_,rfl,s3 _ _ hc2,T.zk,T.zaF,(by show 1<1000;decide),?_⟩;have U3:=(U2.mono s3).other (c:=c) (o:=.ins t.zb cx (bc "kept" (.ref kp) (bc "log" (.ref p) []))) (Ne.symm ncp) (Ne.symm ncs) (Ne.symm ncb);have hm3:=(hm2.same s3).otherI (c:=c) (o:=.ins t.zb cx (bc "kept" (.ref kp) (bc "log" (.ref p) []))) (s3 _ _ hc2) (fun xs z=>by cases z);have hc3:(upd (upd H2 kp (.dK [])) c (.ins t.zb cx (bc "kept" (.ref kp) (bc "log" (.ref p) [])))) c=some (.ins t.zb cx (bc "kept" (.ref kp) (bc "log" (.ref p) []))):=au;have k3:∀ b o,H b=some o->b≠c->(upd (upd H2 kp (.dK [])) c (.ins t.zb cx (bc "kept" (.ref kp) (bc "log" (.ref p) [])))) b=some o:=fun b o e hb=>by rw[aC hb];exact s3 _ _ (k2 _ _ e hb)
 generalize upd (upd H2 kp (.dK [])) c (.ins t.zb cx (bc "kept" (.ref kp) (bc "log" (.ref p) [])))=H3 at U3 hm3 hc3 k3 ⊢;refine⟨lk (by first|exact qnb rfl|simp),fun al hal=>?_⟩;have s4:=aD (o:=.lst []) hal;have nca:c≠al:=aH hc3 hal
 have nal:H al=none:=by
  cases e:H al with
  |none=>rfl
  |some o=>rw[k3 al o e (Ne.symm nca)]at hal;cases hal
 have nas:al≠sl:=fun z=>by rw[z,U3.st]at hal;cases hal
 have nab:al≠bl:=fun z=>by rw[z,U3.tb]at hal;cases hal
 refine⟨_,rfl,c,t.zb,cx,_,rfl,s4 _ _ hc3,T.zk,T.zM,(by show 2<1000;decide),?_⟩;have U4:=(U3.mono s4).other (c:=c) (o:=.ins t.zb cx (bc "answers" (.ref al) (bc "kept" (.ref kp) (bc "log" (.ref p) [])))) (Ne.symm ncp) (Ne.symm ncs) (Ne.symm ncb);have hm4:=(hm3.same s4).otherI (c:=c) (o:=.ins t.zb cx (bc "answers" (.ref al) (bc "kept" (.ref kp) (bc "log" (.ref p) [])))) (s4 _ _ hc3) (fun xs z=>by cases z);have hc4:(upd (upd H3 al (.lst [])) c (.ins t.zb cx (bc "answers" (.ref al) (bc "kept" (.ref kp) (bc "log" (.ref p) []))))) c=some (.ins t.zb cx (bc "answers" (.ref al) (bc "kept" (.ref kp) (bc "log" (.ref p) [])))):=au;have ha4:(upd (upd H3 al (.lst [])) c (.ins t.zb cx (bc "answers" (.ref al) (bc "kept" (.ref kp) (bc "log" (.ref p) []))))) al=some (.lst []):=by rw[aC (Ne.symm nca),au]
 have k4:∀ b o,H b=some o->b≠c->(upd (upd H3 al (.lst [])) c (.ins t.zb cx (bc "answers" (.ref al) (bc "kept" (.ref kp) (bc "log" (.ref p) []))))) b=some o:=fun b o e hb=>by rw[aC hb];exact s4 _ _ (k3 _ _ e hb)
 generalize upd (upd H3 al (.lst [])) c (.ins t.zb cx (bc "answers" (.ref al) (bc "kept" (.ref kp) (bc "log" (.ref p) []))))=H4 at U4 hm4 hc4 ha4 k4 ⊢;refine⟨lk (by first|exact qnb rfl|simp),fun ml hml=>?_⟩;have s5:=aD (o:=.lst []) hml;have ncm:c≠ml:=aH hc4 hml
 have nml:H ml=none:=by
  cases e:H ml with
  |none=>rfl
  |some o=>rw[k4 ml o e (Ne.symm ncm)]at hml;cases hml
 have nms:ml≠sl:=fun z=>by rw[z,U4.st]at hml;cases hml
 have nmb:ml≠bl:=fun z=>by rw[z,U4.tb]at hml;cases hml
 have nma:al≠ml:=aH ha4 hml;refine⟨_,rfl,c,t.zb,cx,_,rfl,s5 _ _ hc4,T.zk,T.zN,(by show 3<1000;decide),?_⟩;refine k p dx sl kp al ml bl m r _ ⟨au,(U4.mono s5).other (Ne.symm ncp) (Ne.symm ncs) (Ne.symm ncb),?_,?_,nas,nab,nms,nmb,nma,Ne.symm ncp⟩ ((hm4.same s5).otherI (s5 _ _ hc4) (fun xs z=>by cases z)) hp nsl nal nml fun b o e hb=>?_
 . rw[aC (Ne.symm nca)]
   exact s5 _ _ ha4
 . rw[aC (Ne.symm ncm),au]
 . rw[aC hb]
   exact s5 _ _ (k4 _ _ e hb)
def OkS(t:Tr):Prop:=t.size<=100000/\t.depth<=110/\(∃ L:List Str,L.length<64/\∀ x∈t.names,x∈L)/\∀ x∈t.names,qC x
theorem OkS.fits{H:Hp}{p:Addr}{v:V}{ns:List Str}{t:Tr}(h:OkS t)(hp:H p=some (.tup (ns.map V.str)))(h8:ns.length<=8)(hnd:ns.Nodup)(ht:TrAt H v t):Fits H p v ns t:=⟨hp,h8,hnd,ht,h.1,h.2.1,h.2.2.1,h.2.2.2⟩
def HR(ns:List Str)(rs:List Int)(pay:V)(ts:List Tr)(rs':List Int):Prop:=∃(f:Int)(tr:Tr),pay = .int f/\ts=[tr]/\rs'=fV ns tr rs f/\(aV (sel rs (aP ns tr))=none\/∃ y,aV (sel rs (aQ ns tr))=some y)
def HS(ns:List Str)(rs:List Int)(pay:V)(ts:List Tr)(rs':List Int):Prop:=∃(tr:Tr),ts=[tr]/\rs'=fU ns tr rs/\∃ x,aV (sel rs (aP ns tr))=some x
def HW(ns:List Str)(rs:List Int)(pay:V)(ts:List Tr)(rs':List Int):Prop:=∃(i:Int)(tr:Tr)(x y:Int),pay = .int i/\ts=[tr]/\aV (sel rs (aP ns tr))=some x/\aV (sel rs (aQ ns tr))=some y/\rs'=cJ rs (aP ns tr) x y i
inductive spDe(t:Adr)(D:List Str->List Int->V->List Tr->List Int->Prop)(vs:List V)(H:Hp)(Q:VK)(E:XK):Prop
 |mk (g:CA) (bl:Addr) (mv bv:List V) (xs:List Str) (ms:List V) (a np r l:Addr) (rs rs':List Int) (ns:List Str) (pay:V) (us:List V) (ts:List Tr) (_:vs=[.ref g.c,pay,.ref l]) (_:CoAt t H g bl (mv++[.ref a]) bv xs ms) (_:mv.length<=400) (_:MindAt H a np r rs) (_:Mind ns rs) (_:H np=some (.tup (ns.map V.str))) (_:ns.length<=8) (_:ns.Nodup) (_:H l=some (.lst us)) (_:Paired (TrAt H) us ts) (_:(∀ u∈ts,OkS u/\∀ x∈u.names,x∈ns)) (_:D ns rs pay ts rs') (_:∀(b q bl':Addr)(H':Hp),KeepC g H H'->CoAt t H' g bl' (mv++[.ref a]++[.ref b]) [] xs ms->MindAt H' b np q rs'->Q .non H')
theorem jq{t:Adr}{H H':Hp}{g:CA}{bl bl':Addr}{mv bv mv' bv':List V}{xs:List Str}{ms:List V}(U:CoAt t H g bl mv bv xs ms)(hbl:H bl'=none)(k:lY g.p g.sl H H')(L:LogAt t.zc H' g.p g.dx g.sl bl' mv' bv'):CoAt t H' g bl' mv' bv' xs ms/\KeepC g H H' :=
 ⟨⟨k _ _ U.co (Ne.symm U.n6) (bz U.co U.lg.st (by intro z;cases z)),L,k _ _ U.an (bz U.an U.lg.ob (by intro z;cases z)) U.n1,k _ _ U.mb (bz U.mb U.lg.ob (by intro z;cases z)) U.n3,U.n1,aH U.an hbl,U.n3,aH U.mb hbl,U.n5,U.n6⟩,fun b o e h1 h2 _ _=>k b o e h1 h2⟩
theorem jn{α β:Type}{R:α->β->Prop}{us:List α}{b:β}(h:Paired R us [b]):∃ u,us=[u]/\R u b:=by
 cases h with
 | cons h1 h2 =>
  cases h2;exact⟨_,rfl,h1⟩
theorem scDoTake:FnScope ["course","firm","trees"] ["course","firm","trees"] (aB S76):=mkS
theorem Di(T:Txt P w K mg t):FO P w K mg base 123 t.a76 t.d76 ["course","firm","trees"] (spDe t HR):=by
 have G35:=FQ (base:=base) T;refine T.q76.F.ok2 (k:=122) scDoTake (fun cdv A outer s H vs Q E hr h=>?_);obtain⟨g,bl,mv,bv,xs,ms,a,np,r,l,rs,rs',ns,pay,us,ts,rfl,U,h400,hm,hM,hnp,h8,hnd,hl,hP,hok,⟨f,tr,rfl,rfl,rfl,hD⟩,k⟩:=h;have nd:=scDoTake.nd;obtain⟨v,rfl,hv⟩:=jn hP;obtain⟨ho,hall⟩:=hok tr qms;refine⟨_,(aq (bF (gM (bK (pvl 0) rfl) T.zf T.q35.e G35 (hr.mo) T.q35.b .nil bJ (aa (pix bN (pvl 2) ao) (aa (pvl 1) aj))))),?_⟩;refine⟨_,rfl,g.c,t.zb,g.cx,_,_,rfl,U.co,T.zk,T.zy,qJ _ _ _ _,g.p,g.dx,_,rfl,U.lg.ob,ig _ _ (by decide +kernel) (by decide +kernel),_,rfl,l,_,0,v,rfl,rfl,SqL.of hl,cM (j:=0) rfl,_,rfl,g.p,g.dx,g.sl,bl,mv,bv,a,np,r,rs,v,ns,tr,f,rfl,U.lg,h400,hm,ho.fits hnp h8 hnd hv,fun _=>?_,fun z=>absurd hall z⟩;have go:∀(b q bl':Addr)(H':Hp),H bl'=none->lY g.p g.sl H H'->LogAt t.zc H' g.p g.dx g.sl bl' (mv++[.ref a]++[.ref b]) []->MindAt H' b np q (fV ns tr rs f)->Q .non H':=fun b q bl' H' hb kp L hm'=>k b q bl' H' (jq U hb kp L).2 (jq U hb kp L).1 hm'
 rcases hD with e|⟨y,e⟩
 . rw[e]
   exact go
 . rw[e]
   cases aV (sel rs (aP ns tr))with
   |none=>exact go
   |some x=>exact go
theorem scDoGive:FnScope ["course","told","trees"] ["course","told","trees"] (aB S77):=mkS
theorem Dj(T:Txt P w K mg t):FO P w K mg base 123 t.a77 t.d77 ["course","told","trees"] (spDe t HS):=by
 have G36:=FT (base:=base) T;refine T.q77.F.ok2 (k:=122) scDoGive (fun cdv A outer s H vs Q E hr h=>?_);obtain⟨g,bl,mv,bv,xs,ms,a,np,r,l,rs,rs',ns,pay,us,ts,rfl,U,h400,hm,hM,hnp,h8,hnd,hl,hP,hok,⟨tr,rfl,rfl,x,hx⟩,k⟩:=h;have nd:=scDoGive.nd;obtain⟨v,rfl,hv⟩:=jn hP;obtain⟨ho,hall⟩:=hok tr qms;refine⟨_,(aq (bF (gM (bK (pvl 0) rfl) T.zf T.q36.e G36 (hr.mo) T.q36.b .nil bJ (aa (pix bN (pvl 2) ao) aj)))),?_⟩;refine⟨_,rfl,g.c,t.zb,g.cx,_,_,rfl,U.co,T.zk,T.zy,qJ _ _ _ _,g.p,g.dx,_,rfl,U.lg.ob,ig _ _ (by decide +kernel) (by decide +kernel),_,rfl,l,_,0,v,rfl,rfl,SqL.of hl,cM (j:=0) rfl,g.p,g.dx,g.sl,bl,mv,bv,a,np,r,rs,v,ns,tr,rfl,U.lg,h400,hm,hM,ho.fits hnp h8 hnd hv,fun _=>?_,fun z=>absurd hall z⟩;rw[hx];exact fun b q bl' H' hb kp L hm'=>k b q bl' H' (jq U hb kp L).2 (jq U hb kp L).1 hm'
theorem scDoLean:FnScope ["course","lean","trees"] ["course","lean","trees"] (aB S78):=mkS
theorem Dk(T:Txt P w K mg t):FO P w K mg base 123 t.a78 t.d78 ["course","lean","trees"] (spDe t HW):=by
 have G37:=Gb (base:=base) T;refine T.q78.F.ok2 (k:=122) scDoLean (fun cdv A outer s H vs Q E hr h=>?_);obtain⟨g,bl,mv,bv,xs,ms,a,np,r,l,rs,rs',ns,pay,us,ts,rfl,U,h400,hm,hM,hnp,h8,hnd,hl,hP,hok,⟨i,tr,x,y,rfl,rfl,hx,hy,rfl⟩,k⟩:=h;have nd:=scDoLean.nd;obtain⟨v,rfl,hv⟩:=jn hP;obtain⟨ho,hall⟩:=hok tr qms;refine⟨_,(aq (bF (gM (bK (pvl 0) rfl) T.zf T.q37.e G37 (hr.mo) T.q37.b .nil bJ (aa (pix bN (pvl 2) ao) (aa (pvl 1) aj))))),?_⟩;refine⟨_,rfl,g.c,t.zb,g.cx,_,_,rfl,U.co,T.zk,T.zy,qJ _ _ _ _,g.p,g.dx,_,rfl,U.lg.ob,ig _ _ (by decide +kernel) (by decide +kernel),_,rfl,l,_,0,v,rfl,rfl,SqL.of hl,cM (j:=0) rfl,_,rfl,g.p,g.dx,g.sl,bl,mv,bv,a,np,r,rs,v,ns,tr,i,rfl,U.lg,h400,hm,ho.fits hnp h8 hnd hv,fun _=>?_,fun z=>absurd hall z⟩;rw[hx,hy];exact fun b q bl' H' hb kp L hm'=>k b q bl' H' (jq U hb kp L).2 (jq U hb kp L).1 hm'
def Rd1(x:Str)(tr:Tr):Prop:=x.length<=sizeLine/\(∀ c∈x.cps.toList,c<16 ^ 8)/\uh x = .tree tr
def ir:=List Str->List Int->List Tr->Str->Prop
inductive spAn(L:ir)(vs:List V)(H:Hp)(Q:VK)(E:XK):Prop
 |mk (a p r l:Addr) (rs:List Int) (us:List V) (ns:List Str) (ts:List Tr) (txt:Str) (_:vs=[.ref a,.ref l]) (_:MindAt H a p r rs) (_:Mind ns rs) (_:H p=some (.tup (ns.map V.str))) (_:ns.length<=8) (_:ns.Nodup) (_:H l=some (.lst us)) (_:Paired (TrAt H) us ts) (_:(∀ u∈ts,OkS u/\∀ x∈u.names,x∈ns)) (_:L ns rs ts txt) (_:∀ H',Same H H'->Q (.str txt) H')
def GJ:ir:=fun ns rs ts txt=>∃ tr,ts=[tr]/\txt=rE rs ns tr/\∀ m y,aV (sel rs (aP ns tr))=some m->aV (sel rs (aQ ns tr))=some y->(m - y).natAbs.log2<1920
def qK(kd:Str):List Str->List Int->V->List Tr->List Int->Prop:=fun ns rs pay ts rs'=>(kd="take"/\HR ns rs pay ts rs')\/(kd="give"/\HS ns rs pay ts rs')\/(kd="lean"/\HW ns rs pay ts rs')
abbrev K4(t:Adr):List (Key×V):=[(.inr "ask",.ref t.a83),(.inr "lost",.ref t.a84),(.inr "worlds",.ref t.a85)]
abbrev Mv(t:Adr):List (Key×V):=[(.inr "take",.ref t.a76),(.inr "give",.ref t.a77),(.inr "lean",.ref t.a78),(.inr "pour",.ref t.a79),(.inr "back",.ref t.a80),(.inr "again",.ref t.a81)]
def uo(P:Program)(w:World)(K:W.Frag)(mg:Str->Option Value)(base:Heap)(t:Adr)(AK:Str->ir->Prop):Prop:=∀ kd L,AK kd L->¬ kd="keep"/\¬ kd="names"/\¬ kd="pour"/\∃(f:Addr) (fd:FuncData),bR (K4 t) (.inr kd)=some (.ref f)/\FO P w K mg base 123 f fd ["mind","trees"] (spAn L)/\W.keepIn K (.ref f)=true/\Binds K fd ["mind","trees"] []
structure FormIs(H:Hp)(q:Addr)(kd:Str)(pay:V)(ts:List Tr):Prop where
 ex:∃(l:Addr)(ss:List Str),H q=some (.tup [.str kd,pay,.ref l])/\H l=some (.lst (ss.map V.str))/\Paired Rd1 ss ts/\ss.length<=10
inductive spRow(t:Adr)(AK:Str->ir->Prop)(vs:List V)(H:Hp)(Q:VK)(E:XK):Prop
 |mk (g:CA) (bl:Addr) (mv bv:List V) (xs:List Str) (ms:List V) (a np r q:Addr) (rs:List Int) (ns:List Str) (kd:Str) (pay:V) (ts:List Tr) (_:vs=[.ref g.c,.ref q]) (_:CoAt t H g bl (mv++[.ref a]) bv xs ms) (_:mv.length<=400) (_:xs.length<=400) (_:ms.length<=400) (_:MindAt H a np r rs) (_:Mind ns rs) (_:H np=some (.tup (ns.map V.str))) (_:ns.length<=8) (_:ns.Nodup) (_:FormIs H q kd pay ts) (_:(∀ u∈ts,OkS u/\∀ x∈u.names,x∈ns)) (_:((∃ rs',qK kd ns rs pay ts rs'/\∀(b q' bl':Addr)(H':Hp),KeepC g H H'->CoAt t H' g bl' (mv++[.ref a]++[.ref b]) [] xs (ms++[.ref b])->MindAt H' b np q' rs'->Q .non H')\/(∃ L txt,AK kd L/\L ns rs ts txt/\∀(H':Hp),KeepC g H H'->CoAt t H' g bl (mv++[.ref a]) bv (xs++[txt]) ms->MindAt H' a np r rs->Q .non H')))
theorem CoAt.mono{t:Adr}{H H':Hp}(s:Same H H'){g:CA}{bl:Addr}{mv bv:List V}{xs:List Str}{ms:List V}(U:CoAt t H g bl mv bv xs ms):CoAt t H' g bl mv bv xs ms:=⟨s _ _ U.co,U.lg.mono s,s _ _ U.an,s _ _ U.mb,U.n1,U.n2,U.n3,U.n4,U.n5,U.n6⟩
theorem KeepC.ahead{g:CA}{H H' H'':Hp}(s:Same H H')(k:KeepC g H' H''):KeepC g H H'':=fun b o e=>k b o (s _ _ e)
theorem Dl{t:Adr}{H:Hp}{g:CA}{bl:Addr}{mv bv:List V}{xs:List Str}{ms:List V}(U:CoAt t H g bl mv bv xs ms)(x:Str):CoAt t (upd H g.al (.lst (xs.map V.str++[.str x]))) g bl mv bv (xs++[x]) ms/\KeepC g H (upd H g.al (.lst (xs.map V.str++[.str x]))):=
 ⟨⟨by rw[aC (bz U.co U.an (by intro z;cases z))];exact U.co,U.lg.other (bz U.lg.ob U.an (by intro z;cases z)) (Ne.symm U.n1) (Ne.symm U.n2),by rw[au,List.map_append];rfl,by rw[aC (Ne.symm U.n5)];exact U.mb,U.n1,U.n2,U.n3,U.n4,U.n5,U.n6⟩,fun b o e _ _ h _=>by rw[aC h];exact e⟩
theorem xG{t:Adr}{H:Hp}{g:CA}{bl:Addr}{mv bv:List V}{xs:List Str}{ms:List V}(U:CoAt t H g bl mv bv xs ms)(x:V):CoAt t (upd H g.ml (.lst (ms++[x]))) g bl mv bv xs (ms++[x])/\KeepC g H (upd H g.ml (.lst (ms++[x]))):=
 ⟨⟨by rw[aC (bz U.co U.mb (by intro z;cases z))];exact U.co,U.lg.other (bz U.lg.ob U.mb (by intro z;cases z)) (Ne.symm U.n3) (Ne.symm U.n4),by rw[aC U.n5];exact U.an,au,U.n1,U.n2,U.n3,U.n4,U.n5,U.n6⟩,fun b o e _ _ _ h=>by rw[aC h];exact e⟩
theorem KeepC.trans{g:CA}{H H' H'':Hp}(k:KeepC g H H')(k':KeepC g H' H''):KeepC g H H'':=fun b o e h1 h2 h3 h4=>k' b o (k b o e h1 h2 h3 h4) h1 h2 h3 h4
theorem JG(T:Txt P w K mg t):FO P w K mg base 123 t.a83 t.d83 ["mind","trees"] (spAn GJ):=((K3 T).mono (by decide)).imp fun vs H Q E h=>by
 obtain⟨a,p,r,l,rs,us,ns,ts,txt,rfl,hm,hM,hp,h8,hnd,hl,hP,hok,⟨tr,rfl,rfl,hlog⟩,k⟩:=h;obtain⟨v,rfl,hv⟩:=jn hP;obtain⟨ho,hall⟩:=hok tr qms;exact⟨a,p,r,l,rs,v,[],ns,tr,rfl,hm,hl,ho.fits hp h8 hnd hv,hall,hlog,k⟩
theorem scDoRow:FnScope ["course","form","kind","trees"] ["course","form"] (aB S86):=mkS
theorem GK(T:Txt P w K mg t){AK:Str->ir->Prop}(hA:uo P w K mg base t AK):FO P w K mg base 124 t.a86 t.d86 ["course","form"] (spRow t AK):=by
 have G56:=Jy (base:=base) T;have G41:=lX (base:=base) T;refine T.q86.F.ok2 (k:=123) scDoRow (fun cdv A outer s H vs Q E hr h=>?_);obtain⟨g,bl,mv,bv,xs,ms,a,np,r,q,rs,ns,kd,pay,ts,rfl,U,h400,hx4,hm4,hm,hM,hnp,h8,hnd,⟨l,ss,hq,hl,hP,h10⟩,hok,k⟩:=h;have nd:=scDoRow.nd;have hu:=gj hr
 refine ⟨_,(ak (psl 2 nd (pix aM (pvl 1) ao))
   (ak (gk (i:=3) rfl ["text"] [none] nd rfl rfl (dX (pix aM (pvl 1) ao)) (by kernel_rfl) (fun _ _ _ _ _ _=>(pgl 0 (ndS (l:=["text"])))) (fun _ _ _ _ _ _=>dG) (fun _ _ _ _ _ _=>(aO G56 (hr.mo) T.q56.m T.q56.k T.q56.b aK (aa (pvl 0) aj))))
   (aq (aR (aG aW (pvl 2) az (aJ _))
    (aq (qY hu (bK (pvl 0) rfl) (pix aM (pvl 1) ao) (dj (bK (pvl 0) rfl) T.zf T.q41.e G41 (hr.mo) T.q41.b .nil aK) rfl))
    (aq (aR (p8 (Kp T.zw (pvl 2) (eU (v:=.ref t.zw) T.zT rfl)))
     (aq (bF (cu PySem.F.plainAttrs_list PySem.F.slot_list_append PySem.F.type_list_append cX (bK (pvl 0) rfl) (aa (lR (iG T.zw hu (eU (v:=.ref t.zw) T.zT rfl) (pvl 2) (fun _ _=>rfl)) (aa (dj (bK (pvl 0) rfl) T.zf T.q41.e G41 (hr.mo) T.q41.b .nil aK) (aa (pvl 3) aj))) aj))))
     (ak (bF (lR (iG T.zA hu (eU (v:=.ref t.zA) T.zao rfl) (pvl 2) (fun _ _=>rfl)) (aa (pvl 0) (aa (pix aM (pvl 1) ao) (aa (pvl 3) aj)))))
     (aq (bF (cu PySem.F.plainAttrs_list PySem.F.slot_list_append PySem.F.type_list_append cX (bK (pvl 0) rfl) (aa (dj (bK (pvl 0) rfl) T.zf T.q41.e G41 (hr.mo) T.q41.b .nil aK) aj))))))))))),?_⟩
 refine⟨_,rfl,q,_,0,_,rfl,rfl,SqT.of hq,rfl,?_⟩;refine⟨_,rfl,q,_,2,_,rfl,rfl,SqT.of hq,rfl,l,rfl,⟨_,SqL.of hl⟩,?_⟩;refine gR (K:=K) (a:=l) (xs:=ss.map V.str) (fun i ys H'=>Same H H'/\Paired (TrAt H') ys (ts.take i)) ⟨Same.refl _,.nil⟩ (lk (by rw[qlm];omega)) (fun i ys H' ⟨_,e⟩=>by rw[Paired.length e,List.length_take];omega) (fun i ys H' ⟨s',_⟩=>SqL.of (s' _ _ hl)) ?_ ?_
 . rintro i y ys H1 hi ⟨s1,hY⟩
   rw[qgm]at hi
   obtain⟨x,hx,rfl⟩:∃ x,ss[i]? = some x/\y=V.str x:=by
    cases q:ss[i]? with
    |none=>rw[q]at hi;cases hi
    |some c=>rw[q]at hi;exact⟨c,rfl,(qsi hi).symm⟩
   obtain⟨tr,htr,h1,h2,h3⟩:=cI hP i x hx;refine⟨trivial,_,rfl,x,rfl,h1,h2,fun H2 s2=>?_⟩;rw[h3];intro v hv;refine⟨s1.trans s2,?_⟩;rw[qta,htr];exact eE (Paired.mapP hY fun _ _ z=>z.mono s2.tups) (.cons hv .nil)
 rintro ys H1 ⟨s1,hY⟩ tl htl;have el:(ss.map V.str).length=ts.length:=by rw[qlm,Paired.length hP]
 rw[el,List.take_length]at hY;have s2:=s1.trans (aD (o:=.lst ys) htl);have htl2:(upd H1 tl (.lst ys)) tl=some (.lst ys):=au;have hY2:Paired (TrAt (upd H1 tl (.lst ys))) ys ts:=Paired.mapP hY fun _ _ z=>z.mono (aD htl).tups
 generalize upd H1 tl (.lst ys)=H2 at s2 htl2 hY2 ⊢;have U2:=U.mono s2;have hq2:=s2 _ _ hq;have hm2:=hm.same s2;rcases k with⟨rs',hD,k⟩|⟨L,txt,hK,hL,k⟩
 . -- a deed
   obtain⟨f,fd,ps,hvd,hva,hnk,F,hk,hbd,hps⟩:∃(f:Addr) (fd:FuncData) (ps:List Str),bR (Mv t) (Sum.inr kd:Key)=some (V.ref f)/\bR (K4 t) (Sum.inr kd:Key)=none/\¬ kd="keep"/\FO P w K mg base 123 f fd ps (spDe t (qK kd))/\W.keepIn K (.ref f)=true/\Binds K fd ps []/\True:=by
    rcases hD with⟨rfl,_⟩|⟨rfl,_⟩|⟨rfl,_⟩
    . refine⟨t.a76,t.d76,_,by kernel_rfl,by kernel_rfl,by decide +kernel,(Di T).imp (fun vs H Q E h=>?_),T.q76.k,T.q76.b,trivial⟩
      obtain⟨g,bl,mv,bv,xs,ms,a,np,r,l,rs,rs',ns,pay,us,ts,e1,e2,e3,e4,e5,e6,e7,e8,e9,e10,e11,e12,e13⟩:=h;refine⟨g,bl,mv,bv,xs,ms,a,np,r,l,rs,rs',ns,pay,us,ts,e1,e2,e3,e4,e5,e6,e7,e8,e9,e10,e11,?_,e13⟩;rcases e12 with⟨_,h⟩|⟨z,_⟩|⟨z,_⟩
      . exact h
      . exact absurd z (by decide +kernel)
      . exact absurd z (by decide +kernel)
    . refine⟨t.a77,t.d77,_,by kernel_rfl,by kernel_rfl,by decide +kernel,(Dj T).imp (fun vs H Q E h=>?_),T.q77.k,T.q77.b,trivial⟩
      obtain⟨g,bl,mv,bv,xs,ms,a,np,r,l,rs,rs',ns,pay,us,ts,e1,e2,e3,e4,e5,e6,e7,e8,e9,e10,e11,e12,e13⟩:=h;refine⟨g,bl,mv,bv,xs,ms,a,np,r,l,rs,rs',ns,pay,us,ts,e1,e2,e3,e4,e5,e6,e7,e8,e9,e10,e11,?_,e13⟩;rcases e12 with⟨z,_⟩|⟨_,h⟩|⟨z,_⟩
      . exact absurd z (by decide +kernel)
      . exact h
      . exact absurd z (by decide +kernel)
    . refine⟨t.a78,t.d78,_,by kernel_rfl,by kernel_rfl,by decide +kernel,(Dk T).imp (fun vs H Q E h=>?_),T.q78.k,T.q78.b,trivial⟩
      obtain⟨g,bl,mv,bv,xs,ms,a,np,r,l,rs,rs',ns,pay,us,ts,e1,e2,e3,e4,e5,e6,e7,e8,e9,e10,e11,e12,e13⟩:=h;refine⟨g,bl,mv,bv,xs,ms,a,np,r,l,rs,rs',ns,pay,us,ts,e1,e2,e3,e4,e5,e6,e7,e8,e9,e10,e11,?_,e13⟩;rcases e12 with⟨z,_⟩|⟨z,_⟩|⟨_,h⟩
      . exact absurd z (by decide +kernel)
      . exact absurd z (by decide +kernel)
      . exact h
   refine⟨_,rfl,rfl,_,rfl,aU (fun z=>absurd (V.str.inj (qod z)) hnk) (fun _=>?_)⟩;refine⟨_,rfl,.inr kd,rfl,rfl,_,rfl,?_⟩;rw[show bR _ (Sum.inr kd:Key)=none from hva];refine bj ?_;refine⟨_,rfl,.inr kd,V.ref f,rfl,rfl,hvd,f,CX1 P w,123,fd,ps,spDe t (qK kd),_,rfl,F,hr,hk,hbd,aK,_,rfl,_,rfl,q,_,1,pay,rfl,rfl,SqT.of hq2,rfl,_,rfl,?_⟩;refine⟨g,bl,mv,bv,xs,ms,a,np,r,tl,rs,rs',ns,pay,ys,ts,rfl,U2,h400,hm2,hM,s2 _ _ hnp,h8,hnd,htl2,hY2,hok,hD,fun b q' bl' H3 kp U3 hm3=>?_⟩;refine⟨_,rfl,g.c,t.zb,g.cx,_,_,rfl,U3.co,T.zk,T.zN,HQ _ _ _ _,.inl ⟨rfl,_,SqL.of U3.mb⟩,?_⟩;refine⟨_,rfl,g.c,t.zb,g.cx,_,_,rfl,U3.co,T.zk,T.zy,qJ _ _ _ _,g.p,g.dx,_,rfl,U3.lg.ob,ig _ _ (by decide +kernel) (by decide +kernel),g.p,g.dx,g.sl,bl',mv++[.ref a],[],.ref b,rfl,U3.lg,g.ml,_,_,rfl,rfl,U3.mb,fB (by omega),?_⟩;exact k b q' bl' _ (KeepC.ahead s2 (kp.trans (xG U3 (.ref b)).2)) (xG U3 (.ref b)).1 (hm3.otherI U3.mb (fun _ z=>by cases z))
 . -- an answer
   obtain⟨hnk,_,_,f,fd,hv,F,hk,hbd⟩:=hA kd L hK;refine⟨_,rfl,rfl,_,rfl,aU (fun z=>absurd (V.str.inj (qod z)) hnk) (fun _=>?_)⟩;refine⟨_,rfl,.inr kd,rfl,rfl,_,rfl,?_⟩;rw[show bR _ (Sum.inr kd:Key)=some (V.ref f)from hv];refine bO ?_;refine⟨_,rfl,g.c,t.zb,g.cx,_,_,rfl,U2.co,T.zk,T.zM,HN _ _ _ _,.inl ⟨rfl,_,SqL.of U2.an⟩,?_⟩;refine⟨_,rfl,.inr kd,V.ref f,rfl,rfl,hv,f,CX1 P w,123,fd,_,spAn L,_,rfl,F,hr,hk,hbd,aK,?_⟩;refine⟨_,rfl,g.c,t.zb,g.cx,_,_,rfl,U2.co,T.zk,T.zy,qJ _ _ _ _,g.p,g.dx,_,rfl,U2.lg.ob,ig _ _ (by decide +kernel) (by decide +kernel),g.p,g.dx,g.sl,bl,mv,bv,.ref a,rfl,U2.lg,_,rfl,?_⟩;refine⟨a,np,r,tl,rs,ys,ns,ts,txt,rfl,hm2,hM,s2 _ _ hnp,h8,hnd,htl2,hY2,hok,hL,fun H3 s3=>?_⟩;have U3:=U2.mono s3;refine⟨g.al,_,_,rfl,rfl,U3.an,fB (by rw[qlm];omega),?_⟩;exact k _ (KeepC.ahead (s2.trans s3) (Dl U3 txt).2) (Dl U3 txt).1 ((hm2.same s3).otherI U3.an (fun _ z=>by cases z))
inductive spLacks(t:Adr)(vs:List V)(H:Hp)(Q:VK)(E:XK):Prop
 |mk (c q l:Addr) (kd:Str) (pay:V) (_:vs=[.ref c,.ref q]) (_:H q=some (.tup [.str kd,pay,.ref l])) (_:¬ kd="pour") (_:Q (.bl false) H)
theorem scLacks:FnScope ["course","form"] ["course","form"] (aB S87):=mkS
theorem GP(T:Txt P w K mg t):FO P w K mg base 1 t.a87 t.d87 ["course","form"] (spLacks t):=by
 refine T.q87.F.ok2 scLacks (fun cdv A outer s H vs Q E hr h=>?_);obtain⟨c,q,l,kd,pay,rfl,hq,hn,k⟩:=h;have nd:=scLacks.nd;refine⟨_,(aq (aA (kJ (dY aW (pix aM (pvl 1) ao) az (aJ _)) (jt Ex)))),?_⟩;refine⟨_,rfl,q,_,0,_,rfl,rfl,SqT.of hq,rfl,rfl,?_⟩;have e:decide (V.str kd=V.str ("pour":Str))=false:=qdf fun z=>hn (V.str.inj z)
 try dsimp -proj -iota only
 rw[e];exact⟨false,rfl,k⟩
theorem scWordA:FnScope ["course","form"] ["course","form"] (aB S88):=mkS
theorem GQ(T:Txt P w K mg t){AK:Str->ir->Prop}(hA:uo P w K mg base t AK):FO P w K mg base 125 t.a88 t.d88 ["course","form"] (spRow t AK):=by
 have G86:=GK (base:=base) T hA;have G87:=GP (base:=base) T;refine T.q88.F.ok2 (k:=124) scWordA (fun cdv A outer s H vs Q E hr h=>?_);obtain⟨g,bl,mv,bv,xs,ms,a,np,r,q,rs,ns,kd,pay,ts,rfl,U,h400,hx4,hm4,hm,hM,hnp,h8,hnd,hF,hok,k⟩:=h;have nd:=scWordA.nd;obtain⟨l,ss,hq,_⟩:=hF.ex
 have hkd:¬ kd="names"/\¬ kd="pour":=by
  rcases k with⟨rs',hD,_⟩|⟨L,txt,hK,_⟩
  . rcases hD with⟨e,_⟩|⟨e,_⟩|⟨e,_⟩ <;> (rw[e];exact⟨by decide +kernel,by decide +kernel⟩)
  . exact⟨(hA kd L hK).2.1,(hA kd L hK).2.2.1⟩
 refine⟨_,(ak (aR (PW.pt (dB (aG gq (pvl 1) bH (aJ _)) (dZ (aG aW (pix aM (pvl 1) ao) az (aJ _)))))
    (aq (aA az))
    aN)
   (ak (aR (gB (aO G87 (hr.mo) T.q87.m T.q87.k T.q87.b aK (aa (pvl 0) (aa (pvl 1) aj))) (fun _=>rfl))
    (aq (aA az))
    aN)
   (ak (xf (uO (El (Bo G86 (hr.mo) T.q86.m T.q86.k T.q86.b (aa (pvl 0) (aa (pvl 1) aj)))))
    (.cons T.zt T.zag (by kernel_rfl) (by kernel_rfl) (fun e=>(aq (aA az))) (.cons T.zV T.zah (by kernel_rfl) (by kernel_rfl) (fun e=>(aq (aA az))) (.cons T.zU T.zaf (by kernel_rfl) (by kernel_rfl) (fun e=>(aq (aA az))) (.cons T.zH T.zR (by kernel_rfl) (by kernel_rfl) (fun e=>(aq (aA az))) (.cons T.zJ T.zS (by kernel_rfl) (by kernel_rfl) (fun e=>(aq (aA az))) (.cons T.zax T.zae (by kernel_rfl) (by kernel_rfl) (fun e=>(aq (aA az))) (.cons T.zaw T.zad (by kernel_rfl) (by kernel_rfl) (fun e=>(aq (aA az))) .nil))))))))
   (aq (aA bH))))),?_⟩
 refine⟨_,rfl,rfl,_,rfl,aU (fun z=>absurd (qod z) (by intro z;cases z)) (fun _=>?_)⟩;refine⟨_,rfl,q,_,0,_,rfl,rfl,SqT.of hq,rfl,rfl,_,rfl,aU (fun z=>absurd (V.str.inj (qod z)) hkd.1) (fun _=>?_)⟩;refine⟨_,rfl,_,rfl,g.c,q,l,kd,pay,rfl,hq,hkd.2,?_⟩;refine⟨_,rfl,?_⟩;refine⟨_,rfl,_,rfl,g,bl,mv,bv,xs,ms,a,np,r,q,rs,ns,kd,pay,ts,rfl,U,h400,hx4,hm4,hm,hM,hnp,h8,hnd,hF,hok,?_⟩;exact k
inductive Runs(AK:Str->ir->Prop)(ns:List Str):List (Str×V×List Tr)->List Int->List (List Int)->List Str->Prop
 |nil (rs:List Int):Runs AK ns [] rs [] []
 |deed {kd:Str} {pay:V} {ts:List Tr} {rs rs':List Int} {rws:List (Str×V×List Tr)} {mss:List (List Int)} {xs:List Str}:(∀ u∈ts,OkS u/\∀ x∈u.names,x∈ns)->qK kd ns rs pay ts rs'->Mind ns rs'->Runs AK ns rws rs' mss xs->Runs AK ns ((kd,pay,ts):: rws) rs (rs'::mss) xs
 |ans {kd:Str} {pay:V} {ts:List Tr} {rs:List Int} {L:ir} {txt:Str} {rws:List (Str×V×List Tr)} {mss:List (List Int)} {xs:List Str}:(∀ u∈ts,OkS u/\∀ x∈u.names,x∈ns)->AK kd L->L ns rs ts txt->Runs AK ns rws rs mss xs->Runs AK ns ((kd,pay,ts):: rws) rs mss (txt::xs)
def yX(r:Nat×Str)(x:Str×V×List Tr):Prop:=r.2.length<=fK/\cL r.2=x.1/\∃(O:Str->Option (V×List Str))(ss:List Str),kj x.1=some O/\O (bL r.2)=some (x.2.1,ss)/\Paired Rd1 ss x.2.2/\ss.length<=10
def oK(H:Hp)(np:Addr)(v:V)(rs:List Int):Prop:=∃ a r,v = .ref a/\MindAt H a np r rs
inductive spRun(t:Adr)(AK:Str->ir->Prop)(vs:List V)(H:Hp)(Q:VK)(E:XK):Prop
 |mk (x:Str) (i0:Nat) (r0:Str) (rest:List (Nat×Str)) (rws:List (Str×V×List Tr)) (ns:List Str) (mss:List (List Int)) (xs:List Str) (_:vs=[.str x]) (_:x.length<=fK) (_:oJ x=(i0,r0):: rest) (_:r0.length<=fK) (_:cL r0="names") (_:fu (c7 (bL r0))=true) (_:c7 (bL r0)=ns) (_:1<=ns.length) (_:ns.length<=8) (_:ns.Nodup) (_:rest.length<=300) (_:Paired yX rest rws) (_:Runs AK ns rws (bW ns) mss xs) (_:∀(q al ml np:Addr) (ms:List V) (H':Hp),Same H H'->H' q=some (.tup [.ref al,.ref ml])->H' al=some (.lst (xs.map V.str))->H' ml=some (.lst ms)->H' np=some (.tup (ns.map V.str))->Paired (oK H' np) ms mss->Q (.ref q) H')
theorem qL{t:Adr}{H H':Hp}{g:CA}{bl:Addr}{mv bv:List V}{xs:List Str}{ms:List V}(U:CoAt t H g bl mv bv xs ms)(k:KeepC g H H'){b:Addr}{us:List V}(h:H b=some (.tup us)):H' b=some (.tup us):=
 k _ _ h (bz h U.lg.ob (by intro z;cases z)) (bz h U.lg.st (by intro z;cases z)) (bz h U.an (by intro z;cases z)) (bz h U.mb (by intro z;cases z))
theorem qM{t:Adr}{H H':Hp}{g:CA}{bl:Addr}{mv bv:List V}{xs:List Str}{ms:List V}(U:CoAt t H g bl mv bv xs ms)(k:KeepC g H H'){np:Addr}{v:V}{rs:List Int}(h:oK H np v rs):oK H' np v rs:=by
 obtain⟨a,r,e,h⟩:=h;exact⟨a,r,e,qL U k h.1,qL U k h.2.1,h.2.2⟩
theorem nR(ns:List Str):Mind ns (bW ns):=⟨List.length_replicate,fun z hz=>by rw[(List.mem_replicate.mp hz).2];exact Int.le_refl 0,List.mem_replicate.mpr ⟨by have:=Nat.one_le_two_pow (n:=ns.length);omega,rfl⟩⟩
theorem Dm(v:V)(us:List V):gD (v::us) (some 1) none=us:=by
 unfold gD;simp[HT.sIx]
theorem scRun:FnScope ["text","rows","course","place","row","word"] ["text"] (aB S90):=mkS
theorem K5(T:Txt P w K mg t){AK:Str->ir->Prop}(hA:uo P w K mg base t AK):FO P w K mg base 126 t.a90 t.d90 ["text"] (spRun t AK):=by
 have G57:=Dh (base:=base) T;have G89:=vH (base:=base) T;have G75:=GF (base:=base) T;have G88:=GQ (base:=base) T hA;have G74:=Df (base:=base) T;refine T.q90.F.ok2 (k:=125) scRun (fun cdv A outer s H vs Q E hr h=>?_);obtain⟨x,i0,r0,rest,rws,ns,mss,xs,rfl,hx,hrows,hr0,hk0,hB,hns,h1,h8,hnd,h300,hS,hR,k⟩:=h;have nd:=scRun.nd
 refine ⟨_,(ak (psl 1 nd (aO G57 (hr.mo) T.q57.m T.q57.k T.q57.b aK (aa (pvl 0) aj)))
   (ak (psl 2 nd (Hu T.zaz G75 (hr.mo) T.zan T.q75.b aK (aa (aO G89 (hr.mo) T.q89.m T.q89.k T.q89.b aK (aa (pvl 1) aj)) aj)))
   (ak (fL own1 rfl (dX (gC qW (pvl 1) (gO ao) jo)) (mQ (n:=2) rfl (bT (pgl 3 nd) (bT (pgl 4 nd) gf)))
    (ak (psl 5 nd (aO G88 (hr.mo) T.q88.m T.q88.k T.q88.b aK (aa (pvl 2) (aa (aO G74 (hr.mo) T.q74.m T.q74.k T.q74.b aK (aa (pvl 4) aj)) aj))))
    (aq (aR (aG Ig (pvl 5) bH (aJ _))
     (aq ph)
     aN))))
   (aq (aA (bh (aa (bK (pvl 2) rfl) (aa (bK (pvl 2) rfl) aj)))))))),?_⟩
 refine⟨_,rfl,x,rfl,hx,fun rl us H1 s1 hrl hPr=>?_⟩;rw[hrows]at hPr
 obtain⟨v0,us',rfl,hv0,hPr'⟩:∃ v0 us',us=v0::us'/\RwAt H1 v0 (i0,r0)/\Paired (RwAt H1) us' rest:=by
  cases hPr with
  |cons a b=>exact⟨_,_,rfl,a,b⟩
 have hul:us'.length=rest.length:=Paired.length hPr';refine⟨_,rfl,rl,v0,us',i0,r0,rfl,hrl,by rw[hul];exact qnt h300 (by decide),hv0,hr0,hk0,hB,fun np H2 s2 hnp=>?_⟩;rw[hns]at hnp;have hrl2:=s2 _ _ hrl;have hPr2:Paired (RwAt H2) us' rest:=Paired.mapP hPr' fun _ _ z=>z.mono s2
 have s02:Same H H2:=fun b o e=>s2 _ _ (s1 _ _ e)
 intro c cx hc hcx hccx;have hnpc:np≠c:=aH hnp hc;have hnpx:np≠cx:=aH hnp hcx;refine⟨c,cx,np,ns,rfl,au,by rw[aC hnpc,aC hnpx];exact hnp,h1,h8,fun p dx sl kp al ml bl m r H3 U hm hp hsl hal hml keep=>⟨rfl,?_⟩⟩;have s23:Same H2 H3:=fun b o e=>keep b o (by rw[aC (aH e hc),aC (aH e hcx)];exact e) (aH e hc)
 have fr:∀ b,(upd (upd H2 cx (.own c)) c (.ins t.zb cx [])) b=none->H2 b=none:=fun b e=>by
  by_cases e1:b=c
  . rw[e1]at e;rw[au]at e;cases e
  . rw[aC e1]at e
    by_cases e2:b=cx
    . rw[e2]at e;rw[au]at e;cases e
    . rw[aC e2]at e;exact e
 have hp2:=fr _ hp;have hsl2:=fr _ hsl;have hal2:=fr _ hal;have hml2:=fr _ hml;have hrl3:=s23 _ _ hrl2;have lift:∀{Ha Hb:Hp},Same H2 Ha->KeepC ⟨c,cx,p,dx,sl,kp,al,ml⟩ Ha Hb->Same H2 Hb:=fun sa kc b o e=>kc b o (sa _ _ e) (aH e hp2) (aH e hsl2) (aH e hal2) (aH e hml2)
 refine⟨_,rfl,_,rfl,rl,_,rfl,SqL.of hrl3,fun rl2 hrl2'=>?_⟩;have ec:gD (v0::us') (some 1) none=us':=Dm v0 us';rw[ec];have s34:=aD (o:=.lst us') hrl2';have hrl4:(upd H3 rl2 (.lst us')) rl2=some (.lst us'):=au;have n1:rl2≠p:=Ne.symm (aH U.lg.ob hrl2');have n2:rl2≠sl:=Ne.symm (aH U.lg.st hrl2');have n3:rl2≠al:=Ne.symm (aH U.an hrl2');have n4:rl2≠ml:=Ne.symm (aH U.mb hrl2');have U4:=U.mono s34;have hm4:=hm.same s34;have s24:=s23.trans s34;generalize upd H3 rl2 (.lst us')=H4 at hrl4 U4 hm4 s24 ⊢;have hl0:rest.length=rws.length:=Paired.length hS
 refine⟨rl2,rfl,⟨_,SqL.of hrl4⟩,iC (K:=K) (a:=rl2) (xs:=us')
  (fun i σ H'=>∃(o3 o4 o5:Option V)(bl:Addr)(mv bv:List V)(a r:Addr)(rs:List Int)(x1 x2:List Str)(ms:List V)(m1 m2:List (List Int)),σ=[some (.str x),some (.ref rl),some (.ref c),o3,o4,o5]/\Same H2 H'/\H' rl2=some (.lst us')/\CoAt t H' ⟨c,cx,p,dx,sl,kp,al,ml⟩ bl (mv++[.ref a]) bv x1 ms/\mv.length<=i/\MindAt H' a np r rs/\Mind ns rs/\Paired (oK H' np) ms m1/\Runs AK ns (rws.drop i) rs m2 x2/\mss=m1++m2/\xs=x1++x2/\x1.length<=i/\m1.length<=i)
  ⟨none,none,none,bl,[],[],m,r,bW ns,[],xs,[],[],mss,rfl,s24,hrl4,U4,qnr _,hm4,nR ns,.nil,hR,rfl,rfl,qnr _,qnr _⟩ (fun i σ H' _ ⟨_,_,_,_,_,_,_,_,_,_,_,_,_,_,_,_,h,_⟩=>SqL.of h) ?_ ?_⟩
 . rintro i y σ H5 hi ⟨o3,o4,o5,bl,mv,bv,a,r,rs,x1,x2,ms,m1,m2,rfl,s25,hrl5,U5,hmv,hm5,hM,hPm,hRu,hmss,hxs,hx1,hm1⟩
   have hil:i<us'.length:=(List.getElem?_eq_some_iff.mp hi).1;obtain⟨⟨j,yt⟩,hj,q,rfl,hq⟩:=cI hPr2 i y hi;obtain⟨⟨kd,pay,ts⟩,hrw,hyl,hfw,O,ss,hO,hOb,hPs,h10⟩:=cI hS i (j,yt) hj;have hyl:yt.length<=fK:=hyl;have hfw:cL yt=kd:=hfw;have hO:kj kd=some O:=hO;have hOb:O (bL yt)=some (pay,ss):=hOb;have hPs:Paired Rd1 ss ts:=hPs
   have edr:rws.drop i=(kd,pay,ts):: rws.drop (i+1):=by
    obtain⟨hlt,e⟩:=List.getElem?_eq_some_iff.mp hrw;rw[List.drop_eq_getElem_cons hlt,e]
   have hml:ms.length=m1.length:=Paired.length hPm;refine⟨q,_,rfl,SqT.of (s25 _ _ hq),rfl,_,_,rfl,_,_,rfl,rfl,?_⟩;refine⟨_,rfl,_,rfl,yt,O,rfl,hyl,by rw[hfw];exact hO,fun v H6 s6 hR6=>?_⟩;rw[hOb,hfw]at hR6;obtain⟨q6,l6,rfl,hq6,hl6⟩:=hR6;have s6:Same H5 H6:=s6;have U6:=U5.mono s6;have hm6:=hm5.same s6;have s26:=s25.trans s6;have hPm6:Paired (oK H6 np) ms m1:=Paired.mapP hPm fun _ _ ⟨a',r',e,h⟩=>⟨a',r',e,h.same s6⟩
   rw[edr]at hRu;refine⟨⟨c,cx,p,dx,sl,kp,al,ml⟩,bl,mv,bv,x1,ms,a,np,r,q6,rs,ns,kd,pay,ts,rfl,U6,by omega,by omega,by omega,hm6,hM,s26 _ _ hnp,h8,hnd,⟨l6,ss,hq6,hl6,hPs,h10⟩,?_,?_⟩
   . cases hRu with
     |deed h _ _ _=>exact h
     |ans h _ _ _=>exact h
   . cases hRu with
     | deed hok hD hM' hrest =>
      rename_i rs' m2'
      refine .inl ⟨rs',hD,fun b q' bl' H7 kc U7 hm7=>?_⟩;refine⟨_,rfl,rfl,_,rfl,aU (fun z=>absurd z (by rw[qdt rfl];decide)) (fun _=>?_)⟩;refine⟨_,_,_,bl',mv++[.ref a],[],b,q',rs',x1,x2,ms++[.ref b],m1++[rs'],m2',rfl,lift s26 kc,kc _ _ (s6 _ _ hrl5) n1 n2 n3 n4,U7,by rw[List.length_append];exact Nat.succ_le_succ hmv,hm7,hM',eE (Paired.mapP hPm6 fun _ _ z=>qM U6 kc z) (.cons ⟨b,q',rfl,hm7⟩ .nil),hrest,by rw[hmss,List.append_assoc];rfl,hxs,by omega,by rw[List.length_append];exact Nat.succ_le_succ hm1⟩
     | ans hok hK hL hrest =>
      rename_i L txt x2'
      refine .inr ⟨L,txt,hK,hL,fun H7 kc U7 hm7=>?_⟩;refine⟨_,rfl,rfl,_,rfl,aU (fun z=>absurd z (by rw[qdt rfl];decide)) (fun _=>?_)⟩;refine⟨_,_,_,bl,mv,bv,a,r,rs,x1++[txt],x2',ms,m1,m2,rfl,lift s26 kc,kc _ _ (s6 _ _ hrl5) n1 n2 n3 n4,U7,by omega,hm7,hM,Paired.mapP hPm6 fun _ _ z=>qM U6 kc z,hrest,hmss,by rw[hxs,List.append_assoc];rfl,by rw[List.length_append];exact Nat.succ_le_succ hx1,by omega⟩
 . rintro σ H5 ⟨o3,o4,o5,bl,mv,bv,a,r,rs,x1,x2,ms,m1,m2,rfl,s25,hrl5,U5,hmv,hm5,hM,hPm,hRu,hmss,hxs,hx1,hm1⟩
   have ed:rws.drop us'.length=[]:=List.drop_eq_nil_of_le (by omega);rw[ed]at hRu;cases hRu;rw[List.append_nil]at hmss hxs;subst hmss hxs;refine⟨_,rfl,c,t.zb,cx,_,_,rfl,U5.co,T.zk,T.zM,HN _ _ _ _,_,rfl,c,t.zb,cx,_,_,rfl,U5.co,T.zk,T.zN,HQ _ _ _ _,lk (by first|exact qnb rfl|simp),fun e he=>?_⟩;have s7:=aD (o:=.tup [.ref al,.ref ml]) he;exact k e al ml np ms _ ((s02.trans s25).trans s7) au (s7 _ _ U5.an) (s7 _ _ U5.mb) (s7 _ _ (s25 _ _ hnp)) (Paired.mapP hPm fun _ _ ⟨a',r',e,h⟩=>⟨a',r',e,h.same s7⟩)
theorem pW{c:Nat}:∀{u:List Nat},c∉u->∀ v,cH c (u++c::v)=u/\b8 c (u++c::v)=v
 |[],_,v=>⟨qp rfl,qp rfl⟩
 | d::u,h,v=>by
  have hd:¬ d=c:=fun e=>h (by rw[e];exact qms)
  obtain⟨h1,h2⟩:=pW (u:=u) (fun z=>h (qmm _ z)) v;refine⟨?_,?_⟩
  . show(if d=c then []else d::cH c (u++c::v))=_
    rw[qnZ hd,h1]
  . show(if d=c then _ else b8 c (u++c::v))=_
    rw[qnZ hd,h2]
theorem yZ{l:List Nat}(h:¬ l.head? = some 32):l.dropWhile (· == 32)=l:=by
 cases l with
 |nil=>rfl
 | cons c l =>
  rw[List.dropWhile_cons,qnZ];intro e;exact h (by rw[List.head?_cons,eq_of_beq e])
theorem Dn{x:Str}{l:List Nat}(h:x.cps.toList=l):jG l=x:=lB (by rw[CW,h])
theorem rF:(" ":Str).cps.toList=[32]:=by rw[pQ]
theorem jJ{u v:Str}(h:32∉u.cps.toList)(hv:¬ v.cps.toList.head? = some 32):cL (u++" "++v)=u/\bL (u++" "++v)=v:=by
 have e:(u++" "++v:Str).cps.toList=u.cps.toList++32::v.cps.toList:=by
  rw[bZ,bZ,rF];simp
 unfold cL bL;rw[e,(pW h _).1,(pW h _).2,yZ hv];exact⟨Dn rfl,Dn rfl⟩
structure Clean(p:Str):Prop where
 nl:10∉p.cps.toList
 hd:∃ c,p.cps.toList.head? = some c/\¬ c=32
 la:∃ c,p.cps.toList.getLast? = some c/\¬ c=32
theorem Clean.hd'{p:Str}(h:Clean p):¬ p.cps.toList.head? = some 32:=by
 obtain⟨c,e,hc⟩:=h.hd;rw[e];exact fun z=>hc (qsi z)
theorem wD{p:Str}(h:Clean p):jH p=p:=by
 refine lB ?_;unfold jH;rw[pQ,Jf,yZ h.hd']
 have:¬ p.cps.toList.reverse.head? = some 32:=by
  obtain⟨c,e,hc⟩:=h.la;rw[List.head?_reverse,e];exact fun z=>hc (qsi z)
 rw[yZ this,List.reverse_reverse]
theorem GR{p:Str}(h:Clean p):¬ p="":=fun e=>by
 obtain⟨c,e',_⟩:=h.hd;rw[e]at e';have:("":Str).cps.toList=[]:=by decide +kernel
 rw[this]at e';cases e'
theorem JH{xs ys:List Str}(h:xs.map (·.cps.toList)=ys.map (·.cps.toList)):xs=ys:=by
 induction xs generalizing ys with
 | nil=>cases ys with
  |nil=>rfl
  |cons y ys=>cases h
 | cons x xs ih=>cases ys with
  |nil=>cases h
  | cons y ys =>
   rw[List.map_cons,List.map_cons,List.cons.injEq]at h;rw[lB h.1,ih h.2]
theorem qN(c:Nat){ps:List Str}(hne:ps≠[])(h:∀ p∈ps,c∉p.cps.toList):Txt.split (Txt.join ⟨#[c]⟩ ps) ⟨#[c]⟩=ps:=by
 have e:Txt.join ⟨#[c]⟩ ps=Str.join ⟨#[c]⟩ ps:=StrLaws.glued_eq_join _ _;refine JH ?_;rw[Jg,e,j9 c ps hne h]
theorem JK{ps:List Str}(hne:ps≠[])(h:∀ p∈ps,Clean p):oJ (Txt.join "\n" ps)=ps.zipIdx.map fun(x:Str×Nat)=>(x.2,x.1):=by
 have e:Txt.split (Txt.join "\n" ps) "\n"=ps:=by
  rw[K1];exact qN 10 hne fun p hp=>(h p hp).nl
 unfold oJ gA;rw[e]
 have e2:(ps.zipIdx.map fun p=>(p.2,jH p.1))=ps.zipIdx.map fun(x:Str×Nat)=>(x.2,x.1):=List.map_congr_left fun x hx=>by
  have hm:x.1∈ps:=by
   have:=List.mem_zipIdx hx;rw[this.2.2];exact List.getElem_mem _
  rw[wD (h _ hm)]
 rw[e2,List.filter_eq_self];intro r hr;obtain⟨x,hx,rfl⟩:=List.mem_map.mp hr
 have hm:x.1∈ps:=by
  have:=List.mem_zipIdx hx;rw[this.2.2];exact List.getElem_mem _
 show(!decide (x.1=""))=true;rw[qdf (GR (h _ hm))]
 rfl
theorem jd{u v:Str}(h1:10∉u.cps.toList)(h2:∃ c,u.cps.toList.head? = some c/\¬ c=32)(hv:Clean v):Clean (u++" "++v):=by
 have e:(u++" "++v:Str).cps.toList=u.cps.toList++32::v.cps.toList:=by
  rw[bZ,bZ,rF];simp
 refine⟨?_,?_,?_⟩
 . rw[e]
   intro z;rcases List.mem_append.mp z with z|z
   . exact h1 z
   . rcases List.mem_cons.mp z with z|z
     . exact absurd z (by decide)
     . exact hv.nl z
 . obtain⟨c,h,hc⟩:=h2
   refine⟨c,?_,hc⟩;rw[e];cases hu:u.cps.toList with
   |nil=>rw[hu]at h;cases h
   |cons d r=>rw[hu]at h;exact h
 . obtain⟨c,h,hc⟩:=hv.la
   refine⟨c,?_,hc⟩;rw[e,List.getLast?_append,List.getLast?_cons];rw[h]
   rfl
theorem Do{x:Str}(h:isName x=true){c:Nat}(hc:cO c=false):c∉x.cps.toList:=fun z=>by
 unfold isName at h;have:cO c=true:=List.all_eq_true.mp (Bool.and_eq_true_iff.mp h).2 c z;rw[hc]at this;cases this
theorem words_of{ns:List Str}(hne:ns≠[])(h:∀ n∈ns,isName n=true):c7 (Txt.join " " ns)=ns:=by
 have hb:∀ n∈ns,32∉n.cps.toList/\¬ n="":=fun n hn=>by
  have:=h n hn;refine⟨fun z=>?_,fun z=>?_⟩
  . exact Do this (c:=32) (by decide) z
  . rw[z]at this
    exact absurd this (by decide +kernel)
 unfold c7
 have e:Txt.split (Txt.join " " ns) " "=ns:=by
  rw[pQ];exact qN 32 hne fun p hp=>(hb p hp).1
 rw[e,List.filter_eq_self];intro n hn;rw[qdf (hb n hn).2]
 rfl
def cD:Nat->Nat->List Nat
 | 0,n=>[48+n % 10]
 |k+1,n=>if n<10 then [48+n]else cD k (n / 10)++[48+n % 10]
theorem rG:∀ d:Nat,d<10->(Nat.digitChar d).toNat=48+d:=by decide
theorem pX:∀(k n:Nat),n<10 ^ (k+1)->(Nat.toDigits 10 n).map Char.toNat=cD k n
 | 0,n,h=>by
  have h:n<10:=h;rw[Nat.toDigits_of_lt_base h];show [(Nat.digitChar n).toNat]=[48+n % 10]
  rw[rG n h,Nat.mod_eq_of_lt h]
 | k + 1,n,h=>by
  show _=if n<10 then [48+n]else cD k (n / 10)++[48+n % 10]
  by_cases hn:n<10
  . rw[qp hn,Nat.toDigits_of_lt_base hn]
    show [(Nat.digitChar n).toNat]=_;rw[rG n hn]
  . rw[qnZ hn]
    have h1:n / 10<10 ^ (k+1):=by
     rw[Nat.div_lt_iff_lt_mul (by decide),<- Nat.pow_succ];exact h
    have h2:n % 10<10:=Nat.mod_lt _ (by decide);have h3:0<n / 10:=by omega
    have e:10 * (n / 10)+n % 10=n:=Nat.div_add_mod n 10;have:=Nat.toDigits_append_toDigits (b:=10) (n:=n / 10) (d:=n % 10) (by decide) h3 h2;rw[e]at this;rw[<- this,List.map_append,pX k _ h1,Nat.toDigits_of_lt_base h2];show _++[(Nat.digitChar (n % 10)).toNat]=_;rw[rG _ h2]
theorem vI:∀(k n:Nat),n<10 ^ (k+1)->fH (cD k n)=n
 | 0,n,h=>by
  have h:n<10:=h;show 0 * 10+(48+n % 10 - 48)=n;rw[Nat.mod_eq_of_lt h];omega
 | k + 1,n,h=>by
  show fH (if n<10 then [48+n]else cD k (n / 10)++[48+n % 10])=n
  by_cases hn:n<10
  . rw[qp hn]
    show 0 * 10+(48+n - 48)=n;omega
  . rw[qnZ hn]
    have h1:n / 10<10 ^ (k+1):=by
     rw[Nat.div_lt_iff_lt_mul (by decide),<- Nat.pow_succ];exact h
    unfold fH;rw[List.foldl_append];show fH (cD k (n / 10)) * 10+(48+n % 10 - 48)=n;rw[vI k _ h1];omega
theorem gH:∀(k n:Nat),1<=(cD k n).length /\ (cD k n).length <= k+1
 | 0,n=>⟨qnr _,qnr _⟩
 | k + 1,n=>by
  have:=gH k (n / 10);show 1<=(if n<10 then [48+n]else cD k (n / 10)++[48+n % 10]).length /\ (if n<10 then [48+n]else cD k (n / 10)++[48+n % 10]).length <= k+1+1
  split
  . exact⟨qnr _,by simp⟩
  . rw[List.length_append]
    show 1<=_+1/\_+1<=_;omega
theorem mz:∀(k n:Nat),∀ c∈cD k n,48<=c/\c<=57
 | 0,n=>fun c hc=>by
  have hc:c=48+n % 10:=List.mem_singleton.mp hc;omega
 | k + 1,n=>fun c hc=>by
  have hc:c∈(if n<10 then [48+n]else cD k (n / 10)++[48+n % 10]):=hc
  split at hc
  . have:=List.mem_singleton.mp hc
    omega
  . rcases List.mem_append.mp hc with hc|hc
    . exact mz k _ c hc
    . have:=List.mem_singleton.mp hc
      omega
theorem tG:∀(k n:Nat),0<n->n<10 ^ (k+1)->∃ c r,cD k n=c::r/\¬ c=48
 | 0,n,h0,h=>⟨48+n % 10,[],rfl,by have h:n<10:=h;rw[Nat.mod_eq_of_lt h];omega⟩
 | k + 1,n,h0,h=>by
  show ∃ c r,(if n<10 then [48+n]else cD k (n / 10)++[48+n % 10])=c::r/\¬ c=48
  split
  . exact⟨48+n,[],rfl,by omega⟩
  . have h1:n / 10<10 ^ (k+1):=by
     rw[Nat.div_lt_iff_lt_mul (by decide),<- Nat.pow_succ];exact h
    obtain⟨c,r,e,hc⟩:=tG k (n / 10) (by omega) h1;exact⟨c,r++[48+n % 10],by rw[e];rfl,hc⟩
def z6(n:Nat):List Nat:=cD 29 n
def dW(i:Int):Str:=((toString i:String):Str)
theorem gJ{n:Nat}(h:n<10 ^ 30):(dW (n:Int)).cps.toList=z6 n:=by
 show(Str.ofString (toString (n:Int))).cps.toList=_;rw[Str.ofString_eq_toList];show((toString (n:Int)).toList.map Char.toNat)=_;have e:toString (n:Int)=String.ofList (Nat.toDigits 10 n):=rfl;rw[e,String.toList_ofList];exact pX 29 n h
theorem jK{n:Nat}(h:n+1<10 ^ 30):(dW (-((n+1:Nat):Int))).cps.toList=45::z6 (n+1):=by
 show(Str.ofString (toString (-((n+1:Nat):Int)))).cps.toList=_;rw[Str.ofString_eq_toList];show((toString (-((n+1:Nat):Int))).toList.map Char.toNat)=_;have e:toString (-((n+1:Nat):Int))="-"++String.ofList (Nat.toDigits 10 (n+1)):=rfl;rw[e,String.toList_append,List.map_append,String.toList_ofList (l:=Nat.toDigits 10 (n+1)),pX 29 (n+1) h]
 rfl
theorem mC{x:Str}{n:Nat}(hx:x.cps.toList=z6 n)(h:n<10 ^ 30):fX x=true/\fH x.cps.toList=n:=by
 have hl:=gH 29 n;have hf:=mz 29 n;have el:x.length=x.cps.toList.length:=Array.length_toList.symm;have hl':x.cps.toList.length=(cD 29 n).length:=by rw[hx];rfl
 refine⟨?_,by rw[hx];exact vI 29 n h⟩;unfold fX;rw[qdt (show(1:Int)<=(x.length:Int)by omega),qdt (show(x.length:Int)<=30 by omega)]
 have ha:x.cps.toList.all gm=true:=by
  rw[List.all_eq_true,hx];intro c hc;have:=hf c hc;unfold gm;rw[qdt this.1,qdt this.2]
  rfl
 rw[ha];show(!(decide (x.cps.toList.head? = some 48) && !decide (x="0")))=true
 by_cases h0:n=0
 . have ex:x="0":=lB (by rw[hx,h0,jc];decide)
   rw[qdt ex];simp
 . obtain⟨c,r,e,hc⟩:=tG 29 n (by omega) h
   have:¬ x.cps.toList.head? = some 48:=by
    rw[hx];show ¬ (cD 29 n).head? = some 48;rw[e];exact fun z=>hc (qsi z)
   rw[qdf this]
   rfl
theorem vJ{x:Str}{r:List Nat}(h:x.cps.toList=45::r):Txt.startswith x "-"=true:=by
 have e:("-":Str)=⟨#[45]⟩:=by decide +kernel
 rw[e];obtain⟨h1,h2⟩:=(StrLaws.subAt_one x 45 0).mpr (by rw[h];rfl);exact Bool.and_eq_true_iff.mpr ⟨qdt h1,h2⟩
theorem Dp{x:Str}(h:¬ x.cps.toList.head? = some 45):¬ Txt.startswith x "-"=true:=by
 have e:("-":Str)=⟨#[45]⟩:=by decide +kernel
 rw[e];intro z;obtain⟨z1,z2⟩:=Bool.and_eq_true_iff.mp z;have:=(StrLaws.subAt_one x 45 0).mp ⟨qod z1,z2⟩;exact h (by rw[List.head?_eq_getElem?];exact this)
theorem JL(x:Str):(dq x (some 1) none).cps.toList=x.cps.toList.drop 1:=by
 rw[eG];have e:x.length=x.cps.toList.length:=Array.length_toList.symm;rw[e];generalize x.cps.toList=l;cases l with
 |nil=>rfl
 |cons c r=>simp[HT.sIx]
theorem Dq{n:Nat}(h0:0<n)(h:n<10 ^ 30):ik (dW (n:Int)) = .int (n:Int):=by
 obtain⟨h1,h2⟩:=mC (gJ h) h;unfold ik;rw[qp h1,h2,qnZ (by omega)]
theorem Dr{i:Int}(h1 : -(10 ^ 30)<i)(h2:i<10 ^ 30):j4 (dW i) = .int i:=by
 unfold j4;rcases Int.lt_or_le i 0 with hi|hi
 . obtain⟨n,rfl⟩:∃ n:Nat,i = -((n+1:Nat):Int):=⟨(-i).toNat - 1,by omega⟩
   have hn:n+1<10 ^ 30:=by omega
   have e:=jK hn;have hs:Txt.startswith (dW (-((n+1:Nat):Int))) "-"=true:=vJ e;rw[qp hs];have ec:(dq (dW (-((n+1:Nat):Int))) (some 1) none).cps.toList=z6 (n+1):=by rw[JL,e];rfl
   obtain⟨q1,q2⟩:=mC ec hn;unfold ik;rw[qp q1,q2,qnZ (by omega)]
   rfl
 . obtain⟨n,rfl⟩:∃ n:Nat,i=(n:Int):=⟨i.toNat,by omega⟩
   have hn:n<10 ^ 30:=by omega
   obtain⟨q1,q2⟩:=mC (gJ hn) hn
   have hs:¬ Txt.startswith (dW (n:Int)) "-"=true:=Dp (by
    rw[gJ hn];have hf:=mz 29 n;have hl:=gH 29 n;show ¬ (cD 29 n).head? = some 45;cases hq:cD 29 n with
    |nil=>rw[hq]at hl;exact absurd hl.1 (by decide)
    | cons c r =>
     have:=hf c (by rw[hq];exact qms);intro z;have:=qsi z
     omega)
   rw[qnZ hs];unfold pR;rw[qp q1,q2]
def opG:Op->Str
 | .and => "&"
 | .or => "|"
 | .thn => ">"
 | .same => "="
def opC:Op->Nat
 | .and=>38
 | .or=>124
 | .thn=>62
 | .same=>61
theorem z7(o:Op):opG o=⟨#[opC o]⟩:=by cases o <;> decide +kernel
theorem vK(o:Op):bY (opG o):=by
 cases o
 . exact .inl rfl
 . exact .inr (.inl rfl)
 . exact .inr (.inr (.inl rfl))
 . exact .inr (.inr (.inr rfl))
theorem K6(o:Op):nM (opG o)=o:=by cases o <;> decide +kernel
def wrT:Tr->Str
 | .nm x=>x
 | .yes => "1"
 | .no => "0"
 | .not a => "~"++wrT a
 | .bin o a b => "("++wrT a++" "++opG o++" "++wrT b++")"
def dz(t:Tr):Prop:=∀ x∈t.names,isName x=true
theorem lC(a:Tr):(wrT (.not a)).cps.toList=126::(wrT a).cps.toList:=by
 show("~"++wrT a:Str).cps.toList=_;rw[bZ,vC]
 rfl
theorem lD(o:Op)(a b:Tr):(wrT (.bin o a b)).cps.toList=40::(((wrT a).cps.toList++[32])++opC o::(32::(wrT b).cps.toList))++[41]:=by
 show("("++wrT a++" "++opG o++" "++wrT b++")":Str).cps.toList=_;rw[bZ,bZ,bZ,bZ,bZ,bZ,vB,xx,JF,z7];simp
theorem j6:∀{tr:Tr},dz tr->∃ ws,cZ (wrT tr).cps.toList ws/\Wr 5 tr ws
 | .nm x,h=>by
  have hx:=h x qms;exact⟨[x],JD hx,.leaf (CV hx) (by rw[vC];exact oH hx (by decide)) (by rw[vB];exact oH hx (by decide))⟩
 | .yes,_=>⟨[⟨#[49]⟩],by show cZ ("1":Str).cps.toList _;rw[lZ];exact xu ⟨by decide,by decide⟩,by rw[<- lZ];exact .leaf (by unfold fW;rw[qp rfl]) (by decide +kernel) (by decide +kernel)⟩
 | .no,_=>⟨[⟨#[48]⟩],by show cZ ("0":Str).cps.toList _;rw[jc];exact xu ⟨by decide,by decide⟩,by rw[<- jc];exact .leaf (by unfold fW;rw[qnZ (by decide +kernel),qp rfl]) (by decide +kernel) (by decide +kernel)⟩
 | .not a,h=>by
  obtain⟨ws,h1,h2⟩:=j6 (tr:=a) h;refine⟨⟨#[126]⟩:: ws,?_,?_⟩
  . rw[lC]
    exact CQ ⟨by decide,by decide⟩ h1
  . rw[<- vC]
    exact .not h2
 | .bin o a b,h=>by
  obtain⟨w1,h1,h2⟩:=j6 (tr:=a) fun x hx=>h x (qal _ hx)
  obtain⟨w2,h3,h4⟩:=j6 (tr:=b) fun x hx=>h x (qar _ hx)
  have ho:isSign (opC o):=by cases o <;> exact⟨by decide,by decide⟩
  refine⟨⟨#[40]⟩:: ((w1++opG o::w2)++[⟨#[41]⟩]),?_,?_⟩
  . rw[lD,z7]
    refine JC (ws:=⟨#[40]⟩:: (w1++⟨#[opC o]⟩:: w2)) ⟨by decide,by decide⟩ ?_;exact CQ ⟨by decide,by decide⟩ (KY ho (CT h1) (Gv h3))
  . rw[<- vB,<- xx]
    have hb:=vm (vK o);have:=Wr.bin (n:=0) (vK o) (by have:=KQ (vK o);omega) ⟨by omega,fun _=>by omega⟩ ⟨by omega,fun _=>by omega⟩ h2 h4;rw[K6]at this;exact .bra this
def okC(c:Nat):Prop:=cO c=true\/c=49\/c=48\/c=126\/c=40\/c=41\/c=32\/c=38\/c=124\/c=62\/c=61
theorem jL:∀{tr:Tr},dz tr->∀ c∈(wrT tr).cps.toList,okC c
 | .nm x,h,c,hc=>by
  have hx:=h x qms;unfold isName at hx;exact .inl (List.all_eq_true.mp (Bool.and_eq_true_iff.mp hx).2 c hc)
 | .yes,_,c,hc=>by
  have hc:c∈("1":Str).cps.toList:=hc;rw[lZ]at hc;exact .inr (.inl (List.mem_singleton.mp hc))
 | .no,_,c,hc=>by
  have hc:c∈("0":Str).cps.toList:=hc;rw[jc]at hc;exact .inr (.inr (.inl (List.mem_singleton.mp hc)))
 | .not a,h,c,hc=>by
  rw[lC]at hc;rcases List.mem_cons.mp hc with rfl|hc
  . simp[okC]
  . exact jL (tr:=a) h c hc
 | .bin o a b,h,c,hc=>by
  rw[lD]at hc;have ho:okC (opC o):=by cases o <;> simp[okC,opC]
  simp only[List.mem_append,List.mem_cons,List.not_mem_nil,or_false,List.cons_append]at hc;rcases hc with rfl | ((hc|rfl) | (rfl | (rfl|hc)))|rfl
  . simp[okC]
  . exact jL (tr:=a) (fun x hx=>h x (qal _ hx)) c hc
  . simp[okC]
  . exact ho
  . simp[okC]
  . exact jL (tr:=b) (fun x hx=>h x (qar _ hx)) c hc
  . simp[okC]
theorem vL{c:Nat}(h:okC c):¬ c=10/\¬ c=58/\c<16 ^ 8:=by
 have e:16 ^ 8=4294967296:=by decide
 rcases h with h|h|h|h|h|h|h|h|h|h|h
 . unfold cO at h
   obtain⟨h1,h2⟩:=Bool.and_eq_true_iff.mp h;have h1:=qod h1;have h2:=qod h2;omega
 all_goals omega
def iu:Nat->Nat
 | 0=>0
 | 1=>8
 |d+2=>2 * iu (d+1)+5
theorem tH:∀ d,1<=d->8<=iu d
 | 1,_=>qnr _
 | d+2,_=>by
  have:=tH (d+1) (by omega);show 8<=2 * iu (d+1)+5;omega
theorem iw:∀{d e:Nat},d<=e->iu d<=iu e
 | 0,e,_=>qnz _
 | 1,e,h=>tH e h
 |d+2,0,h=>absurd h (by omega)
 |d+2,1,h=>absurd h (by omega)
 | d+2,e+2,h=>by
  have:=iw (d:=d+1) (e:=e+1) (by omega);show 2 * iu (d+1)+5<=2 * iu (e+1)+5;omega
theorem nT:∀{tr:Tr},dz tr->(wrT tr).cps.toList.length<=iu tr.depth
 | .nm x,h=>by
  have hx:=h x qms;unfold isName at hx;have:=qod (Bool.and_eq_true_iff.mp (Bool.and_eq_true_iff.mp hx).1).2;have e:x.length=x.cps.toList.length:=Array.length_toList.symm;show x.cps.toList.length<=8;omega
 | .yes,_=>by
  show("1":Str).cps.toList.length<=8;rw[lZ]
  decide
 | .no,_=>by
  show("0":Str).cps.toList.length<=8;rw[jc]
  decide
 | .not a,h=>by
  have:=nT (tr:=a) h;have hp:=a.depth_pos;obtain⟨d,hd⟩:∃ d,a.depth=d+1:=⟨a.depth - 1,by omega⟩
  have e:(Tr.not a).depth=d+2:=by show a.depth+1=_;omega
  rw[lC,e];rw[hd]at this;show(wrT a).cps.toList.length+1<=2 * iu (d+1)+5;omega
 | .bin o a b,h=>by
  have h1:=nT (tr:=a) fun x hx=>h x (qal _ hx)
  have h2:=nT (tr:=b) fun x hx=>h x (qar _ hx)
  have hp:=a.depth_pos;obtain⟨d,hd⟩:∃ d,max a.depth b.depth=d+1:=⟨max a.depth b.depth - 1,by omega⟩
  have e:(Tr.bin o a b).depth=d+2:=by show max a.depth b.depth+1=_;omega
  rw[lD,e];have m1:=iw (d:=a.depth) (e:=d+1) (by omega);have m2:=iw (d:=b.depth) (e:=d+1) (by omega);simp only[List.length_append,List.length_cons,List.length_nil];show _<=2 * iu (d+1)+5;omega
theorem JM{tr:Tr}(h:dz tr)(hd:tr.depth<=40)(hl:(wrT tr).cps.toList.length<=200):Rd1 (wrT tr) tr:=by
 have e:(wrT tr).length=(wrT tr).cps.toList.length:=Array.length_toList.symm;obtain⟨ws,h1,h2⟩:=j6 h;refine⟨qnt (by omega) (show 200<=sizeLine by decide),fun c hc=>(vL (jL h c hc)).2.2,?_⟩;unfold uh;rw[qnZ (by omega),vA h1,JB h2];show(if 40<tr.depth then Out.deep else Out.tree tr)=_;rw[qnZ (by omega)]
theorem GX{l:List Nat}(h1:l≠[])(h2:∀ c∈l,cO c=true):∃ c,l.getLast? = some c/\¬ c=32:=by
 refine⟨l.getLast h1,List.getLast?_eq_some_getLast h1,fun z=>?_⟩;have:=h2 _ (List.getLast_mem h1);rw[z]at this;exact absurd this (by decide)
theorem xH:∀{tr:Tr},dz tr->∃ c,(wrT tr).cps.toList.getLast? = some c/\¬ c=32
 | .nm x,h=>by
  have hx:=h x qms;unfold isName at hx;obtain⟨h1,h2⟩:=Bool.and_eq_true_iff.mp hx;have h1:=qod (Bool.and_eq_true_iff.mp h1).1;have e:x.length=x.cps.toList.length:=Array.length_toList.symm;show ∃ c,x.cps.toList.getLast? = some c/\¬ c=32;exact GX (fun z=>by rw[z]at e;rw[e]at h1;exact absurd h1 (by decide)) fun c hc=>List.all_eq_true.mp h2 c hc
 | .yes,_=>⟨49,by show("1":Str).cps.toList.getLast? = _;rw[lZ];rfl,by decide⟩
 | .no,_=>⟨48,by show("0":Str).cps.toList.getLast? = _;rw[jc];rfl,by decide⟩
 | .not a,h=>by
  obtain⟨c,h1,h2⟩:=xH (tr:=a) h;refine⟨c,?_,h2⟩;rw[lC,List.getLast?_cons,h1]
  rfl
 | .bin o a b,h=>⟨41,by rw[lD,List.getLast?_append];rfl,by decide⟩
theorem pY{tr:Tr}(h:dz tr):Clean (wrT tr):=by
 have hs:=jL h;refine⟨fun z=>(vL (hs 10 z)).1 rfl,?_,?_⟩
 . cases tr with
   | nm x =>
    have hx:=h x qms;show ∃ c,x.cps.toList.head? = some c/\¬ c=32;unfold isName at hx;obtain⟨h1,h2⟩:=Bool.and_eq_true_iff.mp hx;have h1:=qod (Bool.and_eq_true_iff.mp h1).1;have e:x.length=x.cps.toList.length:=Array.length_toList.symm;cases hq:x.cps.toList with
    |nil=>rw[hq]at e;rw[e]at h1;exact absurd h1 (by decide)
    | cons c r =>
     refine⟨c,rfl,fun z=>?_⟩;have:=List.all_eq_true.mp h2 c (by rw[hq];exact qms);rw[z]at this;exact absurd this (by decide)
   |yes=>exact⟨49,by show("1":Str).cps.toList.head? = _;rw[lZ];rfl,by decide⟩
   |no=>exact⟨48,by show("0":Str).cps.toList.head? = _;rw[jc];rfl,by decide⟩
   |not a=>exact⟨126,by rw[lC];rfl,by decide⟩
   |bin o a b=>exact⟨40,by rw[lD];rfl,by decide⟩
 . exact xH h
abbrev GZ:List (Key×V):=[(.inr "and",.str "&"),(.inr "or",.str "|"),(.inr "then",.str ">"),(.inr "same",.str "=")]
theorem K7(o:Op):bR (jz [] GZ) (.inr o.str)=some (.str (opG o)):=by cases o <;> decide +kernel
theorem Ds{H:Hp}{p:Addr}{o o':HO}(h:H p=none):Same H (upd (upd H p o) p o'):=fun b u e=>by
 rw[aC (aH e h),aC (aH e h)];exact e
inductive spWrit(d:Nat)(vs:List V)(H:Hp)(Q:VK)(E:XK):Prop
 |mk (v:V) (tr:Tr) (_:vs=[v]) (_:TrAt H v tr) (_:tr.depth<=d) (_:d<=8) (_:dz tr) (_:∀ H',Same H H'->Q (.str (wrT tr)) H')
theorem pZ{tr:Tr}(h:dz tr)(hd:tr.depth<=8):(wrT tr).length <= 2000:=by
 have e:(wrT tr).length=(wrT tr).cps.toList.length:=Array.length_toList.symm;have h1:=nT h;have h2:=iw hd;have h3:iu 8=1659:=rfl;omega
theorem scWrit:FnScope ["_law_tree","_law_sign"] ["_law_tree"] (aB Fi):=mkS
theorem xJ(T:Txt P w K mg t):∀ d:Nat,FO P w K mg base (d+1) t.a102 t.d102 ["_law_tree"] (spWrit d)
 | 0=>⟨fun vs H Q E h=>by obtain⟨v,tr,rfl,_⟩:=h;rfl,fun _ _ _ _ _ _ _ _ _ _ _ _ _ h=>by
  obtain⟨v,tr,rfl,_,hd,_⟩:=h;have:=tr.depth_pos
  omega⟩
 | d + 1=>by
  have G102:=xJ T d;refine T.q102.F.ok1 (k:=d+1) scWrit (fun vs H Q E h=>by obtain⟨v,tr,rfl,_⟩:=h;rfl) (fun cdv A outer s H vs Q E hr h=>?_);obtain⟨v,tr,rfl,ht,hd,h8,hno,k⟩:=h;have nd:=scWrit.nd;have hu:=gj hr
  refine⟨_,(ak (aR (aG aW (pix aM (pvl 0) ao) az (aJ _))
    (aq (aA (pix aM (pvl 0) ao)))
    aN)
   (ak (aR (aG aW (pix aM (pvl 0) ao) az (aJ _))
    (aq (aA az))
    aN)
   (ak (aR (aG aW (pix aM (pvl 0) ao) az (aJ _))
    (aq (aA az))
    aN)
   (ak (aR (aG aW (pix aM (pvl 0) ao) az (aJ _))
    (aq (aA (aF bA az (aO G102 (hr.mo) T.q102.m T.q102.k T.q102.b aK (aa (pix aM (pvl 0) ao) aj)))))
    aN)
   (ak (psl 1 nd (wN hu (Iu (lM az az (lM az az (lM az az (lM az az Ir)))) rfl rfl (List.cons_ne_nil _ _) (by decide +kernel)) (pix aM (pvl 0) ao) (fun _ _=>rfl)))
   (aq (aA (aF bA (aF bA (aF bA (aF bA (aF bA (aF bA az (aO G102 (hr.mo) T.q102.m T.q102.k T.q102.b aK (aa (pix aM (pvl 0) ao) aj))) az) (pvl 1)) az) (aO G102 (hr.mo) T.q102.m T.q102.k T.q102.b aK (aa (pix aM (pvl 0) ao) aj))) az)))))))),?_⟩
  have sz:10000<=sizeLine:=by decide
  cases tr with
  | nm x =>
   obtain⟨a,rest,rfl,_⟩:=ht.open;have ha:=Fz ht;refine⟨_,rfl,a,_,0,_,rfl,rfl,SqT.of ha,rfl,rfl,_,rfl,aU (fun _=>?_) (fun z=>absurd (qdt rfl) z)⟩;exact⟨_,rfl,a,_,1,_,rfl,rfl,SqT.of ha,rfl,k H (Same.refl _)⟩
  | yes =>
   obtain⟨a,rest,rfl,ha,_,hkid⟩:=ht.open;have:=hkid rfl;cases this;refine⟨_,rfl,a,_,0,_,rfl,rfl,SqT.of ha,rfl,rfl,_,rfl,aU (fun z=>absurd (V.str.inj (qod z)) (by decide +kernel)) (fun _=>?_)⟩;refine⟨_,rfl,a,_,0,_,rfl,rfl,SqT.of ha,rfl,rfl,_,rfl,aU (fun _=>?_) (fun z=>absurd (qdt rfl) z)⟩;exact k H (Same.refl _)
  | no =>
   obtain⟨a,rest,rfl,ha,_,hkid⟩:=ht.open;have:=hkid rfl;cases this;refine⟨_,rfl,a,_,0,_,rfl,rfl,SqT.of ha,rfl,rfl,_,rfl,aU (fun z=>absurd (V.str.inj (qod z)) (by decide +kernel)) (fun _=>?_)⟩;refine⟨_,rfl,a,_,0,_,rfl,rfl,SqT.of ha,rfl,rfl,_,rfl,aU (fun z=>absurd (V.str.inj (qod z)) (by decide +kernel)) (fun _=>?_)⟩;refine⟨_,rfl,a,_,0,_,rfl,rfl,SqT.of ha,rfl,rfl,_,rfl,aU (fun _=>?_) (fun z=>absurd (qdt rfl) z)⟩;exact k H (Same.refl _)
  | not u =>
   obtain⟨a,rest,rfl,_⟩:=ht.open;obtain⟨v1,ha,t1⟩:=yD ht;have hd':u.depth+1<=d+1:=hd;refine⟨_,rfl,a,_,0,_,rfl,rfl,SqT.of ha,rfl,rfl,_,rfl,aU (fun z=>absurd (V.str.inj (qod z)) (by decide +kernel)) (fun _=>?_)⟩;refine⟨_,rfl,a,_,0,_,rfl,rfl,SqT.of ha,rfl,rfl,_,rfl,aU (fun z=>absurd (V.str.inj (qod z)) (by decide +kernel)) (fun _=>?_)⟩;refine⟨_,rfl,a,_,0,_,rfl,rfl,SqT.of ha,rfl,rfl,_,rfl,aU (fun z=>absurd (V.str.inj (qod z)) (by decide +kernel)) (fun _=>?_)⟩;refine⟨_,rfl,a,_,0,_,rfl,rfl,SqT.of ha,rfl,rfl,_,rfl,aU (fun _=>?_) (fun z=>absurd (qdt rfl) z)⟩;have hno':dz u:=hno;have hs:=pZ hno' (by omega);refine⟨_,rfl,a,_,1,v1,rfl,rfl,SqT.of ha,rfl,v1,u,rfl,t1,by omega,by omega,hno',fun H1 s1=>?_⟩;have e1:("~":Str).length=1:=by decide +kernel
   exact⟨_,_,rfl,rfl,by omega,k H1 s1⟩
  | bin o x y =>
   obtain⟨a,rest,rfl,_⟩:=ht.open;obtain⟨v1,v2,ha,t1,t2⟩:=yC ht;have hd':max x.depth y.depth+1<=d+1:=hd;have hn1:dz x:=fun z hz=>hno z (qal _ hz)
   have hn2:dz y:=fun z hz=>hno z (qar _ hz)
   have hs1:=pZ hn1 (by omega);have hs2:=pZ hn2 (by omega);refine⟨_,rfl,a,_,0,_,rfl,rfl,SqT.of ha,rfl,rfl,_,rfl,aU (fun z=>absurd (V.str.inj (qod z)) (by cases o <;> decide +kernel)) (fun _=>?_)⟩;refine⟨_,rfl,a,_,0,_,rfl,rfl,SqT.of ha,rfl,rfl,_,rfl,aU (fun z=>absurd (V.str.inj (qod z)) (by cases o <;> decide +kernel)) (fun _=>?_)⟩;refine⟨_,rfl,a,_,0,_,rfl,rfl,SqT.of ha,rfl,rfl,_,rfl,aU (fun z=>absurd (V.str.inj (qod z)) (by cases o <;> decide +kernel)) (fun _=>?_)⟩;refine⟨_,rfl,a,_,0,_,rfl,rfl,SqT.of ha,rfl,rfl,_,rfl,aU (fun z=>absurd (V.str.inj (qod z)) (by cases o <;> decide +kernel)) (fun _=>?_)⟩;refine fun p hp=>⟨au,GZ,rfl,by decide,?_⟩
   have s2':Same H (upd (upd H p (.dK [])) p (.dK (jz [] GZ))):=Ds hp;refine⟨_,rfl,a,_,0,.str o.str,rfl,rfl,SqT.of (s2' _ _ ha),rfl,p,.str (opG o),rfl,?_,?_⟩
   . rw[<- K7 o]
     exact DGet.k (k:=.inr o.str) au
   have lo:(opG o).length=1:=by rw[z7];rfl
   have l1:("(":Str).length=1:=by decide +kernel
   have l2:(" ":Str).length=1:=by decide +kernel
   have l3:(")":Str).length=1:=by decide +kernel
   refine⟨_,rfl,a,_,1,v1,rfl,rfl,SqT.of (s2' _ _ ha),rfl,v1,x,rfl,t1.mono s2'.tups,by omega,by omega,hn1,fun H1 s1=>?_⟩;refine⟨_,_,rfl,rfl,by omega,_,_,rfl,rfl,by rw[Str.length_append];omega,_,rfl,_,_,rfl,rfl,by rw[Str.length_append,Str.length_append];omega,_,_,rfl,rfl,by rw[Str.length_append,Str.length_append,Str.length_append];omega,?_⟩;refine⟨_,rfl,a,_,2,v2,rfl,rfl,SqT.of (s1 _ _ (s2' _ _ ha)),rfl,v2,y,rfl,t2.mono (s2'.trans s1).tups,by omega,by omega,hn2,fun H2 s2=>?_⟩;refine⟨_,_,rfl,rfl,by rw[Str.length_append,Str.length_append,Str.length_append,Str.length_append];omega,_,_,rfl,rfl,by rw[Str.length_append,Str.length_append,Str.length_append,Str.length_append,Str.length_append];omega,?_⟩;exact k H2 ((s2'.trans s1).trans s2)
theorem vM{ns:List Str}{rs:List Int}(hl:rs.length=2 ^ ns.length){sd:Nat}(hs:sd≠0)(hi:∀ i,sd.testBit i=true->i<2 ^ ns.length):∃ x,aV (sel rs sd)=some x:=by
 cases hc:aV (sel rs sd)with
 |some x=>exact⟨x,rfl⟩
 | none =>
  refine absurd (Nat.eq_of_testBit_eq fun i=>?_) hs;rw[Nat.zero_testBit];cases hb:sd.testBit i with
  |false=>rfl
  | true =>
   have:=mem_sel.mpr ⟨i,by rw[hl];exact hi i hb,hb,rfl⟩;rw[lV hc]at this;cases this
def gw(rs:List Int)(side m:Nat):List Int:=((List.range m).filter fun i=>!side.testBit i).map fun i=>rs.getD i 0
theorem wF(rs:List Int)(side m:Nat):gw rs side (m+1)=gw rs side m++if side.testBit m=true then []else [rs.getD m 0]:=by
 unfold gw;rw[List.range_succ,List.filter_append,List.map_append];cases h:side.testBit m with
 |true=>simp[h]
 |false=>simp[h]
theorem z8(rs:List Int)(side m:Nat):(gw rs side m).length <= m:=by
 unfold gw;rw[qlm];refine qnt (List.length_filter_le _ _) ?_;rw[List.length_range];exact qnr _
theorem mD{ns:List Str}{tr:Tr}{rs:List Int}(hl:rs.length=2 ^ ns.length):gw rs (aQ ns tr) rs.length=sel rs (aP ns tr):=by
 unfold gw sel dD
 congr 1
 refine List.filter_congr fun i hi=>?_
 have hi:=List.mem_range.mp hi;rw[hl]at hi;rw[bG,gW,qdt hi];simp
inductive spSides2(vs:List V)(H:Hp)(Q:VK)(E:XK):Prop
 |mk (r:Addr) (rs:List Int) (td:Nat) (_:vs=[.ref r,.int td]) (_:H r=some (.tup (rs.map V.int))) (_:rs.length<=256) (_:∀(q l1 l2:Addr)(H':Hp),Same H H'->H' q=some (.tup [.ref l1,.ref l2])->H' l1=some (.lst ((sel rs td).map V.int))->H' l2=some (.lst ((gw rs td rs.length).map V.int))->Q (.ref q) H')
inductive spFits(vs:List V)(H:Hp)(Q:VK)(E:XK):Prop
 |mk (l1 l2:Addr) (bs as:List Int) (le m:Int) (_:vs=[.ref l1,.ref l2,.int le]) (_:H l1=some (.lst (bs.map V.int))) (_:H l2=some (.lst (as.map V.int))) (_:bs.length<=256) (_:as.length=bs.length) (_:aV bs=some m) (_:(∀ j,j<bs.length->bs.getD j 0 - as.getD j 0=m - le)) (_:Q (.bl true) H)
inductive spTurnedFits(vs:List V)(H:Hp)(Q:VK)(E:XK):Prop
 |mk (r1 r2:Addr) (rs:List Int) (ns:List Str) (tr:Tr) (x y lean:Int) (_:vs=[.ref r1,.ref r2,.int (aQ ns tr:Nat),.int lean]) (_:H r1=some (.tup (rs.map V.int))) (_:H r2=some (.tup ((cJ rs (aP ns tr) x y lean).map V.int))) (_:rs.length<=256) (_:TwoL ns tr rs x y) (_:∀ H',Same H H'->Q (.bl true) H')
theorem vN{rs:List Int}{bk sd m:Nat}{x y lean d:Int}(hm:m<=rs.length)(h:∀ i,i<m->sd.testBit i=true->(if bk.testBit i=true then cj lean - x else cj (-lean) - y)=d):dD (cJ rs bk x y lean) sd m=(dD rs sd m).map (· + d):=by
 unfold dD;rw[List.map_map];refine List.map_congr_left fun i hi=>?_
 obtain⟨h1,h2⟩:=List.mem_filter.mp hi;have h1:=List.mem_range.mp h1;show(cJ rs bk x y lean).getD i 0=rs.getD i 0+d;rw[gG (by omega),h i h1 h2]
theorem xK{bs:List Int}{d e:Int}(h : -d=e):∀ j,j<bs.length->bs.getD j 0 - (bs.map (· + d)).getD j 0=e:=fun j hj=>by
 rw[List.getD,List.getD,qgm,List.getElem?_eq_getElem hj];show bs[j] - (bs[j] + d)=e;omega
theorem vO(l:Int):(if l > 0 then l else 0)=cj l:=by
 unfold cj
 split <;> split <;> omega
theorem scSides2:FnScope ["_law_ranks","_law_told","_law_keeping","_law_breaking"] ["_law_ranks","_law_told"] (aB S99):=mkS
theorem tK(T:Txt P w K mg t):FO P w K mg base 1 t.a99 t.d99 ["_law_ranks","_law_told"] spSides2:=by
 refine T.q99.F.ok2 scSides2 (fun cdv A outer s H vs Q E hr h=>?_);obtain⟨r,rs,td,rfl,hr0,hlen,k⟩:=h;have nd:=scSides2.nd
 refine⟨_,(ak (gk (i:=2) rfl ["_law_world","_law_rank","_law_told"] [none,none,some 1] nd rfl rfl (m8 (pvl 0) T.zq) (by kernel_rfl) (fun _ _ _ _ _ _=>(lu (K:=K) (n:=2) rfl rfl (bT (pgl 0 (ndS (l:=["_law_world","_law_rank","_law_told"]))) (bT (pgl 1 (ndS (l:=["_law_world","_law_rank","_law_told"]))) gf)))) (fun _ _ _ _ _ _=>iD (aG aW (aF gn (aF ux (pvc 2) (pvl 0)) ao) ao (aJ _))) (fun _ _ _ _ _ _=>(pvl 1)))
   (ak (gk (i:=3) rfl ["_law_world","_law_rank","_law_told"] [none,none,some 1] nd rfl rfl (m8 (pvl 0) T.zq) (by kernel_rfl) (fun _ _ _ _ _ _=>(lu (K:=K) (n:=2) rfl rfl (bT (pgl 0 (ndS (l:=["_law_world","_law_rank","_law_told"]))) (bT (pgl 1 (ndS (l:=["_law_world","_law_rank","_law_told"]))) gf)))) (fun _ _ _ _ _ _=>iD (aG aW (aF gn (aF ux (pvc 2) (pvl 0)) ao) ao (aJ _))) (fun _ _ _ _ _ _=>(pvl 1)))
   (aq (aA (bh (aa (pvl 2) (aa (pvl 3) aj))))))),?_⟩
 refine⟨_,rfl,r,rfl,⟨_,SqT.of hr0⟩,?_⟩;refine ji (K:=K) (a:=r) (xs:=rs.map V.int) (fun i ys H'=>Same H H'/\ys=(dD rs td i).map V.int) ⟨Same.refl _,rfl⟩ (lk (by rw[qlm];omega)) (fun i ys H' ⟨_,e⟩=>by rw[e,qlm];exact jU _ _ _) (fun i ys H' ⟨s1,_⟩=>SqT.of (s1 _ _ hr0)) ?_ ?_
 . rintro i y ys H1 hi ⟨s1,rfl⟩ e he
   rw[qgm]at hi
   obtain⟨x,hx,rfl⟩:∃ x,rs[i]? = some x/\y=V.int x:=by
    cases q:rs[i]? with
    |none=>rw[q]at hi;cases hi
    |some x=>rw[q]at hi;exact⟨x,rfl,(qsi hi).symm⟩
   have s2:=s1.trans (aD (o:=.tup [.int i,.int x]) he);refine⟨e,_,rfl,SqT.of au,rfl,_,_,rfl,_,_,rfl,rfl,⟨rfl,trivial⟩,?_⟩;refine⟨_,rfl,_,rfl,_,_,rfl,rfl,Int.natCast_nonneg i,_,_,rfl,rfl,?_⟩
   try dsimp -proj -iota only
   rw[FP];unfold pM;rw[qx];have ex:rs.getD i 0=x:=by rw[List.getD,hx];rfl
   cases hb:td.testBit i with
   | true =>
    refine⟨rfl,_,rfl,bO ?_⟩;refine⟨_,rfl,s2,?_⟩;rw[qp rfl,List.map_append,ex]
    rfl
   | false =>
    refine⟨rfl,_,rfl,bj ⟨s2,?_⟩⟩;rw[qnZ (by decide),List.append_nil]
 rintro ys H1 ⟨s1,rfl⟩ l1 hl1;rw[qlm];have s2:=s1.trans (aD (o:=.lst ((dD rs td rs.length).map V.int)) hl1);have hl1':(upd H1 l1 (.lst ((dD rs td rs.length).map V.int))) l1=some (.lst ((dD rs td rs.length).map V.int)):=au;generalize upd H1 l1 (.lst ((dD rs td rs.length).map V.int))=H2 at s2 hl1' ⊢;refine⟨_,rfl,r,rfl,⟨_,SqT.of (s2 _ _ hr0)⟩,?_⟩;refine ji (K:=K) (a:=r) (xs:=rs.map V.int) (fun i ys H'=>Same H2 H'/\ys=(gw rs td i).map V.int) ⟨Same.refl _,rfl⟩ (lk (by rw[qlm];omega)) (fun i ys H' ⟨_,e⟩=>by rw[e,qlm];exact z8 _ _ _) (fun i ys H' ⟨s1,_⟩=>SqT.of (s1 _ _ (s2 _ _ hr0))) ?_ ?_
 . rintro i y ys H1 hi ⟨s1,rfl⟩ e he
   rw[qgm]at hi
   obtain⟨x,hx,rfl⟩:∃ x,rs[i]? = some x/\y=V.int x:=by
    cases q:rs[i]? with
    |none=>rw[q]at hi;cases hi
    |some x=>rw[q]at hi;exact⟨x,rfl,(qsi hi).symm⟩
   have s2:=s1.trans (aD (o:=.tup [.int i,.int x]) he);refine⟨e,_,rfl,SqT.of au,rfl,_,_,rfl,_,_,rfl,rfl,⟨rfl,trivial⟩,?_⟩;refine⟨_,rfl,_,rfl,_,_,rfl,rfl,Int.natCast_nonneg i,_,_,rfl,rfl,?_⟩
   try dsimp -proj -iota only
   rw[FP];unfold pM;rw[wF];have ex:rs.getD i 0=x:=by rw[List.getD,hx];rfl
   cases hb:td.testBit i with
   | true =>
    refine⟨rfl,_,rfl,bj ⟨s2,?_⟩⟩;rw[qp rfl,List.append_nil]
   | false =>
    refine⟨rfl,_,rfl,bO ?_⟩;refine⟨_,rfl,s2,?_⟩;rw[qnZ (by decide),List.map_append,ex]
    rfl
 rintro ys H3 ⟨s3,rfl⟩ l2 hl2;rw[qlm];have s4:=aD (o:=.lst ((gw rs td rs.length).map V.int)) hl2;refine⟨_,rfl,_,rfl,lk (by first|exact qnb rfl|simp),fun q hq=>?_⟩;have s5:=aD (o:=.tup [.ref l1,.ref l2]) hq;exact k q l1 l2 _ (((s2.trans s3).trans s4).trans s5) au (s5 _ _ (s4 _ _ (s3 _ _ hl1'))) (s5 _ _ au)
theorem scFits:FnScope ["_law_before","_law_after","_law_least","_law_gap","_law_k"] ["_law_before","_law_after","_law_least"] (aB Ff):=mkS
theorem wG(T:Txt P w K mg t):FO P w K mg base 1 t.a100 t.d100 ["_law_before","_law_after","_law_least"] spFits:=by
 refine T.q100.F.ok2 scFits (fun cdv A outer s H vs Q E hr h=>?_);obtain⟨l1,l2,bs,as,le,m,rfl,h1,h2,h256,hal,hm,hgap,k⟩:=h;have nd:=scFits.nd
 refine ⟨_,(ak (psl 3 nd (aF cP (bf (sE rfl) T.zF Bt.min (aa (pvl 0) aj)) (pvl 2)))
   (ak (fL own1 rfl (gU T.zr (aa (bf aZ T.ze Bt.len (aa (pvl 0) aj)) aj)) (pgl 4 nd)
    (aq (aR (aG gh (aF cP (pix bN (pvl 0) (pvl 4)) (pix bN (pvl 1) (pvl 4))) (pvl 3) (aJ _))
     (aq (aA dR))
     aN)))
   (aq (aA dR)))),?_⟩
 have hpos:0<bs.length:=List.length_pos_of_mem (cz hm).1;refine⟨_,rfl,l1,bs,rfl,SqL.of h1,hpos,fun M hM1 hM2=>?_⟩;obtain rfl:m=M:=qsi (hm.symm.trans (jF hM1 hM2));refine⟨_,rfl,_,_,rfl,rfl,?_⟩;refine⟨_,rfl,l1,_,rfl,.inl (SqL.of h1),?_⟩
 try dsimp -proj -iota only
 rw[qlm];refine⟨_,rfl,by omega,by omega,?_⟩;rw[Int.toNat_natCast];refine Ak (lo:=0) (n:=bs.length) (fun i σ H2=>∃ o4:Option V,σ=[some (.ref l1),some (.ref l2),some (.int le),some (.int (m - le)),o4]/\H2=H) ⟨none,rfl,rfl⟩ ?_ ?_
 . rintro i σ H2 hi ⟨o4,rfl,rfl⟩
   have g:=hgap i hi;have e1:(bs.map V.int)[i]? = some (.int (bs.getD i 0)):=by rw[qgm,List.getD,List.getElem?_eq_getElem hi];rfl
   have e2:(as.map V.int)[i]? = some (.int (as.getD i 0)):=by rw[qgm,List.getD,List.getElem?_eq_getElem (by omega)];rfl
   refine⟨_,rfl,_,rfl,l1,_,_,_,rfl,rfl,SqL.of h1,jA (by omega) (by rw[Int.zero_add,Int.toNat_natCast];exact e1),_,rfl,_,rfl,l2,_,_,_,rfl,rfl,SqL.of h2,jA (by omega) (by rw[Int.zero_add,Int.toNat_natCast];exact e2),_,_,rfl,rfl,_,rfl,rfl,_,rfl,aU (fun z=>?_) (fun _=>⟨_,rfl,rfl⟩)⟩;rw[qdt (congrArg V.int g)]at z;cases z
 . rintro σ H2 ⟨o4,rfl,rfl⟩
   exact k
theorem scTFits:FnScope ["_law_before","_law_after","_law_told","_law_lean","_law_ahead","_law_behind"] ["_law_before","_law_after","_law_told","_law_lean"] (aB Fg):=mkS
theorem tZ(T:Txt P w K mg t):FO P w K mg base 2 t.a101 t.d101 ["_law_before","_law_after","_law_told","_law_lean"] spTurnedFits:=by
 have G99:=tK (base:=base) T;have G100:=wG (base:=base) T;refine T.q101.F.ok2 scTFits (fun cdv A outer s H vs Q E hr h=>?_);obtain⟨r1,r2,rs,ns,tr,x,y,lean,rfl,h1,h2,h256,two,k⟩:=h;have nd:=scTFits.nd
 refine⟨_,(ak (psl 4 nd (aO G99 (hr.mo) T.q99.m T.q99.k T.q99.b aK (aa (pvl 0) (aa (pvl 2) aj))))
   (ak (psl 5 nd (aO G99 (hr.mo) T.q99.m T.q99.k T.q99.b aK (aa (pvl 1) (aa (pvl 2) aj))))
   (aq (aA (kJ (aO G100 (hr.mo) T.q100.m T.q100.k T.q100.b aK (aa (pix aM (pvl 4) ao) (aa (pix aM (pvl 5) ao) (aa (bf (jO rfl) T.zE Bt.max (aa ao (aa (lH jx (pvl 3)) aj))) aj)))) (jt (aO G100 (hr.mo) T.q100.m T.q100.k T.q100.b aK (aa (pix aM (pvl 4) ao) (aa (pix aM (pvl 5) ao) (aa (bf (jO rfl) T.zE Bt.max (aa ao (aa (pvl 3) aj))) aj)))))))))),?_⟩
 have tl:=gY rs (aP ns tr) x y lean;refine⟨_,rfl,_,rfl,r1,rs,aQ ns tr,rfl,h1,h256,fun q1 a1 a2 H1 s1 hq1 ha1 ha2=>?_⟩;refine⟨_,rfl,_,rfl,r2,_,aQ ns tr,rfl,s1 _ _ h2,by rw[tl];exact h256,fun q2 b1 b2 H2 s2 hq2 hb1 hb2=>?_⟩;rw[mD two.len]at ha2;rw[mD (by rw[tl];exact two.len)]at hb2;have hl:=two.len
 have k1:sel (cJ rs (aP ns tr) x y lean) (aQ ns tr)=(sel rs (aQ ns tr)).map (· + (cj (-lean) - y)):=by
  unfold sel;rw[tl];refine vN (qnr _) fun i hi hb=>?_
  rw[hl]at hi;rw[bG,qdt hi]at hb;have hb:bw (inW ns i) tr=true:=by simpa using hb
  rw[qnZ (by rw[gW,hb];simp)]
 have k2:sel (cJ rs (aP ns tr) x y lean) (aP ns tr)=(sel rs (aP ns tr)).map (· + (cj lean - x)):=by
  unfold sel;rw[tl];exact vN (qnr _) fun i hi hb=>qp hb
 rw[k1]at hb1;rw[k2]at hb2;have l1:(sel rs (aQ ns tr)).length <= 256:=qnt (jU _ _ _) h256;have l2:(sel rs (aP ns tr)).length <= 256:=qnt (jU _ _ _) h256;refine⟨_,rfl,q1,_,0,_,rfl,rfl,SqT.of (s2 _ _ hq1),rfl,_,rfl,q2,_,0,_,rfl,rfl,SqT.of hq2,rfl,_,rfl,lean,rfl,0,-lean,rfl,?_⟩
 try dsimp -proj -iota only
 rw[vO];refine⟨a1,b1,_,_,_,y,rfl,s2 _ _ ha1,hb1,l1,qlm _,two.kp,xK (by omega),_,rfl,bO ?_⟩;refine⟨_,rfl,q1,_,1,_,rfl,rfl,SqT.of (s2 _ _ hq1),rfl,_,rfl,q2,_,1,_,rfl,rfl,SqT.of hq2,rfl,_,rfl,0,lean,rfl,?_⟩
 try dsimp -proj -iota only
 rw[vO];exact⟨a2,b2,_,_,_,x,rfl,s2 _ _ ha2,hb2,l2,qlm _,two.br,xK (by omega),k H2 (s1.trans s2)⟩
def z9(ns:List Str)(tr:Tr)(kd:Str):Prop:=(kd="take"/\aQ ns tr≠0)\/(kd="give"/\aQ ns tr≠cg ns.length)\/(kd="lean"/\aQ ns tr≠0/\aQ ns tr≠cg ns.length)\/kd="ask"
def NbOk(kd:Str)(num:Int):Prop:=(kd="lean"/\-(10 ^ 30)<num/\num<10 ^ 30)\/(¬ kd="lean"/\0<num/\num<10 ^ 30)
structure TrOk(ns:List Str)(tr:Tr):Prop where
 dp:tr.depth<=4
 sz:tr.size<=100
 nm:∀ x∈tr.names,x∈ns
inductive spPlan(vs:List V)(H:Hp)(Q:VK)(E:XK):Prop
 |mk (np cl:Addr) (ns:List Str) (c k:Int) (_:vs=[.ref np,.int c,.int k,.ref cl]) (_:H np=some (.tup (ns.map V.str))) (_:1<=ns.length) (_:ns.length<=8) (_:0<=k) (_:k<1000) (_:∀(q:Addr)(vt vo:V)(tr:Tr)(kd:Str)(num i:Int)(H':Hp),Same H H'->H' q=some (.tup [.str kd,.int num,vt,vo,.int i])->TrAt H' vt tr->TrOk ns tr->z9 ns tr kd->NbOk kd num->0<=i->Q (.ref q) H')
theorem at5{m:Int}(h0:0<=m)(h5:m<5):∃ kd:Str,atI [V.str "take",V.str "give",V.str "lean",V.str "take",V.str "lean"] m=some (.str kd)/\(kd="take"\/kd="give"\/kd="lean"):=by
 obtain⟨n,rfl⟩:∃ n:Nat,m=(n:Int):=⟨m.toNat,by omega⟩
 match n,(by omega:n<5)with
 | 0,_=>exact⟨_,rfl,.inl rfl⟩
 | 1,_=>exact⟨_,rfl,.inr (.inl rfl)⟩
 | 2,_=>exact⟨_,rfl,.inr (.inr rfl)⟩
 | 3,_=>exact⟨_,rfl,.inl rfl⟩
 | 4,_=>exact⟨_,rfl,.inr (.inr rfl)⟩
theorem scPlan:FnScope ["_law_names","_law_cell","_law_k","_law_counts","_law_m","_law_verb","_law_tree","_law_other","_law_told","_law_always","_law_number"] ["_law_names","_law_cell","_law_k","_law_counts"] (aB Fj):=mkS
theorem JN(T:Txt P w K mg t):FO P w K mg base 7 t.a103 t.d103 ["_law_names","_law_cell","_law_k","_law_counts"] spPlan:=by
 have G93:=FZ (base:=base) T;have G95:=Hy (base:=base) T 4;have G97:=nF (base:=base) T 4;refine T.q103.F.ok2 (k:=6) scPlan (fun cdv A outer s H vs Q E hr h=>?_);obtain⟨np,cl,ns,c,kk,rfl,hnp,h1,h8,hk0,hk1,k⟩:=h;have nd:=scPlan.nd;have hu:=gj hr
 refine⟨_,(ak (psl 4 nd (aO G93 (hr.mo) T.q93.m T.q93.k T.q93.b aK (aa (pvl 1) (aa (pvl 2) aj))))
   (ak (psl 5 nd (pix bN (bC (aa az (aa az (aa az (aa az (aa az aj)))))) (aF bU (pvl 4) ao)))
   (ak (psl 6 nd (aO G95 (hr.mo) T.q95.m T.q95.k T.q95.b aK (aa (pvl 0) (aa (aO G93 (hr.mo) T.q93.m T.q93.k T.q93.b aK (aa (pvl 1) (aa (aF cW (pvl 2) ao) aj))) (aa ao aj)))))
   (ak (psl 7 nd (aO G95 (hr.mo) T.q95.m T.q95.k T.q95.b aK (aa (pvl 0) (aa (aO G93 (hr.mo) T.q93.m T.q93.k T.q93.b aK (aa (pvl 1) (aa (aF cW (pvl 2) ao) aj))) (aa ao aj)))))
   (ak (psl 8 nd (aO G97 (hr.mo) T.q97.m T.q97.k T.q97.b aK (aa (pvl 0) (aa (pvl 6) aj))))
   (ak (psl 9 nd (dY aW (pvl 8) (aF cP (aF gb ao (aF gb ao (bf aZ T.ze Bt.len (aa (pvl 0) aj)))) ao) (aJ _)))
   (ak (aR (PW.pt (dB (PW.pt (fY (aG aW (pvl 5) az (aJ _)) (eX (aG aW (pvl 8) ao (aJ _))))) (dB (PW.pt (fY (aG iW (pvl 5) (bh (aa az (aa az aj))) (by with_unfolding_all rfl)) (eX (b7 (pvl 9))))) (dZ (PW.pt (fY (aG aW (pvl 5) az (aJ _)) (eX (PW.pt (dB (b7 (pvl 9)) (dZ (aG aW (pvl 8) ao (aJ _))))))))))))
    (aq (psl 5 nd az))
    aN)
   (ak (aR (PW.pt (dB (PW.pt (fY (aG aW (pvl 5) az (aJ _)) (eX (aG aW (pix bN (pvl 3) ao) ao (aJ _))))) (dZ (PW.pt (fY (aG aW (pvl 5) az (aJ _)) (eX (aG aW (pix bN (pvl 3) ao) ao (aJ _))))))))
    (aq (psl 5 nd az))
    aN)
   (ak (aR (PW.pt (fY (aG aW (pvl 5) az (aJ _)) (eX (aG (pJ (Nat.lt_of_succ_lt hu)) (pix bN (pvl 3) ao) (bC aj) (aJ _)))))
    (aq (psl 5 nd az))
    aN)
   (ak (psl 10 nd (aF cW ao (aF bU (pvl 1) (aF cP (aF uw ao ao) ao))))
   (ak (aR (aG aW (pvl 5) az (aJ _))
    (aq (psl 10 nd (aF cP (aF bU (pvl 1) (aF cP (aF fZ ao (aF uw ao ao)) ao)) (aF cP (aF uw ao ao) ao))))
    aN)
   (aq (aA (bh (aa (pvl 5) (aa (pvl 10) (aa (pvl 6) (aa (pvl 7) (aa (aF fM (pvl 4) ao) aj))))))))))))))))))),?_⟩
 refine⟨_,rfl,_,rfl,c,kk,rfl,hk0,by omega,fun m hm=>?_⟩;have hm5:=qen m (show(5:Int)≠0 by decide);have hm5':=qel m (show(0:Int)<5 by decide);obtain⟨kd0,hat,hkd0⟩:=at5 hm5 hm5';refine⟨lk (by first|exact qnb rfl|simp),fun q0 hq0=>?_⟩;have s0:=aD (o:=.lst [.str "take",.str "give",.str "lean",.str "take",.str "lean"]) hq0;refine⟨_,rfl,_,_,rfl,rfl,(by show(0:Int)<5;decide),q0,_,_,.str kd0,rfl,rfl,SqL.of au,hat,?_⟩;generalize upd H q0 (.lst [.str "take",.str "give",.str "lean",.str "take",.str "lean"])=H0 at s0 ⊢;refine⟨_,rfl,_,rfl,_,rfl,_,_,rfl,rfl,c,kk+100,rfl,by omega,by omega,fun m1 hm1=>⟨np,ns,m1,3,rfl,s0 _ _ hnp,h1,h8,by decide,by decide,fun vt tr H1 s1 ht hd hz hn=>?_⟩⟩;refine⟨_,rfl,_,rfl,_,rfl,_,_,rfl,rfl,c,kk+200,rfl,by omega,by omega,fun m2 hm2=>⟨np,ns,m2,3,rfl,s1 _ _ (s0 _ _ hnp),h1,h8,by decide,by decide,fun vo tr2 H2 s2 ht2 hd2 hz2 hn2=>?_⟩⟩;have s02:=(s0.trans s1).trans s2;have hnp2:=s02 _ _ hnp;refine⟨_,rfl,_,rfl,np,vt,ns,tr,rfl,hnp2,h8,ht.mono s2.tups,hd,hn,fun H3 s3=>?_⟩;have s03:=s02.trans s3;have hnp3:=s03 _ _ hnp;have ht3:=ht.mono (s2.trans s3).tups;have el:(ns.map V.str).length=ns.length:=qlm _;have c1:mR 1 (((ns.map V.str).length:Nat):Int):=⟨by omega,by rw[el];omega,by decide⟩
 have c2:mR 1 ((1:Int) * 2 ^ (((ns.map V.str).length:Nat):Int).toNat):=by
  rw[el,pw1];exact⟨(pwI h8).1,by have:=(pwI h8).2;omega,by decide⟩
 have ef:(1:Int) * 2 ^ ((1:Int) * 2 ^ (((ns.map V.str).length:Nat):Int).toNat).toNat - 1=((cg ns.length:Nat):Int):=by
  rw[el,pw1,pw2]
  rfl
 refine⟨_,rfl,_,rfl,np,_,rfl,.inr (SqT.of hnp3),_,_,rfl,rfl,c1,_,_,rfl,rfl,c2,_,_,rfl,rfl,?_⟩
 try dsimp -proj -iota only
 rw[ef];refine⟨rfl,?_⟩;obtain⟨alw,halw⟩:∃ alw:Bool,decide (V.int ((aQ ns tr:Nat):Int)=V.int ((cg ns.length:Nat):Int))=alw:=⟨_,rfl⟩
 rw[halw];have hin:inV (.str kd0) [V.str "give",V.str "lost"]=decide (kd0="give"):=by rcases hkd0 with e|e|e <;> rw[e] <;> decide +kernel
 have ha:alw=true↔aQ ns tr=cg ns.length:=by
  rw[<- halw,decide_eq_true_iff];exact⟨fun z=>Int.ofNat.inj (V.int.inj z),fun z=>by rw[z]⟩
 have h00:∀{n:Nat},decide (V.int ((n:Nat):Int)=V.int 0)=true↔n=0:=fun {n}=>by
  rw[decide_eq_true_iff];exact⟨fun z=>Int.ofNat.inj (V.int.inj z),fun z=>by rw[z];rfl⟩
 apply Mm (fun σ H'=>∃ kd:Str,σ=[some (.ref np),some (.int c),some (.int kk),some (.ref cl),some (.int m),some (.str kd),some vt,some vo,some (.int (aQ ns tr:Nat)),some (.bl alw),none]/\Same H3 H'/\z9 ns tr kd)
 . intro g
   apply yH (S:=kd0="take"->aQ ns tr≠0)
   . intro g2
     refine⟨_,rfl,rfl,_,rfl,aU (fun z1=>?x1) (fun z1=>bj ?x2)⟩
     case x1 =>
      refine⟨_,rfl,rfl,_,rfl,aU (fun z2=>bO ?y1) (fun z2=>?y2)⟩
      case y1 =>
       show JX _ _ _ _ _;apply g;exact⟨"ask",rfl,Same.refl _,.inr (.inr (.inr rfl))⟩
      case y2 =>
       apply g2;exact fun _ z=>z2 (h00.mpr z)
     case x2=>exact g2 fun z=>absurd (qdt (by rw[z])) z1
   . intro hS
     refine⟨_,rfl,lk (by first|exact qnb rfl|simp),fun q1 hq1=>⟨q1,_,rfl,.inr (SqT.of au),rfl,rfl,?_⟩⟩;have s4:=aD (o:=.tup [.str "give",.str "lost"]) hq1;generalize upd H3 q1 (.tup [.str "give",.str "lost"])=H4 at s4 ⊢;rw[qnZ qbf,hin];apply yH (S:=kd0="give"->aQ ns tr≠cg ns.length)
     . intro g3
       refine⟨_,rfl,aU (fun z1=>?x1) (fun z1=>bj ?x2)⟩
       case x1 =>
        refine⟨_,rfl,_,rfl,aU (fun z2=>bO ?y1) (fun z2=>?y2)⟩
        case y1=>exact g _ _ ⟨"ask",rfl,s4,.inr (.inr (.inr rfl))⟩
        case y2 =>
         apply g3;exact fun _ z=>z2 (ha.mpr z)
       case x2=>exact g3 fun z=>absurd (qdt z) z1
     . intro hG
       refine⟨_,rfl,rfl,_,rfl,aU (fun z1=>?x1) (fun z1=>bj ?x2)⟩
       case x1 =>
        have e1:kd0="lean":=V.str.inj (qod z1);refine⟨_,rfl,_,rfl,aU (fun z2=>bO ?y1) (fun z2=>?y2)⟩
        case y1=>exact g _ _ ⟨"ask",rfl,s4,.inr (.inr (.inr rfl))⟩
        case y2 =>
         refine⟨_,rfl,rfl,_,rfl,aU (fun z3=>?w1) (fun z3=>?w2)⟩
         case w1=>exact g _ _ ⟨"ask",rfl,s4,.inr (.inr (.inr rfl))⟩
         case w2=>exact g _ _ ⟨kd0,rfl,s4,.inr (.inr (.inl ⟨e1,fun z=>z3 (h00.mpr z),fun z=>z2 (ha.mpr z)⟩))⟩
       case x2 =>
        have e1:¬ kd0="lean":=fun z=>z1 (qdt (by rw[z]))
        refine g _ _ ⟨kd0,rfl,s4,?_⟩;rcases hkd0 with e|e|e
        . exact .inl ⟨e,hS e⟩
        . exact .inr (.inl ⟨e,hG e⟩)
        . exact absurd e e1
 . rintro σ H4 ⟨kd,rfl,s4,hV⟩
   have hne:¬ kd="back"/\¬ kd="again"/\¬ kd="pour":=by
    rcases hV with⟨e,_⟩|⟨e,_⟩|⟨e,_⟩|e <;> rw[e] <;> exact⟨by decide +kernel,by decide +kernel,by decide +kernel⟩
   have s04:=s03.trans s4;have ht4:=ht3.mono s4.tups;have cp:mR 10 30:=⟨by decide,by decide,by decide⟩
   refine⟨_,rfl,rfl,_,rfl,aU (fun z=>absurd (V.str.inj (qod z)) hne.1) (fun _=>bj ⟨_,rfl,rfl,_,rfl,aU (fun z=>absurd (V.str.inj (qod z)) hne.2.1) (fun _=>bj ?_)⟩)⟩;refine⟨_,rfl,rfl,_,rfl,aU (fun z=>absurd (V.str.inj (qod z)) hne.2.2) (fun _=>bj ?_)⟩;refine⟨_,rfl,_,_,rfl,rfl,cp,_,_,rfl,rfl,_,_,rfl,rfl,(by show(0:Int)<10 ^ (30:Int).toNat - 1;decide),_,_,rfl,rfl,?_⟩
   try dsimp -proj -iota only
   have a0:=qen c (show(10:Int) ^ (30:Int).toNat - 1≠0 by decide);have a1:=qel c (show(0:Int)<10 ^ (30:Int).toNat - 1 by decide);have e30:(10:Int) ^ (30:Int).toNat=10 ^ 30:=rfl;rw[e30]at a0 a1 ⊢;obtain⟨num,hnum⟩:∃ num,1+c % (10 ^ 30 - 1)=num:=⟨_,rfl⟩
   rw[hnum];refine⟨_,rfl,rfl,_,rfl,aU (fun z=>?_) (fun z=>?_)⟩
   . have e1:kd="lean":=V.str.inj (qod z)
     refine⟨_,rfl,_,_,rfl,rfl,cp,_,_,rfl,rfl,.inl ⟨by decide,by decide⟩,_,_,rfl,rfl,_,_,rfl,rfl,(by show(0:Int)<2 * 10 ^ (30:Int).toNat - 1;decide),_,_,rfl,rfl,cp,_,_,rfl,rfl,_,_,rfl,rfl,?_⟩
     try dsimp -proj -iota only
     have b0:=qen c (show(2:Int) * 10 ^ (30:Int).toNat - 1≠0 by decide);have b1:=qel c (show(0:Int)<2 * 10 ^ (30:Int).toNat - 1 by decide);rw[e30]at b0 b1 ⊢;refine⟨_,rfl,_,rfl,_,rfl,_,rfl,_,rfl,_,_,rfl,rfl,⟨by decide,by decide⟩,lk (by first|exact qnb rfl|simp),fun q hq=>?_⟩;have s5:=aD (o:=.tup [.str kd,.int (c % (2 * 10 ^ 30 - 1) - (10 ^ 30 - 1)),vt,vo,.int (m / 5)]) hq;exact k q vt vo tr kd _ _ _ (s04.trans s5) au (ht4.mono s5.tups) ⟨hd,by omega,hn⟩ hV (.inl ⟨e1,by omega,by omega⟩) (by omega)
   . have e1:¬ kd="lean":=fun e=>z (qdt (by rw[e]))
     refine⟨_,rfl,_,rfl,_,rfl,_,rfl,_,rfl,_,_,rfl,rfl,⟨by decide,by decide⟩,lk (by first|exact qnb rfl|simp),fun q hq=>?_⟩;have s5:=aD (o:=.tup [.str kd,.int num,vt,vo,.int (m / 5)]) hq;exact k q vt vo tr kd _ _ _ (s04.trans s5) au (ht4.mono s5.tups) ⟨hd,by omega,hn⟩ hV (.inr ⟨e1,by omega,by omega⟩) (by omega)
theorem G7{X:Cx}{e:Expr}:PT X e (fun _ _ _=>False):=by
 unfold L2.PT;exact fun _ _ _ _ _ _ h=>h.elim
inductive spPairs66(vs:List V)(H:Hp)(Q:VK)(E:XK):Prop
 |mk (l:Addr) (m:Int) (_:vs=[.int m,.ref l]) (_:H l=some (.lst [.str "a"])) (_:0<=m) (_:∀(p:Addr) (H':Hp),Same H H'->Q (.ref p) H')
inductive spCounted(vs:List V)(H:Hp)(Q:VK)(E:XK):Prop
 |mk (cl q e:Addr) (a b:Int) (kd:Str) (us:List V) (_:vs=[.ref cl,.ref q]) (_:H cl=some (.lst [.int a,.int b,.ref e])) (_:H q=some (.tup (.str kd::us))) (_:(kd="take"\/kd="give"\/kd="lean"\/kd="ask")) (_:∀(cl':Addr) (a' b':Int) (H':Hp),Same H H'->H' cl'=some (.lst [.int a',.int b',.ref e])->(H cl'=none\/cl'=cl)->Q (.ref cl') H')
structure Pl where
 (kd:Str) (num:Int) (tr:Tr)
def PlanAt(H:Hp)(v:V)(x:Pl):Prop:=∃(q:Addr)(vt vo pa:V)(i:Int),v = .ref q/\H q=some (.tup [.str x.kd,.int x.num,vt,vo,.int i,pa])/\TrAt H vt x.tr
theorem PlanAt.tups{H H':Hp}(k:Tups H H'){v:V}{x:Pl}(h:PlanAt H v x):PlanAt H' v x:=by
 obtain⟨q,vt,vo,pa,i,e,h1,h2⟩:=h;exact⟨q,vt,vo,pa,i,e,k _ _ h1,h2.mono k⟩
structure PlOk(ns:List Str)(x:Pl):Prop where
 tr:TrOk ns x.tr
 vb:z9 ns x.tr x.kd
 nb:NbOk x.kd x.num
inductive spPlans(K:W.Frag)(vs:List V)(H:Hp)(Q:VK)(E:XK):Prop
 |mk (np l:Addr) (ns:List Str) (cs:List Int) (_:vs=[.ref np,.ref l]) (_:H np=some (.tup (ns.map V.str))) (_:1<=ns.length) (_:ns.length<=8) (_:H l=some (.lst (cs.map V.int))) (_:cs.length<=90) (_:∀(p:Addr)(us:List V)(pls:List Pl)(H':Hp),Same H H'->H' p=some (.lst us)->Paired (PlanAt H') us pls->(∀ x∈pls,PlOk ns x)->pls.length=cs.length->Q (.ref p) H')
theorem scPairs66:FnScope ["_law_m","_law_kept"] ["_law_m","_law_kept"] (aB Fl):=mkS
theorem Aa(T:Txt P w K mg t):FO P w K mg base 1 t.a105 t.d105 ["_law_m","_law_kept"] spPairs66:=by
 refine T.q105.F.ok2 scPairs66 (fun cdv A outer s H vs Q E hr h=>?_);obtain⟨l,m,rfl,hl,hm,k⟩:=h;have nd:=scPairs66.nd;refine⟨_,(aq (aA (dg rfl ["_law_k","_law_kept","_law_m"] [none,some 1,some 0] (gU T.zr (aa (aF cW ao (aF bU (pvc 0) ao)) aj)) (by kernel_rfl) (fun _ _ _ _ _ _=>(pgl 0 (ndS (l:=["_law_k","_law_kept","_law_m"])))) (fun _ _ _ _ _ _=>dG) (fun _ _ _ _ _ _=>(bh (aa (aF cW ao (aF bU (aF fM (pvc 2) (aF cW (pvl 0) ao)) ao)) (aa (pix (Ei (K:=K)) (pvc 1) (aF bU (aF fM (pvc 2) (aF cW (aF fZ ao (pvl 0)) ao)) (bf (tV (K:=K)) T.ze Bt.len (aa (pvc 1) aj)))) aj))))))),?_⟩;have a0:=qen m (show(4:Int)≠0 by decide);have a1:=qel m (show(0:Int)<4 by decide);refine⟨_,rfl,_,_,rfl,rfl,(by show(0:Int)<4;decide),_,_,rfl,rfl,_,rfl,by show(-(2 ^ 62):Int)<=1+m % 4;omega,by show(1+m % 4:Int)<2 ^ 62;omega,?_⟩;refine lN (lo:=0) (n:=(1+m % 4).toNat) (fun i ys H'=>Same H H'/\ys.length=i) ⟨Same.refl _,rfl⟩ (lk (by omega)) (fun i ys H' ⟨_,e⟩=>by omega) ?_ ?_
 . rintro i ys H1 hi ⟨s1,hy⟩
   refine⟨⟨rfl,rfl,trivial⟩,?_⟩;refine⟨_,rfl,_,rfl,_,_,rfl,rfl,_,_,rfl,rfl,⟨by show(0:Int)<0+(i:Int)+3;omega,by show 0+(i:Int)+3<1073741824;omega⟩,_,_,rfl,rfl,(by show(0:Int)<1000003;decide),_,_,rfl,rfl,?_⟩;refine⟨_,rfl,_,rfl,_,rfl,_,_,rfl,rfl,.inl ⟨by decide,by decide⟩,_,_,rfl,rfl,_,_,rfl,rfl,⟨by show(0:Int)<5 * (0+(i:Int))+2;omega,by show 5 * (0+(i:Int))+2<1073741824;omega⟩,_,rfl,l,_,rfl,.inl (SqL.of (s1 _ _ hl)),_,_,rfl,rfl,(by show(0:Int)<1;decide),l,_,_,.str "a",rfl,rfl,SqL.of (s1 _ _ hl),?_,lk (by first|exact qnb rfl|simp),fun q hq=>?_⟩
   . have e:m / (5 * (0+(i:Int))+2) % ((([V.str "a"]:List V).length:Nat):Int)=0:=by
      show _ % (1:Int)=0;omega
     rw[e]
     rfl
   . exact⟨s1.trans (aD hq),by rw[List.length_append,hy];rfl⟩
 . rintro ys H1 ⟨s1,hy⟩ p hp
   exact k p _ (s1.trans (aD hp))
theorem scCounted:FnScope ["_law_counts","_law_plan"] ["_law_counts","_law_plan"] (aB Fo):=mkS
theorem Ab(T:Txt P w K mg t):FO P w K mg base 1 t.a106 t.d106 ["_law_counts","_law_plan"] spCounted:=by
 refine T.q106.F.ok2 scCounted (fun cdv A outer s H vs Q E hr h=>?_);obtain⟨cl,q,e,a,b,kd,us,rfl,hcl,hq,hkd,k⟩:=h;have nd:=scCounted.nd
 refine⟨_,(ak (aR (aG iW (pix aM (pvl 1) ao) (bh (aa az (aa az (aa az (aa az aj))))) (by with_unfolding_all rfl))
    (aq (aA (bC (aa (aF cW (pix bN (pvl 0) ao) ao) (aa ao (aa (pix bN (pvl 0) ao) aj))))))
    aN)
   (ak (aR (aG aW (pix aM (pvl 1) ao) az (aJ _))
    gK
    aN)
   (ak (aR (aG aW (pix aM (pvl 1) ao) az (aJ _))
    gK
    aN)
   (ak (aR (PW.pt (fY (aG aW (pix aM (pvl 1) ao) az (aJ _)) (eX G7)))
    gK
    aN)
   (aq (aA (pvl 0))))))),?_⟩
 have hin:inV (.str kd) [V.str "take",V.str "give",V.str "lean",V.str "pour"] = !decide (kd="ask"):=by rcases hkd with z|z|z|z <;> rw[z] <;> decide +kernel
 refine⟨_,rfl,q,_,0,.str kd,rfl,rfl,SqT.of hq,cM (j:=0) rfl,lk (by first|exact qnb rfl|simp),fun q1 hq1=>⟨q1,_,rfl,.inr (SqT.of au),rfl,rfl,?_⟩⟩;have s1:=aD (o:=.tup [.str "take",.str "give",.str "lean",.str "pour"]) hq1;generalize upd H q1 (.tup [.str "take",.str "give",.str "lean",.str "pour"])=H1 at s1 ⊢;have hcl1:=s1 _ _ hcl;have hq1':=s1 _ _ hq;rw[qnZ qbf,hin];refine⟨_,rfl,aU (fun z=>?_) (fun z=>?_)⟩
 . refine⟨_,rfl,cl,_,0,_,rfl,rfl,SqL.of hcl1,rfl,_,_,rfl,rfl,_,rfl,cl,_,2,_,rfl,rfl,SqL.of hcl1,rfl,lk (by first|exact qnb rfl|simp),fun c2 hc2=>?_⟩
   exact k c2 _ _ _ (s1.trans (aD hc2)) au (.inl (s1.free hc2))
 . have hk:kd="ask":=Classical.byContradiction fun e=>z (by rw[qdf e];rfl)
   refine⟨_,rfl,q,_,0,_,rfl,rfl,SqT.of hq1',cM (j:=0) rfl,rfl,_,rfl,aU (fun z=>absurd (V.str.inj (qod z)) (by rw[hk];decide +kernel)) (fun _=>?_)⟩;refine⟨_,rfl,q,_,0,_,rfl,rfl,SqT.of hq1',cM (j:=0) rfl,rfl,_,rfl,aU (fun z=>absurd (V.str.inj (qod z)) (by rw[hk];decide +kernel)) (fun _=>?_)⟩;refine⟨_,rfl,q,_,0,_,rfl,rfl,SqT.of hq1',cM (j:=0) rfl,rfl,_,rfl,aU (fun z=>absurd (V.str.inj (qod z)) (by rw[hk];decide +kernel)) (fun _=>bj ?_)⟩;exact⟨_,rfl,k cl _ _ _ s1 hcl1 (.inr rfl)⟩
theorem scPlans:FnScope ["_law_names","_law_cells","_law_plans","_law_counts","_law_k","_law_cell","_law_plan"] ["_law_names","_law_cells"] (aB Fp):=mkS
theorem Hc(T:Txt P w K mg t):FO P w K mg base 8 t.a107 t.d107 ["_law_names","_law_cells"] (spPlans K):=by
 have G103:=JN (base:=base) T;have G105:=Aa (base:=base) T;have G106:=Ab (base:=base) T;refine T.q107.F.ok2 (k:=7) scPlans (fun cdv A outer s H vs Q E hr h=>?_);obtain⟨np,l,ns,cs,rfl,hnp,h1,h8,hl,h90,k⟩:=h;have nd:=scPlans.nd;have hu:=gj hr
 refine⟨_,(ak (psl 2 nd (bC aj))
   (ak (psl 3 nd (bC (aa ao (aa ao (aa (bC aj) aj)))))
   (ak (fL own1 rfl (ym (pvl 1) T.zq) (mQ (n:=2) rfl (bT (pgl 4 nd) (bT (pgl 5 nd) gf)))
    (ak (psl 6 nd (aO G103 (hr.mo) T.q103.m T.q103.k T.q103.b aK (aa (pvl 0) (aa (pvl 5) (aa (pvl 4) (aa (pvl 3) aj))))))
    (ak (bF (cu PySem.F.plainAttrs_list PySem.F.slot_list_append PySem.F.type_list_append cX (pvl 2) (aa (aF Im (pvl 6) (bh (aa (aO G105 (hr.mo) T.q105.m T.q105.k T.q105.b aK (aa (pix aM (pvl 6) ao) (aa (aF Ax (pix bN (pvl 3) ao) (aF J9 (bC (aa az aj)) (fc rO T.zD Bt.int (aa (dY (pJ (Nat.lt_of_succ_lt hu)) (pix bN (pvl 3) ao) (bC aj) (aJ _)) aj)))) aj))) aj))) aj)))
    (aq (psl 3 nd (aO G106 (hr.mo) T.q106.m T.q106.k T.q106.b aK (aa (pvl 3) (aa (pvl 6) aj))))))))
   (aq (aA (pvl 2)))))),?_⟩
 refine⟨lk (by first|exact qnb rfl|simp),fun pl hpl=>⟨lk (by first|exact qnb rfl|simp),fun e he=>⟨lk (by first|exact qnb rfl|simp),fun cl hcl=>?_⟩⟩⟩;have u1:=aD (o:=.lst []) hpl;have u2:=aD (o:=.lst []) he;have u3:=aD (o:=.lst [.int 0,.int 0,.ref e]) hcl;have s3:=(u1.trans u2).trans u3;have hpl3:=u3 _ _ (u2 _ _ (show(upd H pl (.lst [])) pl=some (.lst [])from au));have he3:=u3 _ _ (show(upd (upd H pl (.lst [])) e (.lst [])) e=some (.lst [])from au);have hcl3:(upd (upd (upd H pl (.lst [])) e (.lst [])) cl (.lst [.int 0,.int 0,.ref e])) cl=_:=au;have npe:pl≠e:=aH au he;have npc:cl≠pl:=Ne.symm (aH (u2 _ _ au) hcl);generalize upd (upd (upd H pl (.lst [])) e (.lst [])) cl (.lst [.int 0,.int 0,.ref e])=H0 at s3 hpl3 he3 hcl3 ⊢;have hl0:=s3 _ _ hl
 refine⟨_,rfl,l,rfl,⟨_,SqL.of hl0⟩,uT (K:=K) (a:=l) (xs:=cs.map V.int)
  (fun i σ H'=>∃(o4 o5 o6:Option V)(cl:Addr)(a b:Int)(us:List V)(pls:List Pl),σ=[some (.ref np),some (.ref l),some (.ref pl),some (.ref cl),o4,o5,o6]/\Same H H'/\H' pl=some (.lst us)/\H' e=some (.lst [])/\H' cl=some (.lst [.int a,.int b,.ref e])/\cl≠pl/\Paired (PlanAt H') us pls/\(∀ x∈pls,PlOk ns x)/\pls.length=i)
  ⟨none,none,none,cl,0,0,[],[],rfl,s3,hpl3,he3,hcl3,npc,.nil,(fun x hx=>nomatch hx),rfl⟩ (fun i σ H' _ ⟨_,_,_,_,_,_,_,_,_,s',_⟩=>SqL.of (s' _ _ hl)) ?_ ?_⟩
 . rintro i y σ H1 hi ⟨o4,o5,o6,cl,a,b,us,pls,rfl,s1,hp1,he1,hc1,hcp,hP,hok,hlen⟩ d hd
   have hi90:i<90:=by
    have:=(List.getElem?_eq_some_iff.mp hi).1;rw[qlm]at this;omega
   rw[qgm]at hi
   obtain⟨c,hc,rfl⟩:∃ c,cs[i]? = some c/\y=V.int c:=by
    cases q:cs[i]? with
    |none=>rw[q]at hi;cases hi
    |some c=>rw[q]at hi;exact⟨c,rfl,(qsi hi).symm⟩
   have v1:=aD (o:=.tup [.int i,.int c]) hd;refine⟨d,_,rfl,SqT.of au,rfl,_,_,rfl,_,_,rfl,rfl,?_⟩;generalize upd H1 d (.tup [.int i,.int c])=H2 at v1 ⊢;refine⟨_,rfl,_,rfl,_,rfl,_,rfl,np,cl,ns,c,i,rfl,v1 _ _ (s1 _ _ hnp),h1,h8,by omega,by omega,fun q vt vo tr kd num m5 H3 s3 hq ht hT hV hN hm5=>?_⟩;have v3:=v1.trans s3;have hul:us.length=i:=by rw[Paired.length hP,hlen]
   refine⟨_,rfl,.inl ⟨rfl,_,SqL.of (v3 _ _ hp1)⟩,_,rfl,_,rfl,q,_,4,_,rfl,rfl,SqT.of hq,rfl,_,rfl,cl,_,2,_,rfl,rfl,SqL.of (v3 _ _ hc1),rfl,lk (by first|exact qnb rfl|simp),fun la hla=>?_⟩;have v4:=aD (o:=.lst [.str "a"]) hla;refine⟨_,rfl,cl,_,2,_,rfl,rfl,SqL.of (v4 _ _ (v3 _ _ hc1)),rfl,lk (by first|exact qnb rfl|simp),fun lb hlb=>?_⟩;have v5:=aD (o:=.lst []) hlb;refine⟨e,lb,_,rfl,rfl,SqL.of (v5 _ _ (v4 _ _ (v3 _ _ he1))),SqL.of au,.inr ⟨_,rfl,la,_,_,rfl,rfl,v5 _ _ au,by decide,by decide,by decide,fun lc hlc=>?_⟩⟩;have v6:=aD (o:=.lst (List.replicate (if id ([]:List V).isEmpty=true then(1:Int)else 0).toNat [V.str "a"]).flatten) hlc;refine⟨e,lc,[],[.str "a"],rfl,rfl,v6 _ _ (v5 _ _ (v4 _ _ (v3 _ _ he1))),au,by decide,fun ld hld=>?_⟩;have v7:=aD (o:=.lst ([]++[V.str "a"])) hld;refine⟨ld,m5,rfl,au,hm5,fun pa H4 s4=>⟨lk (by first|exact qnb rfl|simp),fun qe hqe=>?_⟩⟩;have v8:=aD (o:=.tup [.ref pa]) hqe;have w4:Same H3 _:=(((v4.trans v5).trans v6).trans v7).trans s4;have w5:=w4.trans v8;refine⟨q,qe,_,_,rfl,rfl,SqT.of (w5 _ _ hq),SqT.of au,List.cons_ne_nil _ _,lk (by first|exact qnb rfl|simp),(fun z=>absurd z (List.cons_ne_nil _ _)),fun _ qf hqf=>?_⟩;have v9:=aD (o:=.tup ([.str kd,.int num,vt,vo,.int m5]++[.ref pa])) hqf;have w6:=w5.trans v9;have hqf6:(upd (upd H4 qe (.tup [.ref pa])) qf (.tup ([.str kd,.int num,vt,vo,.int m5]++[.ref pa]))) qf=some (.tup [.str kd,.int num,vt,vo,.int m5,.ref pa]):=au;generalize upd (upd H4 qe (.tup [.ref pa])) qf (.tup ([.str kd,.int num,vt,vo,.int m5]++[.ref pa]))=H5 at w6 hqf6 ⊢;have x5:=v3.trans w6;have hp5:=x5 _ _ hp1;refine⟨pl,_,_,rfl,rfl,hp5,fB (by omega),?_⟩;have T5:Tups H5 (upd H5 pl (.lst (us++[.ref qf]))):=fun b xs eb=>by rw[aC (bz eb hp5 (by intro z;cases z))];exact eb
   have hc6:(upd H5 pl (.lst (us++[.ref qf]))) cl=some (.lst [.int a,.int b,.ref e]):=by rw[aC hcp];exact x5 _ _ hc1
   have he6:(upd H5 pl (.lst (us++[.ref qf]))) e=some (.lst []):=by rw[aC (Ne.symm npe)];exact x5 _ _ he1
   have hq6:(upd H5 pl (.lst (us++[.ref qf]))) q=some (.tup (.str kd::[.int num,vt,vo,.int m5])):=T5 _ _ (w6 _ _ hq);have hp6:(upd H5 pl (.lst (us++[.ref qf]))) pl=some (.lst (us++[.ref qf])):=au;have s6:Same H (upd H5 pl (.lst (us++[.ref qf]))):=fun b o eb=>by rw[aC (aH eb hpl)];exact x5 _ _ (s1 _ _ eb)
   have hP6:Paired (PlanAt (upd H5 pl (.lst (us++[.ref qf])))) (us++[.ref qf]) (pls++[⟨kd,num,tr⟩]):=eE (Paired.mapP hP fun _ _ z=>(z.tups x5.tups).tups T5) (.cons ⟨qf,vt,vo,.ref pa,m5,rfl,T5 _ _ hqf6,(ht.mono w6.tups).mono T5⟩ .nil);generalize upd H5 pl (.lst (us++[.ref qf]))=H6 at hc6 he6 hq6 hp6 s6 hP6 ⊢
   have hkd:kd="take"\/kd="give"\/kd="lean"\/kd="ask":=by
    rcases hV with⟨z,_⟩|⟨z,_⟩|⟨z,_⟩|z
    . exact .inl z
    . exact .inr (.inl z)
    . exact .inr (.inr (.inl z))
    . exact .inr (.inr (.inr z))
   refine⟨_,rfl,_,rfl,cl,q,e,a,b,kd,_,rfl,hc6,hq6,hkd,fun cl' a' b' H7 s7 hc7 hfr=>?_⟩;refine⟨_,_,_,cl',a',b',us++[.ref qf],pls++[⟨kd,num,tr⟩],rfl,s6.trans s7,s7 _ _ hp6,s7 _ _ he6,hc7,?_,Paired.mapP hP6 fun _ _ z=>z.tups s7.tups,?_,by rw[List.length_append,hlen];rfl⟩
   . rcases hfr with z|z
     . exact fun y=>by rw[y,hp6]at z;cases z
     . rw[z];exact hcp
   . intro x hx
     rcases List.mem_append.mp hx with hx|hx
     . exact hok x hx
     . rw[List.mem_singleton.mp hx]
       exact⟨hT,hV,hN⟩
 . rintro σ H1 ⟨o4,o5,o6,cl,a,b,us,pls,rfl,s1,hp1,he1,hc1,hcp,hP,hok,hlen⟩
   rw[qlm]at hlen;exact⟨_,rfl,k pl us pls H1 s1 hp1 hP hok hlen⟩
def dO(x:Pl):Str:=if x.kd="take"\/x.kd="lean" then x.kd++" "++dW x.num++" "++wrT x.tr else x.kd++" "++wrT x.tr
theorem mF{ns:List Str}(hN:Names ns){tr:Tr}(h:∀ x∈tr.names,x∈ns):dz tr:=fun x hx=>jY (hN.nm x (h x hx))
theorem JP{i:Int}(h1 : -(10 ^ 30)<i)(h2:i<10 ^ 30):i.natAbs.log2<1920:=by
 by_cases h0:i.natAbs=0
 . rw[h0];decide
 . refine(Nat.log2_lt h0).mpr ?_
   have:i.natAbs<10 ^ 30:=by omega
   exact Nat.lt_trans this (by decide)
theorem vP{i:Int}(h1 : -(10 ^ 30)<i)(h2:i<10 ^ 30):(dW i).length <= 31:=by
 rw[lU];rcases Int.lt_or_le i 0 with hi|hi
 . obtain⟨n,rfl⟩:∃ n:Nat,i = -((n+1:Nat):Int):=⟨(-i).toNat - 1,by omega⟩
   rw[jK (by omega)];have:=(gH 29 (n+1)).2;show(cD 29 (n+1)).length+1<=31;omega
 . obtain⟨n,rfl⟩:∃ n:Nat,i=(n:Int):=⟨i.toNat,by omega⟩
   rw[gJ (by omega)];have:=(gH 29 n).2;show(cD 29 n).length <= 31;omega
theorem NbOk.rng{kd:Str}{num:Int}(h:NbOk kd num): -(10 ^ 30)<num/\num<10 ^ 30:=by
 rcases h with⟨_,h⟩|⟨_,h1,h2⟩
 . exact h
 . exact⟨by omega,h2⟩
theorem iQ{ns:List Str}{tr:Tr}{kd:Str}(h:z9 ns tr kd):kd="take"\/kd="give"\/kd="lean"\/kd="ask":=by
 rcases h with⟨z,_⟩|⟨z,_⟩|⟨z,_⟩|z
 . exact .inl z
 . exact .inr (.inl z)
 . exact .inr (.inr (.inl z))
 . exact .inr (.inr (.inr z))
theorem kd_len {kd:Str} (h:kd="take"\/kd="give"\/kd="lean"\/kd="ask"):kd.length<=4:=by
 rcases h with z|z|z|z <;> rw[z] <;> decide +kernel
theorem rH{ns:List Str}(hN:Names ns){tr:Tr}(h:TrOk ns tr):(wrT tr).length <= 99:=by
 rw[lU];exact qnt (nT (mF hN h.nm)) (iw h.dp)
theorem p6{ns:List Str}(hN:Names ns){x:Pl}(h:PlOk ns x):(dO x).length <= 136:=by
 have h1:=kd_len (iQ h.vb);have h2:=rH hN h.tr;have h3:=vP h.nb.rng.1 h.nb.rng.2;have l2:(" ":Str).length=1:=by decide +kernel
 unfold dO
 split
 . rw[Str.length_append,Str.length_append,Str.length_append,Str.length_append]
   omega
 . rw[Str.length_append,Str.length_append]
   omega
inductive spRowOf(vs:List V)(H:Hp)(Q:VK)(E:XK):Prop
 |mk (v:V) (x:Pl) (ns:List Str) (_:vs=[v]) (_:PlanAt H v x) (_:PlOk ns x) (_:Names ns) (_:∀ H',Same H H'->Q (.str (dO x)) H')
def j7(ns:List Str)(pls:List Pl):Str:=Txt.join "\n" (("names" ++ " "++Txt.join " " ns):: pls.map dO)
inductive spTextOf(vs:List V)(H:Hp)(Q:VK)(E:XK):Prop
 |mk (np l:Addr) (us:List V) (pls:List Pl) (ns:List Str) (_:vs=[.ref np,.ref l]) (_:H np=some (.tup (ns.map V.str))) (_:ns.length<=8) (_:H l=some (.lst us)) (_:Paired (PlanAt H) us pls) (_:(∀ x∈pls,PlOk ns x)) (_:Names ns) (_:pls.length<=90) (_:∀ H',Same H H'->Q (.str (j7 ns pls)) H')
theorem vQ(z:Str)(ys:List Str):(Txt.join z ys).length <= (ys.map (·.length)).sum+ys.length * z.length:=by
 have:=size_glued z ys;show(Builtin.Str.glued z ys).length <= _;rw[this];exact Nat.add_le_add_left (Nat.mul_le_mul_right _ (Nat.sub_le _ _)) _
theorem vR{ys:List Str}{m:Nat}(h:∀ y∈ys,y.length<=m):(ys.map (·.length)).sum <= ys.length * m:=by
 induction ys with
 |nil=>exact qnz _
 | cons y r ih =>
  rw[List.map_cons,List.sum_cons,List.length_cons,Nat.succ_mul];have:=h y qms;have:=ih fun z hz=>h z (qmm _ hz)
  omega
theorem tL{ns:List Str}(hN:Names ns)(h8:ns.length<=8):(ns.map (·.length)).sum+ns.length * (" ":Str).length <= 72/\(Txt.join " " ns).length <= 72:=by
 have l2:(" ":Str).length=1:=by decide +kernel
 have h1:=vR (ys:=ns) (m:=8) fun y hy=>by
  rw[lU];exact(hN.nm y hy).le
 have h2:=vQ " " ns;have h3:ns.length * 8<=64:=by omega
 rw[l2]at h2 ⊢;omega
theorem scRowOf:FnScope ["_law_plan","_law_verb","_law_colon"] ["_law_plan"] (aB Fq):=mkS
theorem Hd(T:Txt P w K mg t):FO P w K mg base 6 t.a108 t.d108 ["_law_plan"] spRowOf:=by
 have G102:=xJ (base:=base) T 4;refine T.q108.F.ok2 (k:=5) scRowOf (fun cdv A outer s H vs Q E hr h=>?_);obtain⟨v,⟨kd,num,tr⟩,ns,rfl,⟨q,vt,vo,pa,i,rfl,hq,ht⟩,hok,hN,k⟩:=h;have nd:=scRowOf.nd
 refine⟨_,(ak (psl 1 nd (pix aM (pvl 0) ao))
   (ak (aR (aG iW (pvl 1) (bh (aa az (aa az aj))) (by with_unfolding_all rfl))
    (aq (aA (aF bA (aF bA (aF bA (aF bA (pvl 1) az) (fc nj T.zG Bt.str (aa (pix aM (pvl 0) ao) aj))) az) (aO G102 (hr.mo) T.q102.m T.q102.k T.q102.b aK (aa (pix aM (pvl 0) ao) aj)))))
    aN)
   (ak (aR (aG iW (pvl 1) (bh (aa az (aa az aj))) (by with_unfolding_all rfl))
    (aq (aA (aF bA (aF bA (pvl 1) az) (aO G102 (hr.mo) T.q102.m T.q102.k T.q102.b aK (aa (pix aM (pvl 0) ao) aj)))))
    aN)
   (ak (aR (aG aW (pvl 1) az (aJ _))
    gK
    aN)
   (ak (aR (aG aW (pvl 1) az (aJ _))
    gK
    aN)
   (ak (aR (aG aW (pvl 1) az (aJ _))
    gK
    aN)
   (aq (aA (pvl 1))))))))),?_⟩
 have hkd:kd="take"\/kd="give"\/kd="lean"\/kd="ask":=iQ hok.vb;have hkl:=kd_len hkd;have hno:=mF hN hok.tr.nm;have hwl:(wrT tr).length <= 99:=rH hN hok.tr;have hnl:(dW num).length <= 31:=vP hok.nb.rng.1 hok.nb.rng.2;have hlog:num.natAbs.log2<1920:=JP hok.nb.rng.1 hok.nb.rng.2;have l2:(" ":Str).length=1:=by decide +kernel
 have sz:1000<=sizeLine:=by decide
 have hq:H q=some (.tup [.str kd,.int num,vt,vo,.int i,pa]):=hq;have ht:TrAt H vt tr:=ht;unfold dO at k;have k:∀ H',Same H H'->Q (.str (if kd="take"\/kd="lean" then kd++" "++dW num++" "++wrT tr else kd++" "++wrT tr)) H':=k;have hin:inV (.str kd) [V.str "take",V.str "lean"]=decide (kd="take"\/kd="lean"):=by rcases hkd with z|z|z|z <;> rw[z] <;> decide +kernel
 refine⟨_,rfl,q,_,0,_,rfl,rfl,SqT.of hq,rfl,?_⟩;refine⟨_,rfl,lk (by first|exact qnb rfl|simp),fun q1 hq1=>⟨q1,_,rfl,.inr (SqT.of au),rfl,rfl,?_⟩⟩;have s1:=aD (o:=.tup [.str "take",.str "lean"]) hq1;generalize upd H q1 (.tup [.str "take",.str "lean"])=H1 at s1 ⊢;have hq1':=s1 _ _ hq;rw[qnZ qbf,hin];refine⟨_,rfl,aU (fun z=>?_) (fun z=>?_)⟩
 . have z:=qod z
   rw[qp z]at k;refine⟨_,rfl,_,_,rfl,rfl,by omega,_,rfl,q,_,1,_,rfl,rfl,SqT.of hq1',rfl,num,rfl,hlog,_,_,rfl,rfl,?_,?_⟩
   . show(kd++" ":Str).length+(dW num).length <= sizeLine
     rw[Str.length_append];omega
   refine⟨_,_,rfl,rfl,?_,?_⟩
   . show(kd++" "++dW num:Str).length+(" ":Str).length <= sizeLine
     rw[Str.length_append,Str.length_append];omega
   refine⟨_,rfl,q,_,2,vt,rfl,rfl,SqT.of hq1',rfl,vt,tr,rfl,ht.mono s1.tups,hok.tr.dp,by decide,hno,fun H2 s2=>?_⟩;refine⟨_,_,rfl,rfl,?_,k H2 (s1.trans s2)⟩;show(kd++" "++dW num++" ":Str).length+(wrT tr).length <= sizeLine;rw[Str.length_append,Str.length_append,Str.length_append];omega
 . have z:¬ (kd="take"\/kd="lean"):=fun e=>z (qdt e)
   rw[qnZ z]at k
   have hin2:inV (.str kd) [V.str "give",V.str "ask"]=true:=by
    rcases hkd with e|e|e|e
    . exact absurd (.inl e) z
    . rw[e];decide +kernel
    . exact absurd (.inr e) z
    . rw[e];decide +kernel
   refine⟨_,rfl,lk (by first|exact qnb rfl|simp),fun q2 hq2=>⟨q2,_,rfl,.inr (SqT.of au),rfl,rfl,?_⟩⟩;have s2:=aD (o:=.tup [.str "give",.str "ask"]) hq2;generalize upd H1 q2 (.tup [.str "give",.str "ask"])=H2 at s2 ⊢;have s12:=s1.trans s2;rw[qnZ qbf,hin2];refine⟨_,rfl,bO ?_⟩;refine⟨_,rfl,_,_,rfl,rfl,by omega,?_⟩;refine⟨_,rfl,q,_,2,vt,rfl,rfl,SqT.of (s12 _ _ hq),rfl,vt,tr,rfl,ht.mono s12.tups,hok.tr.dp,by decide,hno,fun H3 s3=>?_⟩;refine⟨_,_,rfl,rfl,?_,k H3 (s12.trans s3)⟩;show(kd++" ":Str).length+(wrT tr).length <= sizeLine;rw[Str.length_append];omega
theorem scTextOf:FnScope ["_law_names","_law_plans"] ["_law_names","_law_plans"] (aB Ft):=mkS
theorem Dt(T:Txt P w K mg t):FO P w K mg base 7 t.a109 t.d109 ["_law_names","_law_plans"] spTextOf:=by
 have G108:=Hd (base:=base) T;refine T.q109.F.ok2 (k:=6) scTextOf (fun cdv A outer s H vs Q E hr h=>?_);obtain⟨np,l,us,pls,ns,rfl,hnp,h8,hl,hP,hok,hN,h90,k⟩:=h;have nd:=scTextOf.nd;refine⟨_,(aq (aA (cu PySem.F.plainAttrs_str PySem.F.slot_str_join PySem.F.type_str_join wV az (aa (aF Ax (bC (aa (aF bA az (cu PySem.F.plainAttrs_str PySem.F.slot_str_join PySem.F.type_str_join Ey az (aa (pvl 0) aj))) aj)) (dg rfl ["_law_plan"] [none] (dX (pvl 1)) (by kernel_rfl) (fun _ _ _ _ _ _=>(pgl 0 (ndS (l:=["_law_plan"])))) (fun _ _ _ _ _ _=>dG) (fun _ _ _ _ _ _=>(aO G108 (hr.mo) T.q108.m T.q108.k T.q108.b aK (aa (pvl 0) aj))))) aj)))),?_⟩;obtain⟨hn1,hn2⟩:=tL hN h8;have hul:us.length=pls.length:=Paired.length hP;have l6:("names ":Str).length=6:=by decide +kernel
 have e6:("names ":Str)="names" ++ " ":=by decide +kernel
 have sz:1000<=sizeLine:=by decide
 refine⟨rfl,rfl,_,rfl,_,np,ns,rfl,rfl,SqT.of hnp,qnt hn1 (by decide),_,_,rfl,rfl,by omega,lk (by first|exact qnb rfl|simp),fun l1 hl1=>?_⟩;have s1:=aD (o:=.lst [.str ("names "++Txt.join " " ns)]) hl1;have hl1':(upd H l1 (.lst [.str ("names "++Txt.join " " ns)])) l1=some (.lst [.str ("names "++Txt.join " " ns)]):=au;generalize upd H l1 (.lst [.str ("names "++Txt.join " " ns)])=H1 at s1 hl1' ⊢;refine⟨_,rfl,l,rfl,⟨_,SqL.of (s1 _ _ hl)⟩,?_⟩;refine gR (K:=K) (a:=l) (xs:=us) (fun i ys H'=>Same H1 H'/\ys=((pls.take i).map dO).map V.str) ⟨Same.refl _,rfl⟩ (lk (by omega)) (fun i ys H' ⟨_,e⟩=>by rw[e,qlm,qlm,List.length_take];omega) (fun i ys H' ⟨s',_⟩=>SqL.of (s' _ _ (s1 _ _ hl))) ?_ ?_
 . rintro i y ys H2 hi ⟨s2,rfl⟩
   obtain⟨x,hx,hpx⟩:=cI hP i y hi;have hmx:x∈pls:=qmg hx;refine⟨trivial,_,rfl,y,x,ns,rfl,hpx.tups (s1.trans s2).tups,hok x hmx,hN,fun H3 s3=>⟨s2.trans s3,?_⟩⟩;rw[qta,hx,List.map_append,List.map_append]
   rfl
 rintro ys H2 ⟨s2,rfl⟩ l2 hl2;rw[hul,List.take_length];have s3:=aD (o:=.lst ((pls.map dO).map V.str)) hl2;refine⟨l1,l2,_,_,rfl,rfl,s3 _ _ (s2 _ _ hl1'),au,lk (by simp;omega),fun l3 hl3=>?_⟩;have e3:[V.str ("names "++Txt.join " " ns)]++(pls.map dO).map V.str=((("names" ++ " "++Txt.join " " ns):: pls.map dO).map V.str):=by rw[e6];rfl
 rw[e3];have ln:("\n":Str).length=1:=by decide +kernel
 refine⟨_,l3,_,rfl,rfl,SqL.of au,?_,k _ (((s1.trans s2).trans s3).trans (aD hl3))⟩
 have hs:=vR (ys:=("names" ++ " "++Txt.join " " ns):: pls.map dO) (m:=136) fun y hy=>by
  rcases List.mem_cons.mp hy with rfl|hy
  . rw[<- e6,Str.length_append]
    omega
  . obtain⟨x,hx,rfl⟩:=List.mem_map.mp hy
    exact p6 hN (hok x hx)
 rw[List.length_cons,qlm]at hs ⊢;rw[ln];have:(pls.length+1) * 136<=91 * 136:=Nat.mul_le_mul_right _ (by omega);omega
theorem Hf(a b c:Str):a++b++c=a++(b++c):=lB (by rw[bZ,bZ,bZ,bZ,List.append_assoc])
theorem Du:kj "take"=some qG:=qp rfl
theorem Dv:kj "lean"=some qH:=by
 unfold kj;rw[qnZ (by decide +kernel),qnZ (by decide +kernel),qp rfl]
theorem Dw {kd:Str} (h:kd="give"\/kd="ask"):kj kd=some um:=by
 unfold kj;rw[qnZ (by rcases h with e|e <;> rw[e] <;> decide +kernel),qp h]
def km(x:Pl):Str×V×List Tr:=(x.kd,if x.kd="take"\/x.kd="lean" then .int x.num else .non,[x.tr])
theorem tM{i:Int}(h1 : -(10 ^ 30)<i)(h2:i<10 ^ 30):32∉(dW i).cps.toList/\10∉(dW i).cps.toList/\¬ (dW i).cps.toList.head? = some 32:=by
 have key:∀ n k:Nat,∀ c∈cD k n,¬ c=32/\¬ c=10:=fun n k c hc=>by
  have:=mz k n c hc;omega
 rcases Int.lt_or_le i 0 with hi|hi
 . obtain⟨n,rfl⟩:∃ n:Nat,i = -((n+1:Nat):Int):=⟨(-i).toNat - 1,by omega⟩
   rw[jK (by omega)];refine⟨fun z=>?_,fun z=>?_,fun z=>by cases z⟩
   . rcases List.mem_cons.mp z with z|z
     . exact absurd z (by decide)
     . exact(key _ _ _ z).1 rfl
   . rcases List.mem_cons.mp z with z|z
     . exact absurd z (by decide)
     . exact(key _ _ _ z).2 rfl
 . obtain⟨n,rfl⟩:∃ n:Nat,i=(n:Int):=⟨i.toNat,by omega⟩
   rw[gJ (by omega)];refine⟨fun z=>(key _ _ _ z).1 rfl,fun z=>(key _ _ _ z).2 rfl,fun z=>?_⟩;have:(32:Nat)∈cD 29 n:=List.mem_of_head? z;exact(key _ _ _ this).1 rfl
theorem xM {kd:Str} (h:kd="take"\/kd="give"\/kd="lean"\/kd="ask"):32∉kd.cps.toList/\10∉kd.cps.toList/\∃ c,kd.cps.toList.head? = some c/\¬ c=32:=by
 rcases h with z|z|z|z <;> rw[z]
 . exact⟨by decide +kernel,by decide +kernel,116,by decide +kernel,by decide⟩
 . exact⟨by decide +kernel,by decide +kernel,103,by decide +kernel,by decide⟩
 . exact⟨by decide +kernel,by decide +kernel,108,by decide +kernel,by decide⟩
 . exact⟨by decide +kernel,by decide +kernel,97,by decide +kernel,by decide⟩
theorem rJ {x:Pl} (h:x.kd="take"\/x.kd="lean"):dO x=x.kd++" "++(dW x.num++" "++wrT x.tr):=by
 unfold dO;rw[qp h,Hf,Hf (x.kd++" ")]
 congr 1
 rw[Hf]
theorem tO{ns:List Str}(hN:Names ns){x:Pl}(h:PlOk ns x):Clean (dO x):=by
 obtain⟨k1,k2,k3⟩:=xM (iQ h.vb);obtain⟨n1,n2,n3⟩:=tM h.nb.rng.1 h.nb.rng.2;have hw:=pY (mF hN h.tr.nm)
 by_cases hk:x.kd="take"\/x.kd="lean"
 . rw [rJ hk]
   refine jd k2 k3 (jd n2 ?_ hw);cases hq:(dW x.num).cps.toList with
   | nil =>
    have:(dW x.num).cps.toList≠[]:=by
     rcases Int.lt_or_le x.num 0 with hi|hi
     . obtain⟨n,e⟩:∃ n:Nat,x.num = -((n+1:Nat):Int):=⟨(-x.num).toNat - 1,by omega⟩
       have:=h.nb.rng;rw[e,jK (by omega)];exact List.cons_ne_nil _ _
     . obtain⟨n,e⟩:∃ n:Nat,x.num=(n:Int):=⟨x.num.toNat,by omega⟩
       have:=h.nb.rng;rw[e,gJ (by omega)];have:=(gH 29 n).1;intro z;have z:cD 29 n=[]:=z;rw[z]at this;exact absurd this (by decide)
    exact absurd hq this
   | cons c r =>
    refine⟨c,rfl,fun z=>n3 ?_⟩;rw[hq,z]
    rfl
 . unfold dO
   rw[qnZ hk];exact jd k2 k3 hw
theorem Hg{ns:List Str}(hN:Names ns){x:Pl}(h:PlOk ns x)(i:Nat):yX (i,dO x) (km x):=by
 obtain⟨k1,k2,k3⟩:=xM (iQ h.vb);obtain⟨n1,n2,n3⟩:=tM h.nb.rng.1 h.nb.rng.2;have hno:=mF hN h.tr.nm;have hw:=pY hno;have hl:=p6 hN h;have hwl:=rH hN h.tr;rw[lU]at hwl;have hrd:Rd1 (wrT x.tr) x.tr:=JM hno (by have:=h.tr.dp;omega) (by omega);have hlen:(dO x).length <= fK:=qnt hl (by decide);refine⟨hlen,?_⟩;show cL (dO x)=x.kd/\∃(O:Str->Option (V×List Str)) (ss:List Str),kj x.kd=some O/\O (bL (dO x))=some ((if x.kd="take"\/x.kd="lean" then .int x.num else .non),ss)/\Paired Rd1 ss [x.tr]/\ss.length<=10
 by_cases hk:x.kd="take"\/x.kd="lean"
 . have hv : ¬ (dW x.num++" "++wrT x.tr:Str).cps.toList.head? = some 32:=by
    rw[bZ,bZ];cases hq:(dW x.num).cps.toList with
    | nil => rw[rF];intro z;exact absurd hq (by
      intro z2;have c:=tO hN h;rw[rJ hk]at c;have:=c.la;rcases Int.lt_or_le x.num 0 with hi|hi
      . obtain⟨n,e⟩:∃ n:Nat,x.num = -((n+1:Nat):Int):=⟨(-x.num).toNat - 1,by omega⟩
        have:=h.nb.rng;rw[e,jK (by omega)]at z2;cases z2
      . obtain⟨n,e⟩:∃ n:Nat,x.num=(n:Int):=⟨x.num.toNat,by omega⟩
        have:=h.nb.rng;rw[e,gJ (by omega)]at z2;have:=(gH 29 n).1;have z2:cD 29 n=[]:=z2;rw[z2]at this
        exact absurd this (by decide))
    | cons c r =>
     intro z;have z:some c=some 32:=z;exact n3 (by rw[hq];exact z)
   rw[rJ hk,(jJ k1 hv).1,(jJ k1 hv).2,qp hk];refine⟨rfl,?_⟩;have f1:=(jJ n1 hw.hd').1;have f2:=(jJ n1 hw.hd').2;rcases hk with e|e
   . refine⟨qG,[wrT x.tr],by rw[e];exact Du,?_,.cons hrd .nil,qnb rfl⟩
     unfold qG;rw[f1,f2]
     obtain⟨n,hn⟩:∃ n:Nat,x.num=(n:Int):=by
      rcases h.nb with⟨z,_⟩|⟨_,h0,_⟩
      . rw[e]at z;exact absurd z (by decide +kernel)
      . exact⟨x.num.toNat,by omega⟩
     have hpos:0<n/\n<10 ^ 30:=by
      rcases h.nb with⟨z,_⟩|⟨_,h0,h1⟩
      . rw[e]at z;exact absurd z (by decide +kernel)
      . omega
     rw[hn,Dq hpos.1 hpos.2]
     rfl
   . refine⟨qH,[wrT x.tr],by rw[e];exact Dv,?_,.cons hrd .nil,qnb rfl⟩
     unfold qH;rw[f1,f2,Dr h.nb.rng.1 h.nb.rng.2]
     rfl
 . have er:dO x=x.kd++" "++wrT x.tr:=by
    unfold dO;rw[qnZ hk]
   rw[er,(jJ k1 hw.hd').1,(jJ k1 hw.hd').2,qnZ hk];refine⟨rfl,um,[wrT x.tr],Dw ?_,rfl,.cons hrd .nil,qnb rfl⟩;rcases iQ h.vb with e|e|e|e
   . exact absurd (.inl e) hk
   . exact .inl e
   . exact absurd (.inr e) hk
   . exact .inr e
theorem qO{n:Str}(h:isName n=true):Clean n:=pY (tr:=.nm n) fun x hx=>by
 rw[List.mem_singleton.mp hx];exact h
theorem mG:∀{ns:List Str},ns≠[]->(∀ n∈ns,isName n=true)->Clean (Txt.join " " ns)
 |[],h,_=>absurd rfl h
 | [n],_,h=>by
  have e:Txt.join " " [n]=n:=StrLaws.glued_eq_join _ _;rw[e];exact qO (h n qms)
 | n::m::r,_,h=>by
  have ih:=mG (ns:=m::r) (List.cons_ne_nil _ _) fun x hx=>h x (qmm _ hx)
  have e1:Txt.join " " (n::m::r)=Str.join " " (n::m::r):=StrLaws.glued_eq_join _ _;have e2:Txt.join " " (m::r)=Str.join " " (m::r):=StrLaws.glued_eq_join _ _;rw[e2]at ih;rw[e1];have hc:=qO (h n qms);exact jd hc.nl hc.hd ih
theorem names_free:32∉("names":Str).cps.toList/\10∉("names":Str).cps.toList/\∃ c,("names":Str).cps.toList.head? = some c/\¬ c=32:=⟨by decide +kernel,by decide +kernel,110,by decide +kernel,by decide⟩
theorem Dy{ns:List Str}(hnd:ns.Nodup){n:Str}(h:n∈ns):(ns.map V.str).countP (fun z=>eqV z (.str n))=1:=by
 induction ns with
 |nil=>cases h
 | cons m r ih =>
  rw[List.nodup_cons]at hnd;rw[List.map_cons,List.countP_cons];have key:∀ a b:Str,eqV (.str a) (.str b)=decide (a=b):=fun a b=>rfl
  rcases List.mem_cons.mp h with e|h
  . subst e
    have:(r.map V.str).countP (fun z=>eqV z (.str n))=0:=by
     rw[List.countP_eq_zero];intro z hz;obtain⟨w,hw,rfl⟩:=List.mem_map.mp hz;rw[key,qdf (show ¬ w=n from fun e=>hnd.1 (by rw[<- e];exact hw))]
     decide
    rw[this,key,qdt rfl]
    rfl
  . rw[ih hnd.2 h,key,qdf (show ¬ m=n from fun e=>hnd.1 (by rw[e];exact h))]
    rfl
theorem JQ{ns:List Str}(hN:Names ns)(h1:1<=ns.length)(h8:ns.length<=8):fu ns=true:=by
 unfold fu;rw[qdt (show(1:Int)<=(ns.length:Int)by omega),qdt (show(ns.length:Int)<=8 by omega)];show(ns.all _)=true;rw[List.all_eq_true];intro n hn;rw[jY (hN.nm n hn),qdt (Dy hN.nd hn)]
 rfl
theorem Hh{ns:List Str}{tr:Tr}(h:aP ns tr=0):aQ ns tr=cg ns.length:=by
 have:=oW (ns:=ns) (t:=tr);rw[h]at this;have e:(cg ns.length ^^^ aQ ns tr) ^^^ aQ ns tr=0 ^^^ aQ ns tr:=by rw[this]
 rw[Nat.xor_assoc,Nat.xor_self,Nat.xor_zero,Nat.zero_xor]at e;exact e.symm
theorem tQ{ns:List Str}{tr:Tr}{rs:List Int}(hM:Mind ns rs)(h:aQ ns tr≠cg ns.length):∃ x,aV (sel rs (aP ns tr))=some x:=vM hM.len (fun z=>h (Hh z)) fun i hb=>by
 rw[gW]at hb;exact qod (Bool.and_eq_true_iff.mp hb).1
theorem mH{ns:List Str}{tr:Tr}{rs:List Int}(hM:Mind ns rs)(h:aQ ns tr≠0):∃ x,aV (sel rs (aQ ns tr))=some x:=vM hM.len h fun i hb=>by
 rw[bG]at hb;exact qod (Bool.and_eq_true_iff.mp hb).1
def bM(ns:List Str)(x:Pl)(rs:List Int):List Int :=
 if x.kd="take" then fV ns x.tr rs x.num else if x.kd="give" then fU ns x.tr rs else match aV (sel rs (aP ns x.tr)),aV (sel rs (aQ ns x.tr))with
  |some a,some b=>cJ rs (aP ns x.tr) a b x.num
  |_,_=>rs
def jf(ns:List Str):List Pl->List Int->List (List Int)
 |[],_=>[]
 |x::r,rs=>if x.kd="ask" then jf ns r rs else bM ns x rs::jf ns r (bM ns x rs)
def kI(ns:List Str):List Pl->List Int->List Str
 |[],_=>[]
 |x::r,rs=>if x.kd="ask" then rE rs ns x.tr::kI ns r rs else kI ns r (bM ns x rs)
def vU(kd:Str)(L:ir):Prop:=kd="ask"/\L=GJ
theorem Dz {ns:List Str} {x:Pl} {rs:List Int} (h:PlOk ns x) (hM:Mind ns rs) (hk:¬ x.kd="ask") {B:Int} (hB:Bnd B rs):
  qK x.kd ns rs (if x.kd="take"\/x.kd="lean" then .int x.num else .non) [x.tr] (bM ns x rs)/\Mind ns (bM ns x rs)/\Bnd (B+10 ^ 31) (bM ns x rs):=by
 have hr:=h.nb.rng;have D0:(0:Int)<=10 ^ 31:=by decide
 have n1:x.num<=10 ^ 31:=by omega
 have n2 : -x.num<=10 ^ 31:=by omega
 unfold bM;rcases h.vb with⟨e,h0⟩|⟨e,h0⟩|⟨e,h0,h1⟩|e
 . rw[qp e,qp (.inl e)]
   obtain⟨y,hy⟩:=mH hM h0;exact⟨.inl ⟨e,x.num,x.tr,rfl,rfl,rfl,.inr ⟨y,hy⟩⟩,hM.takeM _ _,Gg hM D0 n1 n2 hB⟩
 . have e1:¬ x.kd="take":=by rw[e];decide +kernel
   rw[qnZ e1,qp e,qnZ (fun z=>by rcases z with z|z <;> rw[e]at z <;> exact absurd z (by decide +kernel))];obtain⟨y,hy⟩:=tQ hM h0;exact⟨.inr (.inl ⟨e,x.tr,rfl,rfl,y,hy⟩),hM.giveM _,Gf hM D0 hB⟩
 . have e1:¬ x.kd="take":=by rw[e];decide +kernel
   have e2:¬ x.kd="give":=by rw[e];decide +kernel
   rw[qnZ e1,qnZ e2,qp (.inr e)];obtain⟨a,ha⟩:=tQ hM h1;obtain⟨b,hb⟩:=mH hM h0;rw[ha,hb];have h2:TwoL ns x.tr rs a b:=⟨hM.len,ha,hb⟩
   exact⟨.inr (.inr ⟨e,x.num,x.tr,a,b,rfl,rfl,ha,hb,rfl⟩),Mind.turnM h2 _,pO (eO hM ha) (eO hM hb) D0 n1 n2 hB⟩
 . exact absurd e hk
theorem Nz{ns:List Str}(hN:Names ns)(h8:ns.length<=8){tr:Tr}(h:TrOk ns tr):OkS tr/\∀ x∈tr.names,x∈ns :=
 ⟨⟨qnt h.sz (by decide),qnt h.dp (by decide),⟨ns,by omega,h.nm⟩,fun x hx=>IsName.small (hN.nm x (h.nm x hx))⟩,h.nm⟩
theorem rK{ns:List Str}(hN:Names ns)(h8:ns.length<=8):∀(pls:List Pl)(rs:List Int)(B:Int),(∀ x∈pls,PlOk ns x)->Mind ns rs->Bnd B rs->0<=B->B+(pls.length:Int) * 10 ^ 31<=10 ^ 40->Runs vU ns (pls.map km) rs (jf ns pls rs) (kI ns pls rs)
 |[],rs,B,_,_,_,_,_=>.nil rs
 | x::r,rs,B,hok,hM,hB,h0,hB2=>by
  have hx:=hok x qms;have hok':∀ y∈r,PlOk ns y:=fun y hy=>hok y (qmm _ hy)
  rw[List.length_cons,Int.natCast_add,Int.add_mul]at hB2
  have hT:∀ u∈[x.tr],OkS u/\∀ y∈u.names,y∈ns:=fun u hu=>by
   rw[List.mem_singleton.mp hu];exact Nz hN h8 hx.tr
  have p31:(0:Int)<=10 ^ 31:=by decide
  have hl0:(0:Int)<=(r.length:Int) * 10 ^ 31:=Int.mul_nonneg (by omega) p31
  by_cases hk:x.kd="ask"
  . have ih:=rK hN h8 r rs B hok' hM hB h0 (by omega)
    show Runs vU ns (km x::r.map km) rs (if x.kd="ask" then jf ns r rs else _) (if x.kd="ask" then rE rs ns x.tr::kI ns r rs else _);rw[qp hk,qp hk];refine .ans (L:=GJ) hT ⟨hk,rfl⟩ ⟨x.tr,rfl,rfl,fun m y hm hy=>?_⟩ ih;have m0:=eO hM hm;have y0:=eO hM hy;have m1:=hB m (lw (cz hm).1);have y1:=hB y (lw (cz hy).1)
    by_cases hz:(m - y).natAbs=0
    . rw[hz];decide
    . refine(Nat.log2_lt hz).mpr ?_
      have:(m - y).natAbs <= 10 ^ 40:=by omega
      exact Nat.lt_of_le_of_lt this (by decide)
  . obtain⟨hD,hM',hB'⟩:=Dz hx hM hk hB
    have ih:=rK hN h8 r (bM ns x rs) (B+10 ^ 31) hok' hM' hB' (by omega) (by omega);show Runs vU ns (km x::r.map km) rs (if x.kd="ask" then _ else bM ns x rs::jf ns r (bM ns x rs)) (if x.kd="ask" then _ else kI ns r (bM ns x rs));rw[qnZ hk,qnZ hk];exact .deed hT hD hM' ih
theorem qP{ns:List Str}(hN:Names ns):∀(pls:List Pl)(k:Nat),(∀ x∈pls,PlOk ns x)->Paired yX (((pls.map dO).zipIdx k).map fun(x:Str×Nat)=>(x.2,x.1)) (pls.map km)
 |[],_,_=>.nil
 |x::r,k,h=>.cons (Hg hN (h x qms) k) (qP hN r (k+1) fun y hy=>h y (qmm _ hy))
theorem DG{ns:List Str}(hN:Names ns)(h1:1<=ns.length){pls:List Pl}(hok:∀ x∈pls,PlOk ns x):oJ (j7 ns pls)=(0,("names" ++ " "++Txt.join " " ns)):: (((pls.map dO).zipIdx 1).map fun(x:Str×Nat)=>(x.2,x.1)):=by
 have hnn:∀ n∈ns,isName n=true:=fun n hn=>jY (hN.nm n hn)
 have hne:ns≠[]:=fun z=>by rw[z]at h1;exact absurd h1 (by decide)
 unfold j7;rw[JK (List.cons_ne_nil _ _) fun p hp=>?_]
 . rfl
 . rcases List.mem_cons.mp hp with rfl|hp
   . exact jd names_free.2.1 names_free.2.2 (mG hne hnn)
   . obtain⟨x,hx,rfl⟩:=List.mem_map.mp hp
     exact tO hN (hok x hx)
theorem DK{ns:List Str}(hN:Names ns)(h1:1<=ns.length)(h8:ns.length<=8){pls:List Pl}(hok:∀ x∈pls,PlOk ns x)(h90:pls.length<=90):
  ∃(r0:Str) (rest:List (Nat×Str)),(j7 ns pls).length <= fK/\oJ (j7 ns pls)=(0,r0):: rest/\r0.length<=fK/\cL r0="names"/\fu (c7 (bL r0))=true/\c7 (bL r0)=ns/\rest.length<=300/\Paired yX rest (pls.map km)/\Runs vU ns (pls.map km) (bW ns) (jf ns pls (bW ns)) (kI ns pls (bW ns)):=by
 have hnn:∀ n∈ns,isName n=true:=fun n hn=>jY (hN.nm n hn)
 have hne:ns≠[]:=fun z=>by rw[z]at h1;exact absurd h1 (by decide)
 have hj:=mG hne hnn;obtain⟨f1,f2⟩:=jJ names_free.1 hj.hd';have hw:=words_of hne hnn;obtain⟨n1,n2⟩:=tL hN h8;have l5:("names":Str).length=5:=by decide +kernel
 have l1:(" ":Str).length=1:=by decide +kernel
 have lr:("names" ++ " "++Txt.join " " ns:Str).length <= 136:=by
  rw[Str.length_append,Str.length_append];omega
 have hlen:(j7 ns pls).length <= fK:=by
  unfold j7;refine qnt (vQ _ _) ?_
  have hs:=vR (ys:=("names" ++ " "++Txt.join " " ns):: pls.map dO) (m:=136) fun y hy=>by
   rcases List.mem_cons.mp hy with rfl|hy
   . exact lr
   . obtain⟨x,hx,rfl⟩:=List.mem_map.mp hy
     exact p6 hN (hok x hx)
  have ln:("\n":Str).length=1:=by decide +kernel
  rw[List.length_cons,qlm]at hs ⊢;rw[ln];have:(pls.length+1) * 136<=91 * 136:=Nat.mul_le_mul_right _ (by omega);have hm:20000<=fK:=by decide
  omega
 refine⟨_,_,hlen,DG hN h1 hok,qnt lr (by decide),f1,?_,?_,?_,qP hN pls 1 hok,?_⟩
 . rw[f2,hw]
   exact JQ hN h1 h8
 . rw[f2,hw]
 . rw[qlm,List.length_zipIdx,qlm]
   omega
 . refine rK hN h8 pls (bW ns) 0 hok (nR ns) (fun z hz=>by rw[(List.mem_replicate.mp hz).2];decide) (Int.le_refl 0) ?_
   have:(pls.length:Int) * 10 ^ 31<=90 * 10 ^ 31:=Int.mul_le_mul_of_nonneg_right (by omega) (by decide);have e:(90:Int) * 10 ^ 31<=10 ^ 40:=by decide
   omega
inductive spLaw(K:W.Frag)(vs:List V)(H:Hp)(Q:VK)(E:XK):Prop
 |mk (a:Addr) (ns:List Int) (_:vs=[.ref a]) (_:SqL K H a (ns.map V.int)) (_:ns.length<=63) (_:∀ H',Q (.bl true) H')
inductive spRunFits(vs:List V)(H:Hp)(Q:VK)(E:XK):Prop
 |mk (q al ml:Addr) (xs:List Str) (ms:List V) (a d:Int) (_:vs=[.ref q,.int a,.int d]) (_:H q=some (.tup [.ref al,.ref ml])) (_:H al=some (.lst (xs.map V.str))) (_:H ml=some (.lst ms)) (_:a=(xs.length:Int)) (_:d=(ms.length:Int)) (_:Q (.bl true) H)
def cT(x:Pl):Bool:=!decide (x.kd="ask")
def jM(ns:List Str):List Pl->List Int->List (List Int)
 |[],_=>[]
 |x::r,rs=>bM ns x rs::jM ns r (bM ns x rs)
theorem qQ(ns:List Str):∀(pls:List Pl)(rs:List Int),jf ns pls rs=jM ns (pls.filter cT) rs
 |[],_=>rfl
 | x::r,rs=>by
  show(if x.kd="ask" then jf ns r rs else bM ns x rs::jf ns r (bM ns x rs))=_
  by_cases h:x.kd="ask"
  . rw[qp h,List.filter_cons_of_neg (by show ¬ cT x=true;unfold cT;rw[qdt h];decide),qQ ns r rs]
  . rw[qnZ h,List.filter_cons_of_pos (by show cT x=true;unfold cT;rw[qdf h];rfl),qQ ns r (bM ns x rs)]
    rfl
theorem vV(ns:List Str):∀(pls:List Pl)(rs:List Int),(jM ns pls rs).length=pls.length
 |[],_=>rfl
 |x::r,rs=>congrArg (· + 1) (vV ns r (bM ns x rs))
theorem p7(ns:List Str):∀(pls:List Pl)(rs:List Int),(kI ns pls rs).length+(pls.filter cT).length=pls.length
 |[],_=>rfl
 | x::r,rs=>by
  show(if x.kd="ask" then rE rs ns x.tr::kI ns r rs else kI ns r (bM ns x rs)).length+_=_
  by_cases h:x.kd="ask"
  . rw[qp h,List.filter_cons_of_neg (by show ¬ cT x=true;unfold cT;rw[qdt h];decide)]
    have:=p7 ns r rs;simp only[List.length_cons];omega
  . rw[qnZ h,List.filter_cons_of_pos (by show cT x=true;unfold cT;rw[qdf h];rfl)]
    have:=p7 ns r (bM ns x rs);simp only[List.length_cons];omega
theorem DN{ns:List Str}{x:Pl}{rs:List Int}(hM:Mind ns rs):Mind ns (bM ns x rs):=by
 unfold bM
 split
 . exact hM.takeM _ _
 . split
   . exact hM.giveM _
   . split
     . rename_i a b ha hb
       exact Mind.turnM ⟨hM.len,ha,hb⟩ _
     . exact hM
inductive spDFits(vs:List V)(H:Hp)(Q:VK)(E:XK):Prop
 |mk (a b na nb ra rb:Addr) (v:V) (ns:List Str) (rs:List Int) (x:Pl) (_:vs=[.ref a,.ref b,v]) (_:MindAt H a na ra rs) (_:MindAt H b nb rb (bM ns x rs)) (_:H na=some (.tup (ns.map V.str))) (_:H nb=some (.tup (ns.map V.str))) (_:ns.length<=8) (_:Mind ns rs) (_:PlanAt H v x) (_:PlOk ns x) (_:¬ x.kd="ask") (_:∀ H',Same H H'->Q (.bl true) H')
theorem o9{K:W.Frag}{H:Hp}{na nb a b r q:Addr}{ns:List Str}{rs:List Int}(h1:MindAt H a na r rs)(h2:MindAt H b nb q rs)(e1:H na=some (.tup (ns.map V.str)))(e2:H nb=some (.tup (ns.map V.str))):By K H (.ref a) (.ref b):=by
 refine⟨a,b,_,_,rfl,rfl,.inl ⟨SqT.of h1.1,SqT.of h2.1⟩,rfl,fun j x y z1 z2=>?_⟩
 match j with
 | 0=>cases z1;cases z2;exact Et (SqT.of e1) (SqT.of e2) 59
 | 1=>cases z1;cases z2;exact Es (SqT.of h1.2.1) (SqT.of h2.2.1) 59
 |j+2=>cases z1
theorem scRunFits:FnScope ["_law_found","_law_answers","_law_deeds","_law_line"] ["_law_found","_law_answers","_law_deeds"] (aB Fv):=mkS
theorem Ac(T:Txt P w K mg t):FO P w K mg base 1 t.a110 t.d110 ["_law_found","_law_answers","_law_deeds"] spRunFits:=by
 refine T.q110.F.ok2 scRunFits (fun cdv A outer s H vs Q E hr h=>?_);obtain⟨q,al,ml,xs,ms,a,d,rfl,hq,hal,hml,ea,ed,k⟩:=h;have nd:=scRunFits.nd
 refine ⟨_,(ak (aR (PW.pt (dB (cV (b7 (bf fG T.zo Bt.isinstance (aa (pvl 0) (aa (jh (v:=.ty "tuple") T.zm Bt.tuple rfl) aj))))) (dB (aG gh (bf aZ T.ze Bt.len (aa (pvl 0) aj)) ao (aJ _)) (dB (cV (b7 (bf fG T.zo Bt.isinstance (aa (pix aM (pvl 0) ao) (aa (jh (v:=.ty "list") T.zL Bt.list rfl) aj))))) (dZ (aG gh (bf aZ T.ze Bt.len (aa (pix aM (pvl 0) ao) aj)) (pvl 1) (aJ _)))))))
    (aq (aA dR))
    aN)
   (ak (fL own1 rfl (dX (pix aM (pvl 0) ao)) (pgl 3 nd)
    (aq (aR (cV (b7 (bf fG T.zo Bt.isinstance (aa (pvl 3) (aa (jh (v:=.ty "str") T.zG Bt.str rfl) aj)))))
     (aq (aA dR))
     aN)))
   (aq (aA (kJ (bf fG T.zo Bt.isinstance (aa (pix aM (pvl 0) ao) (aa (jh (v:=.ty "list") T.zL Bt.list rfl) aj))) (jt (dY aW (bf aZ T.ze Bt.len (aa (pix aM (pvl 0) ao) aj)) (pvl 2) (aJ _)))))))),?_⟩
 refine⟨_,rfl,_,_,_,_,true,rfl,rfl,.tup hq,rfl,_,rfl,bj ?_⟩;refine⟨_,rfl,q,_,rfl,.inr (SqT.of hq),rfl,_,rfl,aU (fun c=>absurd c (by rw[qdt (show V.int (([V.ref al,V.ref ml].length:Nat):Int)=V.int 2 from rfl)];decide)) (fun _=>?_)⟩;refine⟨_,rfl,q,_,0,_,rfl,rfl,SqT.of hq,rfl,_,_,_,_,true,rfl,rfl,.lst hal,rfl,_,rfl,bj ?_⟩;refine⟨_,rfl,q,_,0,_,rfl,rfl,SqT.of hq,rfl,al,_,rfl,.inl (SqL.of hal),_,rfl,rfl,_,rfl,aU (fun c=>absurd c (by rw[qdt (show V.int (((xs.map V.str).length:Nat):Int)=V.int a by rw[qlm,ea])];decide)) (fun _=>?_)⟩;refine⟨_,rfl,q,_,0,_,rfl,rfl,SqT.of hq,rfl,al,rfl,⟨_,SqL.of hal⟩,iC (K:=K) (a:=al) (xs:=xs.map V.str) (fun i σ H'=>∃ o:Option V,σ=[some (.ref q),some (.int a),some (.int d),o]/\H'=H) ⟨none,rfl,rfl⟩ (fun i σ H' _ ⟨_,_,e⟩=>by subst e;exact SqL.of hal) ?_ ?_⟩
 . rintro i y σ H' hi ⟨o,rfl,e⟩
   have e:=e.symm;subst e;rw[qgm]at hi
   obtain⟨c,hc,rfl⟩:∃ c,xs[i]? = some c/\y=V.str c:=by
    cases q:xs[i]? with
    |none=>rw[q]at hi;cases hi
    |some c=>rw[q]at hi;exact⟨c,rfl,(qsi hi).symm⟩
   refine⟨_,rfl,_,_,_,_,true,rfl,rfl,.str _,rfl,_,rfl,bj ?_⟩;exact⟨_,rfl,rfl⟩
 . rintro σ H' ⟨o,rfl,e⟩
   have e:=e.symm;subst e;refine⟨_,rfl,q,_,1,_,rfl,rfl,SqT.of hq,rfl,_,_,_,_,true,rfl,rfl,.lst hml,rfl,_,rfl,?_⟩;rw[qp rfl];refine⟨_,rfl,q,_,1,_,rfl,rfl,SqT.of hq,rfl,ml,_,rfl,.inl (SqL.of hml),_,rfl,rfl,?_⟩
   try dsimp -proj -iota only
   rw[qdt (show V.int ((ms.length:Nat):Int)=V.int d by rw[ed])];exact k
theorem scDFits:FnScope ["_law_before","_law_after","_law_plan","_law_told","_law_breaking","_law_lean"] ["_law_before","_law_after","_law_plan"] (aB Fx):=mkS
theorem Hi(T:Txt P w K mg t):FO P w K mg base 7 t.a112 t.d112 ["_law_before","_law_after","_law_plan"] spDFits:=by
 have G97:=nF (base:=base) T 4;have G99:=tK (base:=base) T;have G101:=tZ (base:=base) T;refine T.q112.F.ok2 (k:=6) scDFits (fun cdv A outer s H vs Q E hr h=>?_);obtain⟨a,b,na,nb,ra,rb,v,ns,rs,⟨kd,num,tr⟩,rfl,ha,hb,hna,hnb,h8,hM,⟨q,vt,vo,pa,i,rfl,hq,ht⟩,hok,hnk,k⟩:=h;have nd:=scDFits.nd;have hu:=gj hr
 refine⟨_,(ak (psl 3 nd (aO G97 (hr.mo) T.q97.m T.q97.k T.q97.b aK (aa (pix aM (pvl 0) ao) (aa (pix aM (pvl 2) ao) aj))))
   (ak (psl 4 nd (pix aM (aO G99 (hr.mo) T.q99.m T.q99.k T.q99.b aK (aa (pix aM (pvl 0) ao) (aa (pvl 3) aj))) ao))
   (ak (aR (PW.pt (dB (aG (pJ (Nat.lt_of_succ_lt hu)) (pvl 4) (bC aj) (aJ _)) (dZ (PW.pt (fY (aG aW (pix aM (pvl 2) ao) az (aJ _)) (eX (aG aW (bf (sE rfl) T.zF Bt.min (aa (pvl 4) aj)) ao (aJ _))))))))
    (aq (aA (dY (Jd hr.units) (pvl 1) (pvl 0) (aJ _))))
    aN)
   (ak (psl 5 nd (pix aM (pvl 2) ao))
   (ak (aR (aG aW (pix aM (pvl 2) ao) az (aJ _))
    (aq (psl 5 nd ao))
    aN)
   (aq (aA (aO G101 (hr.mo) T.q101.m T.q101.k T.q101.b aK (aa (pix aM (pvl 0) ao) (aa (pix aM (pvl 1) ao) (aa (pvl 3) (aa (pvl 5) aj)))))))))))),?_⟩
 have hq:H q=some (.tup [.str kd,.int num,vt,vo,.int i,pa]):=hq;have ht:TrAt H vt tr:=ht;have hnk:¬ kd="ask":=hnk;refine⟨_,rfl,a,_,0,_,rfl,rfl,SqT.of ha.1,rfl,_,rfl,q,_,2,vt,rfl,rfl,SqT.of hq,rfl,na,vt,ns,tr,rfl,hna,h8,ht,hok.tr.dp,hok.tr.nm,fun H1 s1=>?_⟩;have ha1:=ha.same s1;refine⟨_,rfl,a,_,1,_,rfl,rfl,SqT.of ha1.1,rfl,_,rfl,ra,rs,aQ ns tr,rfl,ha1.2.1,ha1.2.2,fun q1 l1 l2 H2 s2 hq1 hl1 hl2=>⟨q1,_,1,.ref l2,rfl,rfl,SqT.of hq1,rfl,?_⟩⟩;rw[mD hM.len]at hl2;have s12:=s1.trans s2;refine⟨_,rfl,lk (by first|exact qnb rfl|simp),fun le hle=>?_⟩;have s3:=aD (o:=.lst []) hle;have s13:=s12.trans s3;have hl3:=s3 _ _ hl2;have hle3:(upd H2 le (.lst [])) le=some (.lst []):=au;generalize upd H2 le (.lst [])=H3 at s3 s13 hl3 hle3 ⊢;have hq3:=s13 _ _ hq;have ha3:=ha.same s13;have hb3:=hb.same s13;have hna3:=s13 _ _ hna;have hnb3:=s13 _ _ hnb;refine⟨l2,le,_,rfl,rfl,SqL.of hl3,SqL.of hle3,_,rfl,aU (fun z=>bO ?_) (fun z=>?_)⟩
 . -- no world breaks it
   have hn:aV (sel rs (aP ns tr))=none:=by
    have z:(sel rs (aP ns tr)).map V.int=[]:=List.isEmpty_iff.mp z;rw[List.map_eq_nil_iff.mp z]
    rfl
   have e:bM ns ⟨kd,num,tr⟩ rs=rs:=by
    unfold bM
    try dsimp only
    split
    . unfold fV
      rw[hn]
    . split
      . unfold fU
        rw[hn]
      . rw[hn]
   rw[e]at hb3;exact⟨_,rfl,_,rfl,o9 hb3 ha3 hnb3 hna3,k _ s13⟩
 . obtain ⟨x,hx⟩:∃ x,aV (sel rs (aP ns tr))=some x:=by
    cases hq:aV (sel rs (aP ns tr))with
    |some x=>exact⟨x,rfl⟩
    | none =>
     refine absurd ?_ z;have:sel rs (aP ns tr)=[]:=lV hq;show(List.map V.int (sel rs (aP ns tr))).isEmpty=true;rw[this]
     rfl
   have hlen:(sel rs (aP ns tr))≠[]:=fun z=>by rw[z]at hx;cases hx
   have hpos:0<(sel rs (aP ns tr)).length:=List.length_pos_iff.mpr hlen;apply yH (S:=kd="give"->¬ x=0)
   . intro g
     refine⟨_,rfl,q,_,0,_,rfl,rfl,SqT.of hq3,rfl,rfl,_,rfl,aU (fun z1=>?_) (fun z1=>bj ?_)⟩
     . have e1:kd="give":=V.str.inj (qod z1)
       refine⟨_,rfl,l2,_,rfl,SqL.of hl3,hpos,fun M m1 m2=>?_⟩;obtain rfl:x=M:=qsi (hx.symm.trans (jF m1 m2));refine⟨rfl,_,rfl,aU (fun z2=>?_) (fun z2=>?_)⟩
       . have e2:x=0:=V.int.inj (qod z2)
         have e:bM ns ⟨kd,num,tr⟩ rs=rs:=by
          unfold bM
          try dsimp only
          rw[qnZ (by rw[e1];decide +kernel),qp e1];unfold fU;rw[hx,e2]
          split
          . rename_i q1 _
            cases q1;rw[qnZ (by decide)]
          . rfl
         rw[e]at hb3;exact⟨_,rfl,_,rfl,o9 hb3 ha3 hnb3 hna3,k _ s13⟩
       . apply g
         exact fun _ e=>z2 (qdt (congrArg V.int e))
     . exact g fun e=>absurd (qdt (by rw[e])) z1
   . intro hg
     obtain ⟨y,hy⟩:∃ y,aV (sel rs (aQ ns tr))=some y:=by
      by_cases h0:aQ ns tr=0
      . exfalso
        rcases hok.vb with⟨_,h⟩|⟨e,_⟩|⟨_,h,_⟩|h
        . exact h h0
        . refine hg e ?_
          have hz:=hM.zero;obtain⟨j,hj,hjz⟩:=Cr hz
          have hjb:(aP ns tr).testBit j=true:=by
           have hj2:j<2 ^ ns.length:=by rw[<- hM.len];exact hj
           have tb:=bG (ns:=ns) (t:=tr) (i:=j);rw[h0,Nat.zero_testBit,qdt hj2]at tb;rw[gW,qdt hj2];simp at tb ⊢;exact tb
          have h1:=(cz hx).2 _ (mem_sel.mpr ⟨j,hj,hjb,hjz⟩);have h2:=eO hM hx;omega
        . exact h h0
        . exact hnk h
      . exact mH hM h0
     have h2:TwoL ns tr rs x y:=⟨hM.len,hx,hy⟩
     refine⟨_,rfl,q,_,1,_,rfl,rfl,SqT.of hq3,rfl,?_⟩;refine⟨_,rfl,q,_,0,_,rfl,rfl,SqT.of hq3,rfl,rfl,_,rfl,aU (fun z1=>?_) (fun z1=>?_)⟩
     . have e1:kd="give":=V.str.inj (qod z1)
       have e:bM ns ⟨kd,num,tr⟩ rs=cJ rs (aP ns tr) x y 0:=by
        unfold bM
        try dsimp only
        rw[qnZ (by rw[e1];decide +kernel),qp e1];unfold fU;rw[hx,hy];have:=eO hM hx;have:=hg e1;show(if 0<x then _ else _)=_;rw[qp (by omega)]
       rw[e]at hb3;refine⟨_,rfl,a,_,1,_,rfl,rfl,SqT.of ha3.1,rfl,_,rfl,b,_,1,_,rfl,rfl,SqT.of hb3.1,rfl,_,rfl,_,rfl,ra,rb,rs,ns,tr,x,y,0,rfl,ha3.2.1,hb3.2.1,ha3.2.2,h2,fun H4 s4=>k H4 (s13.trans s4)⟩
     . have e1:¬ kd="give":=fun e=>z1 (qdt (by rw[e]))
       have e:bM ns ⟨kd,num,tr⟩ rs=cJ rs (aP ns tr) x y num:=by
        unfold bM
        try dsimp only
        split
        . unfold fV
          rw[hx,hy]
        . first|rw[qnZ e1,hx,hy] | rw[hx,hy]
       rw[e]at hb3;refine⟨_,rfl,a,_,1,_,rfl,rfl,SqT.of ha3.1,rfl,_,rfl,b,_,1,_,rfl,rfl,SqT.of hb3.1,rfl,_,rfl,_,rfl,ra,rb,rs,ns,tr,x,y,num,rfl,ha3.2.1,hb3.2.1,ha3.2.2,h2,fun H4 s4=>k H4 (s13.trans s4)⟩
theorem Hj(ns:List Int)(lo hi:Option Int):∃ cs:List Int,gD (ns.map V.int) lo hi=cs.map V.int/\cs.length<=ns.length:=by
 refine⟨(ns.drop (HT.sIx (ns.map V.int).length 0 lo)).take (HT.sIx (ns.map V.int).length (ns.map V.int).length hi - HT.sIx (ns.map V.int).length 0 lo),?_,?_⟩
 . unfold gD
   rw[List.map_take,List.map_drop]
 . rw[List.length_take,List.length_drop]
   omega
theorem K8(T:Txt P w K mg t):uo P w K mg base t vU:=fun kd L h=>by
 obtain⟨rfl,rfl⟩:=h;exact⟨by decide +kernel,by decide +kernel,by decide +kernel,t.a83,t.d83,by kernel_rfl,JG T,T.q83.k,T.q83.b⟩
theorem scLaw:FnScope ["_law_script","_law_names","_law_plans","_law_deeds","_law_found","_law_before","_law_k","_law_plan","_law_after"] ["_law_script"] (aB Fy):=mkS
theorem ok_law(T:Txt P w K mg t):FO P w K mg base 127 t.a113 t.d113 ["_law_script"] (spLaw K):=by
 have G111:=Ge (base:=base) T;have G107:=Hc (base:=base) T;have G109:=Dt (base:=base) T;have G90:=K5 (base:=base) T (K8 T);have G110:=Ac (base:=base) T;have G98:=yG (base:=base) T;have G112:=Hi (base:=base) T;refine T.q113.F.ok2 (k:=126) scLaw (fun cdv A outer s H vs Q E hr h=>?_);obtain⟨a,cs,rfl,hS,hlen,k⟩:=h;have nd:=scLaw.nd
 refine ⟨_,(ak (psl 1 nd (aO G111 (hr.mo) T.q111.m T.q111.k T.q111.b aK (aa (pvl 0) aj)))
   (ak (psl 2 nd (aO G107 (hr.mo) T.q107.m T.q107.k T.q107.b aK (aa (pvl 1) (aa (gC qW (pvl 0) (gO ao) (gO ao)) aj))))
   (ak (gk (i:=3) rfl ["_law_plan"] [none] nd rfl rfl (dX (pvl 2)) (by kernel_rfl) (fun _ _ _ _ _ _=>(pgl 0 (ndS (l:=["_law_plan"])))) (fun _ _ _ _ _ _=>iD (aG (yg (K:=K)) (pix (wW (K:=K)) (pvl 0) ao) (bh (aa az (aa az (aa az aj)))) (by with_unfolding_all rfl))) (fun _ _ _ _ _ _=>(pvl 0)))
   (ak (psl 4 nd (aO G90 (hr.mo) T.q90.m T.q90.k T.q90.b aK (aa (aO G109 (hr.mo) T.q109.m T.q109.k T.q109.b aK (aa (pvl 1) (aa (pvl 2) aj))) aj)))
   (ak (aR (cV (b7 (aO G110 (hr.mo) T.q110.m T.q110.k T.q110.b aK (aa (pvl 4) (aa (aF cP (bf aZ T.ze Bt.len (aa (pvl 2) aj)) (bf aZ T.ze Bt.len (aa (pvl 3) aj))) (aa (bf aZ T.ze Bt.len (aa (pvl 3) aj)) aj))))))
    (aq (aA dR))
    aN)
   (ak (psl 5 nd (bh (aa (pvl 1) (aa (fc dm T.zm Bt.tuple (aa (dg rfl ["_law_world"] [none] (gU T.zr (aa (aF gb ao (bf aZ T.ze Bt.len (aa (pvl 1) aj))) aj)) (by kernel_rfl) (fun _ _ _ _ _ _=>(pgl 0 (ndS (l:=["_law_world"])))) (fun _ _ _ _ _ _=>dG) (fun _ _ _ _ _ _=>ao)) aj)) aj))))
   (ak (fL own1 rfl (ym (pvl 3) T.zq) (mQ (n:=2) rfl (bT (pgl 6 nd) (bT (pgl 7 nd) gf)))
    (ak (psl 8 nd (pix bN (pix aM (pvl 4) ao) (pvl 6)))
    (ak (aR (PW.pt (dB (cV (b7 (aO G98 (hr.mo) T.q98.m T.q98.k T.q98.b aK (aa (pvl 8) (aa (pvl 1) aj))))) (dZ (cV (b7 (aO G112 (hr.mo) T.q112.m T.q112.k T.q112.b aK (aa (pvl 5) (aa (pvl 8) (aa (pvl 7) aj)))))))))
     (aq (aA dR))
     aN)
    (aq (psl 5 nd (pvl 8))))))
   (aq (aA dR))))))))),?_⟩
 refine⟨_,rfl,a,cs,rfl,hS,fun np ns H1 s01 hnp h1 h8 hN=>?_⟩;obtain⟨ds,hds,hdl⟩:=Hj cs (some 1) (some 91);refine⟨_,rfl,_,rfl,_,rfl,_,rfl,a,_,rfl,s01.seq hS,fun ls hls=>?_⟩;rw[hds];have s12:=aD (o:=.lst (ds.map V.int)) hls;refine⟨np,ls,ns,ds,rfl,s12 _ _ hnp,h1,h8,au,by omega,fun pl us pls H3 s23 hpl hP hok hpn=>?_⟩;have s13:=s12.trans s23;have h90:pls.length<=90:=by omega
 have hul:us.length=pls.length:=Paired.length hP;have hnp3:=s13 _ _ hnp;refine⟨_,rfl,pl,rfl,⟨_,SqL.of hpl⟩,?_⟩
 refine gR (K:=K) (a:=pl) (xs:=us) (fun i ys H'=>Same H3 H'/\Paired (PlanAt H') ys ((pls.take i).filter cT)) ⟨Same.refl _,.nil⟩ (lk (by omega)) (fun i ys H' ⟨_,e⟩=>by
  rw[Paired.length e];have:=List.length_filter_le cT (pls.take i);rw[List.length_take]at this
  omega) (fun i ys H' ⟨s',_⟩=>SqL.of (s' _ _ hpl)) ?_ ?_
 . rintro i y ys H4 hi ⟨s34,hY⟩
   obtain⟨x,hx,hpx⟩:=cI hP i y hi;have hpx4:=hpx.tups s34.tups;obtain⟨q,vt,vo,pa,j,rfl,hq,ht⟩:=hpx;have hq4:=s34 _ _ hq
   have hin:inV (.str x.kd) [V.str "take",V.str "give",V.str "lean"]=cT x:=by
    rcases iQ (hok x (qmg hx)).vb with z|z|z|z <;> unfold cT <;> rw[z] <;> decide +kernel
   have et:(pls.take (i+1)).filter cT=(pls.take i).filter cT++(if cT x=true then [x]else []):=by
    rw[qta,hx,List.filter_append]
    congr 1
    show List.filter cT [x]=_;cases hz:cT x with
    |true=>rw[List.filter_cons_of_pos hz];rfl
    |false=>rw[List.filter_cons_of_neg (by rw[hz];decide)];rfl
   refine⟨trivial,_,rfl,q,_,0,.str x.kd,rfl,rfl,SqT.of hq4,rfl,lk (by first|exact qnb rfl|simp),fun q1 hq1=>⟨q1,_,rfl,.inr (SqT.of au),rfl,rfl,?_⟩⟩;have s45:=aD (o:=.tup [.str "take",.str "give",.str "lean"]) hq1;generalize upd H4 q1 (.tup [.str "take",.str "give",.str "lean"])=H5 at s45 ⊢;rw[qnZ qbf,hin];refine⟨_,rfl,aU (fun z=>?_) (fun z=>?_)⟩
   . refine⟨_,rfl,s34.trans s45,?_⟩
     rw[et,qp z];exact eE (Paired.mapP hY fun _ _ w=>w.tups s45.tups) (.cons (hpx4.tups s45.tups) .nil)
   . refine⟨s34.trans s45,?_⟩
     rw[et,qnZ z,List.append_nil];exact Paired.mapP hY fun _ _ w=>w.tups s45.tups
 rintro dv H4 ⟨s34,hY⟩ dl hdl';rw[hul,List.take_length]at hY;have s35:=s34.trans (aD (o:=.lst dv) hdl');have hdl5:(upd H4 dl (.lst dv)) dl=some (.lst dv):=au;have hY5:Paired (PlanAt (upd H4 dl (.lst dv))) dv (pls.filter cT):=Paired.mapP hY fun _ _ w=>w.tups (aD hdl').tups
 generalize upd H4 dl (.lst dv)=H5 at s35 hdl5 hY5 ⊢
 have hD:∀ x∈pls.filter cT,PlOk ns x/\¬ x.kd="ask":=fun x hx=>by
  obtain⟨h1,h2⟩:=List.mem_filter.mp hx;refine⟨hok x h1,fun e=>?_⟩;unfold cT at h2;rw[qdt e]at h2;cases h2
 have hxl:=p7 ns pls (bW ns);have hml0:(jf ns pls (bW ns)).length=(pls.filter cT).length:=by rw[qQ,vV]
 have hdvl:dv.length=(pls.filter cT).length:=Paired.length hY5;refine⟨_,rfl,_,rfl,np,pl,us,pls,ns,rfl,s35 _ _ hnp3,h8,s35 _ _ hpl,Paired.mapP hP fun _ _ w=>w.tups s35.tups,hok,hN,h90,fun H6 s56=>?_⟩;obtain⟨r0,rest,f1,f2,f3,f4,f5,f6,f7,f8,f9⟩:=DK hN h1 h8 hok h90;refine⟨j7 ns pls,0,r0,rest,pls.map km,ns,jf ns pls (bW ns),kI ns pls (bW ns),rfl,f1,f2,f3,f4,f5,f6,h1,h8,hN.nd,f7,f8,f9,fun q al ml np2 ms H7 s67 hq hal hml hnp2 hPm=>?_⟩;have s57:=s56.trans s67;have s37:=s35.trans s57;have hmsl:ms.length=(jf ns pls (bW ns)).length:=Paired.length hPm;refine⟨_,rfl,_,rfl,pl,_,rfl,.inl (SqL.of (s37 _ _ hpl)),_,rfl,dl,_,rfl,.inl (SqL.of (s57 _ _ hdl5)),_,_,rfl,rfl,_,rfl,dl,_,rfl,.inl (SqL.of (s57 _ _ hdl5)),q,al,ml,_,ms,_,_,rfl,hq,hal,hml,by omega,by omega,_,rfl,bj ?_⟩;have hnp7:=s37 _ _ hnp3;obtain⟨N,hNe⟩:∃ N,N=2 ^ ns.length:=⟨_,rfl⟩
 have h256:N<=256:=hNe ▸ Nat.pow_le_pow_right (n:=2) (by decide) h8;have e1:(1:Int) * 2 ^ (((ns.map V.str).length:Nat):Int).toNat=(N:Int):=by rw[qlm,Int.toNat_natCast,hNe];simp
 refine⟨_,rfl,_,rfl,np,_,rfl,.inr (SqT.of hnp7),_,_,rfl,rfl,⟨by rw[qlm];omega,by rw[qlm];omega,by decide⟩,?_⟩;refine⟨_,rfl,by show -(2 ^ 62)<=(1:Int) * 2 ^ (((ns.map V.str).length:Nat):Int).toNat;rw[e1];omega,by show(1:Int) * 2 ^ (((ns.map V.str).length:Nat):Int).toNat<2 ^ 62;rw[e1];omega,?_⟩
 try dsimp -proj -iota only
 rw[e1,Int.toNat_natCast];refine eZ (n:=N) (fun _=>.int 0) (lk (by omega)) (fun i R hi r=>⟨trivial,r⟩) (fun lc hlc=>?_)
 have er:((List.range N).map fun _=>V.int 0)=(bW ns).map V.int:=by
  unfold bW;rw[<- hNe,List.map_const',List.length_range];simp
 rw[er];have u1:=aD (o:=.lst ((bW ns).map V.int)) hlc;refine⟨lc,_,rfl,.inl ⟨SqL.of au,fun r2 hr2=>⟨lk (by first|exact qnb rfl|simp),fun mq hmq=>?_⟩⟩⟩;have u2:=aD (o:=.tup ((bW ns).map V.int)) hr2;have u3:=aD (o:=.tup [.ref np,.ref r2]) hmq;have s78:=(u1.trans u2).trans u3;have hm8:MindAt (upd (upd (upd H7 lc (.lst ((bW ns).map V.int))) r2 (.tup ((bW ns).map V.int))) mq (.tup [.ref np,.ref r2])) mq np r2 (bW ns):=⟨au,u3 _ _ au,by unfold bW;rw[List.length_replicate,<- hNe];exact h256⟩
 generalize upd (upd (upd H7 lc (.lst ((bW ns).map V.int))) r2 (.tup ((bW ns).map V.int))) mq (.tup [.ref np,.ref r2])=H8 at s78 hm8 ⊢
 have hPm8:Paired (oK H8 np2) ms (jM ns (pls.filter cT) (bW ns)):=by
  rw[qQ]at hPm;exact Paired.mapP hPm fun _ _ ⟨a',r',e,h⟩=>⟨a',r',e,h.same s78⟩
 have hdl8:=s78 _ _ (s57 _ _ hdl5);have hY8:Paired (PlanAt H8) dv (pls.filter cT):=Paired.mapP hY5 fun _ _ w=>w.tups (s57.trans s78).tups
 have hq8:=s78 _ _ hq;have hml8:=s78 _ _ hml;have hnp8:=s78 _ _ hnp7;have hnp28:=s78 _ _ hnp2;generalize pls.filter cT=D at hD hY8 hPm8 hdvl
 refine⟨_,rfl,dl,rfl,⟨_,SqL.of hdl8⟩,uT (K:=K) (a:=dl) (xs:=dv)
  (fun i σ H'=>∃(o6 o7 o8:Option V)(b nb rb:Addr)(rs:List Int),σ=[some (.ref a),some (.ref np),some (.ref pl),some (.ref dl),some (.ref q),some (.ref b),o6,o7,o8]/\Same H8 H'/\MindAt H' b nb rb rs/\H' nb=some (.tup (ns.map V.str))/\Mind ns rs/\jM ns (D.drop i) rs=(jM ns D (bW ns)).drop i)
  ⟨none,none,none,mq,np,r2,bW ns,rfl,Same.refl _,hm8,hnp8,nR ns,rfl⟩ (fun i σ H' _ ⟨_,_,_,_,_,_,_,_,s',_⟩=>SqL.of (s' _ _ hdl8)) ?_ ?_⟩
 . rintro i y σ H9 hi ⟨o6,o7,o8,b,nb,rb,rs,rfl,s89,hmb,hnb,hM,hrun⟩ d hd
   obtain⟨x,hx,hpx⟩:=cI hY8 i y hi;obtain⟨hxo,hxk⟩:=hD x (qmg hx)
   have edr:D.drop i=x::D.drop (i+1):=by
    obtain⟨hlt,e⟩:=List.getElem?_eq_some_iff.mp hx;rw[List.drop_eq_getElem_cons hlt,e]
   rw[edr]at hrun;have hrun:bM ns x rs::jM ns (D.drop (i+1)) (bM ns x rs)=(jM ns D (bW ns)).drop i:=hrun
   have hat:(jM ns D (bW ns))[i]? = some (bM ns x rs):=by
    have:=congrArg (fun l=>l[0]?) hrun;simp only[List.getElem?_cons_zero,List.getElem?_drop,Nat.add_zero]at this;exact this.symm
   have hnx:jM ns (D.drop (i+1)) (bM ns x rs)=(jM ns D (bW ns)).drop (i+1):=by
    have:=congrArg List.tail hrun;rw[List.tail_drop]at this;exact this
   have hil:i<ms.length:=by
    rw[Paired.length hPm8];exact(List.getElem?_eq_some_iff.mp hat).1
   obtain⟨rs',hrs',b2,rb2,hv,hm2⟩:=cI hPm8 i ms[i] (List.getElem?_eq_getElem hil);rw[hat]at hrs';cases hrs';have v1:=aD (o:=.tup [.int i,y]) hd;refine⟨d,_,rfl,SqT.of au,rfl,_,_,rfl,_,_,rfl,rfl,?_⟩;generalize upd H9 d (.tup [.int i,y])=HA at v1 ⊢;have s8A:=s89.trans v1;refine⟨_,rfl,q,_,1,_,rfl,rfl,SqT.of (s8A _ _ hq8),rfl,_,rfl,ml,_,(i:Int),.ref b2,rfl,rfl,SqL.of (s8A _ _ hml8),cM (j:=i) (by rw[List.getElem?_eq_getElem hil,hv]),?_⟩;have hmA:=hm2.same s8A;have hM':=DN (x:=x) hM;refine⟨_,rfl,_,rfl,b2,np2,np,rb2,ns,_,rfl,hmA,s8A _ _ hnp28,s8A _ _ hnp8,h8,hM',_,rfl,bj ?_⟩;refine⟨_,rfl,_,rfl,_,rfl,b,b2,nb,np2,rb,rb2,y,ns,rs,x,rfl,hmb.same v1,hmA,v1 _ _ hnb,s8A _ _ hnp28,h8,hM,hpx.tups s8A.tups,hxo,hxk,fun HB sAB=>⟨_,rfl,bj ?_⟩⟩;exact⟨_,rfl,_,_,_,b2,np2,rb2,_,rfl,s8A.trans sAB,hmA.same sAB,sAB _ _ (s8A _ _ hnp28),hM',hnx⟩
 . rintro σ H9 ⟨o6,o7,o8,b,nb,rb,rs,rfl,_⟩
   exact k _
theorem tm{K:W.Frag}{h:Heap}{mg:Str->Option Value}(X:K.In h)(G:h.Ns mainGlobals mg){x:Str}{st:Stmt}{ps:List Str}{f:Addr}{fd:FuncData}(q:Tq K x st f fd)(b:Binds K fd ps []):Tp K mg x st ps f fd:=⟨q.F,b,W.mg_of X G q.a,q.F.kp⟩
end
theorem tq{K:W.Frag}{x:Str}{st:Stmt}{f:Addr}{od an:Option Addr}{sl:Array (Option Value)}{oc kV dc pm cd ct:Value}(a:W.nsIn K mainGlobals x=some (some (.ref f)))(l:K.lookup f=some ⟨oc,od,.func (W.fnOf x x (gP st) (fO st) (aB st) .none kV dc pm an cd ct),sl⟩)(c:W.codeIn K cd x=true)(k:W.keepIn K (.ref f)=true):Tq K x st f (W.fnOf x x (gP st) (fO st) (aB st) .none kV dc pm an cd ct):=⟨Ba l c k,a⟩
theorem mq{K:W.Frag}{C:Addr}{x q:Str}{st:Stmt}{f:Addr}{od an:Option Addr}{sl:Array (Option Value)}{oc kV dc pm cd ct:Value}(a:W.findIn K (.ref C) x=some (some (.ref f)))(i:W.isFn K (.ref f)=true)(l:K.lookup f=some ⟨oc,od,.func (W.fnOf x q (gP st) (fO st) (aB st) .none kV dc pm an cd ct),sl⟩)(c:W.codeIn K cd q=true)(k:W.keepIn K (.ref f)=true):Mq K C x q st f (W.fnOf x q (gP st) (fO st) (aB st) .none kV dc pm an cd ct):=⟨Ba l c k,a,i⟩
theorem txt_mk{P:Program}{w:World}{K:W.Frag}{h:Heap}{mg:Str->Option Value}(X:K.In h)(G:h.Ns mainGlobals mg)
  {f0 f1 f2 f3 f4 f5 f6 f8 f9 f10 f11 f12 f13 f14 f15 f16 f17 f18 f19 f20 f21 f22 f28 f29 f30 f33 f34 f35 f36 f37 f41 f45 f46 f47 f48 f49 f50 f51 f52 f53 f54 f55 f56 f57 f58 f59 f60 f61 f62 f63 f64 f65 f66 f67 f68 f69 f70 f71 f72 f73 f74 f75 f76 f77 f78 f79 f80 f81 f83 f84 f85 f86 f87 f88 f89 f90 f91 f92 f93 f94 f95 f96 f97 f98 f99 f100 f101 f102 f103 f105 f106 f107 f108 f109 f110 f111 f112 f113 B0 B1 B2 B3 B4 B5 B6 B7 B8 B9 B10 B11 B12 B13 B14 B15:Addr} {e0 e1 e2 e3 e4 e5 e6 e8 e9 e10 e11 e12 e13 e14 e15 e16 e17 e18 e19 e20 e21 e22 e28 e29 e30 e33 e34 e35 e36 e37 e41 e45 e46 e47 e48 e49 e50 e51 e52 e53 e54 e55 e56 e57 e58 e59 e60 e61 e62 e63 e64 e65 e66 e67 e68 e69 e70 e71 e73 e74 e75 e76 e77 e78 e83 e86 e87 e88 e89 e90 e91 e92 e93 e94 e95 e96 e97 e98 e99 e100 e101 e102 e103 e105 e106 e107 e108 e109 e110 e111 e112 e113:FuncData} {B16 B17 B18 B19 B20:Tok}
  (A0:W.nsIn K mainGlobals "MindError"=some (some (.ref B3)))
  (A1:W.nsIn K mainGlobals "NoSentence"=some (some (.ref B8)))
  (A2:W.nsIn K mainGlobals "TooDeep"=some (some (.ref B9)))
  (A3:W.nsIn K mainGlobals "NoName"=some (some (.ref B7)))
  (A4:W.nsIn K mainGlobals "Always"=some (some (.ref B0)))
  (A5:W.nsIn K mainGlobals "Never"=some (some (.ref B4)))
  (A6:W.nsIn K mainGlobals "NoBack"=some (some (.ref B6)))
  (A7:W.nsIn K mainGlobals "NoAgain"=some (some (.ref B5)))
  (A8:W.nsIn K mainGlobals "Log"=some (some (.ref B2)))
  (A9:W.nsIn K mainGlobals "Unfinished"=some (some (.ref B10)))
  (A10:W.nsIn K mainGlobals "Course"=some (some (.ref B1)))
  (q0:Tq K "is_letter" S0 f0 e0)
  (q1:Tq K "is_name" S1 f1 e1)
  (q2:Tq K "parts_of" S2 f2 e2)
  (q3:Tq K "layer_below" S3 f3 e3)
  (q4:Tq K "depth" S4 f4 e4)
  (q5:Tq K "names_in" S5 f5 e5)
  (q6:Tq K "bit_at" S6 f6 e6)
  (q8:Tq K "need_names" S8 f8 e8)
  (q9:Tq K "sides" S9 f9 e9)
  (q10:Tq K "turned_about" S10 f10 e10)
  (q11:Tq K "joined" S11 f11 e11)
  (q12:Tq K "full" S12 f12 e12)
  (q13:Tq K "worlds_with" S13 f13 e13)
  (q14:Tq K "sides_of_names" S14 f14 e14)
  (q15:Tq K "table" S15 f15 e15)
  (q16:Tq K "breaking" S16 f16 e16)
  (q17:Tq K "flat" S17 f17 e17)
  (q18:Tq K "least_rank" S18 f18 e18)
  (q19:Tq K "firmness" S19 f19 e19)
  (q20:Tq K "held" S20 f20 e20)
  (q21:Tq K "both_leasts" S21 f21 e21)
  (q22:Tq K "leaning" S22 f22 e22)
  (q28:Tq K "turned" S28 f28 e28)
  (q29:Tq K "given_up" S29 f29 e29)
  (q30:Tq K "taken_on" S30 f30 e30)
  (q33:Mq K B2 "__init__" "Log.__init__" S33 f33 e33)
  (q34:Mq K B2 "stand" "Log.stand" S34 f34 e34)
  (q35:Mq K B2 "take" "Log.take" S35 f35 e35)
  (q36:Mq K B2 "give" "Log.give" S36 f36 e36)
  (q37:Mq K B2 "turn" "Log.turn" S37 f37 e37)
  (q41:Mq K B2 "mind" "Log.mind" S41 f41 e41)
  (q45:Tq K "words_of" S45 f45 e45)
  (q46:Tq K "leaf" S46 f46 e46)
  (q47:Tq K "takes_part" S47 f47 e47)
  (q48:Mq K B10 "__init__" "Unfinished.__init__" S48 f48 e48)
  (q49:Mq K B10 "begin_part" "Unfinished.begin_part" S49 f49 e49)
  (q50:Mq K B10 "follow_part" "Unfinished.follow_part" S50 f50 e50)
  (q51:Mq K B10 "fold" "Unfinished.fold" S51 f51 e51)
  (q52:Mq K B10 "fold_to_bracket" "Unfinished.fold_to_bracket" S52 f52 e52)
  (q53:Mq K B10 "close_bracket" "Unfinished.close_bracket" S53 f53 e53)
  (q54:Mq K B10 "whole" "Unfinished.whole" S54 f54 e54)
  (q55:Tq K "tree_of_words" S55 f55 e55)
  (q56:Tq K "read" S56 f56 e56)
  (q57:Tq K "rows_in" S57 f57 e57)
  (q58:Tq K "words_in" S58 f58 e58)
  (q59:Tq K "first_word" S59 f59 e59)
  (q60:Tq K "behind_first_word" S60 f60 e60)
  (q61:Tq K "is_figure" S61 f61 e61)
  (q62:Tq K "number_in" S62 f62 e62)
  (q63:Tq K "number_above_0" S63 f63 e63)
  (q64:Tq K "lean_in" S64 f64 e64)
  (q65:Tq K "names_form" S65 f65 e65)
  (q66:Tq K "numbered_form" S66 f66 e66)
  (q67:Tq K "take_form" S67 f67 e67)
  (q68:Tq K "lean_form" S68 f68 e68)
  (q69:Tq K "sentence_form" S69 f69 e69)
  (q70:Tq K "lost_form" S70 f70 e70)
  (q71:Tq K "keep_form" S71 f71 e71)
  (q73:Tq K "bare_form" S73 f73 e73)
  (q74:Tq K "form_of" S74 f74 e74)
  (q75:Mq K B1 "__init__" "Course.__init__" S75 f75 e75)
  (q76:Tq K "do_take" S76 f76 e76)
  (q77:Tq K "do_give" S77 f77 e77)
  (q78:Tq K "do_lean" S78 f78 e78)
  (q83:Tq K "answer_ask" S83 f83 e83)
  (q86:Tq K "do_row" S86 f86 e86)
  (q87:Tq K "lacks_a_mind" S87 f87 e87)
  (q88:Tq K "word_against" S88 f88 e88)
  (q89:Tq K "names_told" S89 f89 e89)
  (q90:Tq K "run" S90 f90 e90)
  (q91:Tq K "_law_cell_at" S91 f91 e91)
  (q92:Tq K "_law_whole" S92 f92 e92)
  (q93:Tq K "_law_mixed" S93 f93 e93)
  (q94:Tq K "_law_names_by" S94 f94 e94)
  (q95:Tq K "_law_tree_by" S95 f95 e95)
  (q96:Tq K "_law_column" S96 f96 e96)
  (q97:Tq K "_law_table" S97 f97 e97)
  (q98:Tq K "_law_is_mind" S98 f98 e98)
  (q99:Tq K "_law_sides" S99 f99 e99)
  (q100:Tq K "_law_side_fits" Ff f100 e100)
  (q101:Tq K "_law_turned_fits" Fg f101 e101)
  (q102:Tq K "_law_written" Fi f102 e102)
  (q103:Tq K "_law_plan_by" Fj f103 e103)
  (q105:Tq K "_law_pairs_by" Fl f105 e105)
  (q106:Tq K "_law_counted" Fo f106 e106)
  (q107:Tq K "_law_plans_by" Fp f107 e107)
  (q108:Tq K "_law_row_of" Fq f108 e108)
  (q109:Tq K "_law_text_of" Ft f109 e109)
  (q110:Tq K "_law_run_fits" Fv f110 e110)
  (q111:Tq K "_law_told_names" Fw f111 e111)
  (q112:Tq K "_law_deed_fits" Fx f112 e112)
  (q113:Tq K "law" Fy f113 e113)
  (A11:catches K B8=true)
  (A12:W.excIn K B8 bmV "ValueError.__new__"=true)
  (A13:catches K B9=true)
  (A14:W.excIn K B9 bmV "ValueError.__new__"=true)
  (A15:catches K B7=true)
  (A16:W.excIn K B7 bmV "ValueError.__new__"=true)
  (A17:catches K B0=true)
  (A18:W.excIn K B0 bmV "ValueError.__new__"=true)
  (A19:under K B0 B0=true)
  (A20:catches K B4=true)
  (A21:W.excIn K B4 bmV "ValueError.__new__"=true)
  (A22:under K B4 B0=false)
  (A23:under K B4 B4=true)
  (A24:catches K B6=true)
  (A25:catches K B5=true)
  (A26:W.plainGet K B2 Str.empty=true)
  (A27:W.hasDictIn K B2=true)
  (A28:W.plainOver K B2=true)
  (A29:W.findIn K (.ref B2) "__setattr__"=some (some (.builtin "object.__setattr__")))
  (A30:W.makesIn K B2=true)
  (A31:W.keepIn K (.ref B2)=true)
  (A32:W.findIn K (.ref B2) "standing"=some none)
  (A33:W.findIn K (.ref B2) "taken_back"=some none)
  (A34:W.plainGet K B10 Str.empty=true)
  (A35:W.hasDictIn K B10=true)
  (A36:W.plainOver K B10=true)
  (A37:W.findIn K (.ref B10) "__setattr__"=some (some (.builtin "object.__setattr__")))
  (A38:W.makesIn K B10=true)
  (A39:W.keepIn K (.ref B10)=true)
  (A40:W.findIn K (.ref B10) "trees"=some none)
  (A41:W.findIn K (.ref B10) "signs"=some none)
  (A42:W.plainGet K B1 Str.empty=true)
  (A43:W.hasDictIn K B1=true)
  (A44:W.plainOver K B1=true)
  (A45:W.findIn K (.ref B1) "__setattr__"=some (some (.builtin "object.__setattr__")))
  (A46:W.makesIn K B1=true)
  (A47:W.keepIn K (.ref B1)=true)
  (A48:W.findIn K (.ref B1) "log"=some none)
  (A49:W.findIn K (.ref B1) "kept"=some none)
  (A50:W.findIn K (.ref B1) "answers"=some none)
  (A51:W.findIn K (.ref B1) "minds_behind"=some none)
  (A52:W.nsIn K mainGlobals "LONGEST_NAME"=some (some (.int 8 B16)))
  (A53:W.nsIn K mainGlobals "LONGEST_TEXT"=some (some (.int 200 B17)))
  (A54:W.nsIn K mainGlobals "GREATEST_DEPTH"=some (some (.int 40 B18)))
  (A55:W.nsIn K mainGlobals "MOST_FIGURES"=some (some (.int 30 B19)))
  (A56:W.nsIn K mainGlobals "MOST_NAMES"=some (some (.int 8 B20)))
  (A57:W.nsIn K mainGlobals "KINDS"=some (some (.ref B11)))
  (A58:MdK P w K B11 [(.inr "&",.str "and"),(.inr "|",.str "or"),(.inr ">",.str "then"),(.inr "=",.str "same")])
  (A59:W.nsIn K mainGlobals "BINDS"=some (some (.ref B12)))
  (A60:MdK P w K B12 [(.inr "&",.int 4),(.inr "|",.int 3),(.inr ">",.int 2),(.inr "=",.int 1)])
  (A61:W.nsIn K mainGlobals "FORMS"=some (some (.ref B13)))
  (A62:MdK P w K B13 [(.inr "names",.ref f65),(.inr "take",.ref f67),(.inr "give",.ref f69),(.inr "lean",.ref f68),(.inr "keep",.ref f71),(.inr "pour",.ref f72),(.inr "back",.ref f73),(.inr "again",.ref f73),(.inr "ask",.ref f69),(.inr "lost",.ref f70),(.inr "worlds",.ref f73)])
  (A63:W.nsIn K mainGlobals "DEEDS"=some (some (.ref B14)))
  (A64:MdK P w K B14 [(.inr "take",.ref f76),(.inr "give",.ref f77),(.inr "lean",.ref f78),(.inr "pour",.ref f79),(.inr "back",.ref f80),(.inr "again",.ref f81)])
  (A65:W.nsIn K mainGlobals "ANSWERS"=some (some (.ref B15)))
  (A66:MdK P w K B15 [(.inr "ask",.ref f83),(.inr "lost",.ref f84),(.inr "worlds",.ref f85)])
  (A67:W.nsIn K mainGlobals "all"=some none)
  (A68:W.nsIn K mainGlobals "bool"=some none)
  (A69:W.nsIn K mainGlobals "enumerate"=some none)
  (A70:W.nsIn K mainGlobals "int"=some none)
  (A71:W.nsIn K mainGlobals "isinstance"=some none)
  (A72:W.nsIn K mainGlobals "len"=some none)
  (A73:W.nsIn K mainGlobals "list"=some none)
  (A74:W.nsIn K mainGlobals "max"=some none)
  (A75:W.nsIn K mainGlobals "min"=some none)
  (A76:W.nsIn K mainGlobals "range"=some none)
  (A77:W.nsIn K mainGlobals "sorted"=some none)
  (A78:W.nsIn K mainGlobals "str"=some none)
  (A79:W.nsIn K mainGlobals "sum"=some none)
  (A80:W.nsIn K mainGlobals "tuple"=some none) (hl:∀(s:Shared) (u:Value),BindsTo s e113 ⟨[u],[]⟩ [("_law_script",u)]):∃ t:Adr,Txt P w K mg t :=
 ⟨⟨f0,e0,f1,e1,f2,e2,f3,e3,f4,e4,f5,e5,f6,e6,0,e0,f8,e8,f9,e9,f10,e10,f11,e11,f12,e12,f13,e13,f14,e14,f15,e15,f16,e16,f17,e17,f18,e18,f19,e19,f20,e20,f21,e21,f22,e22,0,e0,0,e0,0,e0,0,e0,0,e0,f28,e28,f29,e29,f30,e30,0,e0,0,e0,f33,e33,f34,e34,f35,e35,f36,e36,f37,e37,0,e0,0,e0,0,e0,f41,e41,0,e0,0,e0,0,e0,f45,e45,f46,e46,f47,e47,f48,e48,f49,e49,f50,e50,f51,e51,f52,e52,f53,e53,f54,e54,f55,e55,f56,e56,f57,e57,f58,e58,f59,e59,f60,e60,f61,e61,f62,e62,f63,e63,f64,e64,f65,e65,f66,e66,f67,e67,f68,e68,f69,e69,f70,e70,f71,e71,f72,e0,f73,e73,f74,e74,f75,e75,f76,e76,f77,e77,f78,e78,f79,e0,f80,e0,f81,e0,0,e0,f83,e83,f84,e0,f85,e0,f86,e86,f87,e87,f88,e88,f89,e89,f90,e90,f91,e91,f92,e92,f93,e93,f94,e94,f95,e95,f96,e96,f97,e97,f98,e98,f99,e99,f100,e100,f101,e101,f102,e102,f103,e103,0,e0,f105,e105,f106,e106,f107,e107,f108,e108,f109,e109,f110,e110,f111,e111,f112,e112,f113,e113,B3,B8,B9,B7,B0,B4,0,0,B6,B5,0,B2,B10,B1,B16,B17,B18,B19,B20,0,B11,B12,B13,B14,B15⟩,⟨tm X G q0 (q0.F.binds fun _ _ _ _ _ _=>L2.us1 fun _=>rfl),tm X G q1 (q1.F.binds fun _ _ _ _ _ _=>L2.us1 fun _=>rfl),tm X G q2 (q2.F.binds fun _ _ _ _ _ _=>L2.us1 fun _=>rfl),tm X G q3 (q3.F.binds fun _ _ _ _ _ _=>L2.us1 fun _=>rfl),tm X G q4 (q4.F.binds fun _ _ _ _ _ _=>L2.us1 fun _=>rfl),tm X G q5 (q5.F.binds fun _ _ _ _ _ _=>L2.us1 fun _=>rfl),tm X G q6 (q6.F.binds fun _ _ _ _ _ _=>L2.us2 fun _ _=>rfl),tm X G q8 (q8.F.binds fun _ _ _ _ _ _=>L2.us2 fun _ _=>rfl),tm X G q9 (q9.F.binds fun _ _ _ _ _ _=>L2.us3 fun _ _ _=>rfl),tm X G q10 (q10.F.binds fun _ _ _ _ _ _=>L2.us1 fun _=>rfl),tm X G q11 (q11.F.binds fun _ _ _ _ _ _=>L2.us3 fun _ _ _=>rfl),tm X G q12 (q12.F.binds fun _ _ _ _ _ _=>L2.us1 fun _=>rfl),tm X G q13 (q13.F.binds fun _ _ _ _ _ _=>L2.us2 fun _ _=>rfl),tm X G q14 (q14.F.binds fun _ _ _ _ _ _=>L2.us2 fun _ _=>rfl),tm X G q15 (q15.F.binds fun _ _ _ _ _ _=>L2.us2 fun _ _=>rfl),tm X G q16 (q16.F.binds fun _ _ _ _ _ _=>L2.us2 fun _ _=>rfl),tm X G q17 (q17.F.binds fun _ _ _ _ _ _=>L2.us1 fun _=>rfl),tm X G q18 (q18.F.binds fun _ _ _ _ _ _=>L2.us2 fun _ _=>rfl),tm X G q19 (q19.F.binds fun _ _ _ _ _ _=>L2.us2 fun _ _=>rfl),tm X G q20 (q20.F.binds fun _ _ _ _ _ _=>L2.us2 fun _ _=>rfl),tm X G q21 (q21.F.binds fun _ _ _ _ _ _=>L2.us2 fun _ _=>rfl),tm X G q22 (q22.F.binds fun _ _ _ _ _ _=>L2.us2 fun _ _=>rfl),tm X G q28 (q28.F.binds fun _ _ _ _ _ _=>L2.us3 fun _ _ _=>rfl),tm X G q29 (q29.F.binds fun _ _ _ _ _ _=>L2.us2 fun _ _=>rfl),tm X G q30 (q30.F.binds fun _ _ _ _ _ _=>L2.us3 fun _ _ _=>rfl),⟨q33.F,q33.F.binds fun _ _ _ _ _ _=>L2.us2 fun _ _=>rfl,⟨q33.a,q33.i,q33.F.kp⟩⟩,⟨q34.F,q34.F.binds fun _ _ _ _ _ _=>L2.us2 fun _ _=>rfl,⟨q34.a,q34.i,q34.F.kp⟩⟩,⟨q35.F,q35.F.binds fun _ _ _ _ _ _=>L2.us3 fun _ _ _=>rfl,⟨q35.a,q35.i,q35.F.kp⟩⟩,⟨q36.F,q36.F.binds fun _ _ _ _ _ _=>L2.us2 fun _ _=>rfl,⟨q36.a,q36.i,q36.F.kp⟩⟩,⟨q37.F,q37.F.binds fun _ _ _ _ _ _=>L2.us3 fun _ _ _=>rfl,⟨q37.a,q37.i,q37.F.kp⟩⟩,⟨q41.F,q41.F.binds fun _ _ _ _ _ _=>L2.us1 fun _=>rfl,⟨q41.a,q41.i,q41.F.kp⟩⟩,tm X G q45 (q45.F.binds fun _ _ _ _ _ _=>L2.us1 fun _=>rfl),tm X G q46 (q46.F.binds fun _ _ _ _ _ _=>L2.us1 fun _=>rfl),tm X G q47 (q47.F.binds fun _ _ _ _ _ _=>L2.us2 fun _ _=>rfl),⟨q48.F,q48.F.binds fun _ _ _ _ _ _=>L2.us1 fun _=>rfl,⟨q48.a,q48.i,q48.F.kp⟩⟩,⟨q49.F,q49.F.binds fun _ _ _ _ _ _=>L2.us2 fun _ _=>rfl,⟨q49.a,q49.i,q49.F.kp⟩⟩,⟨q50.F,q50.F.binds fun _ _ _ _ _ _=>L2.us2 fun _ _=>rfl,⟨q50.a,q50.i,q50.F.kp⟩⟩,⟨q51.F,q51.F.binds fun _ _ _ _ _ _=>L2.us1 fun _=>rfl,⟨q51.a,q51.i,q51.F.kp⟩⟩,⟨q52.F,q52.F.binds fun _ _ _ _ _ _=>L2.us1 fun _=>rfl,⟨q52.a,q52.i,q52.F.kp⟩⟩,⟨q53.F,q53.F.binds fun _ _ _ _ _ _=>L2.us1 fun _=>rfl,⟨q53.a,q53.i,q53.F.kp⟩⟩,⟨q54.F,q54.F.binds fun _ _ _ _ _ _=>L2.us1 fun _=>rfl,⟨q54.a,q54.i,q54.F.kp⟩⟩,tm X G q55 (q55.F.binds fun _ _ _ _ _ _=>L2.us1 fun _=>rfl),tm X G q56 (q56.F.binds fun _ _ _ _ _ _=>L2.us1 fun _=>rfl),tm X G q57 (q57.F.binds fun _ _ _ _ _ _=>L2.us1 fun _=>rfl),tm X G q58 (q58.F.binds fun _ _ _ _ _ _=>L2.us1 fun _=>rfl),tm X G q59 (q59.F.binds fun _ _ _ _ _ _=>L2.us1 fun _=>rfl),tm X G q60 (q60.F.binds fun _ _ _ _ _ _=>L2.us1 fun _=>rfl),tm X G q61 (q61.F.binds fun _ _ _ _ _ _=>L2.us1 fun _=>rfl),tm X G q62 (q62.F.binds fun _ _ _ _ _ _=>L2.us1 fun _=>rfl),tm X G q63 (q63.F.binds fun _ _ _ _ _ _=>L2.us1 fun _=>rfl),tm X G q64 (q64.F.binds fun _ _ _ _ _ _=>L2.us1 fun _=>rfl),tm X G q65 (q65.F.binds fun _ _ _ _ _ _=>L2.us1 fun _=>rfl),tm X G q66 (q66.F.binds fun _ _ _ _ _ _=>L2.us2 fun _ _=>rfl),tm X G q67 (q67.F.binds fun _ _ _ _ _ _=>L2.us1 fun _=>rfl),tm X G q68 (q68.F.binds fun _ _ _ _ _ _=>L2.us1 fun _=>rfl),tm X G q69 (q69.F.binds fun _ _ _ _ _ _=>L2.us1 fun _=>rfl),tm X G q70 (q70.F.binds fun _ _ _ _ _ _=>L2.us1 fun _=>rfl),tm X G q71 (q71.F.binds fun _ _ _ _ _ _=>L2.us1 fun _=>rfl),tm X G q73 (q73.F.binds fun _ _ _ _ _ _=>L2.us1 fun _=>rfl),tm X G q74 (q74.F.binds fun _ _ _ _ _ _=>L2.us1 fun _=>rfl),⟨q75.F,q75.F.binds fun _ _ _ _ _ _=>L2.us2 fun _ _=>rfl,⟨q75.a,q75.i,q75.F.kp⟩⟩,tm X G q76 (q76.F.binds fun _ _ _ _ _ _=>L2.us3 fun _ _ _=>rfl),tm X G q77 (q77.F.binds fun _ _ _ _ _ _=>L2.us3 fun _ _ _=>rfl),tm X G q78 (q78.F.binds fun _ _ _ _ _ _=>L2.us3 fun _ _ _=>rfl),tm X G q83 (q83.F.binds fun _ _ _ _ _ _=>L2.us2 fun _ _=>rfl),tm X G q86 (q86.F.binds fun _ _ _ _ _ _=>L2.us2 fun _ _=>rfl),tm X G q87 (q87.F.binds fun _ _ _ _ _ _=>L2.us2 fun _ _=>rfl),tm X G q88 (q88.F.binds fun _ _ _ _ _ _=>L2.us2 fun _ _=>rfl),tm X G q89 (q89.F.binds fun _ _ _ _ _ _=>L2.us1 fun _=>rfl),tm X G q90 (q90.F.binds fun _ _ _ _ _ _=>L2.us1 fun _=>rfl),tm X G q91 (q91.F.binds fun _ _ _ _ _ _=>L2.us2 fun _ _=>rfl),tm X G q92 (q92.F.binds fun _ _ _ _ _ _=>L2.us1 fun _=>rfl),tm X G q93 (q93.F.binds fun _ _ _ _ _ _=>L2.us2 fun _ _=>rfl),tm X G q94 (q94.F.binds fun _ _ _ _ _ _=>L2.us2 fun _ _=>rfl),tm X G q95 (q95.F.binds fun _ _ _ _ _ _=>L2.us3 fun _ _ _=>rfl),tm X G q96 (q96.F.binds fun _ _ _ _ _ _=>L2.us2 fun _ _=>rfl),tm X G q97 (q97.F.binds fun _ _ _ _ _ _=>L2.us2 fun _ _=>rfl),tm X G q98 (q98.F.binds fun _ _ _ _ _ _=>L2.us2 fun _ _=>rfl),tm X G q99 (q99.F.binds fun _ _ _ _ _ _=>L2.us2 fun _ _=>rfl),tm X G q100 (q100.F.binds fun _ _ _ _ _ _=>L2.us3 fun _ _ _=>rfl),tm X G q101 (q101.F.binds fun _ _ _ _ _ _=>L2.us4 fun _ _ _ _=>rfl),tm X G q102 (q102.F.binds fun _ _ _ _ _ _=>L2.us1 fun _=>rfl),tm X G q103 (q103.F.binds fun _ _ _ _ _ _=>L2.us4 fun _ _ _ _=>rfl),tm X G q105 (q105.F.binds fun _ _ _ _ _ _=>L2.us2 fun _ _=>rfl),tm X G q106 (q106.F.binds fun _ _ _ _ _ _=>L2.us2 fun _ _=>rfl),tm X G q107 (q107.F.binds fun _ _ _ _ _ _=>L2.us2 fun _ _=>rfl),tm X G q108 (q108.F.binds fun _ _ _ _ _ _=>L2.us1 fun _=>rfl),tm X G q109 (q109.F.binds fun _ _ _ _ _ _=>L2.us2 fun _ _=>rfl),tm X G q110 (q110.F.binds fun _ _ _ _ _ _=>L2.us3 fun _ _ _=>rfl),tm X G q111 (q111.F.binds fun _ _ _ _ _ _=>L2.us1 fun _=>rfl),tm X G q112 (q112.F.binds fun _ _ _ _ _ _=>L2.us3 fun _ _ _=>rfl),tm X G q113 (q113.F.binds fun _ _ _ _ _ _=>L2.us1 fun _=>rfl),W.mg_of X G A1,A11,A12,W.mg_of X G A2,A13,A14,W.mg_of X G A3,A15,A16,W.mg_of X G A4,A17,A18,A19,W.mg_of X G A5,A20,A21,A22,A23,W.mg_of X G A6,A24,W.mg_of X G A7,A25,W.mg_of X G A8,⟨A26,A27,A28,A29⟩,⟨A30,q33.a,q33.i,A31⟩,A32,A33,W.mg_of X G A9,⟨A34,A35,A36,A37⟩,⟨A38,q48.a,q48.i,A39⟩,A40,A41,W.mg_of X G A10,⟨A42,A43,A44,A45⟩,⟨A46,q75.a,q75.i,A47⟩,A48,A49,A50,A51,W.mg_of X G A52,W.mg_of X G A53,W.mg_of X G A54,W.mg_of X G A55,W.mg_of X G A56,W.mg_of X G A57,A58,W.mg_of X G A59,A60,W.mg_of X G A61,A62,W.mg_of X G A63,A64,W.mg_of X G A65,A66,W.mg_none_of X G A67,W.mg_none_of X G A68,W.mg_none_of X G A69,W.mg_none_of X G A70,W.mg_none_of X G A71,W.mg_none_of X G A72,W.mg_none_of X G A73,W.mg_none_of X G A74,W.mg_none_of X G A75,W.mg_none_of X G A76,W.mg_none_of X G A77,W.mg_none_of X G A78,W.mg_none_of X G A79,W.mg_none_of X G A80,hl⟩⟩
end K66
namespace PySem.W.Fast
def tw4073427366009581530:=0
def tw6628938504092460018:=0
def tw3053474340965638580:=0
def tw3810821892615077457:=0
def tw5594148371454397961:=0
def tw8609129339689851136:=0
def tw8482013663531690568:=0
def tw12387063579091986557:=0
def tw5210848332516064856:=0
def tw9100347438830592747:=0
def tw1593598237583794863:=0
def tw8359399943953474604:=0
def tw10014474478861221436:=0
def tw14619187079990503907:=0
def tw10599479541190173860:=0
def tw12528229059980306530:=0
def tw3750969440375993364:=0
def tw10899321058643431720:=0
def tw10733483247048116531:=0
def tw8761462417551278700:=0
def tw1434182957320436519:=0
def tw12920023629915114052:=0
def tw3874305233553135496:=0
def tw13399474026252064360:=0
def tw13426625052006079705:=0
def tw12715978249747716526:=0
def tw3599894944403301320:=0
def tw17152351357609234587:=0
def tw6113076091947891078:=0
def tw16911559633669545911:=0
def tw9278127164123947133:=0
def tw1546610912150964979:=0
def tw13265121499909433951:=0
def tw12608437320873784790:=0
def tw4366846520753239657:=0
def tw5629655977765834358:=0
def tw6520794406374142367:=0
def tw13343965706532676094:=0
def tw15530445352767831606:=0
def tw6998333951323785616:=0
def tw5853937931220535797:=0
def tw1470662266543647293:=0
def tw15783661715854390186:=0
def tw5243744873129241153:=0
def tw14980630020226361449:=0
def tw9823885771512502752:=0
def tw6630138769023520322:=0
def tw15926532031432942173:=0
def tw13822485886945281463:=0
def tw18079471308611364733:=0
def tw276818164127954962:=0
def tw288203962225998501:=0
def tw16001852408498409534:=0
def tw524733761931575223:=0
def tw1560825079727581782:=0
def tw13161312535962266221:=0
def tw14593010572411136691:=0
def tw9262121720365446136:=0
def tw15358169951343686280:=0
def tw2543387508631054807:=0
def tw14601347018714279449:=0
def tw17765884501830314696:=0
def tw2723385663826917385:=0
def tw9439801766353011261:=0
def tw166699520839912508:=0
def tw12593447513684079219:=0
def tw15328493332781841235:=0
def tw1483717410976446467:=0
def tw12752899123670297992:=0
def tw8655614786708547574:=0
def tw6883079251427400363:=0
def tw3676611400770723362:=0
def tw12389082414574335325:=0
def tw136300579983757111:=0
def tw9075071699249348851:=0
def tw8047007747995840819:=0
def tw13196210108838605484:=0
def tw14218605794652066312:=0
def tw16133032230893827657:=0
def tw14294735835845877190:=0
def tw7594637206780645524:=0
def tw9633658816619843193:=0
def tw9583770927927405581:=0
def tw8330177015009487746:=0
def tw17322581286939790438:=0
def tw1555826754697449240:=0
def tw6629220425724551098:=0
def tw10274756444280659602:=0
def tw6550202679219647797:=0
def tw17299517491735630416:=0
def tw8351784750210525404:=0
def tw2238155860347357401:=0
def tw830961106732337611:=0
def tw415105288835089362:=0
def tw14839094439548215723:=0
def tw17339542506736315807:=0
def tw12743847844075956681:=0
def tw16484629220360381398:=0
def tw7687693170635150099:=0
def tw6801680802664826818:=0
def tw14724916669330813503:=0
def tw4153648408261722153:=0
def tw18346148420383240452:=0
def tw11585184690681206090:=0
def tw3020851912125225317:=0
def tw17932839762896780462:=0
def tw14073961504836054683:=0
def tw15292125764076702490:=0
def tw5944566907925091110:=0
def tw1003626539938884685:=0
def tw15425983434529566445:=0
def tw740866088576559214:=0
def tw3619280208542292269:=0
def tw9492444286857342530:=0
def tw5432951554339185292:=0
def tw16080802188670689317:=0
def tw2044685535063745871:=0
def tw10512195777992239508:=0
def tw10648628307908088357:=0
def tw11836971428102371648:=0
def tw8614316300931333035:=0
def tw16175508089676345944:=0
def tw4182390831230883616:=0
def tw13174743112701384997:=0
def tw15145582985942023364:=0
def tw12539514601642457077:=0
def tw8801375128289232426:=0
def tw3279445086279414426:=0
def tw5241393124003926912:=0
def tw13410959571267243411:=0
def tw18139505345562788416:=0
def tw14963427354477616582:=0
def tw10979988743147410280:=0
def tw3704805776009685024:=0
def tw17844826726761975503:=0
def tw13372506164983045254:=0
def tw17668082652949958912:=0
def tw4324928054914377388:=0
def tw2932945957812302507:=0
def tw9701446212005160301:=0
def tw606126704499196425:=0
def tw4833075476607995284:=0
def tw13130311486710714507:=0
def tw18175172101602985015:=0
def tw16813384695223237261:=0
def tw4822043617298535858:=0
def tw16483165281787738987:=0
def tw955334669289724889:=0
def tw508989872062727444:=0
def tw15466934245848365705:=0
def tw2239025334512154827:=0
def tw10957421295155614901:=0
def tw5946233836215784805:=0
def tw1548843518083371862:=0
def tw3672268001852474879:=0
def tw8251593718787539144:=0
def tw4179508294920758637:=0
def tw15714584610577731192:=0
def tw18418405946480793250:=0
def tw4163855890042590401:=0
def tw8985478720024657367:=0
def tw8663742825339700161:=0
def tw16952072481060907146:=0
def tw17961141115438722409:=0
def tw12680481442786026861:=0
def tw11442079700977936090:=0
def tw15419719728949644984:=0
def tw16614171892887191293:=0
def tw11533677783858975727:=0
def tw978179445878634957:=0
def tw11872338308666757370:=0
def tw14330181479951338791:=0
def tw8220295810543839655:=0
def tw177586568259927809:=0
def tw4652341581680140189:=0
def tw16891050967818778045:=0
def tw465599719541924614:=0
def tw10939114479175609483:=0
def tw12997797658044398146:=0
def tw16722404582094158359:=0
def tw14122939494069905323:=0
def tw2547752881447679001:=0
def tw16629146053461216036:=0
def tw13192233187162775190:=0
def tw9855861222543768225:=0
def tw14759611567555600197:=0
def tw6032094012640033444:=0
def tw14409383046130304495:=0
def tw1560168941312702456:=0
def tw4910173024929318562:=0
def tw7952164960060018494:=0
def tw1157578894419702674:=0
def tw3950351398601066879:=0
def tw10038691792096269550:=0
def tw10997797149210338639:=0
def tw6699358970522323656:=0
def tw399018454975063483:=0
def tw8088968821386577130:=0
def tw9520101707254174947:=0
def tw5053516212836971737:=0
def tw15430215739257457649:=0
def tw2671337630996052691:=0
def tw10725454592041151691:=0
def tw16421812427558991788:=0
def tw17522666602095498646:=0
def tw4265802075892591743:=0
def tw7327174245854530150:=0
def tw8900574188442548912:=0
def tw14288850376929061426:=0
def tw1454715785923473406:=0
def tw1322051452800393253:=0
def tw10723183928690397245:=0
def tw13042235529412020587:=0
def tw3048386618347726781:=0
def tw4507786928840988788:=0
def tw16311330257743670598:=0
def tw8512566678301973755:=0
def tw15826297580112560500:=0
def tw5670842142705721434:=0
def tw17488930258046221584:=0
def tw1174067944857600646:=0
def tw17343826294075734668:=0
def tw4517125667440489542:=0
def tw6877195959371176170:=0
def tw14396317928290222114:=0
def tw397133168388384573:=0
def tw16495783140855359829:=0
def tw17261778989013280514:=0
def tw10777327140537394266:=0
def tw3025873942198065165:=0
def tw10998819672473300133:=0
def tw12860410932202694030:=0
def tw3309049571012485864:=0
def tw5761344335034499285:=0
def tw6021007295306454491:=0
def tw16481699426711403219:=0
def tw17703103083442932825:=0
def tw9323122359504991933:=0
def tw10120836020166346333:=0
def tw3265592146984032123:=0
def tw18403754816448970236:=0
def tw4731545909385436016:=0
def tw11962698585645929018:=0
def tw13121825585697120436:=0
def tw14796331495476152145:=0
def tw7744246552535127207:=0
def tw16548998879186708874:=0
def tw17728017611746126418:=0
def tw13809439220906344476:=0
def tw8987584453614732148:=0
def tw16005915043000429051:=0
def tw11060209039160404308:=0
def tw11619477898308676193:=0
def tw2741254458428145672:=0
def tw1182464609120258537:=0
def tw12055191152873815115:=0
def tw3622173234682574713:=0
def tw4415162785395864609:=0
def tw5682061159866401259:=0
def tw8381712086679991862:=0
def tw10214448822856364308:=0
def tw2343152261535567857:=0
def tw15645888700257163339:=0
def tw4039890394733509214:=0
def tw15231600734231925478:=0
def tw10868671046315888651:=0
def tw4300604392286422380:=0
def tw17802911396803509180:=0
def tw6814253672589089526:=0
def tw9720896536619506176:=0
def tw15962994104929409355:=0
def tw13381208690705561803:=0
def tw3166872721777899967:=0
def tw818083360185777491:=0
def tw12590356018818787493:=0
def tw5768565228920947916:=0
def tw9177588798965415070:=0
def tw18144693879318886177:=0
def tw5546857874841256119:=0
def tw11341771638444296981:=0
def tw10639947839310583886:=0
def tw6726016138150285979:=0
def tw11595581234142431299:=0
def tw6453716289154227382:=0
def tw3001018672419679710:=0
def tw8972304143455357114:=0
def tw10544438781381836597:=0
def tw3258718542636574112:=0
def tw15321149964100106306:=0
def tw17363343416900899513:=0
def tw1430545425186242049:=0
def tw1220841392073681716:=0
def tw1357964260719345798:=0
def tw599641028858095378:=0
def tw1842398111248820687:=0
def tw5647807656235997988:=0
def tw9810642012714225864:=0
def tw7223410841087545521:=0
def tw13752569930934580568:=0
def tw14489247741745399154:=0
def tw10451153986134776107:=0
def tw7294267011349428742:=0
def tw2530514057519709380:=0
def tw6307287828495205869:=0
def tw16680638887408546893:=0
def tw5248400188669743062:=0
def tw15470300924376793933:=0
def tw12885890641868159833:=0
def tw7756228097834262765:=0
def tw6221125520864661822:=0
def tw2219665775531213562:=0
def tw14835280610551740385:=0
def tw17340682850398302753:=0
def tw14801570893515034677:=0
def tw15565033136293565555:=0
def tw4215734089352795177:=0
def tw9157067918360456104:=0
def tw14144649875341065753:=0
def tw3952927907731100386:=0
def tw2042196158894318540:=0
def tw6658217959604481498:=0
def tw2196323232720224149:=0
def tw1653018697922839517:=0
def tw7362569274896649262:=0
def tw13700309206665241159:=0
def tw3514963738884581016:=0
def tw18204017796247542043:=0
def tw17092582363878772625:=0
def tw8470547640900287956:=0
def tw10772929291992932234:=0
def tw16323731721609908598:=0
def tw6455106466641857673:=0
def tw10714500632953184837:=0
def tw14221983480471011075:=0
def tw14320042040900255363:=0
def tw5181897995371727701:=0
def tw15735935256273802005:=0
def tw1153981791172553153:=0
def tw13674621593475881289:=0
def tw9645321891097066229:=0
def tw114098054006290894:=0
def tw12349424320975504303:=0
def tw4832329399088872418:=0
def tw7106364651227437751:=0
def tw11846594440220283400:=0
def tw10036151447322298594:=0
def tw3551166445196319285:=0
def tw13765238377349974040:=0
def tw1406010822833190674:=0
def tw4606134134242674574:=0
def tw1968410617776788672:=0
def tw11909723741030093759:=0
def tw6564560423673510117:=0
def tw7801968268016888867:=0
def tw12916249011634016775:=0
def tw9223054681354222662:=0
def tw18102258760365891185:=0
def tw7198003519276663884:=0
def tw3089269951150867982:=0
def tw16913816124979721618:=0
def tw8522944694207831155:=0
def tw17766098826259423826:=0
def tw6330245705107316929:=0
def tw4005978738920849554:=0
def tw13627549321963817181:=0
def tw15583523727913480662:=0
def tw13127138700164076949:=0
def tw7725238702278756554:=0
def tw6649519612714237969:=0
def tw5608312725262817797:=0
def tw5089119886125004889:=0
def tw6010174619230950651:=0
def tw6958590388090879415:=0
def tw2150036713549205015:=0
def tw4140091001181574409:=0
def tw15673767693620622720:=0
def tw6994976780758069532:=0
def tw3898591006736814820:=0
def tw10172734878371228675:=0
def tw16237332883583057453:=0
def tw14081763665619486272:=0
def tw14275835670321594373:=0
def tw3762702022758008360:=0
def tw6959679699615157868:=0
def tw10365324628958520187:=0
def tw7933624480717672926:=0
def tw5740639808582894199:=0
def tw14347646773173280502:=0
def tw15712519241384667084:=0
def tw1688920421871702710:=0
def tw6070691309682068138:=0
def tw18383285807277738648:=0
def tw12374596128746213468:=0
def tw14448242726013775027:=0
def tw14496827847087359493:=0
def tw9789784980568962459:=0
def tw12850144337766140477:=0
def tw18112599347932394424:=0
def tw7767237340039970300:=0
def tw4289416113902350721:=0
def tw2755621810219475276:=0
def tw3792322400641007303:=0
def tw3513350852693384513:=0
def tw9385034148821716157:=0
def tw14983135287140423439:=0
def tw11734763870085876284:=0
def tw13540397591523195320:=0
def tw4261973252015597124:=0
def tw17734898228438079989:=0
def tw6564288067955858112:=0
def tw4160595132820735682:=0
def tw18371193965563743221:=0
def tw5781508180445470640:=0
def tw14754432282055400198:=0
def tw8543231292100610633:=0
def tw10723141787511699260:=0
def tw15275257277871033413:=0
def tw12088226471022379755:=0
def tw14823731913703258955:=0
def tw3016409234297800261:=0
def tw18264839478087888173:=0
def tw8261340832304082756:=0
def tw12001014782737597642:=0
def tw8229266840853879614:=0
def tw18053576054218156465:=0
def tw2625875564855178253:=0
def tw12579665933149948153:=0
def tw11205042462210049084:=0
def tw6001379889504429195:=0
def tw8683864018458336900:=0
def tw2991880480886603342:=0
def tw2546225837233354767:=0
def tw7660739264202282362:=0
def tw7641806689094263972:=0
def tw18007771312094169478:=0
def tw4843583270917582473:=0
def tw15609433149820506911:=0
def tw11197164885648249152:=0
def tw2817377225627437101:=0
def tw4587822593278231780:=0
def tw16518026691504443816:=0
def tw280590180980154003:=0
def tw9165355664520402919:=0
def tw11424943899923696920:=0
def tw12405401234655729067:=0
def tw9440871309364422682:=0
def tw4820800629054466097:=0
def tw13832522235724425274:=0
def tw7579966708863523331:=0
def tw10382139824000007338:=0
def tw15084461408582434584:=0
def tw7858477654568480313:=0
def tw581082859676294897:=0
def tw1287074718096643575:=0
def tw704332795858139762:=0
def tw13781881589187325283:=0
def tw17988850237557417440:=0
def tw10364425771260222483:=0
def tw13151469661595097551:=0
def tw4903077628451159886:=0
def tw11547068575566758110:=0
def tw15422068336953820949:=0
def tw10428178512947908758:=0
def tw9598380850661389322:=0
def tw135432469313554518:=0
def tw15108645552323235701:=0
def tw10659003060471524960:=0
def tw10579206685297158883:=0
def tw12713764318400324940:=0
def tw8850012763126621644:=0
def tw14011114603961003965:=0
def tw1824283703401383141:=0
def tw15317157419895216746:=0
def tw11195653113527008054:=0
def tw13676750563560517430:=0
def tw12410167300477019665:=0
def tw9446020259728567282:=0
def tw7146859739235126864:=0
def tw18270897014787795457:=0
def tw11908367731780826996:=0
def tw8521738105898091811:=0
def tw11564420047174030679:=0
def tw4984801552623383977:=0
def tw11168768644056423934:=0
def tw896729166527957847:=0
def tw9576554265042109983:=0
def tw4826536159372386365:=0
def tw13099266889761432386:=0
def tw16157663703275031291:=0
def tw7153646335406226241:=0
def tw11024476031136063041:=0
def tw2382345526388953607:=0
def tw3708292354818443092:=0
def tw17860207096533373530:=0
def tw14403145619385901169:=0
def tw1476323005737727730:=0
def tw18071845547851081097:=0
def tw1806163247266995572:=0
def tw14680613342912982661:=0
def tw7295239474158933054:=0
def tw13507614108817517839:=0
def tw18128125846565823120:=0
def tw11938473251183427009:=0
def tw13242230444465540251:=0
def tw16457013980494276511:=0
def tw505436085522450089:=0
def tw12967563429216839550:=0
def tw2091496139241409613:=0
def tw5211674613413212073:=0
def tw13002136215019939846:=0
def tw17502705990663994890:=0
def tw10886585930272965436:=0
def tw15185545210202199297:=0
def tw12871127311011290231:=0
def tw14018479421052026013:=0
def tw11450922158534419013:=0
def tw17964467012258228272:=0
def tw13393391942786245444:=0
def tw15066539554750818785:=0
def tw14608780487256152317:=0
def tw13796007034127674814:=0
def tw14488468341107950123:=0
def tw8203784453569400952:=0
def tw8294244924603634253:=0
def tw18206751885299529869:=0
def tw11133170358737156706:=0
def tw3356498187266666881:=0
def tw171405535340433535:=0
def tw133395714040944804:=0
def tw5293637042547801915:=0
def tw3162055532880843588:=0
def tw7915029544045955367:=0
def tw458752964113092737:=0
def tw10515240074727343993:=0
def tw6003405523894321263:=0
def tw4631101909915359164:=0
def tw13148629393765458175:=0
def tw16674549910425097989:=0
def tw7119172382295984205:=0
def tw7754546963951595127:=0
def tw7014542676696289232:=0
def tw14923629355924595900:=0
def tw2298228749423963021:=0
def tw8829124394896363863:=0
def tw6735136960784559323:=0
def tw14697154835642552138:=0
def tw6610240187094984088:=0
def tw1993631094767869689:=0
def tw13168801503197292708:=0
def tw7509968608499224917:=0
def tw803110848293509279:=0
def tw9242517827295575563:=0
def tw15978531200265196060:=0
def tw16539586783852505222:=0
def tw2282123183684037600:=0
def tw1082704565412150292:=0
def tw12488278745347606603:=0
def tw3053398904392704427:=0
def tw981259708557284053:=0
def tw12635499640716449889:=0
def tw2563459994445793952:=0
def tw11038562692842526965:=0
def tw18142229201710117728:=0
def tw1041197850491468555:=0
def tw17847249072437281358:=0
def tw7807522959894586585:=0
def tw9423759970295239099:=0
def tw10279909401223709927:=0
def tw6061137902349824139:=0
def tw11012867937461313520:=0
def tw11405264622754254052:=0
def tw15304263900884720864:=0
def tw6703993915776998419:=0
def tw11587835433827362838:=0
def tw14858905015186954857:=0
def tw9446191725873629123:=0
def tw822627181587781240:=0
def tw18057052034257503619:=0
def tw12684624065934843666:=0
def tw11164921333391077776:=0
def tw3251219589945381558:=0
def tw8447094044075301316:=0
def tw15398184394423213916:=0
def tw11834879139426417866:=0
def tw13780401933452898359:=0
def tw9407856572762382838:=0
def tw15011176633334101356:=0
def tw13367277518191557460:=0
def tw12826752754424319812:=0
def tw14714263640644103133:=0
def tw9986111276046343619:=0
def tw2252541821060181114:=0
def tw2316458173265367618:=0
def tw5540040761490298981:=0
def tw15315212633302184490:=0
def tw11290396518919339611:=0
def tw4116358658116128566:=0
def tw9153077455007249546:=0
def tw11526482435545626279:=0
def tw15760931973808856227:=0
def tw13228857407524703405:=0
def tw4458467382422913054:=0
def tw7029152197623512147:=0
def tw8479539068287484541:=0
def tw16240644468246616844:=0
def tw16591453977760011940:=0
def tw7699759778068403942:=0
def tw16222597839023323917:=0
def tw3463848667453959654:=0
def tw16002906162761086792:=0
def tw11064636227026137110:=0
def tw8533749413782572590:=0
def tw1092575408113708446:=0
def tw7584718643985393910:=0
def tw8359654113682421631:=0
def tw4943436073865897017:=0
def tw6269014279017631737:=0
def tw15611023901222428919:=0
def tw9893281255682804939:=0
def tw2183148783407467452:=0
def tw9048233108857879849:=0
def tw11403102156796644450:=0
def tw13207690744323120337:=0
def tw9621890286902329878:=0
def tw14475254471765656038:=0
def tw13654176557087165962:=0
end PySem.W.Fast
open PySem PySem.W PyProof.Rows
set_option maxRecDepth 100000 in
set_option maxHeartbeats 0 in
theorem PySem.Challenge.cw_mindchange_k66_whole_run_turns_holds : PySem.Challenge.rw_mindchange_k66_whole_run_turns.Holds := by
 w_on;o_law;k_head;(case hw=>w_witness2)
 k_fill
 refine L2.walk_ofX (l:=PySem.Challenge.rw_mindchange_k66_whole_run_turns) (n:=63) (k:=127) (x := "_law_script") (sp:=K66.spLaw) rfl (by decide) rfl ⟨rfl,by decide,by decide⟩ (fun w h Y=>PySem.W.kIn_of Y) ?F ?S
 case F =>
  intro w mg fa h KX G hmg
  have T:∃ t,K66.Txt PySem.Challenge.rw_mindchange_k66_whole_run_turns.prog w (L2.KOf KX) mg t:=by
   dsimp only[L2.KOf]
   refine' K66.txt_mk KX G ?A0 ?A1 ?A2 ?A3 ?A4 ?A5 ?A6 ?A7 ?A8 ?A9 ?A10 ?q0 ?q1 ?q2 ?q3 ?q4 ?q5 ?q6 ?q8 ?q9 ?q10 ?q11 ?q12 ?q13 ?q14 ?q15 ?q16 ?q17 ?q18 ?q19 ?q20 ?q21 ?q22 ?q28 ?q29 ?q30 ?q33 ?q34 ?q35 ?q36 ?q37 ?q41 ?q45 ?q46 ?q47 ?q48 ?q49 ?q50 ?q51 ?q52 ?q53 ?q54 ?q55 ?q56 ?q57 ?q58 ?q59 ?q60 ?q61 ?q62 ?q63 ?q64 ?q65 ?q66 ?q67 ?q68 ?q69 ?q70 ?q71 ?q73 ?q74 ?q75 ?q76 ?q77 ?q78 ?q83 ?q86 ?q87 ?q88 ?q89 ?q90 ?q91 ?q92 ?q93 ?q94 ?q95 ?q96 ?q97 ?q98 ?q99 ?q100 ?q101 ?q102 ?q103 ?q105 ?q106 ?q107 ?q108 ?q109 ?q110 ?q111 ?q112 ?q113 ?A11 ?A12 ?A13 ?A14 ?A15 ?A16 ?A17 ?A18 ?A19 ?A20 ?A21 ?A22 ?A23 ?A24 ?A25 ?A26 ?A27 ?A28 ?A29 ?A30 ?A31 ?A32 ?A33 ?A34 ?A35 ?A36 ?A37 ?A38 ?A39 ?A40 ?A41 ?A42 ?A43 ?A44 ?A45 ?A46 ?A47 ?A48 ?A49 ?A50 ?A51 ?A52 ?A53 ?A54 ?A55 ?A56 ?A57 ?A58 ?A59 ?A60 ?A61 ?A62 ?A63 ?A64 ?A65 ?A66 ?A67 ?A68 ?A69 ?A70 ?A71 ?A72 ?A73 ?A74 ?A75 ?A76 ?A77 ?A78 ?A79 ?A80 ?zhl
   (case A0|A1|A2|A3|A4|A5|A6|A7|A8|A9|A10=>k_is)
   (case q0|q1|q2|q3|q4|q5|q6|q8|q9|q10|q11|q12|q13|q14|q15|q16|q17|q18|q19|q20|q21|q22|q28|q29|q30|q45|q46|q47|q55|q56|q57|q58|q59|q60|q61|q62|q63|q64|q65|q66|q67|q68|q69|q70|q71|q73|q74|q76|q77|q78|q83|q86|q87|q88|q89|q90|q91|q92|q93|q94|q95|q96|q97|q98|q99|q100|q101|q102|q103|q105|q106|q107|q108|q109|q110|q111|q112|q113=>refine' K66.tq ?a ?l ?c ?k;(case a=>k_is);(case l=>k_is);(case c=>k_is);(case k=>k_is))
   (case q33|q34|q35|q36|q37|q41|q48|q49|q50|q51|q52|q53|q54|q75=>refine' K66.mq ?a ?i ?l ?c ?k;(case a=>k_is);(case i=>k_is);(case l=>k_is);(case c=>k_is);(case k=>k_is))
   (case A26|A27|A28|A29|A30|A31|A32|A33|A34|A35|A36|A37|A38|A39|A40|A41|A42|A43|A44|A45|A46|A47|A48|A49|A50|A51|A52|A53|A54|A55|A56|A57|A59|A61|A63|A65|A67|A68|A69|A70|A71|A72|A73|A74|A75|A76|A77|A78|A79|A80=>k_is)
   (case A11|A13|A15|A17|A19|A20|A22|A23|A24|A25=>kernel_rfl)
   (case A12=>k_exc)
   (case A14=>k_exc)
   (case A16=>k_exc)
   (case A18=>k_exc)
   (case A21=>k_exc)
   (case A58=>(refine' L2.mdk_of ?l ?m ?n ?s;(case l=>k_is);(case m=>(repeat (refine⟨rfl,⟨_,rfl⟩,⟨_,rfl⟩,?_⟩));exact True.intro);(case n=>decide +kernel);(case s=>kernel_rfl)))
   (case A60=>(refine' L2.mdk_of ?l ?m ?n ?s;(case l=>k_is);(case m=>(repeat (refine⟨rfl,⟨_,rfl⟩,⟨_,rfl⟩,?_⟩));exact True.intro);(case n=>decide +kernel);(case s=>kernel_rfl)))
   (case A62=>(refine' L2.mdk_of ?l ?m ?n ?s;(case l=>k_is);(case m=>(repeat (refine⟨rfl,⟨_,rfl⟩,rfl,?_⟩));exact True.intro);(case n=>decide +kernel);(case s=>kernel_rfl)))
   (case A64=>(refine' L2.mdk_of ?l ?m ?n ?s;(case l=>k_is);(case m=>(repeat (refine⟨rfl,⟨_,rfl⟩,rfl,?_⟩));exact True.intro);(case n=>decide +kernel);(case s=>kernel_rfl)))
   (case A66=>(refine' L2.mdk_of ?l ?m ?n ?s;(case l=>k_is);(case m=>(repeat (refine⟨rfl,⟨_,rfl⟩,rfl,?_⟩));exact True.intro);(case n=>decide +kernel);(case s=>kernel_rfl)))
   (case zhl=>exact fun s u=>.of_eq rfl)
  obtain⟨t,T⟩:=T
  have e0:=hmg.symm.trans T.q113.m
  cases e0
  refine' ⟨t.d113,?b,fun base kb nb=>K66.ok_law T⟩
  exact T.bl
 case S=>exact fun K H a ns hl hO hS=>⟨a,ns,rfl,hS,hl,fun _=>rfl⟩
#print axioms PySem.Challenge.cw_mindchange_k66_whole_run_turns_holds