import PyProof.Rows.All
import KE.KNestM
import Wide.FinOn
import PyProof.EqAt
import PyProof.EqKinds
import PyProof.TupleCall
import PyProof.ZipIter
import PyProof.WalksMore
import PyProof.CompFree
import PyProof.NeKinds
import KE.KRevIter
import PyProof.Rows.Range3
import KE.KIntText
import OpenK.KOwn
import PyProof.NsDelKeeps
import KE.KIsAll
import PyProof.CompMap
import PyProof.Cells
import PyProof.ConsumeWalk
import PyProof.SumWalk
import PyProof.Rows.SortShell
import PyProof.MeetsStr
import PyProof.StrOps2
import PyProof.DictWalks
import PyProof.Rows.SetFrom
import PyProof.SetRoads
import PyProof.ListRange
import PyProof.ListNew
import PySem.Challenge.RW_partsmith_k22_instruments
local macro_rules|`(tactic|omega)=>`(tactic|lia)
local macro_rules|`(nofun)=>`(by omega)
local macro_rules|`(∅)=>`(by decide)
local macro_rules|`(↑$s)=>`(($s).heap.objs.size)
local macro_rules|`($a <|> $b)=>`(autoParam $a $b)
set_option compiler.extract_closed false
set_option Elab.async false
set_option linter.all false
set_option maxRecDepth 100000
set_option maxHeartbeats 8000000
def qa_1(h:True:=by first | exact .inl rfl | exact .inr rfl | assumption):=h
def qa_:=qa_1._auto_1
def qb_1(h:True:=by decide):=h
def qb_:=qb_1._auto_1
def qc_1(h:True:=by first | exact FC _ (by decide) (by decide) | rfl):=h
def qc_:=qc_1._auto_1
def qd_1(h:True:=by intro _;rfl):=h
def qd_:=qd_1._auto_1
def qe_1(h:True:=by rfl):=h
def qe_:=qe_1._auto_1
def qf_1(h:True:=by with_unfolding_all rfl):=h
def qf_:=qf_1._auto_1
def qg_1(h:True:=by first | exact Or.inl rfl | exact Or.inr (Or.inl rfl) | exact Or.inr (Or.inr rfl)):=h
def qg_:=qg_1._auto_1
def qh_1(h:True:=by repeat constructor):=h
def qh_:=qh_1._auto_1
def qi_1(h:True:=by first | exact Or.inl rfl | exact Or.inr rfl):=h
def qi_:=qi_1._auto_1
def qj_1(h:True:=by exact fun _ _=>rfl):=h
def qj_:=qj_1._auto_1
def qk_1(h:True:=by intro vs H Q E h;first | (obtain⟨_,rfl,_⟩:=h;rfl) | (cases h;subst_vars;rfl)):=h
def qk_:=qk_1._auto_1
def ql_1(h:True:=by decide +kernel):=h
def ql_:=ql_1._auto_1
def qm_1(h:True:=by repeat' (first | exact trivial | exact .inl rfl | exact rfl | constructor)):=h
def qm_:=qm_1._auto_1
def qn_1(h:True:=by k_is):=h
def qn_:=qn_1._auto_1
def qo_1(h:True:=by intros;rfl):=h
def qo_:=qo_1._auto_1
def za:=@List.length_map
def zb:=@List.getElem?_eq_getElem
def zd:=@decide_eq_false
def ze:=@decide_eq_true
def zg:=@List.length_append
def zh:=@List.map_cons
def zj:=@List.map_append
def zk:=@Nat.le_refl
def zm:=@List.mem_cons_of_mem
def zp:=@List.mem_cons_self
def zr:=@Int.emod_lt_of_pos
def zt:=@List.length_cons
def zv:=@Int.emod_nonneg
def zw:=@List.getElem?_eq_some_iff
def zy:=@List.mem_singleton
def zA:=@List.map_map
def zB:=@List.mem_of_getElem?
def zC:=@List.mem_cons
def zD:=@List.not_mem_nil
def zE:=@List.append_assoc
def zF:=@List.mem_append
def zG:=@List.mem_map
def zH:=@List.mem_append_right
def zI:=@List.mem_append_left
def zJ:=@List.getElem?_map
def zK:=@Bool.false_ne_true
def zL:=@Nat.le_trans
def zM:=@List.take_length
def zN:=@Bool.and_eq_true
def zO:=@List.mem_map_of_mem
def zP:=@List.length_take
def zQ:=@List.length_range
def zR:=@List.nodup_append
def zT:=@List.pairwise_append
def zU:=@List.append_nil
def zV:=@Int.ediv_nonneg
def zW:=@Int.ediv_le_self
def zX:=@List.foldl_append
def zY:=@List.take_append_drop
def zZ:=@List.getElem?_append_right
def z9:=@List.flatten_cons
def ya:=@List.size_toArray
def yb:=@Nat.lt_of_lt_of_le
def yc:=@List.nodup_cons
def yd:=@of_decide_eq_true
def ye:=@Nat.lt_irrefl
def yf:=@Nat.zero_le
def yg:=@Nat.le_of_lt
def yh:=@Nat.ne_of_gt
def yi:=@Nat.ne_of_lt
def yj:=@Option.some.inj
def yk:=@List.getElem_mem
def ym:=@List.map_nil
def yn:=@List.any_eq_true
def yo:=@List.all_eq_true
def yp:=@List.lookup_cons
def yq:=@List.length_pos_iff
def yr:=@List.length_eq_zero_iff
def yt:=@PySem.wpAny_bind
def yu:=@PySem.Heap.get?_push_of_some
def yv:=@PySem.wpAny_pure
def yw:=@PySem.Heap.get?_push_size
def yx:=@PySem.Heap.lt_size
def yy:=@PySem.Heap.get?_update_other
def yz:=@PySem.Heap.get?_update_self
abbrev yA:=PySem.W.Frag
def yB:=@PySem.sizeLine_eq
def yC:=@PySem.F.plainAttrs_list
def yD:=@PySem.F.type_list_append
def yE:=@PySem.F.slot_list_append
def yF:=@PySem.F.plainAttrs_str
def yG:=@PySem.F.type_str_join
def yH:=@PySem.F.slot_str_join
def yI:=@PySem.F.type_str_split
def yJ:=@PySem.F.slot_str_split
def yK:=@Int.eq_ofNat_of_zero_le
def yL:=@PyProof.Rows.callWith_type1
namespace L2
open PySem PySem.Spec PyProof.Rows
abbrev Key:=Sum Int Str
def B9:Key->Value->Bool
 | .inl k,v=>Value.isInt k v
 | .inr x,v=>Value.isStrOf x v
def SG (w:World):Key->Int
 | .inl k=>hashInt k
 | .inr x=>hashStr w x
def cZ:∀{k:Key} {v:Value},B9 k v=true->(∃i t,k=Sum.inl i/\v=Value.int i t)\/(∃x t,k=Sum.inr x/\v=Value.str x t)
 | .inl i,v,h=>by
  obtain⟨t,e⟩:=Value.isInt_shape (k:=i) (v:=v) h;exact .inl ⟨i,t,rfl,e⟩
 | .inr x,v,h=>by
  obtain⟨t,e⟩:=Value.isStrOf_shape (x:=x) (v:=v) h;exact .inr ⟨x,t,rfl,e⟩
def J4 (i:Int) (t:Tok):B9 (.inl i) (.int i t)=true:=by simp[B9,Value.isInt]
def oI (x:Str) (t:Tok):B9 (.inr x) (.str x t)=true:=by simp[B9,Value.isStrOf]
def P1 (a b:Int):decide ((Sum.inl a:Key)=Sum.inl b)=(a == b):=by
 by_cases e:a=b
 ·subst e;simp
 ·have h:¬(Sum.inl a:Key)=Sum.inl b:=fun q=>e (Sum.inl.inj q)
  rw[zd h];exact(beq_eq_false_iff_ne.mpr e).symm
def PY (a b:Str):decide ((Sum.inr a:Key)=Sum.inr b)=decide (a=b):=by
 by_cases e:a=b
 ·subst e;simp
 ·have h:¬(Sum.inr a:Key)=Sum.inr b:=fun q=>e (Sum.inr.inj q)
  rw[zd h,zd e]
def P0 (a:Int) (b:Str):decide ((Sum.inl a:Key)=Sum.inr b)=false:=zd (fun q=>nomatch q)
def PZ (a:Str) (b:Int):decide ((Sum.inr a:Key)=Sum.inl b)=false:=zd (fun q=>nomatch q)
def cW (prog:Program) (w:World):PySem.KeyKind prog w Key where
 is:=B9
 hash:=SG w
 inj:=fun v a b ha hb=>by
  rcases cZ ha with⟨i,t,rfl,rfl⟩ | ⟨x,t,rfl,rfl⟩
  ·rcases cZ hb with⟨j,u,rfl,e⟩ | ⟨y,u,rfl,e⟩
   ·injection e with e1 _;rw[e1]
   ·exact nomatch e
  ·rcases cZ hb with⟨j,u,rfl,e⟩ | ⟨y,u,rfl,e⟩
   ·exact nomatch e
   ·injection e with e1 _;rw[e1]
 byValue:=fun k v h=>by
  rcases cZ h with⟨i,t,rfl,rfl⟩ | ⟨x,t,rfl,rfl⟩ <;> rfl
 pyHash:=fun hv h=>by
  rcases cZ hv with⟨i,t,rfl,rfl⟩ | ⟨x,t,rfl,rfl⟩
  ·exact wpAny_pyHash_int h
  ·exact wpAny_pyHash_str h
 eqBool:=fun hu hv h=>by
  rcases cZ hu with⟨i,t,rfl,rfl⟩ | ⟨x,t,rfl,rfl⟩
  ·rcases cZ hv with⟨j,u,rfl,rfl⟩ | ⟨y,u,rfl,rfl⟩
   ·rw[P1] at h;exact wpAny_eqBool_int h
   ·rw[P0] at h;exact SeqAt.EqAt.int_str i t y u _ _ _ _ h
  ·rcases cZ hv with⟨j,u,rfl,rfl⟩ | ⟨y,u,rfl,rfl⟩
   ·rw[PZ] at h;exact SeqAt.EqAt.str_int x t j u _ _ _ _ h
   ·rw[PY] at h;exact wpAny_eqBool_str h
 «strs»:=fun k x t v h=>by
  rcases cZ h with⟨i,u,rfl,e⟩ | ⟨y,u,rfl,e⟩
  ·exact nomatch e
  ·injection e with e1 _
   subst e1;cases v <;> rfl
def FE (prog:Program) (w:World) (i:Int) (t:Tok):(cW prog w).is (.inl i) (.int i t)=true:=J4 i t
def vc (prog:Program) (w:World) (x:Str) (t:Tok):(cW prog w).is (.inr x) (.str x t)=true:=oI x t
end L2
namespace L2
open PySem PySem.Spec PyProof.Rows
inductive V where
 | bC | bl (b:Bool) | int (i:Int) | str (x:Str) | Jj (b:Array UInt8) | N0 (b:UInt64) | ref (a:Addr) | ty (n:String)
 deriving DecidableEq
def RelV:V->Value->Prop
 | .bC,u=>u=Value.none
 | .bl b,u=>u=Value.bool b
 | .int i,u=>∃t,u=Value.int i t
 | .str x,u=>∃t,u=Value.str x t
 | .Jj b,u=>∃t,u=Value.bytes b t
 | .N0 b,u=>∃t,u=Value.float b t
 | .ref a,u=>u=Value.ref a
 | .ty n,u=>u=Value.type n
abbrev Vals:List V->List Value->Prop:=Paired RelV
theorem Vals.length (r:Vals xs us):xs.length=us.length:=Paired.length r
theorem Vals.get:∀{xs:List V} {us:List Value} {i:Nat} {x:V},Vals xs us->xs[i]?=some x->∃u,us[i]?=some u/\RelV x u
 | _,_,_,_,.nil,e=>by simp at e
 | _,_,0,_,.cons r _,e=>by simp at e;subst e;exact⟨_,rfl,r⟩
 | _,_,i+1,x,.cons _ t,e=>by
  obtain⟨u,h1,h2⟩:=Vals.get (i:=i) (x:=x) t (by simpa using e);exact⟨u,by simpa using h1,h2⟩
theorem Vals.append:∀{xs ys:List V} {us ws:List Value},Vals xs us->Vals ys ws->Vals (xs++ys) (us++ws)
 | _,_,_,_,.nil,s=>s
 | _,_,_,_,.cons r t,s=>.cons r (Vals.append t s)
theorem Vals.take:∀{xs:List V} {us:List Value} (n:Nat),Vals xs us->Vals (xs.take n) (us.take n)
 | _,_,0,_=>.nil
 | _,_,_+1,.nil=>.nil
 | _,_,n+1,.cons r t=>.cons r (Vals.take n t)
theorem Vals.drop:∀{xs:List V} {us:List Value} (n:Nat),Vals xs us->Vals (xs.drop n) (us.drop n)
 | _,_,0,r=>r
 | _,_,_+1,.nil=>.nil
 | _,_,n+1,.cons _ t=>Vals.drop n t
def lZ:Option V->Option Value->Prop
 | some v,some u=>RelV v u
 | none,none=>True
 | _,_=>False
def KV:List (κ×V)->List (κ×Value)->Prop:=Paired fun(p:κ×V) (q:κ×Value)=>p.1=q.1/\RelV p.2 q.2
def kV:Key->V
 | .inl i=>.int i
 | .inr x=>.str x
inductive HO where
 | lst (xs:List V)
 | tup (xs:List V)
 | dK (kvs:List (Key×V)) | dT (kvs:List (List Key×V))
 | set (S:Int->Bool) (n:Nat)
 | ins (C dx:Addr) (fs:List (Str×V))
 | own (x:Addr)
 | xd (fs:List (Str×V))
 | met (f x:Addr)
 | JO (lo hi:Int)
 | mW (o:Obj) (u:HO)
 | Lb (ps:Array Value)
 | ext (φ:Heap->Prop)
abbrev Hp:=Addr->Option HO
def upd (H:Hp) (a:Addr) (o:HO):Hp:=fun b=>if b=a then some o else H b
def aC:upd H a o a=some o:=by unfold upd;rw[if_pos rfl]
def aD (h:b≠a):upd H a o b=H b:=by unfold upd;rw[if_neg h]
def aZ {H:Hp} {a b:Addr} {o u:HO} (h:H a=some o) (h':H b=some u) (d:o≠u):a≠b:=by
 intro e;subst e;rw[h] at h';exact d (yj h')
def bf {H:Hp} {a b:Addr} {o:HO} (h:H a=some o) (h':H b=none):a≠b:=by
 intro e;subst e;rw[h] at h';cases h'
section
variable (P:Program) (w:World)
def cx (H:Hp) (h:Heap) (a:Addr):HO->Prop
 | .lst xs=>xs.length<=sizeLine/\∃(its:List Value) (n:Nat),Vals xs its/\h.get? a=some {cls:=.type "list",data:=.seq its.toArray n}
 | .tup xs=>xs.length<=sizeLine/\∃its:List Value,Vals xs its/\IsTup h a its.toArray
 | .dK kvs=>kvs.length<=sizeLine/\(a == sysModules)=false/\∃vs,KV kvs vs/\h.DictOf (cW P w) a vs
 | .dT kvs=>kvs.length<=sizeLine/\(a == sysModules)=false/\∃xs:List (List Key×Addr×Value),
   Paired (fun(p:List Key×V) (q:List Key×Addr×Value)=>p.1=q.1/\H q.2.1=some (.tup (p.1.map kV))/\RelV p.2 q.2.2) kvs xs/\
   ∃o es ep,h.get? a=some o/\o.ExactDict/\o.data=.dict es ep/\es.toList=xs.map (entryOfKey (tupleKind (cW P w)))/\(xs.map (·.1)).Nodup
 | .set S n=>h.SetOf (intKind P w) a S n
 | .ins C dx fs=>H dx=some (.own a)/\fs.length<=1000/\dx≠a/\h.get? a=some (PySem.W.instObj C dx)/\
   ∃mA,h.Ns1 dx mA/\(∀f,lZ (fs.lookup f) (mA f))/\PySem.Within mA (fs.map (·.1))
 | .own _=>∃o,h.get? a=some o
 | .xd fs=>∃mA,h.Ns1 a mA/\∀f,lZ (fs.lookup f) (mA f)
 | .JO lo hi=>∃t u v,h.get? a=some {cls:=.type "range",data:=.fields #[.int lo t,.int hi u,.int 1 v]}
 | .mW o u=>h.get? a=some o/\cx H h a u
 | .Lb ps=>h.get? a=some {cls:=.none,data:=.fields ps}
 | .met f x=>h.get? a=some (PySem.W.methodObj (.ref f) (.ref x))
 | .ext φ=>φ h/\(∃o,h.get? a=some o)/\∀h1 h2:Heap,φ h1->(∀o,h1.get? a=some o->h2.get? a=some o)->φ h2
def qP (H:Hp) (h:Heap):Prop:=∀a o,H a=some o->cx P w H h a o
end
section
variable {P:Program} {w:World} {H H':Hp} {h h':Heap} {a:Addr} {o:HO}
theorem cx.lt (x:cx P w H h a o):a<h.objs.size:=by
 cases o with
 | lst xs=>obtain⟨_,_,_,_,e⟩:=x;exact yx e
 | tup xs=>obtain⟨_,_,_,p⟩:=x;exact p.lt
 | dK kvs=>obtain⟨_,_,_,_,o,_,_,e,_⟩:=x;exact yx e
 | dT kvs=>obtain⟨_,_,_,_,o,_,_,e,_⟩:=x;exact yx e
 | set S n=>obtain⟨o,_,_,_,e,_⟩:=x;exact yx e
 | ins C dx fs=>obtain⟨_,_,_,e,_⟩:=x;exact yx e
 | own y=>obtain⟨_,e⟩:=x;exact yx e
 | xd fs=>obtain⟨_,⟨_,_,_,e,_⟩,_⟩:=x;exact yx e
 | JO lo hi=>obtain⟨_,_,_,e⟩:=x;exact yx e
 | mW ob u=>obtain⟨e,_⟩:=x;exact yx e
 | Lb ps=>exact yx (show h.get? a=some _ from x)
 | met f y=>exact yx (show h.get? a=some _ from x)
 | ext φ=>obtain⟨_,⟨_,e⟩,_⟩:=x;exact yx e
theorem Paired.PU:∀{l₁:List α} {l₂:List β},Paired F l₁ l₂->(∀a b,F a b->G a b)->Paired G l₁ l₂
 | _,_,.nil,_=>.nil
 | _,_,.cons r t,f=>.cons (f _ _ r) (Paired.PU t f)
def cx.lh (x:cx P w H h a o) (k:∀b u,(b=a\/H b=some (.own a))->h.get? b=some u->h'.get? b=some u)
  (ho:∀b,H b=some (.own a)->H' b=some (.own a)) (ht:∀b xs,H b=some (.tup xs)->H' b=some (.tup xs)):cx P w H' h' a o:=by
 induction o with
 | lst xs=>obtain⟨z,its,n,r,e⟩:=x;exact⟨z,its,n,r,k _ _ (.inl rfl) e⟩
 | tup xs=>obtain⟨z,its,r,ob,e,c⟩:=x;exact⟨z,its,r,ob,k _ _ (.inl rfl) e,c⟩
 | dK kvs=>obtain⟨z,y,vs,r,ob,es,ep,e,c⟩:=x;exact⟨z,y,vs,r,ob,es,ep,k _ _ (.inl rfl) e,c⟩
 | dT kvs=>
  obtain⟨z,y,xs,r,ob,es,ep,e,c⟩:=x;exact⟨z,y,xs,Paired.PU r fun p q z=>⟨z.1,ht _ _ z.2.1,z.2.2⟩,ob,es,ep,k _ _ (.inl rfl) e,c⟩
 | set S n=>obtain⟨ob,es,ep,t,e,c⟩:=x;exact⟨ob,es,ep,t,k _ _ (.inl rfl) e,c⟩
 | ins C dx fs=>
  obtain⟨d,z,ne,e,mA,⟨od,es,ep,e2,c⟩,r⟩:=x;exact⟨ho _ d,z,ne,k _ _ (.inl rfl) e,mA,⟨od,es,ep,k _ _ (.inr d) e2,c⟩,r⟩
 | own y=>obtain⟨ob,e⟩:=x;exact⟨ob,k _ _ (.inl rfl) e⟩
 | xd fs=>obtain⟨mA,⟨od,es,ep,e,c⟩,r⟩:=x;exact⟨mA,⟨od,es,ep,k _ _ (.inl rfl) e,c⟩,r⟩
 | JO lo hi=>obtain⟨t,u,v,e⟩:=x;exact⟨t,u,v,k _ _ (.inl rfl) e⟩
 | mW ob u ih=>obtain⟨e,q⟩:=x;exact⟨k _ _ (.inl rfl) e,ih q⟩
 | Lb ps=>
  have e:h.get? a=some {cls:=.none,data:=.fields ps}:=x;show h'.get? a=some {cls:=.none,data:=.fields ps};exact k a _ (.inl rfl) e
 | met f y=>
  have e:h.get? a=some (PySem.W.methodObj (.ref f) (.ref y)):=x;show h'.get? a=some (PySem.W.methodObj (.ref f) (.ref y));exact k a _ (.inl rfl) e
 | ext φ=>obtain⟨p,⟨o,e⟩,st⟩:=x;exact⟨st _ _ p fun o q=>k _ _ (.inl rfl) q,⟨o,k _ _ (.inl rfl) e⟩,st⟩
theorem qP.lt (x:qP P w H h) (e:H a=some o):a<h.objs.size:=(x a o e).lt
def qP.fresh (x:qP P w H h) (e:h.objs.size<=a):H a=none:=by
 cases q:H a with
 | none=>rfl
 | some u=>exact absurd (yb (x.lt q) e) (ye _)
def qP.kept (x:qP P w H h) (k:∀b u,h.get? b=some u->h'.get? b=some u):qP P w H h':=fun a o e=>
 (x a o e).lh (fun b u _ q=>k b u q) (fun _ q=>q) fun _ _ q=>q
def qP.laid (x:qP P w H h) (k:∀b u,h.get? b=some u->h'.get? b=some u) (hp:h.objs.size<=a) (new:cx P w (upd H a o) h' a o):qP P w (upd H a o) h':=fun b u e=>by
 have hn:=x.fresh hp
 by_cases hb:b=a
 ·subst hb;rw[aC] at e;cases e;exact new
 ·rw[aD hb] at e
  exact(x b u e).lh (fun c v _ q=>k c v q) (fun c q=>by rw[aD (bf q hn)];exact q) fun c xs q=>by rw[aD (bf q hn)];exact q
end
def Rd (H:Hp) (a:Addr) (u:HO):Prop:=H a=some u\/∃o,H a=some (.mW o u)
def Rd.ok (r:Rd H a u) (x:qP P w H h):cx P w H h a u:=by
 rcases r with r | ⟨o,r⟩
 ·exact x a u r
 ·obtain⟨_,q⟩:=x a _ r
  exact q
def Rq:Option HO->Prop
 | some (.lst _)=>True
 | some (.dK _)=>True
 | some (.dT _)=>True
 | some (.set _ _)=>True
 | some (.ins _ _ _)=>True
 | some (.ext _)=>True
 | _=>False
section
variable {P:Program} {w:World} {H:Hp} {h h':Heap} {x e:Addr} {o':HO}
def qP.write (ok:qP P w H h) (mu:Rq (H x)) (he:e=x\/H e=some (.own x)) (k:∀b u,b≠e->h.get? b=some u->h'.get? b=some u) (heo:∃u,h'.get? e=some u)
  (new:cx P w (upd H x o') h' x o'):qP P w (upd H x o') h':=fun b u q=>by
 have nown:∀c y,H c=some (.own y)->c≠x:=fun c y r z=>by subst z;rw[r] at mu;exact mu
 have ntup:∀c xs,H c=some (.tup xs)->c≠x:=fun c xs r z=>by subst z;rw[r] at mu;exact mu
 by_cases hb:b=x
 ·subst hb;rw[aC] at q;cases q;exact new
 ·rw[aD hb] at q
  by_cases hbe:b=e
  ·have q':H b=some (.own x):=by
    rcases he with z | z
    ·exact absurd (hbe.trans z) hb
    ·rw[hbe];exact z
   rw[q] at q';cases q';obtain⟨v,hv⟩:=heo;exact⟨v,by rw[hbe];exact hv⟩
  ·refine(ok b u q).lh (fun c v hc r=>k c v ?_ r) (fun c r=>by rw[aD (nown c b r)];exact r) fun c xs r=>by rw[aD (ntup c xs r)];exact r
   rcases hc with rfl | hc
   ·exact hbe
   ·rintro rfl
    rcases he with z | z
    ·exact nown c b hc z
    ·rw[hc] at z;cases z;exact hb rfl
end
structure Un (fs ex:List Addr) (H H':Hp) (h h':Heap):Prop where
 keep:∀b o,h.get? b=some o->H b=none->b∉fs->b∉ex->h'.get? b=some o
 slot:∀b o,h.get? b=some o->H b=none->b∈fs->b∉ex->∃sl,h'.get? b=some {o with slots:=sl}
 free:∀b o,h.get? b=some o->H b=none->b∉ex->H' b=none
 there:∀b o,h.get? b=some o->b∉ex->∃o',h'.get? b=some o'
 oP:∀b xs,H b=some (.tup xs)->H' b=some (.tup xs)
 mR:∀b o u,H b=some (.mW o u)->H' b=some (.mW o u)
 oQ:∀b ps,H b=some (.Lb ps)->∃more,H' b=some (.Lb (ps++more))
section
variable {fs fs' ex ex':List Addr} {H H1 H2:Hp} {h h1 h2 h':Heap} {a x e:Addr} {o:HO}
def Un.any (u:Un fs ex H H1 h h1) (q:h.get? b=some ob) (n:H b=none) (hx:b∉ex):∃sl,h1.get? b=some {ob with slots:=sl}:=by
 by_cases hb:b∈fs
 ·exact u.slot b ob q n hb hx
 ·exact⟨ob.slots,u.keep b ob q n hb hx⟩
def Un.kept (k:∀b u,h.get? b=some u->h'.get? b=some u):Un fs ex H H h h':=
 ⟨fun b ob q _ _ _=>k b ob q,fun b ob q _ _ _=>⟨ob.slots,k b ob q⟩,fun _ _ _ n _=>n,fun b ob q _=>⟨ob,k b ob q⟩,fun _ _ q=>q,fun _ _ _ q=>q,fun _ ps q=>⟨#[],by rw[q];simp⟩⟩
def Un.refl:Un fs ex H H h h:=Un.kept fun _ _ q=>q
def Un.laid (k:∀b u,h.get? b=some u->h'.get? b=some u) (hp:h.objs.size<=a) (hn:H a=none):Un fs ex H (upd H a o) h h' where
 keep:=fun b u q _ _ _=>k b u q
 slot:=fun b u q _ _ _=>⟨u.slots,k b u q⟩
 free:=fun b u q n _=>by rw[aD (yi (yb (yx q) hp))];exact n
 there:=fun b u q _=>⟨u,k b u q⟩
 oP:=fun b xs q=>by rw[aD (bf q hn)];exact q
 mR:=fun b u xs q=>by rw[aD (bf q hn)];exact q
 oQ:=fun b ps q=>⟨#[],by rw[aD (bf q hn),q];simp⟩
def Un.write (mu:Rq (H x)) (he:e=x\/H e=some (.own x)) (k:∀b u,b≠e->h.get? b=some u->h'.get? b=some u) (heo:∃u,h'.get? e=some u):Un fs ex H (upd H x o) h h':=by
 have hx:∀b,H b=none->b≠x:=fun b n z=>by subst z;rw[n] at mu;exact mu
 have hb:∀b,H b=none->b≠e:=fun b n z=>by
  subst z;rcases he with r | r
  ·exact hx b n r
  ·rw[n] at r;cases r
 have hm:∀b u,H b=some u->¬Rq (some u)->b≠x:=fun b u q nm z=>by subst z;rw[q] at mu;exact nm mu
 refine⟨fun b u q n _ _=>k b u (hb b n) q,fun b u q n _ _=>⟨u.slots,k b u (hb b n) q⟩,fun b u q n _=>by rw[aD (hx b n)];exact n,fun b u q _=>?_,
  fun b xs q=>by rw[aD (hm b _ q fun z=>z)];exact q,fun b u xs q=>by rw[aD (hm b _ q fun z=>z)];exact q,fun b ps q=>⟨#[],by rw[aD (hm b _ q fun z=>z),q];simp⟩⟩
 by_cases hbe:b=e
 ·subst hbe;exact heo
 ·exact⟨u,k b u hbe q⟩
end
def RC (h:Heap) (H:Hp):List Addr:=(List.range h.objs.size).filter fun a=>(H a).isSome
def DB (h:Heap) (H:Hp):Heap:=PySem.W.hideAll h (RC h H)
def J9 (h:Heap) (H:Hp):(DB h H).objs.size=h.objs.size:=PySem.W.hideAll_size _ _
def Mr (e:h.get? b=some o) (n:H b=none):(DB h H).get? b=some o:=
 PySem.W.hideAll_get _ e fun hm=>by
  have q:(H b).isSome=true:=(List.mem_filter.mp hm).2;rw[n] at q;simp at q
def NQ (e:(DB h H).get? b=some o):h.get? b=some o/\H b=none:=by
 have e':h.get? b=some o:=PySem.W.of_hideAll (RC h H) e;refine⟨e',?_⟩;cases q:H b with
 | none=>rfl
 | some x=>
  have hm:b∈RC h H:=List.mem_filter.mpr ⟨List.mem_range.mpr (yx e'),by simp[q]⟩;have z:(DB h H).get? b=none:=PySem.W.hideAll_none (RC h H) hm;rw[z] at e;cases e
end L2
namespace L2
open PySem PySem.Spec PyProof.Rows
structure Mod (K:yA) (mg:Str->Option Value) (base:Heap):Prop where
 PX:K.In base
 glob:base.Ns mainGlobals mg
 blt:∃mb,base.Ns builtinsNs mb/\∀x:Str,x≠ "__name__"->mb x=bootBuiltins x
 nolimit:base.NoLimit
set_option genInjectivity false in
structure Cx where
 prog:Program
 w:World
 K:yA
 mg:Str->Option Value
 base:Heap
 A:Around
 N:List Str
 s₀:Shared
 H₀:Hp
 env:Env
 outer:List Env
 stack:List Env
 ex:List Addr
 fn:Str->Bool
 calm:Bool
 pn:List (Addr×Obj)
 xe:Value->Shared->Prop
def pN (l:List Env):List Addr:=l.filterMap (·.frame)
abbrev Cx.fs (X:Cx):List Addr:=pN X.outer
def Qm (sc:Scope) (x:Str):Prop:=sc.names.lookup x=some .local\/sc.names.lookup x=some .cell\/sc.names.lookup x=some .free
def Loc (sc:Scope) (x:Str):Prop:=sc.names.lookup x=some .local\/sc.names.lookup x=some .cell
def Look (env:Env) (h:Heap) (m:Str->Option Value) (x:Str) (u:Value):Prop:=
 (env.kindOf x=some .local/\m x=some u)\/((env.kindOf x=some .cell\/env.kindOf x=some .free)/\∃c,env.cells.lookup x=some c/\h.IsCell c (some u))
structure Cx.Ok (X:Cx):Prop where
 mod:Mod X.K X.mg X.base
 kind:X.env.scope.kind=.function
 glob:X.env.globals=mainGlobals
 blt:X.env.builtins=builtinsNs
 above:X.s₀.heap.objs.size<=X.env.locals
 inj:∀x y c,X.env.cells.lookup x=some c->X.env.cells.lookup y=some c->x=y
 has:∀x,(X.env.kindOf x=some .cell\/X.env.kindOf x=some .free)->∃c,X.env.cells.lookup x=some c
 Qj:∀x c,X.fn x=true->X.env.cells.lookup x=some c->X.s₀.heap.objs.size<=c
 hd:X.calm=true->X.A.handled=none
 frames:X.A.frames=some X.stack
 Qt:X.stack=X.outer\/(X.stack=X.env::X.outer/\X.env.frame=some X.env.locals)
 RG:∀b∈X.ex,b≠X.env.locals/\∀x c,X.env.cells.lookup x=some c->c≠b
 bs:∀b o,X.base.get? b=some o->X.s₀.heap.get? b=some o/\X.H₀ b=none
 KQ:X.base.objs.size<=X.s₀.heap.objs.size
 vV:∀b o,X.base.get? b=some o->b∉X.ex
 HG:∀b∈X.ex,b∉X.fs
 oX:X.s₀.heap.FunFrames X.base X.outer
 FQ:∀b∈X.fs,X.H₀ b=none
structure Inv (X:Cx) (pins:List (Addr×Obj)) (σ:List (Option V)) (H:Hp) (s:Shared):Prop where
 ok:X.Ok
 os:s.os=X.s₀.os
 bare:AllBare s.gens
 base:Un X.fs X.ex X.H₀ H X.s₀.heap s.heap
 loc:∃m,s.heap.Ns X.env.locals m/\∀(i:Nat) (x:Str) (v:V),X.N[i]?=some x->σ[i]?=some (some v)->Qm X.env.scope x->∃u,RelV v u/\Look X.env s.heap m x u
 cell:∀x c,X.env.cells.lookup x=some c->∃v,s.heap.IsCell c v
 free:H X.env.locals=none
 jX:∀x c,X.env.cells.lookup x=some c->H c=none
 pin:∀p∈X.pn++pins,s.heap.get? p.1=some p.2/\H p.1=none/\p.1≠X.env.locals/\p.1∉X.fs/\∀v,p.2.data≠.cell v
 bV:qP X.prog X.w H s.heap
 len:σ.length=X.N.length
section
variable {X:Cx} {pins:List (Addr×Obj)} {σ:List (Option V)} {H H':Hp} {s:Shared} {h':Heap}
def Cx.Ok.SE (ok:X.Ok) (e:X.base.get? b=some o):b∉X.fs:=fun hb=>by
 have:=(ok.oX.mem hb).1;rw[e] at this;cases this
theorem Inv.bs (I:Inv X pins σ H s):∀b o,X.base.get? b=some o->s.heap.get? b=some o/\H b=none:=fun b o e=>
 ⟨I.base.keep b o (I.ok.bs b o e).1 (I.ok.bs b o e).2 (I.ok.SE e) (I.ok.vV b o e),I.base.free b o (I.ok.bs b o e).1 (I.ok.bs b o e).2 (I.ok.vV b o e)⟩
def Inv.bk (I:Inv X pins σ H s):∀b o,X.base.get? b=some o->s.heap.get? b=some o:=fun b o e=>(I.bs b o e).1
theorem Inv.mod (I:Inv X pins σ H s):Mod X.K X.mg X.base:=I.ok.mod
def Inv.sr (I:Inv X pins σ H s):X.K.In s.heap:=I.ok.mod.PX.keeps I.bk
theorem Inv.lt (I:Inv X pins σ H s):X.env.locals<↑s:=let ⟨_,hn,_⟩:=I.loc;hn.lt
def Inv.sz (I:Inv X pins σ H s):X.s₀.heap.objs.size<=↑s:=zL I.ok.above (yg I.lt)
def Inv.QY (I:Inv X pins σ H s) (h:↑s<=a):a∉X.fs:=fun hb=>by
 obtain⟨_,o,ho,_⟩:=I.ok.oX.mem hb;exact absurd (yb (yx ho) (zL I.sz h)) (ye _)
def Inv.M6 (I:Inv X pins σ H s):∀x c,X.env.cells.lookup x=some c->c≠X.env.locals:=fun x c e z=>by
 obtain⟨v,o,ho,hd⟩:=I.cell x c e;obtain⟨m,⟨o',es,ep,ho',hd',_⟩,_⟩:=I.loc;rw[z,ho'] at ho;cases ho;rw[hd'] at hd;cases hd
theorem Inv.oX (I:Inv X pins σ H s):s.heap.FunFrames X.base X.outer:=by
 have all:∀(l:List Env),(∀b∈pN l,b∈X.fs)->X.s₀.heap.FunFrames X.base l->s.heap.FunFrames X.base l:=by
  intro l
  induction l with
  | nil=>intro _ _;trivial
  | cons env r ih=>
   intro hs hl;obtain⟨hk,⟨L,o,hf,hn,ho,hd⟩,hr⟩:=hl;have hL:L∈X.fs:=hs L (by unfold pN;rw[List.filterMap_cons,hf];exact zp);obtain⟨sl,e⟩:=I.base.slot L o ho (I.ok.FQ L hL) hL fun z=>I.ok.HG L z hL;exact⟨hk,⟨L,_,hf,hn,e,hd⟩,ih (fun b hb=>hs b (by unfold pN;rw[List.filterMap_cons,hf];exact zm _ hb)) hr⟩
 exact all X.outer (fun _ hb=>hb) I.ok.oX
theorem Inv.stack (I:Inv X pins σ H s):s.heap.FunFrames X.base X.stack:=by
 rcases I.ok.Qt with e | ⟨e,hf⟩
 ·rw[e];exact I.oX
 ·rw[e]
  obtain⟨m,hn,_⟩:=I.loc;refine .cons (by rw[I.ok.kind];decide) hf hn ?_ I.oX;exact Heap.get?_none_of_le (zL I.ok.KQ I.ok.above)
def Inv.CI (I:Inv X pins σ H s):∀b∈pN X.stack,b∈X.env.locals::X.fs:=fun b hb=>by
 rcases I.ok.Qt with e | ⟨e,hf⟩
 ·rw[e] at hb;exact zm _ hb
 ·rw[e] at hb
  unfold pN at hb;rw[List.filterMap_cons,hf] at hb;exact hb
def Inv.qU (I:Inv X pins σ H s):∀b∈pN X.stack,H b=none:=fun b hb=>by
 rcases zC.mp (I.CI b hb) with e | hb
 ·rw[e];exact I.free
 ·obtain⟨_,o,ho,_⟩:=I.ok.oX.mem hb
  exact I.base.free b o ho (I.ok.FQ b hb) fun z=>I.ok.HG b z hb
def Inv.step {g':Array GenState} {t':Nat} {d':Drawn} {ch:List Addr} (I:Inv X pins σ H s)
  (hch:∀b∈ch,(b∈X.ex\/X.s₀.heap.objs.size<=b)/\b≠X.env.locals/\(∀x c,X.env.cells.lookup x=some c->c≠b)/\∀p∈X.pn++pins,p.1≠b)
  (keep:∀b o,b≠X.env.locals->b∉X.fs->b∉ch->s.heap.get? b=some o->H b=none->h'.get? b=some o)
  (slot:∀b o,b≠X.env.locals->b∈X.fs->b∉ch->s.heap.get? b=some o->H b=none->∃sl,h'.get? b=some {o with slots:=sl}) (free:∀b o,b∉ch->s.heap.get? b=some o->H b=none->H' b=none)
  (there:∀b o,b∉ch->s.heap.get? b=some o->∃o',h'.get? b=some o')
  (oP:∀b xs,H b=some (.tup xs)->H' b=some (.tup xs)) (mR:∀b o u,H b=some (.mW o u)->H' b=some (.mW o u)) (oQ:∀b ps,H b=some (.Lb ps)->∃more,H' b=some (.Lb (ps++more)))
  (ns:∀m,s.heap.Ns X.env.locals m->h'.Ns X.env.locals m) (bV:qP X.prog X.w H' h') (hg:AllBare g') :
  Inv X pins σ H' {s with heap:=h',gens:=g',drawn:=d',toks:=t'}:=by
 have neL:∀b o,X.s₀.heap.get? b=some o->b≠X.env.locals:=fun b o e=>yi (yb (yx e) I.ok.above);have neC:∀b o,X.s₀.heap.get? b=some o->b∉X.ex->b∉ch:=fun b o e hx hb=>by
  rcases(hch b hb).1 with z | z
  ·exact hx z
  ·exact absurd (yb (yx e) z) (ye _)
 have cellK:∀x c,X.env.cells.lookup x=some c->∀v,s.heap.IsCell c v->h'.IsCell c v:=fun x c e v ⟨o,ho,hd⟩=>by
  have nch:c∉ch:=fun z=>(hch c z).2.2.1 x c e rfl
  by_cases hc:c∈X.fs
  ·obtain⟨sl,q⟩:=slot c o (I.M6 x c e) hc nch ho (I.jX x c e)
   exact⟨_,q,hd⟩
  ·exact⟨o,keep c o (I.M6 x c e) hc nch ho (I.jX x c e),hd⟩
 refine⟨I.ok,I.os,hg,⟨fun b o e n hb hx=>?_,fun b o e n hb hx=>?_,fun b o e n hx=>?_,fun b o e hx=>?_,fun b xs e=>oP b xs (I.base.oP b xs e),fun b o xs e=>mR b o xs (I.base.mR b o xs e),fun b ps e=>?_⟩,?_,fun x c e=>?_,?_,fun x c e=>?_,fun p hp=>?_,bV,I.len⟩
 ·exact keep b o (neL b o e) hb (neC b o e hx) (I.base.keep b o e n hb hx) (I.base.free b o e n hx)
 ·obtain⟨sl,e1⟩:=I.base.slot b o e n hb hx
  obtain⟨sl',e2⟩:=slot b _ (neL b o e) hb (neC b o e hx) e1 (I.base.free b o e n hx);exact⟨sl',e2⟩
 ·obtain⟨o',e1⟩:=I.base.there b o e hx
  exact free b o' (neC b o e hx) e1 (I.base.free b o e n hx)
 ·obtain⟨o',e1⟩:=I.base.there b o e hx
  exact there b o' (neC b o e hx) e1
 ·obtain⟨m1,e1⟩:=I.base.oQ b ps e
  obtain⟨m2,e2⟩:=oQ b _ e1;exact⟨m1++m2,by rw[e2,Array.append_assoc]⟩
 ·obtain⟨m,hn,hl⟩:=I.loc
  refine⟨m,ns m hn,fun i x v e1 e2 e3=>?_⟩;obtain⟨u,r,l⟩:=hl i x v e1 e2 e3;refine⟨u,r,?_⟩;rcases l with l | ⟨k,c,e,z⟩
  ·exact .inl l
  ·exact .inr ⟨k,c,e,cellK x c e _ z⟩
 ·obtain⟨v,z⟩:=I.cell x c e
  exact⟨v,cellK x c e v z⟩
 ·obtain⟨m,⟨o,_,_,ho,_⟩,_⟩:=I.loc
  exact free _ o (fun z=>(hch _ z).2.1 rfl) ho I.free
 ·obtain⟨v,o,ho,hd⟩:=I.cell x c e
  exact free c o (fun z=>(hch c z).2.2.1 x c e rfl) ho (I.jX x c e)
 ·obtain⟨e,n,ne,nf,d⟩:=I.pin p hp
  have nch:p.1∉ch:=fun z=>(hch p.1 z).2.2.2 p hp rfl;exact⟨keep p.1 p.2 ne nf nch e n,free p.1 p.2 nch e n,ne,nf,d⟩
def Inv.un {t':Nat} (I:Inv X pins σ H s) (u:Un X.fs [] H H' s.heap h') (bV:qP X.prog X.w H' h'):Inv X pins σ H' {s with heap:=h',toks:=t'}:=by
 obtain⟨m,⟨o,es,ep,ho,r⟩,_⟩:=id I.loc;obtain⟨sl,hL⟩:=u.any ho I.free (by simp);exact I.step (g':=s.gens) (d':=s.drawn) (ch:=[]) (fun _ z=>nomatch z) (fun b o _ hb _ e n=>u.keep b o e n hb (by simp)) (fun b o _ hb _ e n=>u.slot b o e n hb (by simp)) (fun b o _ e n=>u.free b o e n (by simp)) (fun b o _ e=>u.there b o e (by simp)) u.oP u.mR u.oQ (fun m' hm=>by
  obtain⟨o',es',ep',ho',r'⟩:=hm;rw[ho] at ho';cases ho';exact⟨_,es',ep',hL,r'⟩) bV I.bare
def Inv.call {g':Array GenState} {t':Nat} {d':Drawn} {ch:List Addr} (I:Inv X pins σ H s) (u:Un (pN X.stack) ch H H' s.heap h') (bV:qP X.prog X.w H' h') (hg:AllBare g')
  (hch:∀b∈ch,(b∈X.ex\/X.s₀.heap.objs.size<=b)/\b≠X.env.locals/\(∀x c,X.env.cells.lookup x=some c->c≠b)/\∀p∈X.pn++pins,p.1≠b) :
  Inv X pins σ H' {s with heap:=h',gens:=g',drawn:=d',toks:=t'}:=by
 obtain⟨m,⟨o,es,ep,ho,r⟩,_⟩:=id I.loc;obtain⟨sl,hL⟩:=u.any ho I.free fun z=>(hch _ z).2.1 rfl;exact I.step (ch:=ch) hch (fun b o hL hb hc e n=>u.keep b o e n (fun z=>(zC.mp (I.CI b z)).elim hL hb) hc) (fun b o _ _ hc e n=>u.any e n hc) (fun b o hc e n=>u.free b o e n hc) (fun b o hc e=>u.there b o e hc) u.oP u.mR u.oQ (fun m' hm=>by
  obtain⟨o',es',ep',ho',r'⟩:=hm;rw[ho] at ho';cases ho';exact⟨_,es',ep',hL,r'⟩) bV hg
def Inv.turned {t':Nat} {it:Addr} (I:Inv X pins σ H s) (k:∀b o,b≠it->s.heap.get? b=some o->h'.get? b=some o) (hn:H it=none) (hL:it≠X.env.locals)
  (h1:it∈X.ex\/X.s₀.heap.objs.size<=it) (h2:∀x c,X.env.cells.lookup x=some c->c≠it) (h3:∀p∈X.pn++pins,p.1≠it):Inv X pins σ H {s with heap:=h',toks:=t'}:=by
 have nit:∀b u,H b=some u->b≠it:=fun b u e z=>by rw[z,hn] at e;cases e
 refine I.step (g':=s.gens) (d':=s.drawn) (ch:=[it]) (fun b hb=>?_) (fun b o _ _ hc e _=>k b o (fun z=>hc (by simp[z])) e) (fun b o _ _ hc e _=>⟨o.slots,k b o (fun z=>hc (by simp[z])) e⟩) (fun _ _ _ _ n=>n)
  (fun b o hc e=>⟨o,k b o (fun z=>hc (by simp[z])) e⟩) (fun _ _ e=>e) (fun _ _ _ e=>e) (fun b ps e=>⟨#[],by rw[e];simp⟩) (fun m hm=>?_) (fun b u e=>?_) I.bare
 ·have e:b=it:=by simpa using hb
  subst e;exact⟨h1,hL,h2,h3⟩
 ·obtain⟨o,es,ep,ho,r⟩:=hm
  exact⟨o,es,ep,k _ o (Ne.symm hL) ho,r⟩
 ·refine(I.bV b u e).lh (fun c v hc q=>k c v ?_ q) (fun _ q=>q) fun _ _ q=>q
  rcases hc with z | z
  ·rw[z];exact nit b u e
  ·exact nit c _ z
def Inv.tok (I:Inv X pins σ H s) (t:Nat):Inv X pins σ H {s with toks:=t}:=I.un (h':=s.heap) (t':=t) Un.refl I.bV
theorem Inv.kept (I:Inv X pins σ H s) (k:∀b u,s.heap.get? b=some u->h'.get? b=some u):Inv X pins σ H {s with heap:=h',toks:=t'}:=I.un (Un.kept k) (I.bV.kept k)
theorem Inv.laid (I:Inv X pins σ H s) (k:∀b u,s.heap.get? b=some u->h'.get? b=some u) (hp:↑s<=a) (new:cx X.prog X.w (upd H a o) h' a o) :
  Inv X pins σ (upd H a o) {s with heap:=h',toks:=t'}:=I.un (Un.laid k hp (I.bV.fresh hp)) (I.bV.laid k hp new)
theorem Inv.write (I:Inv X pins σ H s) (mu:Rq (H x)) (he:e=x\/H e=some (.own x)) (k:∀b u,b≠e->s.heap.get? b=some u->h'.get? b=some u) (heo:∃u,h'.get? e=some u)
  (new:cx X.prog X.w (upd H x o) h' x o):Inv X pins σ (upd H x o) {s with heap:=h',toks:=t'}:=I.un (Un.write mu he k heo) (I.bV.write mu he k heo new)
def Inv.oC (I:Inv X pins σ H s) (h:∀p∈pins',s.heap.get? p.1=some p.2/\H p.1=none/\p.1≠X.env.locals/\p.1∉X.fs/\∀v,p.2.data≠.cell v):Inv X pins' σ H s:=
 ⟨I.ok,I.os,I.bare,I.base,I.loc,I.cell,I.free,I.jX,fun p hp=>(zF.mp hp).elim (fun z=>I.pin p (zI _ z)) (h p),I.bV,I.len⟩
def Fz {N:List Str} (hN:N.Nodup) {i j:Nat} {x:Str} (a:N[i]?=some x) (b:N[j]?=some x):i=j:=by
 obtain⟨h1,e1⟩:=zw.mp a;obtain⟨h2,e2⟩:=zw.mp b;exact(List.getElem_inj hN).mp (e1.trans e2.symm)
def BQ {M:Model} {A:Around} {E:Value->Shared->Prop} {i:Nat} {x:Str} {v:V} {u:Value} {Q:Unit->Shared->Prop} (I:Inv X pins σ H s) (hN:X.N.Nodup) (hi:X.N[i]?=some x) (hx:Loc X.env.scope x) (r:RelV v u)
  (h:∀s',Inv X pins (σ.set i (some v)) H s'->(∃a,Heap.SameBut a s.heap s'.heap/\(a=X.env.locals\/X.env.cells.lookup x=some a))->Q () s') (hf:X.fn x=true\/X.env.scope.names.lookup x=some .local<|>qa_):wpAny M A (storeName X.env x u) Q E s:=by
 obtain⟨m,hn,hl⟩:=id I.loc;have hcls:(X.env.scope.kind == .class||(X.env.scope.kind == .module&&X.env.locals != X.env.globals))=false:=by rw[I.ok.kind];rfl
 have hiσ:i<σ.length:=by rw[I.len];exact(zw.mp hi).1
 have M6:=I.M6;have tracked:∀{a:Addr} {h':Heap},(∃o,s.heap.get? a=some o/\H a=none)->Heap.SameBut a s.heap h'->qP X.prog X.w H h':=fun {a h'} ha hs b ob e=>by
  obtain⟨_,_,hfree⟩:=ha;refine(I.bV b ob e).lh (fun c w' hc q=>(hs.2 c ?_).trans q) (fun _ q=>q) fun _ _ q=>q;rintro rfl;rcases hc with rfl | hc
  ·rw[hfree] at e;cases e
  ·rw[hfree] at hc;cases hc
 rcases hx with hk | hk
 ·refine wpAny_storeName_local hk hn (fun h' hn' hs=>?_) hcls
  obtain⟨oL,_,_,hoL,_⟩:=id hn;refine h _ ⟨I.ok,I.os,I.bare,⟨fun b o e n hb hx=>?_,fun b o e n hb hx=>?_,I.base.free,fun b o e hx=>?_,I.base.oP,I.base.mR,I.base.oQ⟩,⟨_,hn',fun j y v' e1 e2 e3=>?_⟩,fun y c e=>?_,I.free,I.jX,fun p hp=>?_,tracked ⟨oL,hoL,I.free⟩ hs,by simpa using I.len⟩ ⟨_,hs,.inl rfl⟩
  ·exact(hs.2 b (yi (yb (yx e) I.ok.above))).trans (I.base.keep b o e n hb hx)
  ·obtain⟨sl,e1⟩:=I.base.slot b o e n hb hx
   exact⟨sl,(hs.2 b (yi (yb (yx e) I.ok.above))).trans e1⟩
  ·obtain⟨o',e1⟩:=I.base.there b o e hx
   exact⟨o',(hs.2 b (yi (yb (yx e) I.ok.above))).trans e1⟩
  ·by_cases hj:j=i
   ·subst hj
    rw[hi] at e1;cases e1;rw[List.getElem?_set_self hiσ] at e2;cases e2;exact⟨u,r,.inl ⟨hk,by simp⟩⟩
   ·rw[List.getElem?_set_ne (Ne.symm hj)] at e2
    obtain⟨u',r',q⟩:=hl j y v' e1 e2 e3;refine⟨u',r',?_⟩;rcases q with⟨k,e⟩ | ⟨k,c,e,z⟩
    ·refine .inl ⟨k,?_⟩
     have:y≠x:=fun e=>hj (Fz hN e1 (e▸hi));simp[this,e]
    ·exact .inr ⟨k,c,e,z.sameBut hs (M6 y c e)⟩
  ·obtain⟨w',z⟩:=I.cell y c e
   exact⟨w',z.sameBut hs (M6 y c e)⟩
  ·obtain⟨e,n,ne,nf,d⟩:=I.pin p hp
   exact⟨(hs.2 p.1 ne).trans e,n,ne,nf,d⟩
 ·have hfn:X.fn x=true:=by
   rcases hf with z | z
   ·exact z
   ·rw[z] at hk;cases hk
  obtain⟨c,hc⟩:=I.ok.has x (.inl hk);obtain⟨w',z⟩:=I.cell x c hc;refine wpAny_storeName_cell I.ok.kind hk hc z (fun h' hc' hs=>?_);obtain⟨oc,hoc,hocd⟩:=id z;refine h {s with heap:=h'} ⟨I.ok,I.os,I.bare,⟨fun b o e n hb hx=>?_,fun b o e n hb hx=>?_,I.base.free,fun b o e hx=>?_,I.base.oP,I.base.mR,I.base.oQ⟩,⟨m,hn.sameBut hs (Ne.symm (M6 x c hc)),fun j y v' e1 e2 e3=>?_⟩,fun y c' e=>?_,I.free,I.jX,fun p hp=>?_,tracked ⟨oc,hoc,I.jX x c hc⟩ hs,by simpa using I.len⟩ ⟨c,hs,.inr hc⟩
  ·exact(hs.2 b (yi (yb (yx e) (I.ok.Qj x c hfn hc)))).trans (I.base.keep b o e n hb hx)
  ·obtain⟨sl,e1⟩:=I.base.slot b o e n hb hx
   exact⟨sl,(hs.2 b (yi (yb (yx e) (I.ok.Qj x c hfn hc)))).trans e1⟩
  ·obtain⟨o',e1⟩:=I.base.there b o e hx
   exact⟨o',(hs.2 b (yi (yb (yx e) (I.ok.Qj x c hfn hc)))).trans e1⟩
  ·by_cases hj:j=i
   ·subst hj
    rw[hi] at e1;cases e1;rw[List.getElem?_set_self hiσ] at e2;cases e2;exact⟨u,r,.inr ⟨.inl hk,c,hc,hc'⟩⟩
   ·rw[List.getElem?_set_ne (Ne.symm hj)] at e2
    obtain⟨u',r',q⟩:=hl j y v' e1 e2 e3;refine⟨u',r',?_⟩;rcases q with q | ⟨k,c',e,z'⟩
    ·exact .inl q
    ·refine .inr ⟨k,c',e,z'.sameBut hs ?_⟩
     rintro rfl;exact hj (Fz hN e1 (I.ok.inj _ _ _ e hc▸hi))
  ·by_cases hcc:c'=c
   ·subst hcc;exact⟨_,hc'⟩
   ·obtain⟨w2,z2⟩:=I.cell y c' e
    exact⟨w2,z2.sameBut hs hcc⟩
  ·obtain⟨e,n,ne,nf,d⟩:=I.pin p hp
   refine⟨(hs.2 p.1 ?_).trans e,n,ne,nf,d⟩;intro q;rw[q,hoc] at e;have q':oc=p.2:=yj e;exact d w' (by rw[<-q'];exact hocd)
def m7 (I:Inv X pins σ H s) (hN:X.N.Nodup) (hi:X.N[i]?=some x) (hx:Loc X.env.scope x) (r:RelV v u)
  (h:∀s',Inv X pins (σ.set i (some v)) H s'->Q () s') (hf:X.fn x=true\/X.env.scope.names.lookup x=some .local<|>qa_):wpAny M A (storeName X.env x u) Q E s:=
 BQ I hN hi hx r (fun s' I' _=>h s' I') hf
def Inv.ML (I:Inv X pins σ H s) (ho:s'.os=s.os) (u:Un (pN X.stack) ch H H' s.heap s'.heap) (bV:qP X.prog X.w H' s'.heap) (hg:AllBare s'.gens)
  (hch:∀b∈ch,(b∈X.ex\/X.s₀.heap.objs.size<=b)/\b≠X.env.locals/\(∀x c,X.env.cells.lookup x=some c->c≠b)/\∀p∈X.pn++pins,p.1≠b):Inv X pins σ H' s':=by
 obtain⟨h',g',d',t',o'⟩:=s';have e:o'=s.os:=ho;subst e;exact I.call (g':=g') (t':=t') (d':=d') u bV hg hch
end
abbrev XK:=Value->Option Addr->Hp->Prop
abbrev St:=List (Option V)
abbrev VK:=V->Hp->Prop
abbrev TE:=St->Hp->VK->Prop
abbrev TT:=St->Hp->(Bool->Hp->Prop)->Prop
abbrev TA:=St->Hp->(List V->Hp->Prop)->Prop
structure Ends where
 nx:St->Hp->Prop
 rt:VK
 bk:St->Hp->Prop:=fun _ _=>False
 ct:St->Hp->Prop:=fun _ _=>False
abbrev TS:=Ends->St->Hp->Prop
def EP (X:Cx) (pins:List (Addr×Obj)) (σ:St) (Q:VK) (u:Value) (s':Shared):Prop:=∃v H',Inv X pins σ H' s'/\RelV v u/\Q v H'
def TP (X:Cx) (pins:List (Addr×Obj)) (σ:St) (Q:Bool->Hp->Prop) (b:Bool) (s':Shared):Prop:=∃H',Inv X pins σ H' s'/\Q b H'
def AP (X:Cx) (pins:List (Addr×Obj)) (σ:St) (Q:List V->Hp->Prop) (us:List Value) (s':Shared):Prop:=∃vs H',Inv X pins σ H' s'/\Vals vs us/\Q vs H'
def SP (X:Cx) (pins:List (Addr×Obj)) (D:Ends) (f:Flow) (s':Shared):Prop:=
 match f with
 | .next=>∃σ' H',Inv X pins σ' H' s'/\D.nx σ' H'
 | .brk=>∃σ' H',Inv X pins σ' H' s'/\D.bk σ' H'
 | .cont=>∃σ' H',Inv X pins σ' H' s'/\D.ct σ' H'
 | .ret u=>∃v σ' H',Inv X pins σ' H' s'/\RelV v u/\D.rt v H'
def PE (X:Cx) (e:Expr) (t:TE):Prop:=
 ∀(pins:List (Addr×Obj)) (s:Shared) (σ:St) (H:Hp) (Q:VK),Inv X pins σ H s->t σ H Q->wpAny (model X.prog X.w) X.A (eval e X.env) (EP X pins σ Q) X.xe s
def PT (X:Cx) (e:Expr) (t:TT):Prop:=
 ∀(pins:List (Addr×Obj)) (s:Shared) (σ:St) (H:Hp) (Q:Bool->Hp->Prop),Inv X pins σ H s->t σ H Q->wpAny (model X.prog X.w) X.A (isTrue e X.env (eval e X.env)) (TP X pins σ Q) X.xe s
def PW (X:Cx) (e:Expr) (t:TT):Prop:=
 ∀(whole:Sem Value) (pins:List (Addr×Obj)) (s:Shared) (σ:St) (H:Hp) (Q:Bool->Hp->Prop),Inv X pins σ H s->t σ H Q->wpAny (model X.prog X.w) X.A (isTrue e X.env whole) (TP X pins σ Q) X.xe s
def PW.pt (h:PW X e t):PT X e t:=h _
def PA (X:Cx) (es:List Expr) (t:TA):Prop:=
 ∀(pos:Pos) (pins:List (Addr×Obj)) (s:Shared) (σ:St) (H:Hp) (Q:List V->Hp->Prop),Inv X pins σ H s->t σ H Q->wpAny (model X.prog X.w) X.A (spliced (backTo pos (starEach es X.env))) (AP X pins σ Q) X.xe s
def PS (X:Cx) (st:Stmt) (t:TS):Prop:=
 ∀(pins:List (Addr×Obj)) (s:Shared) (σ:St) (H:Hp) (D:Ends),Inv X pins σ H s->t D σ H->wpAny (model X.prog X.w) X.A (exec st X.env) (SP X pins D) X.xe s
def Cz (X:Cx) (st:List Stmt) (t:TS):Prop:=
 ∀(pins:List (Addr×Obj)) (s:Shared) (σ:St) (H:Hp) (D:Ends),Inv X pins σ H s->t D σ H->wpAny (model X.prog X.w) X.A (execs st X.env) (SP X pins D) X.xe s
def cQ (h:wpAny M A t Q E s) (hQ:∀a s,Q a s->Q' a s):wpAny M A t Q' E s:=wpAny_mono h hQ fun _ _ x=>x
end L2
namespace L2
open PySem PySem.Spec PyProof.Rows
section
variable {X:Cx}
def aY (i:Nat):TE:=fun σ H Q=>∃v,σ[i]?=some (some v)/\Q v H
def tC (v:V):TE:=fun _ H Q=>Q v H
def Pz (hN:X.N[i]?=some x) (hv:Qm X.env.scope x) (hd:(x == ("__debug__": Str))=false<|>qb_) (hcd:(x == ("__classdict__": Str))=false<|>qb_):PE X (.Name x pos) (aY i):=by
 intro pins s σ H Q I h;obtain⟨v,e,h⟩:=h;obtain⟨m,hn,hl⟩:=I.loc;obtain⟨u,r,l⟩:=hl i x v hN e hv;have fin:EP X pins σ Q u s:=⟨v,H,I,r,h⟩
 rcases l with⟨hk,hm⟩ | ⟨hk,c,hc,hcell⟩
 ·exact wpAny_Name (wpAny_loadName_local I.ok.kind hk hn hm fin) hd
 ·rcases hk with hk | hk
  ·exact wpAny_Name (wpAny_loadName_cell I.ok.kind hk hc hcell fin) hd
  ·exact wpAny_Name (wpAny_loadName_free I.ok.kind hk hc hcell fin hcd) hd
def ae:PE X (.Constant (.int i) j pos) (tC (.int i)):=fun _ _ _ H _ I h=>wpAny_Constant_int ⟨.int i,H,I.tok _,⟨_,rfl⟩,h⟩
def nV:PE X (.Constant (.bool b) j pos) (tC (.bl b)):=fun _ _ _ H _ I h=>Constant_bool ⟨.bl b,H,I,rfl,h⟩
def aQ:PE X (.Constant .none j pos) (tC .bC):=fun _ _ _ H _ I h=>Constant_none ⟨.bC,H,I,rfl,h⟩
def aJ:PE X (.Constant (.str x) j pos) (tC (.str x)):=fun _ _ _ H _ I h=>Calls.Constant_str ⟨.str x,H,I.tok _,⟨_,rfl⟩,h⟩
def Gl (X:Cx) (x:Str):Prop:=X.env.kindOf x=some .globalImplicit
def jU (I:Inv X pins σ H s) (hg:Gl X x) (hm:X.mg x=some u) (h:Q u s)
  (hd:(x == ("__debug__": Str))=false<|>qb_):wpAny (model X.prog X.w) X.A (eval (.Name x pos) X.env) Q E s:=
 Calls.Name_function_global I.ok.kind hg (Calls.loadGlobal_global (by rw[I.ok.glob];exact I.mod.glob.keeps I.bk) hm h) hd
def ji (I:Inv X pins σ H s) (hg:Gl X x) (hm:X.mg x=none) (hv:bootBuiltins x=some u) (h:Q u s)
  (hn:x≠ "__name__"<|>qb_) (hd:(x == ("__debug__": Str))=false<|>qb_):wpAny (model X.prog X.w) X.A (eval (.Name x pos) X.env) Q E s:=by
 obtain⟨mb,h1,h2⟩:=I.mod.blt;exact Calls.Name_function_global I.ok.kind hg (Calls.loadGlobal_builtin (by rw[I.ok.glob];exact I.mod.glob.keeps I.bk) hm (by rw[I.ok.blt];exact h1.keeps I.bk) ((h2 x hn).trans hv) h) hd
def bQ (hg:Gl X x) (hm:X.mg x=some u) (r:RelV v u) (hd:(x == ("__debug__": Str))=false<|>qb_):PE X (.Name x pos) (tC v):=
 fun _ _ _ H _ I h=>jU I hg hm ⟨v,H,I,r,h⟩ hd
def NK (hg:Gl X x) (hm:X.mg x=none) (hv:bootBuiltins x=some u) (r:RelV v u) (hn:x≠ "__name__"<|>qb_) (hd:(x == ("__debug__": Str))=false<|>qb_):PE X (.Name x pos) (tC v):=
 fun _ _ _ H _ I h=>ji I hg hm hv ⟨v,H,I,r,h⟩ hn hd
variable {a b:Expr} {ta tb:TE} {pos:Pos}
def PC (X:Cx) (op:CmpOp) (a b:Expr) (t:TE):Prop:=
 ∀(pins:List (Addr×Obj)) (s:Shared) (σ:St) (H:Hp) (Q:VK),Inv X pins σ H s->t σ H Q->
  wpAny (model X.prog X.w) X.A (eval a X.env) (fun v s₁=>wpAny (model X.prog X.w) X.A (eval b X.env) (fun u s₂=>wpAny (model X.prog X.w) X.A (compareOp op v u) (EP X pins σ Q) X.xe s₂) X.xe s₁) X.xe s
def FC (b:Expr) (h:op≠.In) (h2:op≠.NotIn):behindInMarks op b=false:=by
 have e1:(op == CmpOp.In)=false:=by cases op <;> first | rfl | exact absurd rfl h
 have e2:(op == CmpOp.NotIn)=false:=by cases op <;> first | rfl | exact absurd rfl h2
 cases b <;> simp[behindInMarks,e1,e2]
def Lf (ta:TE):TE:=fun σ H Q=>ta σ H fun x H1=>Q (.bl (decide (x=.bC))) H1
def Le (ta:TE):TE:=fun σ H Q=>ta σ H fun x H1=>Q (.bl (!decide (x=.bC))) H1
def RelV.Fy (r:RelV x v):(v == Value.none)=decide (x=.bC):=by
 cases x with
 | bC=>cases r;rfl
 | bl _=>cases r;rfl
 | int _=>obtain⟨t,rfl⟩:=r;rfl
 | str _=>obtain⟨t,rfl⟩:=r;rfl
 | Jj _=>obtain⟨t,rfl⟩:=r;rfl
 | N0 _=>obtain⟨t,rfl⟩:=r;rfl
 | ref _=>cases r;rfl
 | ty _=>cases r;rfl
def cy (ha:PE X a ta):PC X .Is a (.Constant .none j pos') (Lf ta):=by
 intro pins s σ H Q I h;refine cQ (ha pins s σ H _ I h) fun v s1 zz=>?_;obtain⟨x,H1,I1,r1,q1⟩:=zz;exact Constant_none (is_none_gen ⟨.bl _,H1,I1,by rw[r1.Fy];rfl,q1⟩)
def fq (ha:PE X a ta):PC X .IsNot a (.Constant .none j pos') (Le ta):=by
 intro pins s σ H Q I h;refine cQ (ha pins s σ H _ I h) fun v s1 zz=>?_;obtain⟨x,H1,I1,r1,q1⟩:=zz;exact Constant_none (isnot_none_gen ⟨.bl _,H1,I1,by rw[r1.Fy];rfl,q1⟩)
def tB (t:TE):TT:=fun σ H Q=>t σ H fun x H1=>∃c,x=.bl c/\Q c H1
def tP (h:PC X op a b t) (h1:behindInMarks op b=false<|>qc_):PE X (.Compare a [op] [b] pos) t:=fun pins s σ H Q I hw=>wpAny_Compare1 (h pins s σ H Q I hw) h1
def bq (h:PC X op a b t) (h1:behindInMarks op b=false<|>qc_):PT X (.Compare a [op] [b] pos) (tB t):=by
 intro pins s σ H Q I hw;refine wpAny_isTrue_Compare1 (cQ (h pins s σ H _ I hw) fun v s1 h1=>cQ h1 fun u s2 h2=>cQ h2 fun c s3 ⟨x,H1,I1,r1,q1⟩=>?_) h1;obtain⟨d,rfl,q⟩:=q1;cases r1;exact wpAny_truthy_bool ⟨H1,I1,q⟩
def cU (h:PE X e t) (he:(∀whole,isTrue e X.env whole=(do let v <-whole;standAt e.pos;holding [v] (truthy v)))<|>qd_):PT X e (tB t):=by
 intro pins s σ H Q I hw;refine isTrue_plain (cQ (h pins s σ H _ I hw) fun v s1 ⟨x,H1,I1,r1,q1⟩=>?_) (he _);obtain⟨d,rfl,q⟩:=q1;cases r1;exact wpAny_truthy_bool ⟨H1,I1,q⟩
variable {tA tB':TT} {rest:List Expr}
def Pj (t u:TT):TT:=fun σ H Q=>t σ H fun c H1=>if c=true then u σ H1 Q else Q false H1
def Si (t u:TT):TT:=fun σ H Q=>t σ H fun c H1=>if c=true then Q true H1 else u σ H1 Q
def Nf (t:TT):TT:=fun σ H Q=>t σ H fun c H1=>Q (!c) H1
def cH (ha:PT X a tA):PW X (.BoolOp .And [a] pos) tA:=by
 intro wh pins s σ H Q I h;refine isTrue_and (cQ (ha pins s σ H Q I h) fun c s1 e=>?_);cases c with
 | true=>exact isTrue_and_nil e
 | false=>exact e
def dq (ha:PT X a tA):PW X (.BoolOp .Or [a] pos) tA:=by
 intro wh pins s σ H Q I h;refine isTrue_or (cQ (ha pins s σ H Q I h) fun c s1 e=>?_);cases c with
 | false=>exact isTrue_or_nil e
 | true=>exact e
def cT (ha:PT X a tA) (hb:PW X (.BoolOp .And (b::rest) pos) tB'):PW X (.BoolOp .And (a::b::rest) pos) (Pj tA tB'):=by
 intro wh pins s σ H Q I h;refine isTrue_and (cQ (ha pins s σ H _ I h) fun c s1 ⟨H1,I1,q1⟩=>?_);cases c with
 | true=>exact hb wh pins s1 σ H1 Q I1 q1
 | false=>exact⟨H1,I1,q1⟩
def eC (ha:PT X a tA) (hb:PW X (.BoolOp .Or (b::rest) pos) tB'):PW X (.BoolOp .Or (a::b::rest) pos) (Si tA tB'):=by
 intro wh pins s σ H Q I h;refine isTrue_or (cQ (ha pins s σ H _ I h) fun c s1 ⟨H1,I1,q1⟩=>?_);cases c with
 | true=>exact⟨H1,I1,q1⟩
 | false=>exact hb wh pins s1 σ H1 Q I1 q1
def fw (ha:PT X a tA):PT X (.UnaryOp .Not a pos) (Nf tA):=by
 intro pins s σ H Q I h;exact isTrue_not (ha pins s σ H (fun c H1=>Q (!c) H1) I h)
def Ot (ta tb:TE):TE:=fun σ H Q=>ta σ H fun x H1=>∃c,x=.bl c/\if c=true then tb σ H1 Q else Q (.bl false) H1
def QJ (ta tb:TE):TE:=fun σ H Q=>ta σ H fun x H1=>∃c,x=.bl c/\if c=true then Q (.bl true) H1 else tb σ H1 Q
def QK (ta:TE):TE:=fun σ H Q=>ta σ H fun x H1=>∃c,x=.bl c/\Q (.bl (!c)) H1
def qy (h:PE X a t):PE X (.BoolOp op [a] pos) t:=fun pins s σ H Q I hw=>BoolOp_one (h pins s σ H Q I hw)
def tQ (ha:PE X a ta) (hb:PE X (.BoolOp .And (b::rest) pos) tb):PE X (.BoolOp .And (a::b::rest) pos) (Ot ta tb):=by
 intro pins s σ H Q I h;refine BoolOp_and (cQ (ha pins s σ H _ I h) fun v s1 zz=>?_);obtain⟨x,H1,I1,r1,q1⟩:=zz;obtain⟨c,rfl,q1⟩:=q1;cases r1;refine wpAny_truthy_bool ?_;cases c with
 | true=>exact hb pins s1 σ H1 Q I1 q1
 | false=>exact⟨.bl false,H1,I1,rfl,q1⟩
def LW (ha:PE X a ta) (hb:PE X (.BoolOp .Or (b::rest) pos) tb):PE X (.BoolOp .Or (a::b::rest) pos) (QJ ta tb):=by
 intro pins s σ H Q I h;refine BoolOp_or (cQ (ha pins s σ H _ I h) fun v s1 zz=>?_);obtain⟨x,H1,I1,r1,q1⟩:=zz;obtain⟨c,rfl,q1⟩:=q1;cases r1;refine wpAny_truthy_bool ?_;cases c with
 | false=>exact hb pins s1 σ H1 Q I1 q1
 | true=>exact⟨.bl true,H1,I1,rfl,q1⟩
def S6 (t:TT) (ta tb:TE):TE:=fun σ H Q=>t σ H fun c H1=>if c=true then ta σ H1 Q else tb σ H1 Q
def Fe (hc:PT X c tA) (ha:PE X a ta) (hb:PE X b tb):PE X (.IfExp c a b pos) (S6 tA ta tb):=by
 intro pins s σ H Q I h;refine wpAny_IfExp (cQ (hc pins s σ H _ I h) fun d s1 ⟨H1,I1,q1⟩=>?_);cases d with
 | true=>exact ha pins s1 σ H1 Q I1 q1
 | false=>exact hb pins s1 σ H1 Q I1 q1
end
end L2
namespace L2
open PySem PySem.Spec PyProof.Rows
def aI (K:yA) (H:Hp) (a:Addr) (xs:List V):Prop:=
 Rd H a (.lst xs)\/
  ∃(o:Obj) (its:Array Value) (n:Nat),K.lookup a=some o/\o.cls=.type "list"/\o.dict=none/\o.data=.seq its n/\its.size<=sizeLine/\Vals xs its.toList
def du (K:yA) (H:Hp) (a:Addr) (xs:List V):Prop:=
 Rd H a (.tup xs)\/
  ∃(o:Obj) (its:Array Value) (n:Nat),K.lookup a=some o/\o.cls=.type "tuple"/\o.data=.seq its n/\its.size<=sizeLine/\Vals xs its.toList
def SV:Value->Option V
 | .none=>some .bC
 | .bool b=>some (.bl b)
 | .int i _=>some (.int i)
 | .str x _=>some (.str x)
 | .bytes b _=>some (.Jj b)
 | .float b _=>some (.N0 b)
 | .ref a=>some (.ref a)
 | .type n=>some (.ty n)
 | _=>none
def RelV.abs (r:RelV x u):SV u=some x:=by
 cases x with
 | bC=>cases r;rfl
 | bl _=>cases r;rfl
 | int _=>obtain⟨t,rfl⟩:=r;rfl
 | str _=>obtain⟨t,rfl⟩:=r;rfl
 | Jj _=>obtain⟨t,rfl⟩:=r;rfl
 | N0 _=>obtain⟨t,rfl⟩:=r;rfl
 | ref _=>cases r;rfl
 | ty _=>cases r;rfl
def RelV.inj (r:RelV x u) (q:RelV y u):x=y:=yj (r.abs.symm.trans q.abs)
theorem Vals.inj:∀{xs ys:List V} {us:List Value},Vals xs us->Vals ys us->xs=ys
 | _,_,_,.nil,.nil=>rfl
 | _,_,_,.cons r t,.cons r' t'=>by rw[r.inj r',Vals.inj t t']
section
variable {X:Cx} {pins:List (Addr×Obj)} {σ:St} {H:Hp} {s:Shared} {a:Addr} {xs ys:List V}
def aI.of {K:yA} (h:H a=some (.lst xs)):aI K H a xs:=.inl (.inl h)
def du.of {K:yA} (h:H a=some (.tup xs)):du K H a xs:=.inl (.inl h)
def Inv.list (I:Inv X pins σ H s) (h:aI X.K H a xs):∃its:List Value,Vals xs its/\PlainL s.heap a its.toArray/\xs.length<=sizeLine:=by
 rcases h with h | ⟨o,its,n,hk,hc,hd,hs,hz,r⟩
 ·obtain⟨z,its,n,r,e⟩:=h.ok I.bV
  exact⟨its,r,⟨_,n,e,rfl,rfl,rfl⟩,z⟩
 ·refine⟨its.toList,r,⟨o,n,I.sr a o hk,hc,hd,by simpa using hs⟩,?_⟩
  have e:=r.length;simp only[Array.length_toList] at e;omega
def Inv.tuple (I:Inv X pins σ H s) (h:du X.K H a xs):∃its:List Value,Vals xs its/\IsTup s.heap a its.toArray/\xs.length<=sizeLine:=by
 rcases h with h | ⟨o,its,n,hk,hc,hs,hz,r⟩
 ·obtain⟨z,its,r,p⟩:=h.ok I.bV
  exact⟨its,r,p,z⟩
 ·refine⟨its.toList,r,⟨o,I.sr a o hk,hc,n,by simpa using hs⟩,?_⟩
  have e:=r.length;simp only[Array.length_toList] at e;omega
def Inv.yS (I:Inv X pins σ H s) (h:aI X.K H a xs) (h':aI X.K H a ys):xs=ys:=by
 obtain⟨its,r,⟨o,n,e,_,_,d⟩,_⟩:=I.list h;obtain⟨its',r',⟨o',n',e',_,_,d'⟩,_⟩:=I.list h';rw[e] at e';cases e';rw[d] at d';injection d' with d1 _;have:its=its':=by simpa using congrArg Array.toList d1
 subst this;exact r.inj r'
def Inv.BP (I:Inv X pins σ H s) (h:du X.K H a xs) (h':du X.K H a ys):xs=ys:=by
 obtain⟨its,r,⟨o,e,_,n,d⟩,_⟩:=I.tuple h;obtain⟨its',r',⟨o',e',_,n',d'⟩,_⟩:=I.tuple h';rw[e] at e';cases e';rw[d] at d';injection d' with d1 _;have:its=its':=by simpa using congrArg Array.toList d1
 subst this;exact r.inj r'
end
abbrev Cx.qR (X:Cx) (E:Value->Shared->Prop):Cx:={X with xe:=E}
abbrev Cx.Ho (X:Cx):Cx:=X.qR fun _ _=>False
theorem Cx.Ok.qR {X:Cx} (ok:X.Ok) (E:Value->Shared->Prop):(X.qR E).Ok:=
 ⟨ok.mod,ok.kind,ok.glob,ok.blt,ok.above,ok.inj,ok.has,ok.Qj,ok.hd,ok.frames,ok.Qt,ok.RG,ok.bs,ok.KQ,ok.vV,ok.HG,ok.oX,ok.FQ⟩
def Cx.Ok.gU {X:Cx} {E:Value->Shared->Prop} (ok:(X.qR E).Ok):X.Ok:=
 ⟨ok.mod,ok.kind,ok.glob,ok.blt,ok.above,ok.inj,ok.has,ok.Qj,ok.hd,ok.frames,ok.Qt,ok.RG,ok.bs,ok.KQ,ok.vV,ok.HG,ok.oX,ok.FQ⟩
section
variable {X:Cx} {pins:List (Addr×Obj)} {σ:St} {H:Hp} {s:Shared} {E:Value->Shared->Prop}
theorem Inv.qR (I:Inv X pins σ H s) (E:Value->Shared->Prop):Inv (X.qR E) pins σ H s:=⟨I.ok.qR E,I.os,I.bare,I.base,I.loc,I.cell,I.free,I.jX,I.pin,I.bV,I.len⟩
theorem Inv.gU (I:Inv (X.qR E) pins σ H s):Inv X pins σ H s:=⟨I.ok.gU,I.os,I.bare,I.base,I.loc,I.cell,I.free,I.jX,I.pin,I.bV,I.len⟩
theorem SP.gU (h:SP (X.qR E) pins D f s'):SP X pins D f s':=by
 cases f with
 | next=>obtain⟨σ',H',I,q⟩:=h;exact⟨σ',H',I.gU,q⟩
 | brk=>obtain⟨σ',H',I,q⟩:=h;exact⟨σ',H',I.gU,q⟩
 | cont=>obtain⟨σ',H',I,q⟩:=h;exact⟨σ',H',I.gU,q⟩
 | ret u=>obtain⟨v,σ',H',I,r,q⟩:=h;exact⟨v,σ',H',I.gU,r,q⟩
theorem Cz.Ho {st:List Stmt} {t:TS} (h:Cz X.Ho st t):Cz X st t:=fun pins s σ H D I hw=>
 wpAny_mono (h pins s σ H D (I.qR _) hw) (fun _ _ q=>q.gU) fun _ _ z=>False.elim z
end
section
variable {X:Cx} {st:Stmt} {rest:List Stmt} {t u:TS} {e:Expr} {te:TE} {pos:Pos}
def Oo:TS:=fun D σ H=>D.nx σ H
def O5 (t u:TS):TS:=fun D σ H=>t {D with nx:=u D} σ H
def ax:Cz X [] Oo:=fun _ _ σ H _ I h=>wpAny_execs_nil ⟨σ,H,I,h⟩
def ag (h1:PS X st t) (h2:Cz X rest u):Cz X (st::rest) (O5 t u):=by
 intro pins s σ H D I h;refine wpAny_execs_cons (cQ (h1 pins s σ H {D with nx:=u D} I h) fun f s1 q=>?_);cases f with
 | next=>
  obtain⟨σ',H',I',q⟩:=q;exact h2 pins s1 σ' H' D I' q
 | ret v=>exact q
 | brk=>exact q
 | cont=>exact q
def aj (h1:PS X st t):Cz X [st] t:=by
 intro pins s σ H D I h;refine wpAny_execs_cons (cQ (h1 pins s σ H D I h) fun f s1 q=>?_);cases f with
 | next=>exact wpAny_execs_nil q
 | ret v=>exact q
 | brk=>exact q
 | cont=>exact q
def Inv.quiet (I:Inv X pins σ H s):interactive X.env=false:=by simp[interactive,I.ok.kind]
def Oq (te:TE):TS:=fun D σ H=>te σ H fun _ H1=>D.nx σ H1
def bP (he:PE X e te) (hs:swapsWith e none pos.line X.env=pure false<|>qe_):PS X (.Expr e pos) (Oq te):=by
 intro pins s σ H D I h;exact wpAny_Expr_any (cQ (he pins s σ H _ I h) fun v s1 ⟨x,H1,I1,r1,q1⟩=>⟨σ,H1,I1,q1⟩) I.quiet hs
def O6 (te:TE):TS:=fun D σ H=>te σ H D.rt
def aq (he:PE X e te):PS X (.Return (some e) pos) (O6 te):=by
 intro pins s σ H D I h;exact wpAny_Return_some (cQ (he pins s σ H _ I h) fun v s1 ⟨x,H1,I1,r1,q1⟩=>⟨x,σ,H1,I1,r1,q1⟩)
def Ng (c:TT) (t u:TS):TS:=fun D σ H=>c σ H fun b H1=>if b=true then t D σ H1 else u D σ H1
def aF (hc:PT X c tc) (ha:Cz X a t) (hb:Cz X b u):PS X (.If c a b pos) (Ng tc t u):=by
 intro pins s σ H D I h;refine wpAny_If (cQ (hc pins s σ H _ I h) fun d s1 ⟨H1,I1,q1⟩=>?_);cases d with
 | true=>exact ha pins s1 σ H1 D I1 q1
 | false=>exact hb pins s1 σ H1 D I1 q1
def O8:TS:=fun _ _ _=>False
def xV:PS X st O8:=fun _ _ _ _ _ _ h=>h.elim
end
abbrev TG:=V->St->Hp->(St->Hp->Prop)->Prop
abbrev Ro:=List V->St->Hp->(St->Hp->Prop)->Prop
def PG (X:Cx) (target:Expr) (t:TG):Prop:=
 ∀(pins:List (Addr×Obj)) (s:Shared) (σ:St) (H:Hp) (v:V) (u:Value) (Q:St->Hp->Prop),Inv X pins σ H s->RelV v u->t v σ H Q->
  wpAny (model X.prog X.w) X.A (assign target X.env u) (fun _ s'=>∃σ' H',Inv X pins σ' H' s'/\Q σ' H') X.xe s
def RJ (X:Cx) (ts:List Expr) (t:Ro):Prop:=
 ∀(pins:List (Addr×Obj)) (s:Shared) (σ:St) (H:Hp) (vs:List V) (us:List Value) (Q:St->Hp->Prop),Inv X pins σ H s->Vals vs us->t vs σ H Q->
  wpAny (model X.prog X.w) X.A (assignInOrder ((assignEach ts X.env).map (·.2)) us) (fun _ s'=>∃σ' H',Inv X pins σ' H' s'/\Q σ' H') X.xe s
section
variable {X:Cx} {pos:Pos}
def b7 (i:Nat):TG:=fun v σ H Q=>Q (σ.set i (some v)) H
def IS (hN:X.N.Nodup) (hi:X.N[i]?=some x) (hx:Loc X.env.scope x) (hf:X.fn x=true\/X.env.scope.names.lookup x=some .local<|>qa_):PG X (.Name x pos) (b7 i):=by
 intro pins s σ H v u Q I r h;exact wpAny_assign_Name (m7 I hN hi hx r (fun s' I'=>⟨_,H,I',h⟩) hf)
def FP:Ro:=fun vs σ H Q=>vs=[]/\Q σ H
def fV (t:TG) (u:Ro):Ro:=fun vs σ H Q=>∃v r,vs=v::r/\t v σ H fun σ' H'=>u r σ' H' Q
def cV:RJ X [] FP:=by
 intro pins s σ H vs us Q I r h;obtain⟨e,h⟩:=h;subst e;cases r;exact assignInOrder_nil ⟨σ,H,I,h⟩
def aK (h1:PG X e t) (h2:RJ X es u)
  (hs:(assignEach (e::es) X.env).map (·.2)=assign e X.env::(assignEach es X.env).map (·.2)<|>qe_):RJ X (e::es) (fV t u):=by
 intro pins s σ H vs us Q I r h;obtain⟨v,vr,e1,h⟩:=h;subst e1;cases r with
 | cons r rr=>
  rw[hs];refine assignInOrder_cons (cQ (h1 pins s σ H _ _ _ I r h) fun _ s1 ⟨σ1,H1,I1,q1⟩=>?_);exact h2 pins s1 σ1 H1 _ _ Q I1 rr q1
def FO (K:yA) (n:Nat) (t:Ro):TG:=fun v σ H Q=>∃a xs,v=.ref a/\du K H a xs/\xs.length=n/\t xs σ H Q
def dQ (hc:X.calm=true) (h:RJ X es t)
  (hn:(assignEach es X.env).length=n<|>qe_) (hst:(assignEach es X.env).findIdx? (·.1)=none<|>qe_):PG X (.Tuple es k pos) (FO X.K n t):=by
 intro pins s σ H v u Q I r hw;obtain⟨a,xs,e1,hq,hl,hw⟩:=hw;subst e1;cases r;obtain⟨its,rv,ht,hz⟩:=I.tuple hq;refine assign_Tuple_tuple (I.ok.hd hc) ht (by simp[hn,<-hl,rv.length]) hst fun h' hx=>?_;have I1:Inv X pins σ H {s with heap:=h'}:=I.kept (t':=s.toks) fun b o e=>hx b o (yi (yx e)) e;exact h pins _ σ H xs _ Q I1 (by simpa using rv) hw
def EK (te:TE) (g:TG):TS:=fun D σ H=>te σ H fun x H1=>g x σ H1 D.nx
def LO (hN:X.N.Nodup) (hi:X.N[i]?=some x) (hx:Loc X.env.scope x) (he:PE X e te) (hs:swapsWith e (some (.Name x pos')) pos.line X.env=pure false<|>qe_) (hf:X.fn x=true\/X.env.scope.names.lookup x=some .local<|>qa_) :
  PS X (.Assign [.Name x pos'] e pos) (EK te (b7 i)):=by
 intro pins s σ H D I h;refine wpAny_Assign_Name (cQ (he pins s σ H _ I h) fun v s1 ⟨y,H1,I1,r1,q1⟩=>?_) hs;exact m7 I1 hN hi hx r1 (fun s2 I2=>⟨_,H1,I2,q1⟩) hf
def Sh (i j:Nat) (ta:TA):TS:=fun D σ H=>ta σ H fun vs H1=>∃v w,vs=[v,w]/\D.nx ((σ.set i (some v)).set j (some w)) H1
def LP (hc:X.calm=true) (hN:X.N.Nodup) (hi:X.N[i]?=some x) (hj:X.N[j]?=some y) (hij:i≠j)
  (hx:X.env.scope.names.lookup x=some .local) (hy:X.env.scope.names.lookup y=some .local) (ha:PA X [a,b] ta)
  (hw:swappedStores [.Tuple [.Name x px,.Name y py] kt pt] (.Tuple [a,b] k2 pt2) X.env=pure (some [x,y]))
  (hs:swapsWithSole [.Tuple [.Name x px,.Name y py] kt pt] (.Tuple [a,b] k2 pt2) pos.line X.env=pure false<|>qe_) :
  PS X (.Assign [.Tuple [.Name x px,.Name y py] kt pt] (.Tuple [a,b] k2 pt2) pos) (Sh i j ta):=by
 intro pins s σ H D I h;rw[exec_Assign_arm];refine yt (wpAny_standAt ?_);rw[hs];refine yt (yv ?_);rw[if_neg ∅];refine yt (Tuple_ (cQ (ha _ pins s σ H _ I h) fun us s1 zz=>?_));obtain⟨vs,H1,I1,r1,q1⟩:=zz;obtain⟨v,w,e1,q1⟩:=q1;subst e1;obtain⟨u1,u2,rfl,rv,rw'⟩:∃u1 u2,us=[u1,u2]/\RelV v u1/\RelV w u2:=by
  cases r1 with
  | cons p q=>
   cases q with
   | cons p' q'=>
    cases q';exact⟨_,_,rfl,p,p'⟩
 refine wpAny_newObj_type ?_ (by show 2<=sizeLine;decide);have I2:Inv X pins σ H1 {s1 with heap:=s1.heap.push {cls:=.type "tuple",data:=.seq [u1,u2].toArray}}:=I1.kept (t':=s1.toks) fun b o e=>yu _ e;rw[hw];refine yt (yv ?_);show wpAny (model X.prog X.w) X.A (do rule "assign.swapped-stores";let items <-unpackItems (.ref ↑s1) 2 none;assignInOrder [fun v=>bindName X.env y v,fun v=>bindName X.env x v] items.reverse;pure Flow.next) _ _ _;refine yt (wpAny_rule (yt (unpackItems_tuple (items:=#[u1,u2]) (I.ok.hd hc) (IsTup.new s1.heap _) fun h' hx'=>?_)));have I3:=I2.kept (h':=h') (t':=s1.toks) fun b o e=>hx' b o (yi (yx e)) e;show wpAny _ _ (assignInOrder [fun v=>bindName X.env y v,fun v=>bindName X.env x v] [u2,u1] >>= fun _=>pure Flow.next) _ _ _;refine yt (assignInOrder_cons (wpAny_bindName (m7 I3 hN hj (.inl hy) rw' (fun s2 I4=>?_) (.inr hy))));refine assignInOrder_cons (wpAny_bindName (m7 I4 hN hi (.inl hx) rv (fun s3 I5=>assignInOrder_nil (yv ?_)) (.inr hx)));rw[List.set_comm _ _ (Ne.symm hij)] at I5;exact⟨_,H1,I5,q1⟩
end
section
variable {X:Cx} {pos:Pos}
def Lc (c:TT) (tb:TS):TS:=fun D σ H=>∃W:Nat->St->Hp->Prop,(∃m,W m σ H)/\∀m σ H,W m σ H->
 c σ H fun b H1=>if b=true then∃N:St->Hp->Prop,(∀σ' H',N σ' H'->∃m',m'<m/\W m' σ' H')/\tb {D with nx:=N,ct:=N,bk:=D.nx} σ H1 else D.nx σ H1
def xU (hp:PassesOwn (model X.prog X.w) X.A X.env X.xe) (hc:PT X c tc) (hb:Cz X body tb):PS X (.While c body [] pos) (Lc tc tb):=by
 intro pins s σ H D I h;obtain⟨W,⟨m0,w0⟩,turn⟩:=h;refine wpAny_While (codeAny_whileLoop (fun n s'=>∃σ' H',Inv X pins σ' H' s'/\W n σ' H') ?_ m0 ⟨σ,H,I,w0⟩);rintro n s1 ⟨σ1,H1,I1,w1⟩;refine wpAny_passesOwn hp (cQ (hc pins s1 σ1 H1 _ I1 (turn n σ1 H1 w1)) fun b s2 ⟨H2,I2,q2⟩=>?_);cases b with
 | true=>
  obtain⟨N,hN,q2⟩:=q2;rw[if_pos rfl];refine wpAny_passesOwn hp (cQ (hb pins s2 σ1 H2 _ I2 q2) fun f s3 q3=>?_);cases f with
  | next=>
   obtain⟨σ3,H3,I3,n3⟩:=q3;obtain⟨m',hm,w3⟩:=hN σ3 H3 n3;exact⟨m',hm,σ3,H3,I3,w3⟩
  | cont=>
   obtain⟨σ3,H3,I3,n3⟩:=q3;obtain⟨m',hm,w3⟩:=hN σ3 H3 n3;exact⟨m',hm,σ3,H3,I3,w3⟩
  | brk=>exact q3
  | ret v=>exact q3
 | false=>
  rw[if_neg zK];exact wpAny_execs_nil ⟨σ1,H2,I2,q2⟩
end
structure It where
 go:Nat->Hp->Prop
 Jw:Nat->Hp->V->Hp->Prop
 stop:Nat->Hp->Prop
def qQ (X:Cx) (pins:List (Addr×Obj)) (H:Hp) (b:Addr):Prop:=
 H b=none/\b≠X.env.locals/\b∉X.fs/\(b∈X.ex\/X.s₀.heap.objs.size<=b)/\(∀x c,X.env.cells.lookup x=some c->c≠b)/\∀p∈X.pn++pins,p.1≠b
def Inv.vZ (I:Inv X pins σ H s) (hb:↑s<=b) (hn:H' b=none):qQ X pins H' b:=by
 refine⟨hn,yh (yb I.lt hb),I.QY hb,.inr (zL I.sz hb),fun x c e z=>?_,fun p hp z=>?_⟩
 ·obtain⟨v,q⟩:=I.cell x c e
  exact absurd (yb q.lt (by rw[z];exact hb)) (ye _)
 ·exact absurd (yb (yx (I.pin p hp).1) (by rw[z];exact hb)) (ye _)
structure Turn (P:Program) (w:World) (K:yA) (tg:Expr) (J:It) (fp:List Addr) (it:Addr) (tn:Nat->Heap->Prop):Prop where
 mem:it∈fp
 obj:∀i h,tn i h->∀b∈fp,∃o,h.get? b=some o/\∀v,o.data≠.cell v
 keep:∀i h h',tn i h->(∀b∈fp,∀o,h.get? b=some o->h'.get? b=some o)->tn i h'
 item:∀(X:Cx),X.prog=P->X.w=w->X.K=K->X.calm=true->∀(i:Nat) (pins:List (Addr×Obj)) (s:Shared) (σ:St) (H:Hp) (E:Value->Shared->Prop),Inv X pins σ H s->(∀b∈fp,qQ X pins H b)->tn i s.heap->J.go i H->
  wpAny (model P w) X.A (pyNext (.ref it)) (fun r s1=>∃u,r=some u/\
   wpAny (model P w) X.A (letOwnedTupleGo tg (.ref it) u) (fun _ s2=>∃x H',Inv X pins σ H' s2/\RelV x u/\J.Jw i H x H'/\tn (i+1) s2.heap/\∀b∈fp,H' b=none) E s1) E s
 done:∀(X:Cx),X.prog=P->X.w=w->X.K=K->X.calm=true->∀(i:Nat) (pins:List (Addr×Obj)) (s:Shared) (σ:St) (H:Hp) (E:Value->Shared->Prop),Inv X pins σ H s->(∀b∈fp,qQ X pins H b)->tn i s.heap->J.stop i H->
  wpAny (model P w) X.A (pyNext (.ref it)) (fun r s1=>r=none/\Inv X pins σ H s1) E s
 self:∀(A:Around) (i:Nat) (s:Shared) (Q:Value->Shared->Prop) (E:Value->Shared->Prop),tn i s.heap->Q (.ref it) s->wpAny (model P w) A (pyIter (.ref it)) Q E s
abbrev TI:=St->Hp->(It->Hp->Prop)->Prop
def Td (X:Cx) (pins:List (Addr×Obj)) (σ:St) (tg:Expr) (R:It->Hp->Prop) (itv:Value) (s2:Shared):Prop:=
 ∃(it:Addr) (fp:List Addr) (tn:Nat->Heap->Prop) (J:It) (H':Hp),itv=.ref it/\Inv X pins σ H' s2/\Turn X.prog X.w X.K tg J fp it tn/\tn 0 s2.heap/\(∀b∈fp,qQ X pins H' b)/\R J H'
def PI (X:Cx) (tg iter:Expr) (wi:TI):Prop:=
 ∀(pins:List (Addr×Obj)) (s:Shared) (σ:St) (H:Hp) (R:It->Hp->Prop),Inv X pins σ H s->wi σ H R->
  wpAny (model X.prog X.w) X.A (eval iter X.env) (fun v s1=>wpAny (model X.prog X.w) X.A (pyIter v) (Td X pins σ tg R) X.xe s1) X.xe s
def Ci (ho:s.heap.get? it=some o) (hc:o.cls=.type n) (hd:o.data=.fields vs)
    (hn:["enumerate","zip","dict_itemiterator","dict_reverseitemiterator","odict_iterator","itertools.zip_longest","itertools.pairwise"].contains n=false) (hQ:Q () s):wpAny M A (letOwnedTupleGo tg (.ref it) u) Q E s:=by
  unfold letOwnedTupleGo;cases tg <;> first
    | exact yv hQ
    | (cases u <;> first
        | exact yv hQ
        | (refine yt (wpAny_load ho ?_)
           rw[hc,hd];show wpAny M A (if(["enumerate","zip","dict_itemiterator","dict_reverseitemiterator","odict_iterator","itertools.zip_longest","itertools.pairwise"].contains n&&vs[0]? == some (rawInt _))=true then _ else _) Q E s;rw[if_neg (by intro h;rw[hn,Bool.false_and] at h;cases h)];exact yv hQ))
def MY (K:yA) (a:Addr):It:=
 ⟨fun i H=>∃xs x,aI K H a xs/\xs[i]?=some x,fun i H x H'=>H'=H/\∀xs,aI K H a xs->xs[i]?=some x,fun i H=>∃xs,aI K H a xs/\xs.length<=i⟩
def OS (K:yA) (a:Addr):It:=
 ⟨fun i H=>∃xs x,du K H a xs/\xs[i]?=some x,fun i H x H'=>H'=H/\∀xs,du K H a xs->xs[i]?=some x,fun i H=>∃xs,du K H a xs/\xs.length<=i⟩
def MX (lo:Int) (n:Nat):It:=⟨fun i _=>i<n,fun i H x H'=>H'=H/\x=.int (lo+i),fun i _=>n<=i⟩
def Jz {P:Program} {w:World} {K:yA} {tg:Expr} (a it:Addr):Turn P w K tg (MY K a) [it] it (fun i h=>h.IsListIter it a i) where
 mem:=by simp
 obj:=fun i h st b hb=>by
  have e:b=it:=by simpa using hb
  subst e;obtain⟨o,e,c,d⟩:=st;exact⟨o,e,fun v z=>by rw[d] at z;cases z⟩
 keep:=fun i h h' st k=>st.at fun o e=>k it (by simp) o e
 item:=by
  intro X hP hw hK hc i pins s σ H E I hf st hg;subst hP hw hK;obtain⟨xs,x,hq,hx⟩:=hg;obtain⟨its,rv,p,hz⟩:=I.list hq;obtain⟨u,hu,ru⟩:=rv.get hx;obtain⟨f0,f1,f2,f3,f4,f5⟩:=hf it (by simp);refine wpAny_pyNext_list_item st p.isList (x:=u) (by simpa using hu) fun h' st' sb=>?_;have I1:Inv X pins σ H {s with heap:=h'}:=I.turned (t':=s.toks) (fun b o hb e=>(sb.2 b hb).trans e) f0 f1 f3 f4 f5;obtain⟨o,e,c,d⟩:=id st';exact⟨u,rfl,Ci (s:={s with heap:=h'}) e c d ∅ ⟨x,H,I1,ru,⟨rfl,fun ys hy=>by rw[I.yS hy hq];exact hx⟩,st',fun b hb=>(hf b hb).1⟩⟩
 done:=by
  intro X hP hw hK hc i pins s σ H E I hf st hg;subst hP hw hK;obtain⟨xs,hq,hx⟩:=hg;obtain⟨its,rv,p,hz⟩:=I.list hq;obtain⟨f0,f1,f2,f3,f4,f5⟩:=hf it (by simp);have hl:=rv.length;exact wpAny_pyNext_list_end (I.ok.hd hc) st p.isList (by simp;omega) fun h' eb=>⟨rfl,I.turned (t':=s.toks) (fun b o hb e=>eb b o hb e) f0 f1 f3 f4 f5⟩
 self:=fun _ _ _ _ _ st h=>wpAny_pyIter_listiter st h
def GU {P:Program} {w:World} {K:yA} {tg:Expr} (a it:Addr):Turn P w K tg (OS K a) [it] it (fun i h=>h.IsTupleIter it a i) where
 mem:=by simp
 obj:=fun i h st b hb=>by
  have e:b=it:=by simpa using hb
  subst e;obtain⟨o,e,c,d⟩:=st;exact⟨o,e,fun v z=>by rw[d] at z;cases z⟩
 keep:=fun i h h' st k=>st.at fun o e=>k it (by simp) o e
 item:=by
  intro X hP hw hK hc i pins s σ H E I hf st hg;subst hP hw hK;obtain⟨xs,x,hq,hx⟩:=hg;obtain⟨its,rv,p,hz⟩:=I.tuple hq;obtain⟨u,hu,ru⟩:=rv.get hx;obtain⟨f0,f1,f2,f3,f4,f5⟩:=hf it (by simp);refine wpAny_pyNext_tuple_item st (show s.heap.IsTuple a its.toArray from p) (x:=u) (by simpa using hu) fun h' st' sb=>?_;have I1:Inv X pins σ H {s with heap:=h'}:=I.turned (t':=s.toks) (fun b o hb e=>(sb.2 b hb).trans e) f0 f1 f3 f4 f5;obtain⟨o,e,c,d⟩:=id st';exact⟨u,rfl,Ci (s:={s with heap:=h'}) e c d ∅ ⟨x,H,I1,ru,⟨rfl,fun ys hy=>by rw[I.BP hy hq];exact hx⟩,st',fun b hb=>(hf b hb).1⟩⟩
 done:=by
  intro X hP hw hK hc i pins s σ H E I hf st hg;subst hP hw hK;obtain⟨xs,hq,hx⟩:=hg;obtain⟨its,rv,p,hz⟩:=I.tuple hq;obtain⟨f0,f1,f2,f3,f4,f5⟩:=hf it (by simp);have hl:=rv.length;exact wpAny_pyNext_tuple_end (I.ok.hd hc) st (show s.heap.IsTuple a its.toArray from p) (by simp;omega) fun h' eb=>⟨rfl,I.turned (t':=s.toks) (fun b o hb e=>eb b o hb e) f0 f1 f3 f4 f5⟩
 self:=fun _ _ _ _ _ st h=>wpAny_pyIter_tupleiter st h
def GV {P:Program} {w:World} {K:yA} {tg:Expr} (it:Addr) (lo:Int) (n:Nat):Turn P w K tg (MX lo n) [it] it (fun i h=>IsRangeIter h it (lo+(i:Nat)*1) ((n:Int)-(i:Nat)) 1) where
 mem:=by simp
 obj:=fun i h st b hb=>by
  have e:b=it:=by simpa using hb
  subst e;exact⟨_,st,fun v z=>by
   have z':Data.fields _=Data.cell v:=z;cases z'⟩
 keep:=fun i h h' st k=>k it (by simp) _ st
 item:=by
  intro X hP hw hK hc i pins s σ H E I hf st hg;subst hP hw hK;obtain⟨f0,f1,f2,f3,f4,f5⟩:=hf it (by simp);have W:=Walks.range (prog:=X.prog) (w:=X.w) (I.ok.hd hc) it lo 1 n;refine W.item i s _ _ hg st fun v h' tk hv st' kk=>?_;obtain⟨t,rfl⟩:=hv;have I1:Inv X pins σ H {s with heap:=h',toks:=tk}:=I.turned (fun b o hb e=>kk b o (by simpa using hb) e) f0 f1 f3 f4 f5;refine⟨_,rfl,Ci (s:={s with heap:=h',toks:=tk}) (n:="range_iterator") st' rfl rfl ∅ ⟨.int (lo+i),H,I1,⟨t,?_⟩,⟨rfl,rfl⟩,st',fun b hb=>(hf b hb).1⟩⟩;rw[Int.mul_one]
 done:=by
  intro X hP hw hK hc i pins s σ H E I hf st hg;subst hP hw hK;obtain⟨f0,f1,f2,f3,f4,f5⟩:=hf it (by simp);exact wpAny_pyNext_range_end (I.ok.hd hc) st (by have:n<=i:=hg;omega) fun h' eb=>⟨rfl,I.turned (t':=s.toks) (fun b o hb e=>eb b o hb e) f0 f1 f3 f4 f5⟩
 self:=fun _ _ _ _ _ st h=>wpAny_pyIter_rangeiter st h
end L2
namespace L2
open PySem PySem.Spec PyProof.Rows
section
variable {X:Cx} {tg:Expr}
def I0 (K:yA) (tl:TE):TI:=fun σ H R=>tl σ H fun x H1=>∃a,x=.ref a/\(∃xs,aI K H1 a xs)/\R (MY K a) H1
def SJ (K:yA) (tl:TE):TI:=fun σ H R=>tl σ H fun x H1=>∃a,x=.ref a/\(∃xs,du K H1 a xs)/\R (OS K a) H1
def bo {l:Expr} {tl:TE} (hl:PE X l tl):PI X tg l (I0 X.K tl):=by
 intro pins s σ H R I h;refine cQ (hl pins s σ H _ I h) fun v s1 zz=>?_;obtain⟨x,H1,I1,r1,q1⟩:=zz;obtain⟨a,e,⟨xs,hq⟩,q⟩:=q1;subst e;cases r1;obtain⟨its,rv,p,hz⟩:=I1.list hq;refine wpAny_pyIter_list p.isList ?_;refine⟨↑s1,[↑s1],_,_,H1,rfl,I1.kept (t':=s1.toks) fun b o e=>yu _ e,Jz a _,⟨_,yw _ rfl,rfl,rfl⟩,fun b hb=>?_,q⟩;have e:b=↑s1:=by simpa using hb
 subst e;exact I1.vZ (zk _) (I1.bV.fresh (zk _))
def kc {l:Expr} {tl:TE} (hl:PE X l tl):PI X tg l (SJ X.K tl):=by
 intro pins s σ H R I h;refine cQ (hl pins s σ H _ I h) fun v s1 zz=>?_;obtain⟨x,H1,I1,r1,q1⟩:=zz;obtain⟨a,e,⟨xs,hq⟩,q⟩:=q1;subst e;cases r1;obtain⟨its,rv,p,hz⟩:=I1.tuple hq;refine wpAny_pyIter_tuple (show s1.heap.IsTuple a its.toArray from p) ?_;refine⟨↑s1,[↑s1],_,_,H1,rfl,I1.kept (t':=s1.toks) fun b o e=>yu _ e,GU a _,⟨_,yw _ rfl,rfl,rfl⟩,fun b hb=>?_,q⟩;have e:b=↑s1:=by simpa using hb
 subst e;exact I1.vZ (zk _) (I1.bV.fresh (zk _))
def E8 {pins:List (Addr×Obj)} {σ:St} {H:Hp} {s:Shared} {R:It->Hp->Prop} {E:Value->Shared->Prop} {lo hi:Int} {t u v:Tok} {tk:Nat} (I:Inv X pins σ H s) (h1:-(2^62)<=lo) (h2:lo<2^62) (h3:-(2^62)<=hi) (h4:hi<2^62)
  (q:R (MX lo (hi-lo).toNat) H):wpAny (model X.prog X.w) X.A (pyIter (.ref ↑s)) (Td X pins σ tg R) E {s with heap:=s.heap.push {cls:=.type "range",data:=.fields #[.int lo t,.int hi u,.int 1 v]},toks:=tk}:=by
 refine wpAny_pyIter_range (IsRange.new ..) (small_one h1 h2 h3 h4) ?_;have I1:Inv X pins σ H {s with heap:=s.heap.push {cls:=.type "range",data:=.fields #[.int lo t,.int hi u,.int 1 v]},toks:=tk}:=I.kept fun b o e=>yu _ e;refine⟨(s.heap.push {cls:=.type "range",data:=.fields #[.int lo t,.int hi u,.int 1 v]}).objs.size,[(s.heap.push {cls:=.type "range",data:=.fields #[.int lo t,.int hi u,.int 1 v]}).objs.size],_,_,H,rfl,
  I1.kept (t':=tk) fun b o e=>yu _ e,GV _ lo (hi-lo).toNat,?_,fun b hb=>?_,q⟩
 ·have e1:lo+((0:Nat):Int)*1=lo:=by simp
  have e2:(((hi-lo).toNat:Nat):Int)-((0:Nat):Int)=Builtin.Range.rangeSize lo hi 1:=by rw[rangeSize_one];split <;> omega
  show IsRangeIter _ _ (lo+((0:Nat):Int)*1) ((((hi-lo).toNat:Nat):Int)-((0:Nat):Int)) 1;rw[e1,e2];exact yw _ rfl
 ·have e:b=(s.heap.push {cls:=.type "range",data:=.fields #[.int lo t,.int hi u,.int 1 v]}).objs.size:=by simpa using hb
  subst e;exact I1.vZ (zk _) (I1.bV.fresh (zk _))
def Mq (ta:TA):TI:=fun σ H R=>ta σ H fun vs H1=>∃j:Int,vs=[.int j]/\-(2^62)<=j/\j<2^62/\R (MX 0 j.toNat) H1
def Ra (ta:TA):TI:=fun σ H R=>ta σ H fun vs H1=>∃i j:Int,vs=[.int i,.int j]/\(-(2^62)<=i/\i<2^62/\-(2^62)<=j/\j<2^62)/\R (MX i (j-i).toNat) H1
def cM {a:Expr} {ta:TA} {p pos:Pos} (hg:Gl X "range") (hm:X.mg "range"= none) (ha:PA X [a] ta) (hs:starEach [a] X.env=[(false,eval a X.env)]<|>qe_):PI X tg (.Call (.Name "range" p) [a] [] pos) (Mq ta):=by
 intro pins s σ H R I h;refine Call_ (ji I hg hm boot_range (yL (cQ (ha pos pins s σ H _ I h) fun us s1 ⟨vs,H1,I1,r1,q1⟩=>?_) hs rfl));obtain⟨j,e,q1,q2,q⟩:=q1;subst e;cases r1 with
 | cons r rr=>
  cases rr;obtain⟨t,rfl⟩:=r;exact call_range_1 (E8 I1 nofun nofun q1 q2 (by simpa using q))
def B0 (hg:Gl X "range") (hm:X.mg "range"= none) (ha:PA X [a,b] ta) (hs:starEach [a,b] X.env=[(false,eval a X.env),(false,eval b X.env)]<|>qe_) (hs2:starEach [b] X.env=[(false,eval b X.env)]<|>qe_) :
  PI X tg (.Call (.Name "range" p) [a,b] [] pos) (Ra ta):=by
 intro pins s σ H R I h;refine Call_ (ji I hg hm boot_range (yL (cQ (ha pos pins s σ H _ I h) fun us s1 ⟨vs,H1,I1,r1,q1⟩=>?_) (by rw[hs,hs2]) (by rw[hs2];rfl)));obtain⟨i,j,e,⟨q1,q2,q3,q4⟩,q⟩:=q1;subst e;cases r1 with
 | cons r rr=>
  cases rr with
  | cons r' rr=>
   cases rr;obtain⟨t,rfl⟩:=r;obtain⟨t',rfl⟩:=r';exact call_range_2 (E8 I1 q1 q2 q3 q4 q)
def Pb (wi:TI) (g:TG) (tb:TS):TS:=fun D σ H=>wi σ H fun J H1=>∃W:Nat->Nat->St->Hp->Prop,(∃m,W 0 m σ H1)/\∀i m σ H,W i m σ H->
 (J.stop i H/\D.nx σ H)\/(J.go i H/\∃N:St->Hp->Prop,(∀σ' H',N σ' H'->∃m',m'<m/\W (i+1) m' σ' H')/\∀x H',J.Jw i H x H'->g x σ H' fun σ2 H2=>tb {D with nx:=N,ct:=N,bk:=D.nx} σ2 H2)
def tO (fp:List Addr) (h:Heap):List (Addr×Obj):=fp.filterMap fun b=>(h.get? b).map fun o=>(b,o)
def gm (hb:b∈fp) (e:h.get? b=some o):(b,o)∈tO fp h:=List.mem_filterMap.mpr ⟨b,hb,by rw[e];rfl⟩
def JW (hp:p∈tO fp h):p.1∈fp/\h.get? p.1=some p.2:=by
 obtain⟨b,hb,e⟩:=List.mem_filterMap.mp hp;cases q:h.get? b with
 | none=>rw[q] at e;cases e
 | some o=>
  rw[q] at e;have e':(b,o)=p:=yj e;subst e';exact⟨hb,q⟩
def Inv.pinned (I:Inv X pins σ H s) (hf:∀b∈fp,qQ X pins H b) (ho:∀b∈fp,∃o,s.heap.get? b=some o/\∀v,o.data≠.cell v):Inv X (pins++tO fp s.heap) σ H s:=
 I.oC fun p hp=>(zF.mp hp).elim (fun z=>I.pin p (zH _ z)) fun z=>by
  obtain⟨hb,e⟩:=JW z;obtain⟨f0,f1,f2,_⟩:=hf p.1 hb;obtain⟨o,e',d⟩:=ho p.1 hb;rw[e] at e';cases e';exact⟨e,f0,f1,f2,d⟩
def Inv.w8 (I:Inv X (pins++pl) σ H s):Inv X pins σ H s:=I.oC fun p hp=>I.pin p (zH _ (zI _ hp))
def cB (hp:PassesOwn (model X.prog X.w) X.A X.env X.xe) (hc:X.calm=true) (hi:PI X tg iter wi) (hg:PG X tg g) (hb:Cz X body tb)
  (hs:(∀x,foldedSetIterable iter X.env x=pure x)<|>qd_):PS X (.For tg iter body [] pos) (Pb wi g tb):=by
 intro pins s σ H D I h;refine wpAny_For (cQ (hi pins s σ H _ I h) fun v s1 h1=>cQ h1 fun itv s2 h2=>?_) hs;obtain⟨it,fp,tn,J,H2,e,I2,T,st2,f2,W,⟨m0,w0⟩,turn⟩:=h2;subst e;have stat:∀{H':Hp},(∀b∈fp,H' b=none)->∀b∈fp,qQ X pins H' b:=fun hn b hb=>⟨hn b hb,(f2 b hb).2⟩
 refine codeAny_forLoop_any (fun n s'=>∃i σ' H',Inv X pins σ' H' s'/\tn i s'.heap/\(∀b∈fp,H' b=none)/\W i n σ' H') ?_ m0 ⟨0,σ,H2,I2,st2,fun b hb=>(f2 b hb).1,w0⟩;rintro n s3 ⟨i,σ3,H3,I3,st3,fr3,w3⟩;rcases turn i n σ3 H3 w3 with⟨stop,qn⟩ | ⟨go,N,hN,step⟩
 ·refine wpAny_passesOwn hp (cQ (T.done X rfl rfl rfl hc i pins s3 σ3 H3 X.xe I3 (stat fr3) st3 stop) fun r s4 ⟨hr,I4⟩=>?_)
  subst hr;exact wpAny_execs_nil ⟨σ3,H3,I4,qn⟩
 ·refine wpAny_passesOwn hp (cQ (T.item X rfl rfl rfl hc i pins s3 σ3 H3 X.xe I3 (stat fr3) st3 go) fun r s4 ⟨u,hr,h4⟩=>?_)
  subst hr;refine wpAny_passesOwn hp (cQ h4 fun _ s5 zz=>?_);obtain⟨x,H5,I5,r5,y5,st5,fr5⟩:=zz;have I5':=I5.pinned (stat fr5) (T.obj _ _ st5);refine wpAny_passesOwn hp (cQ (hg _ s5 σ3 H5 x u _ I5' r5 (step x H5 y5)) fun _ s6 ⟨σ6,H6,I6,q6⟩=>?_);refine wpAny_passesOwn hp (cQ (hb _ s6 σ6 H6 _ I6 q6) fun f s7 q7=>?_);have again:∀{σ7:St} {H7:Hp},Inv X (pins++tO fp s5.heap) σ7 H7 s7->N σ7 H7->∃m,m<n/\∃i σ' H',Inv X pins σ' H' s7/\tn i s7.heap/\(∀b∈fp,H' b=none)/\W i m σ' H':=fun {σ7 H7} I7 n7=>by
   obtain⟨m',hm,w7⟩:=hN σ7 H7 n7;refine⟨m',hm,i+1,σ7,H7,I7.w8,T.keep _ _ _ st5 fun b hb o e=>(I7.pin (b,o) (zH _ (zH _ (gm hb e)))).1,fun b hb=>?_,w7⟩;obtain⟨o,e,d⟩:=T.obj _ _ st5 b hb;exact(I7.pin (b,o) (zH _ (zH _ (gm hb e)))).2.1
  cases f with
  | next=>obtain⟨σ7,H7,I7,n7⟩:=q7;exact again I7 n7
  | cont=>obtain⟨σ7,H7,I7,n7⟩:=q7;exact again I7 n7
  | brk=>obtain⟨σ7,H7,I7,q7⟩:=q7;exact⟨σ7,H7,I7.w8,q7⟩
  | ret v=>obtain⟨x7,σ7,H7,I7,r7,q7⟩:=q7;exact⟨x7,σ7,H7,I7.w8,r7,q7⟩
end
def dP {K:yA} {a:Addr} {xs:List V} {g:TG} {tb:TS} {D:Ends} {σ:St} {H:Hp} (Pv:Nat->St->Hp->Prop) (h0:Pv 0 σ H) (hl:∀i σ H,i<=xs.length->Pv i σ H->aI K H a xs)
  (hs:∀i x σ H,xs[i]?=some x->Pv i σ H->g x σ H fun σ2 H2=>tb {D with nx:=Pv (i+1),ct:=Pv (i+1),bk:=D.nx} σ2 H2) (hd:∀σ H,Pv xs.length σ H->D.nx σ H) :
  ∃W:Nat->Nat->St->Hp->Prop,(∃m,W 0 m σ H)/\∀i m σ H,W i m σ H->
   ((MY K a).stop i H/\D.nx σ H)\/((MY K a).go i H/\∃N:St->Hp->Prop,(∀σ' H',N σ' H'->∃m',m'<m/\W (i+1) m' σ' H')/\∀x H',(MY K a).Jw i H x H'->g x σ H' fun σ2 H2=>tb {D with nx:=N,ct:=N,bk:=D.nx} σ2 H2):=by
 refine⟨fun i m σ H=>m=xs.length-i/\i<=xs.length/\Pv i σ H,⟨xs.length,by simp,yf _,h0⟩,?_⟩;rintro i m σ H ⟨rfl,hi,p⟩;have q:=hl i σ H hi p
 by_cases hlt:i<xs.length
 ·refine .inr ⟨⟨xs,xs[i],q,by simp[hlt]⟩,Pv (i+1),fun σ' H' p'=>⟨xs.length-(i+1),nofun,rfl,hlt,p'⟩,fun x H' y=>?_⟩
  obtain⟨e,y⟩:=y;subst e;exact hs i x σ _ (y xs q) p
 ·have e:i=xs.length:=nofun
  subst e;exact .inl ⟨⟨xs,q,zk _⟩,hd σ H p⟩
def Ja {K:yA} {a:Addr} {xs:List V} {g:TG} {tb:TS} {D:Ends} {σ:St} {H:Hp} (Pv:Nat->St->Hp->Prop) (h0:Pv 0 σ H) (hl:∀i σ H,i<=xs.length->Pv i σ H->du K H a xs)
  (hs:∀i x σ H,xs[i]?=some x->Pv i σ H->g x σ H fun σ2 H2=>tb {D with nx:=Pv (i+1),ct:=Pv (i+1),bk:=D.nx} σ2 H2) (hd:∀σ H,Pv xs.length σ H->D.nx σ H) :
  ∃W:Nat->Nat->St->Hp->Prop,(∃m,W 0 m σ H)/\∀i m σ H,W i m σ H->
   ((OS K a).stop i H/\D.nx σ H)\/((OS K a).go i H/\∃N:St->Hp->Prop,(∀σ' H',N σ' H'->∃m',m'<m/\W (i+1) m' σ' H')/\∀x H',(OS K a).Jw i H x H'->g x σ H' fun σ2 H2=>tb {D with nx:=N,ct:=N,bk:=D.nx} σ2 H2):=by
 refine⟨fun i m σ H=>m=xs.length-i/\i<=xs.length/\Pv i σ H,⟨xs.length,by simp,yf _,h0⟩,?_⟩;rintro i m σ H ⟨rfl,hi,p⟩;have q:=hl i σ H hi p
 by_cases hlt:i<xs.length
 ·refine .inr ⟨⟨xs,xs[i],q,by simp[hlt]⟩,Pv (i+1),fun σ' H' p'=>⟨xs.length-(i+1),nofun,rfl,hlt,p'⟩,fun x H' y=>?_⟩
  obtain⟨e,y⟩:=y;subst e;exact hs i x σ _ (y xs q) p
 ·have e:i=xs.length:=nofun
  subst e;exact .inl ⟨⟨xs,q,zk _⟩,hd σ H p⟩
def gq {lo:Int} {n:Nat} {g:TG} {tb:TS} {D:Ends} {σ:St} {H:Hp} (Pv:Nat->St->Hp->Prop) (h0:Pv 0 σ H)
  (hs:∀i σ H,i<n->Pv i σ H->g (.int (lo+i)) σ H fun σ2 H2=>tb {D with nx:=Pv (i+1),ct:=Pv (i+1),bk:=D.nx} σ2 H2) (hd:∀σ H,Pv n σ H->D.nx σ H) :
  ∃W:Nat->Nat->St->Hp->Prop,(∃m,W 0 m σ H)/\∀i m σ H,W i m σ H->
   ((MX lo n).stop i H/\D.nx σ H)\/((MX lo n).go i H/\∃N:St->Hp->Prop,(∀σ' H',N σ' H'->∃m',m'<m/\W (i+1) m' σ' H')/\∀x H',(MX lo n).Jw i H x H'->g x σ H' fun σ2 H2=>tb {D with nx:=N,ct:=N,bk:=D.nx} σ2 H2):=by
 refine⟨fun i m σ H=>m=n-i/\i<=n/\Pv i σ H,⟨n,by simp,yf _,h0⟩,?_⟩;rintro i m σ H ⟨rfl,hi,p⟩
 by_cases hlt:i<n
 ·refine .inr ⟨hlt,Pv (i+1),fun σ' H' p'=>⟨n-(i+1),nofun,rfl,hlt,p'⟩,fun x H' y=>?_⟩
  obtain⟨e,y⟩:=y;subst e y;exact hs i σ _ hlt p
 ·have e:i=n:=nofun
  subst e;exact .inl ⟨zk _,hd σ H p⟩
end L2
namespace L2
open PySem PySem.Spec PyProof.Rows
abbrev R2:=V->V->Hp->VK->Prop
def oO (X:Cx) (f:Value->Value->Sem Value) (r:R2):Prop:=
 ∀(pins:List (Addr×Obj)) (s:Shared) (σ:St) (H:Hp) (x y:V) (v u:Value) (Q:VK),Inv X pins σ H s->RelV x v->RelV y u->r x y H Q->
  wpAny (model X.prog X.w) X.A (f v u) (EP X pins σ Q) X.xe s
def SW (X:Cx) (f:Value->Sem Value) (r:V->Hp->VK->Prop):Prop:=
 ∀(pins:List (Addr×Obj)) (s:Shared) (σ:St) (H:Hp) (x:V) (v:Value) (Q:VK),Inv X pins σ H s->RelV x v->r x H Q->
  wpAny (model X.prog X.w) X.A (f v) (EP X pins σ Q) X.xe s
def fJ (X:Cx) (f:Value) (r:List V->Hp->VK->Prop):Prop:=
 ∀(pins:List (Addr×Obj)) (s:Shared) (σ:St) (H:Hp) (xs:List V) (us:List Value) (Q:VK),Inv X pins σ H s->Vals xs us->r xs H Q->
  wpAny (model X.prog X.w) X.A (call f us) (EP X pins σ Q) X.xe s
def fA (r:R2) (ta tb:TE):TE:=fun σ H Q=>ta σ H fun x H1=>tb σ H1 fun y H2=>r x y H2 Q
def Tp (r:V->Hp->VK->Prop) (ta:TE):TE:=fun σ H Q=>ta σ H fun x H1=>r x H1 Q
def rI (C:Int->Int->Prop) (g:Int->Int->V):R2:=fun x y H Q=>∃i j,x=.int i/\y=.int j/\C i j/\Q (g i j) H
def vM (g:Int->Int->V):R2:=fun x y H Q=>∃i j,x=.int i/\y=.int j/\Q (g i j) H
def rU (g:Int->V):V->Hp->VK->Prop:=fun x H Q=>∃i,x=.int i/\Q (g i) H
section
variable {X:Cx} {a b c:Expr} {ta tb tc:TE} {pos:Pos}
def Qk (ha:PE X a ta) (hb:PE X b tb) {pins:List (Addr×Obj)} {s:Shared} {σ:St} {H:Hp} {R:V->V->Hp->Prop} (I:Inv X pins σ H s)
  (h:ta σ H fun x H1=>tb σ H1 fun y H2=>R x y H2) {Q:Value->Shared->Prop} {f:Value->Value->Sem Value}
  (hf:∀v u s2 x y H2,Inv X pins σ H2 s2->RelV x v->RelV y u->R x y H2->wpAny (model X.prog X.w) X.A (f v u) Q X.xe s2) :
  wpAny (model X.prog X.w) X.A (eval a X.env) (fun v s₁=>wpAny (model X.prog X.w) X.A (eval b X.env) (fun u s₂=>wpAny (model X.prog X.w) X.A (f v u) Q X.xe s₂) X.xe s₁) X.xe s:=by
 refine cQ (ha pins s σ H _ I h) fun v s1 zz=>?_;obtain⟨x,H1,I1,r1,q1⟩:=zz;refine cQ (hb pins s1 σ H1 _ I1 q1) fun u s2 zz=>?_;obtain⟨y,H2,I2,r2,q2⟩:=zz;exact hf v u s2 x y H2 I2 r1 r2 q2
def ar {op:Operator} {r:R2} (ho:oO X (binaryOp op) r) (ha:PE X a ta) (hb:PE X b tb):PE X (.BinOp a op b pos) (fA r ta tb):=by
 intro pins s σ H Q I h;exact wpAny_BinOp (Qk ha hb I h fun v u s2 x y H2 I2 rx ry q=>ho pins s2 σ H2 x y v u Q I2 rx ry q)
def rT (ho:SW X (unaryOp op) r) (ha:PE X a ta):PE X (.UnaryOp op a pos) (Tp r ta):=by
 intro pins s σ H Q I h;exact UnaryOp_ (cQ (ha pins s σ H _ I h) fun v s1 ⟨x,H1,I1,r1,q1⟩=>ho pins s1 σ H1 x v Q I1 r1 q1)
def Qv {f:Value->Value->Sem Value} {C:Int->Int->Prop} {g:Int->Int->Int}
  (rule:∀(i j:Int) (t u:Tok) (s:Shared) (Q:Value->Shared->Prop) (E:Value->Shared->Prop),C i j->Q (.int (g i j) s.toks) {s with toks:=s.toks+1}->wpAny (model X.prog X.w) X.A (f (.int i t) (.int j u)) Q E s) :
  oO X f (rI C fun i j=>.int (g i j)):=by
 intro pins s σ H x y v u Q I rx ry h;obtain⟨i,j,rfl,rfl,hc,q⟩:=h;obtain⟨t,rfl⟩:=rx;obtain⟨t',rfl⟩:=ry;exact rule i j t t' s _ _ hc ⟨.int (g i j),H,I.tok _,⟨_,rfl⟩,q⟩
def PN {f:Value->Value->Sem Value} {g:Int->Int->Int}
  (rule:∀(i j:Int) (t u:Tok) (s:Shared) (Q:Value->Shared->Prop) (E:Value->Shared->Prop),Q (.int (g i j) s.toks) {s with toks:=s.toks+1}->wpAny (model X.prog X.w) X.A (f (.int i t) (.int j u)) Q E s) :
  oO X f (vM fun i j=>.int (g i j)):=by
 intro pins s σ H x y v u Q I rx ry h;obtain⟨i,j,rfl,rfl,q⟩:=h;obtain⟨t,rfl⟩:=rx;obtain⟨t',rfl⟩:=ry;exact rule i j t t' s _ _ ⟨.int (g i j),H,I.tok _,⟨_,rfl⟩,q⟩
def NP {f:Value->Value->Sem Value} {g:Int->Int->Bool}
  (rule:∀(i j:Int) (t u:Tok) (s:Shared) (Q:Value->Shared->Prop) (E:Value->Shared->Prop),Q (.bool (g i j)) s->wpAny (model X.prog X.w) X.A (f (.int i t) (.int j u)) Q E s) :
  oO X f (vM fun i j=>.bl (g i j)):=by
 intro pins s σ H x y v u Q I rx ry h;obtain⟨i,j,rfl,rfl,q⟩:=h;obtain⟨t,rfl⟩:=rx;obtain⟨t',rfl⟩:=ry;exact rule i j t t' s _ _ ⟨.bl (g i j),H,I,rfl,q⟩
def Qs (i j:Int):Prop:=0<j/\j<1073741824
def KO (i j:Int):Prop:=(-(2^64)<i/\i<2^64)\/(-(2^64)<j/\j<2^64)
def KO.ok (h:KO i j):IntMulOk i j:=by
 rcases h with⟨h1,h2⟩ | ⟨h1,h2⟩
 ·exact .of_left (intBits_le_64 h1 h2)
 ·exact .of_right (intBits_le_64 h1 h2)
def GS (k:Nat):(0:Int)<=2^k:=by
 rw[two_pow_cast];exact Int.natCast_nonneg _
def aX:oO X (binaryOp .Add) (vM fun i j=>.int (i+j)):=PN fun _ _ _ _ _ _ _ q=>add_int q
def ke:oO X (binaryOp .Sub) (vM fun i j=>.int (i-j)):=PN fun _ _ _ _ _ _ _ q=>sub_int q
def dU:oO X (binaryOp .Mult) (rI KO fun i j=>.int (i*j)):=Qv fun _ _ _ _ _ _ _ hc q=>mul_int q hc.ok
def aS:oO X (binaryOp .FloorDiv) (rI Qs fun i j=>.int (i/j)):=Qv fun i j _ _ _ _ _ hc q=>by
 have h1:(0:Int)<j:=hc.1;have h2:j<1073741824:=hc.2;exact floordiv_int nofun (by rw[Int.fdiv_eq_ediv_of_nonneg i nofun];exact q) (.inl (PyProof.noPylong_small nofun))
def aR:oO X (binaryOp .Mod) (rI (fun _ j=>0<j) fun i j=>.int (i%j)):=Qv fun i j _ _ _ _ _ hc q=>by
 have h1:(0:Int)<j:=hc;exact mod_int' nofun (by rw[Int.fmod_eq_emod_of_nonneg i nofun];exact q)
def PL:oO X (binaryOp .RShift) (rI (fun _ j=>0<=j) fun i j=>.int (i/2^j.toNat)):=Qv fun i j _ _ _ _ _ hc q=>
 rshift_int hc (by rw[Int.fdiv_eq_ediv_of_nonneg i (GS _)];exact q)
def PM:oO X (binaryOp .BitAnd) (vM fun i j=>.int (Builtin.bitAnd i j)):=PN fun _ _ _ _ _ _ _ q=>and_int q
def To {f:Value->Sem Value} {g:Int->Int}
  (rule:∀(i:Int) (t:Tok) (s:Shared) (Q:Value->Shared->Prop) (E:Value->Shared->Prop),Q (.int (g i) s.toks) {s with toks:=s.toks+1}->wpAny (model X.prog X.w) X.A (f (.int i t)) Q E s) :
  SW X f (rU fun i=>.int (g i)):=by
 intro pins s σ H x v Q I rx h;obtain⟨i,rfl,q⟩:=h;obtain⟨t,rfl⟩:=rx;exact rule i t s _ _ ⟨.int (g i),H,I.tok _,⟨_,rfl⟩,q⟩
def kZ:SW X (unaryOp .USub) (rU fun i=>.int (-i)):=To fun _ _ _ _ _ q=>neg_int q
end
def Nr:V->V->Bool
 | .bC,.bC=>true | .bC,.int _=>true | .int _,.bC=>true | .bC,.bl _=>true | .bl _,.bC=>true | .bC,.str _=>true | .str _,.bC=>true
 | .int _,.int _=>true | .bl _,.bl _=>true | .str _,.str _=>true | .Jj _,.Jj _=>true
 | .int _,.str _=>true | .str _,.int _=>true | .bl _,.str _=>true | .str _,.bl _=>true
 | _,_=>false
def Sx:R2:=fun x y H Q=>Nr x y=true/\Q (.bl (decide (x=y))) H
def Sv:R2:=fun x y H Q=>Nr x y=true/\Q (.bl (!decide (x=y))) H
def DG:decide (V.int i=V.int j)=(i == j):=by
 rw[Bool.eq_iff_iff];simp
def MH:decide (V.bl i=V.bl j)=(i == j):=by
 rw[Bool.eq_iff_iff];simp
def DE:decide (V.str i=V.str j)=(i == j):=by
 rw[Bool.eq_iff_iff];simp
def Je:decide (V.Jj i=V.Jj j)=(i.toList == j.toList):=by
 rw[Bool.eq_iff_iff];cases i;cases j;simp
section
variable {X:Cx} {a b c:Expr} {ta tb tc:TE} {pos:Pos}
def bX (I:Inv X pins σ H s) (q:Q (.bl k) H) (e:k=k'):EP X pins σ Q (.bool k') s:=by
 subst e;exact⟨.bl k,H,I,rfl,q⟩
def cY:oO X (compareOp .Eq) Sx:=by
 intro pins s σ H x y v u Q I rx ry h;obtain⟨hs,q⟩:=h;cases x with
 | bC=>
  cases rx;cases y with
  | bC=>cases ry;exact PySem.EqNone.eq_none_none (bX I q (by simp))
  | bl j=>cases ry;exact PySem.EqNone.eq_none_bool (bX I q (by simp))
  | int j=>obtain⟨t',rfl⟩:=ry;exact PySem.EqNone.eq_none_int (bX I q (by simp))
  | str j=>obtain⟨t',rfl⟩:=ry;exact PySem.EqNone.eq_none_str (bX I q (by simp))
  | _=>exact absurd (show false=true from hs) zK
 | bl i=>
  cases rx;cases y with
  | bC=>cases ry;exact PySem.EqNone.eq_bool_none (bX I q (by simp))
  | bl j=>cases ry;exact eq_bool (bX I q MH)
  | str j=>obtain⟨t',rfl⟩:=ry;exact PySem.EqMixed.eq_bool_str (bX I q (by simp))
  | _=>exact absurd (show false=true from hs) zK
 | int i=>
  obtain⟨t,rfl⟩:=rx;cases y with
  | bC=>cases ry;exact PySem.EqNone.eq_int_none (bX I q (by simp))
  | int j=>obtain⟨t',rfl⟩:=ry;exact eq_int (bX I q DG)
  | str j=>obtain⟨t',rfl⟩:=ry;exact PySem.EqMixed.eq_int_str (bX I q (by simp))
  | _=>exact absurd (show false=true from hs) zK
 | str i=>
  obtain⟨t,rfl⟩:=rx;cases y with
  | bC=>cases ry;exact PySem.EqNone.eq_str_none (bX I q (by simp))
  | bl j=>cases ry;exact PySem.EqMixed.eq_str_bool (bX I q (by simp))
  | int j=>obtain⟨t',rfl⟩:=ry;exact PySem.EqMixed.eq_str_int (bX I q (by simp))
  | str j=>obtain⟨t',rfl⟩:=ry;exact eq_str (bX I q DE)
  | _=>exact absurd (show false=true from hs) zK
 | Jj i=>
  obtain⟨t,rfl⟩:=rx;cases y with
  | Jj j=>obtain⟨t',rfl⟩:=ry;exact PySem.W.eq_bytes (bX I q Je)
  | _=>exact absurd (show false=true from hs) zK
 | _=>cases y <;> exact absurd (show false=true from hs) zK
def jQ:oO X (compareOp .NotEq) Sv:=by
 intro pins s σ H x y v u Q I rx ry h;obtain⟨hs,q⟩:=h;cases x with
 | bC=>
  cases rx;cases y with
  | bC=>cases ry;exact PySem.EqNone.ne_none_none (bX I q (by simp))
  | bl j=>cases ry;exact PySem.EqNone.ne_none_bool (bX I q (by simp))
  | int j=>obtain⟨t',rfl⟩:=ry;exact PySem.EqNone.ne_none_int (bX I q (by simp))
  | str j=>obtain⟨t',rfl⟩:=ry;exact PySem.EqNone.ne_none_str (bX I q (by simp))
  | _=>exact absurd (show false=true from hs) zK
 | bl i=>
  cases rx;cases y with
  | bC=>cases ry;exact PySem.EqNone.ne_bool_none (bX I q (by simp))
  | bl j=>cases ry;exact ne_bool (bX I q (congrArg not MH))
  | str j=>obtain⟨t',rfl⟩:=ry;exact PySem.EqMixed.ne_bool_str (bX I q (by simp))
  | _=>exact absurd (show false=true from hs) zK
 | int i=>
  obtain⟨t,rfl⟩:=rx;cases y with
  | bC=>cases ry;exact PySem.EqNone.ne_int_none (bX I q (by simp))
  | int j=>obtain⟨t',rfl⟩:=ry;exact ne_int (bX I q (congrArg not DG))
  | str j=>obtain⟨t',rfl⟩:=ry;exact PySem.EqMixed.ne_int_str (bX I q (by simp))
  | _=>exact absurd (show false=true from hs) zK
 | str i=>
  obtain⟨t,rfl⟩:=rx;cases y with
  | bC=>cases ry;exact PySem.EqNone.ne_str_none (bX I q (by simp))
  | bl j=>cases ry;exact PySem.EqMixed.ne_str_bool (bX I q (by simp))
  | int j=>obtain⟨t',rfl⟩:=ry;exact PySem.EqMixed.ne_str_int (bX I q (by simp))
  | str j=>obtain⟨t',rfl⟩:=ry;exact ne_str (bX I q (congrArg not DE))
  | _=>exact absurd (show false=true from hs) zK
 | Jj i=>
  obtain⟨t,rfl⟩:=rx;cases y with
  | Jj j=>obtain⟨t',rfl⟩:=ry;exact PySem.W.ne_bytes (bX I q (congrArg not Je))
  | _=>exact absurd (show false=true from hs) zK
 | _=>cases y <;> exact absurd (show false=true from hs) zK
def eY:oO X (compareOp .Lt) (vM fun i j=>.bl (decide (i<j))):=NP fun _ _ _ _ _ _ _ q=>lt_int q
def gh:oO X (compareOp .LtE) (vM fun i j=>.bl (decide (i<=j))):=NP fun _ _ _ _ _ _ _ q=>le_int q
def fi:oO X (compareOp .Gt) (vM fun i j=>.bl (decide (j<i))):=NP fun _ _ _ _ _ _ _ q=>gt_int q
def B6:oO X (compareOp .GtE) (vM fun i j=>.bl (decide (j<=i))):=NP fun _ _ _ _ _ _ _ q=>ge_int q
def B5:oO X (compareOp .In) (fun x y H Q=>∃i j,x=.str i/\y=.str j/\Q (.bl (!(Builtin.Str.occurrences j i 0 j.length 1).isEmpty)) H):=by
 intro pins s σ H x y v u Q I rx ry h;obtain⟨i,j,rfl,rfl,q⟩:=h;obtain⟨t,rfl⟩:=rx;obtain⟨t',rfl⟩:=ry;exact in_str (bX I q rfl)
def jg (b:Expr) (h:op≠.In<|>qb_) (h2:op≠.NotIn<|>qb_):behindInMarks op b=false:=by
 have e1:(op == CmpOp.In)=false:=by cases op <;> first | rfl | exact absurd rfl h
 have e2:(op == CmpOp.NotIn)=false:=by cases op <;> first | rfl | exact absurd rfl h2
 cases b <;> simp[behindInMarks,e1,e2]
def dR (ho:oO X (compareOp op) r) (ha:PE X a ta) (hb:PE X b tb) (hm:behindInMarks op b=false):PE X (.Compare a [op] [b] pos) (fA r ta tb):=by
 intro pins s σ H Q I h;exact wpAny_Compare1 (Qk ha hb I h fun v u s2 x y H2 I2 rx ry q=>ho pins s2 σ H2 x y v u Q I2 rx ry q) hm
def mZ (t:TE):TT:=fun σ H Q=>t σ H fun x H'=>∃k,x=.bl k/\Q k H'
def iA (ho:oO X (compareOp op) r) (ha:PE X a ta) (hb:PE X b tb) (hm:behindInMarks op b=false):PT X (.Compare a [op] [b] pos) (mZ (fA r ta tb)):=by
 intro pins s σ H Q I h;refine wpAny_isTrue_Compare1 (cQ (ha pins s σ H _ I h) fun v s1 ⟨x,H1,I1,r1,q1⟩=>cQ (hb pins s1 σ H1 _ I1 q1) fun u s2 ⟨y,H2,I2,r2,q2⟩=>
  cQ (ho pins s2 σ H2 x y v u _ I2 r1 r2 q2) fun c s3 ⟨z,H3,I3,r3,k,e,q3⟩=>?_) hm
 subst e;cases r3;exact wpAny_truthy_bool ⟨H3,I3,q3⟩
def xj (r r':R2) (ta tb tc:TE):TE:=fun σ H Q=>ta σ H fun x H1=>tb σ H1 fun y H2=>r x y H2 fun z H3=>∃k,z=.bl k/\
 (if k=true then tc σ H3 fun w' H4=>r' y w' H4 Q else Q (.bl false) H3)
def Fh (ho:oO X (compareOp op) r) (ho':oO X (compareOp op') r') (ha:PE X a ta) (hb:PE X b tb) (hc:PE X c tc)
  (hm:lastMarks [op,op'] [b,c]=false<|>qf_):PE X (.Compare a [op,op'] [b,c] pos) (xj r r' ta tb tc):=by
 intro pins s σ H Q I h;refine Compare_chain (cQ (ha pins s σ H _ I h) fun v s1 ⟨x,H1,I1,r1,q1⟩=>chain_link (cQ (hb pins s1 σ H1 _ I1 q1) fun u s2 ⟨y,H2,I2,r2,q2⟩=>
  cQ (ho pins s2 σ H2 x y v u _ I2 r1 r2 q2) fun d s3 ⟨z,H3,I3,r3,k,e,q3⟩=>?_)) hm
 subst e;cases r3;refine wpAny_truthy_bool ?_;cases k with
 | false=>exact ite_ff ⟨.bl false,H3,I3,rfl,q3⟩
 | true=>exact ite_tt (chain_last (cQ (hc pins s3 σ H3 _ I3 q3) fun w' s4 ⟨z',H4,I4,r4,q4⟩=>ho' pins s4 σ H4 y z' u w' Q I4 r2 r4 q4))
def LN (ho:oO X (compareOp op) r) (ho':oO X (compareOp op') r') (ha:PE X a ta) (hb:PE X b tb) (hc:PE X c tc)
  (hm:lastMarks [op,op'] [b,c]=false<|>qf_):PT X (.Compare a [op,op'] [b,c] pos) (mZ (xj r r' ta tb tc)):=by
 intro pins s σ H Q I h;refine isTrue_chain (cQ (ha pins s σ H _ I h) fun v s1 ⟨x,H1,I1,r1,q1⟩=>test_link (cQ (hb pins s1 σ H1 _ I1 q1) fun u s2 ⟨y,H2,I2,r2,q2⟩=>
  cQ (ho pins s2 σ H2 x y v u _ I2 r1 r2 q2) fun d s3 ⟨z,H3,I3,r3,k,e,q3⟩=>?_)) hm
 subst e;cases r3;refine wpAny_truthy_bool ?_;cases k with
 | false=>
  obtain⟨k',e',q'⟩:=q3;cases e';exact ite_ff ⟨H3,I3,q'⟩
 | true=>
  refine ite_tt (test_last (cQ (hc pins s3 σ H3 _ I3 q3) fun w' s4 ⟨z',H4,I4,r4,q4⟩=>cQ (ho' pins s4 σ H4 y z' u w' _ I4 r2 r4 q4) fun d' s5 zz=>?_));obtain⟨z2,H5,I5,r5,k2,e2,q5⟩:=zz;subst e2;cases r5;exact wpAny_truthy_bool ⟨H5,I5,q5⟩
def yT:(sizeLine:Nat)<2^63:=by rw[yB];decide
def bO:oO X (binaryOp .Add) (fun x y H Q=>∃i j,x=.str i/\y=.str j/\i.length+j.length<=sizeLine/\Q (.str (i++j)) H):=by
 intro pins s σ H x y v u Q I rx ry h;obtain⟨i,j,rfl,rfl,hz,q⟩:=h;obtain⟨t,rfl⟩:=rx;obtain⟨t',rfl⟩:=ry;exact add_str (fun t' tk=>⟨.str (i++j),H,I.tok _,⟨_,rfl⟩,q⟩) hz
def vals1 (r:Vals [x] us):∃u,us=[u]/\RelV x u:=by
 cases r with
 | cons r1 r2=>cases r2;exact⟨_,rfl,r1⟩
def vals2 (r:Vals [x,y] us):∃u w',us=[u,w']/\RelV x u/\RelV y w':=by
 cases r with
 | cons r1 r2=>
  cases r2 with
  | cons r3 r4=>cases r4;exact⟨_,_,rfl,r1,r3⟩
def Gp:fJ X (.builtin "abs") (fun xs H Q=>∃i,xs=[.int i]/\Q (.int (if i<0 then -i else i)) H):=by
 intro pins s σ H xs us Q I r h;obtain⟨i,rfl,q⟩:=h;obtain⟨u,rfl,t,rfl⟩:=vals1 r;exact call_abs_int fun u tk=>⟨.int (if i<0 then -i else i),H,I.tok _,⟨_,rfl⟩,q⟩
def Kq (hc:X.calm=true):fJ X (.builtin "min") (fun xs H Q=>∃i j,xs=[.int i,.int j]/\Q (.int (if j<i then j else i)) H):=by
 intro pins s σ H xs us Q I r h;obtain⟨i,j,rfl,q⟩:=h;obtain⟨u,w',rfl,⟨t,rfl⟩,⟨t',rfl⟩⟩:=vals2 r;refine min_two_ints (I.ok.hd hc) fun h' tk k=>⟨_,H,I.kept k,?_,q⟩
 by_cases hj:j<i
 ·rw[if_pos hj,if_pos hj];exact⟨_,rfl⟩
 ·rw[if_neg hj,if_neg hj];exact⟨_,rfl⟩
def aT:fJ X (.type "str") (fun xs H Q=>∃i,xs=[.int i]/\i.natAbs.log2<1920/\Q (.str (toString i)) H):=by
 intro pins s σ H xs us Q I r h;obtain⟨i,rfl,hz,q⟩:=h;obtain⟨u,rfl,t,rfl⟩:=vals1 r;exact PySem.P.str_of_int hz ⟨.str _,H,I.tok _,⟨_,rfl⟩,q⟩
end
end L2
namespace L2
open PySem PySem.Spec PyProof.Rows
structure KI (h:Heap) (x dx C:Addr) (mA:Str->Option Value):Prop where
 obj:h.get? x=some (PySem.W.instObj C dx)
 ns:h.Ns1 dx mA
 ne:dx≠x
def J1 {h:Heap} {dx:Addr} {mA:Str->Option Value} (n:h.Ns1 dx mA):∃od,h.get? dx=some od/\∀name,PySem.W.lookIn name od=some (mA name):=by
 obtain⟨o,es,ep,ho,hd,hk,_,hm⟩:=n;refine⟨o,ho,fun name=>?_⟩;have e:=hm name;unfold nsFind findBy at e;rw[<-Array.find?_toList] at e;unfold PySem.W.lookIn;rw[hd];dsimp only;split
 ·rename_i y q
  rw[q] at e;exact congrArg some e
 ·rename_i q
  rw[q] at e;have a:es.toList.any (·.refKey)=false:=by
   rw[List.any_eq_false];intro y hy;obtain⟨z,t,hkey⟩:=hk y (Array.mem_toList_iff.mp hy);simp[DictEntry.refKey,hkey]
  have a':¬es.toList.any (·.refKey)=true:=by rw[a];exact zK
  rw[if_neg a'];exact congrArg some e
def KI.look (I:KI h x dx C mA):∃od,PySem.W.InstAt h x (PySem.W.instObj C dx) C (some od)/\∀name,PySem.W.lookIn name od=some (mA name):=
 let ⟨od,ho,hl⟩:=J1 I.ns
 ⟨od,⟨I.obj,rfl,rfl,ho⟩,hl⟩
section
variable {prog:Program} {w:World} {A:Around} {E:Value->Shared->Prop} {s:Shared} {K:yA} {x dx C f:Addr} {mA:Str->Option Value} {name:Str} {v:Value}
def get_map (X:K.In s.heap) (I:KI s.heap x dx C mA) (hg:PySem.W.plainGet K C name=true) (hh:PySem.W.hasDictIn K C=true)
  (ha:PySem.W.findIn K (.ref C) name=some none) (hv:mA name=some v) (hv':PySem.W.handedIn v=true) (h:Q v {s with toks:=s.toks+1}) :
  wpAny (model prog w) A (getAttr (.ref x) name expr) Q E s:=by
 obtain⟨od,J,hl⟩:=I.look;exact PySem.W.get_value X J (PySem.W.plainGet_of hg).1 (PySem.W.findObj_own hh ha rfl (by rw[hl,hv])) hv' h
def Nq (X:K.In s.heap) (I:KI s.heap x dx C mA)
  (hs:PySem.W.findIn K (.ref C) "__setattr__"= some (some (.builtin "object.__setattr__"))) (hp:PySem.W.plainOver K C=true) (ht:PySem.W.takerIn K C name=some none) (hh:PySem.W.hasDictIn K C=true)
  (hw:PySem.Within mA ns) (hsz:ns.length<=sizeLine)
  (h:∀h',KI h' x dx C (fun y=>if y=name then some v else mA y)->Heap.SameBut dx s.heap h'->Q () {s with heap:=h',toks:=s.toks+2}) :
  wpAny (model prog w) A (setAttr (.ref x) name v) Q E s:=by
 obtain⟨od,J,hl⟩:=I.look;refine PySem.W.set_plain X J hs (PySem.W.osa_open (s:={s with toks:=s.toks+1}) (r:=none) X J hp ht fun b=>?_);obtain⟨cd,hc,hd'⟩:=PySem.W.any_some hh;have hx:s.heap.get? x=some ⟨.ref C,some dx,.plain,#[]⟩:=I.obj;refine yt (yv (yt (yt (wpAny_loadPart hx (yt (PySem.W.Looks.here (s:={s with toks:=s.toks+1}) (PySem.W.looks_clsIn X hc) ?_))))));rw[hd'];refine yv (a:=some dx) (yt (yv (yt ?_)));refine wpAny_nsSet1 (s:={s with toks:=s.toks+1}) I.ns fun h' hn2 hs2=>?_;obtain⟨oD,esD,epD,hoD,hdD,hcD⟩:=hn2.count (PySem.Within.cons name v hw);refine yt (wpAny_lookBehind hoD (by rw[hdD];exact pastItsLine_dict (zL hcD (by rw[zt];omega))) ?_);exact yv (h _ ⟨(hs2.2 _ (Ne.symm I.ne)).trans I.obj,hn2,I.ne⟩ hs2)
def Mb (X:K.In s.heap) (hm:PySem.W.makesIn K C=true)
  (hi:PySem.W.findIn K (.ref C) "__init__"= some (some (.ref f))) (hf:PySem.W.typeIn K (.ref f)=some (.type "function"))
  (h:codeAny (model prog w) (A.under (.builtin "type.__call__" ⟨.ref C::vs,kw⟩)) (.call (.ref f) ⟨.ref (↑s+1)::vs,kw⟩) (PySem.W.InitBack (↑s+1) R)
   {s with heap:=(s.heap.push PySem.W.emptyDict).push (PySem.W.instObj C ↑s)}) :
  codeAny (model prog w) A (.call (.ref C) ⟨vs,kw⟩) R s:=by
 obtain⟨hh,g,d,t,os⟩:=s;exact PySem.W.make_core (PySem.W.makes_of X hm) (PySem.W.looks_findIn X hi) (fun self=>PySem.W.bind_fn X self hf) (.inl rfl) h
end
def aU (f:Str) (v:V):List (Str×V)->List (Str×V)
 | []=>[(f,v)]
 | (g,x)::r=>if g=f then(g,v)::r else(g,x)::aU f v r
theorem ve (f g:Str) (v:V):∀fs:List (Str×V),(aU f v fs).lookup g=if g=f then some v else fs.lookup g
 | []=>by
  show List.lookup g [(f,v)]=_
  by_cases h:g=f
  ·have hb:(g == f)=true:=beq_iff_eq.mpr h
   simp only[List.lookup,hb,if_pos h]
  ·have hb:(g == f)=false:=beq_eq_false_iff_ne.mpr h
   simp only[List.lookup,hb,if_neg h]
 | (k,x)::r=>by
  have ih:=ve f g v r;rw[show aU f v ((k,x)::r)=(if k=f then(k,v)::r else(k,x)::aU f v r) from rfl]
  by_cases hk:k=f
  ·rw[if_pos hk]
   by_cases h:g=k
   ·have hb:(g == k)=true:=beq_iff_eq.mpr h
    simp only[List.lookup,hb,if_pos (h.trans hk)]
   ·have hb:(g == k)=false:=beq_eq_false_iff_ne.mpr h
    simp only[List.lookup,hb,if_neg (fun e:g=f=>h (e.trans hk.symm))]
  ·rw[if_neg hk]
   by_cases h:g=k
   ·have hb:(g == k)=true:=beq_iff_eq.mpr h
    simp only[List.lookup,hb,if_neg (fun e:g=f=>hk (h.symm.trans e))]
   ·have hb:(g == k)=false:=beq_eq_false_iff_ne.mpr h
    simp only[List.lookup,hb];exact ih
theorem ud (f:Str) (v:V):∀fs:List (Str×V),f∈(aU f v fs).map (·.1)/\∀g,g∈fs.map (·.1)->g∈(aU f v fs).map (·.1)
 | []=>⟨by simp[aU],fun g h=>by simp at h⟩
 | (k,x)::r=>by
  obtain⟨i1,i2⟩:=ud f v r;rw[show aU f v ((k,x)::r)=(if k=f then(k,v)::r else(k,x)::aU f v r) from rfl]
  by_cases hk:k=f
  ·rw[if_pos hk]
   subst hk;exact⟨by simp,fun g h=>by simpa using h⟩
  ·rw[if_neg hk]
   refine⟨?_,fun g h=>?_⟩
   ·rw[zh]
    exact zm _ i1
   ·rw[zh] at h ⊢
    rcases zC.mp h with e | e
    ·exact zC.mpr (.inl e)
    ·exact zm _ (i2 g e)
theorem vg (f:Str) (v:V):∀fs:List (Str×V),(aU f v fs).length<=fs.length+1
 | []=>by simp[aU]
 | (k,x)::r=>by
  have ih:=vg f v r;rw[show aU f v ((k,x)::r)=(if k=f then(k,v)::r else(k,x)::aU f v r) from rfl]
  by_cases hk:k=f
  ·rw[if_pos hk,zt,zt];omega
  ·rw[if_neg hk,zt,zt];omega
def lZ.some_of (r:lZ (some v) o):∃u,o=some u/\RelV v u:=by
 cases o with
 | none=>exact(show False from r).elim
 | some u=>exact⟨u,rfl,r⟩
def Ka (r:RelV v u):PySem.W.handedIn u=true:=by
 cases v with
 | bC=>cases(show u=Value.none from r);rfl
 | bl b=>cases(show u=Value.bool b from r);rfl
 | int i=>obtain⟨t,e⟩:=(show∃t,u=Value.int i t from r);cases e;rfl
 | str x=>obtain⟨t,e⟩:=(show∃t,u=Value.str x t from r);cases e;rfl
 | Jj b=>obtain⟨t,e⟩:=(show∃t,u=Value.bytes b t from r);cases e;rfl
 | N0 b=>obtain⟨t,e⟩:=(show∃t,u=Value.float b t from r);cases e;rfl
 | ref a=>cases(show u=Value.ref a from r);rfl
 | ty n=>cases(show u=Value.type n from r);rfl
section
variable {P:Program} {w:World} {H H':Hp} {h h':Heap} {a C dx:Addr} {fs fs':List (Str×V)}
def Dy (bV:qP P w H h) (e:H a=some (.ins C dx fs)):∃mA,KI h a dx C mA/\(∀f,lZ (fs.lookup f) (mA f))/\PySem.Within mA (fs.map (·.1))/\fs.length<=1000/\H dx=some (.own a):=by
 obtain⟨d,z,ne,ob,mA,n,r,q⟩:=(show cx P w H h a (.ins C dx fs) from bV a _ e)
 exact⟨mA,⟨ob,n,ne⟩,r,q,z,d⟩
end
structure Om (K:yA) (C:Addr):Prop where
 pg:PySem.W.plainGet K C Str.empty=true
 hd:PySem.W.hasDictIn K C=true
 po:PySem.W.plainOver K C=true
 sa:PySem.W.findIn K (.ref C) "__setattr__"= some (some (.builtin "object.__setattr__"))
def Om.get {K:yA} {C:Addr} (c:Om K C) (f:Str):PySem.W.plainGet K C f=true:=c.pg
def eP (K:yA) (C:Addr) (f:Str):Prop:=PySem.W.findIn K (.ref C) f=some none
def eP.QG {K:yA} {C:Addr} {f:Str} (n:eP K C f):PySem.W.takerIn K C f=some none:=by
 unfold PySem.W.takerIn;rw[show PySem.W.findIn K (.ref C) f=some none from n];rfl
section
variable {X:Cx} {pins:List (Addr×Obj)} {σ:St} {H:Hp} {s:Shared} {a C dx:Addr} {fs:List (Str×V)} {f:Str} {v:V} {A:Around} {E:Value->Shared->Prop}
def HE (I:Inv X pins σ H s) (e:H a=some (.ins C dx fs)) (c:Om X.K C) (n:eP X.K C f) (l:fs.lookup f=some v)
  (h:∀u s',Inv X pins σ H s'->RelV v u->Q u s'):wpAny (model X.prog X.w) A (getAttr (.ref a) f b) Q E s:=by
 obtain⟨mA,O,r,_,_,_⟩:=Dy I.bV e;obtain⟨u,hu,ru⟩:=lZ.some_of (v:=v) (o:=mA f) (by rw[<-l];exact r f);exact get_map I.sr O (c.get f) c.hd n hu (Ka ru) (h u _ (I.tok _) ru)
def G5 (I:Inv X pins σ H s) (e:H a=some (.ins C dx fs)) (c:Om X.K C) (n:eP X.K C f) (hl:fs.length<1000) (ry:RelV y u)
  (h:∀s',Inv X pins σ (upd H a (.ins C dx (aU f y fs))) s'->Q () s'):wpAny (model X.prog X.w) A (setAttr (.ref a) f u) Q E s:=by
 obtain⟨mA,O,r,wi,_,ho⟩:=Dy I.bV e;have hz:(fs.map (·.1)).length<=sizeLine:=by rw[za,yB];omega
 refine Nq I.sr O c.sa c.po n.QG c.hd wi hz fun h' O' sb=>h _ ?_;have hd:∃o,h'.get? dx=some o:=let ⟨o,_,_,e',_⟩:=O'.ns;⟨o,e'⟩;refine I.write (x:=a) (e:=dx) (by rw[e];exact True.intro) (.inr ho) (fun b q hb z=>(sb.2 b hb).trans z) hd ?_;refine⟨by rw[aD O.ne];exact ho,?_,O.ne,O'.obj,_,O'.ns,fun g=>?_,fun g hg=>?_⟩
 ·have:=vg f y fs;omega
 ·show lZ ((aU f y fs).lookup g) (if g=f then some u else mA g)
  rw[ve]
  by_cases q:g=f
  ·rw[if_pos q,if_pos q];exact ry
  ·rw[if_neg q,if_neg q];exact r g
 ·by_cases q:g=f
  ·rw[q];exact(ud f y fs).1
  ·refine(ud f y fs).2 g (wi g fun z=>hg ?_)
   show(if g=f then some u else mA g)=none;rw[if_neg q];exact z
def Inv.made (I:Inv X pins σ H s):Inv X pins σ (upd (upd H ↑s (.own (↑s+1))) (↑s+1) (.ins C ↑s []))
  {s with heap:=(s.heap.push PySem.W.emptyDict).push (PySem.W.instObj C ↑s)}:=by
 have e1:(s.heap.push PySem.W.emptyDict).get? ↑s=some PySem.W.emptyDict:=yw s.heap rfl;have e2:((s.heap.push PySem.W.emptyDict).push (PySem.W.instObj C ↑s)).get? (↑s+1)=some (PySem.W.instObj C ↑s):=by
  have:=yw (s.heap.push PySem.W.emptyDict) (o:=PySem.W.instObj C ↑s) rfl
  rwa [Heap.size_push] at this
 have e3:(s.heap.push PySem.W.emptyDict).Ns ↑s (fun _=>none):=⟨PySem.W.emptyDict,#[],_,e1,rfl,(fun e he=>absurd he (by simp)),fun _=>rfl⟩
 have I1:=I.laid (a:=↑s) (o:=.own (↑s+1)) (h':=s.heap.push PySem.W.emptyDict) (t':=s.toks) (fun b u q=>yu _ q) (zk _) ⟨_,e1⟩;refine I1.laid (a:=↑s+1) (o:=.ins C ↑s []) (t':=s.toks) (fun b u q=>yu _ q) (Nat.le_of_eq (Heap.size_push _ _)) ?_;have ne:↑s≠↑s+1:=yi (Nat.lt_succ_self _);refine⟨by rw[aD ne,aC],yf _,ne,e2,fun _=>none,(Heap.Ns1.of_empty e3).at fun o q=>yu _ q,fun _=>True.intro,fun y hy=>absurd rfl hy⟩
def Ob (hb:attributeBase e f env (eval e env)=eval e env)
  (h:wpAny (model prog w) A (eval e env) (fun o s₁=>wpAny (model prog w) A (getAttr o f true) Q E s₁) E s):wpAny (model prog w) A (eval (.Attribute e f pos) env) Q E s:=
 Attribute_any_ h (by rw[arm_eval_Attribute,hb])
end
def Nh (K:yA) (ta:TE) (f:Str):TE:=fun σ H Q=>ta σ H fun x H1=>∃a C dx fs v,x=.ref a/\H1 a=some (.ins C dx fs)/\Om K C/\eP K C f/\fs.lookup f=some v/\Q v H1
def Ss (K:yA) (ta tv:TE) (f:Str):TS:=fun D σ H=>tv σ H fun y H1=>ta σ H1 fun x H2=>∃a C dx fs,x=.ref a/\H2 a=some (.ins C dx fs)/\Om K C/\eP K C f/\fs.length<1000/\
 D.nx σ (upd H2 a (.ins C dx (aU f y fs)))
section
variable {X:Cx} {o e value:Expr} {f:Str} {pos pos' tpos:Pos} {ta tv:TE}
def bD (he:PE X e ta) (hb:attributeBase e f X.env (eval e X.env)=eval e X.env):PE X (.Attribute e f pos) (Nh X.K ta f):=by
 intro pins s σ H Q I h;refine Ob hb (cQ (he pins s σ H _ I h) fun u s1 zz=>?_);obtain⟨x,H1,I1,rx,a,C,dx,fs,v,ex,ea,c,n,l,q⟩:=zz;subst ex;obtain rfl:u=Value.ref a:=rx;exact HE I1 ea c n l fun u' s2 I2 ru=>⟨v,H1,I2,ru,q⟩
def je (ha:PE X o ta) (hv:PE X value tv) (hs:swapsWith value (some (.Attribute o f pos')) pos.line X.env=pure false):PS X (.Assign [.Attribute o f pos'] value pos) (Ss X.K ta tv f):=by
 intro pins s σ H D I h;refine plainObj_wpAny_Assign_Attribute (cQ (hv pins s σ H _ I h) fun u s1 ⟨y,H1,I1,ry,q⟩=>cQ (ha pins s1 σ H1 _ I1 q) fun ov s2 ⟨x,H2,I2,rx,a,C,dx,fs,ex,ea,c,n,l,q2⟩=>?_) hs;subst ex;obtain rfl:ov=Value.ref a:=rx;exact G5 I2 ea c n l ry fun s3 I3=>⟨σ,_,I3,q2⟩
end
section
variable {X:Cx} {pins:List (Addr×Obj)} {σ:St} {H:Hp} {s:Shared} {A:Around} {E:Value->Shared->Prop} {Q:Value->Shared->Prop} {c:Value} {b:Bool}
inductive uF (K:yA) (H:Hp):V->Value->Prop where
 | bC:uF K H .bC (.type "NoneType")
 | bl (x:Bool):uF K H (.bl x) (.type "bool")
 | int (i:Int):uF K H (.int i) (.type "int")
 | str (x:Str):uF K H (.str x) (.type "str")
 | N0 (x:UInt64):uF K H (.N0 x) (.type "float")
 | lst {a:Addr} {xs:List V} (e:H a=some (.lst xs)):uF K H (.ref a) (.type "list")
 | mW {a:Addr} {o:Obj} {xs:List V} (e:H a=some (.mW o (.lst xs))):uF K H (.ref a) (.type "list")
 | tup {a:Addr} {xs:List V} (e:H a=some (.tup xs)):uF K H (.ref a) (.type "tuple")
 | dK {a:Addr} {kvs:List (Key×V)} (e:H a=some (.dK kvs)):uF K H (.ref a) (.type "dict")
 | dT {a:Addr} {kvs:List (List Key×V)} (e:H a=some (.dT kvs)):uF K H (.ref a) (.type "dict")
 | ins {a C dx:Addr} {fs:List (Str×V)} (e:H a=some (.ins C dx fs)) (cl:Om K C) (ha:PySem.W.findIn K (.ref C) "__class__"= some (some (.builtin "object.__class__")))
   (hn:PySem.W.specialIn K (.builtin "object.__class__") "__get__"= some (some (.builtin "getset_descriptor.__get__"))) (htk:PySem.W.takesIn K (.builtin "object.__class__")=some true)
   (hm:PySem.W.mroIn K C (.type "object")=some true):uF K H (.ref a) (.ref C)
def J6 (I:Inv X pins σ H s) (rx:RelV x u) (ty:uF X.K H x t) (e:PySem.W.kitOne X.K t c=some b) (h:∀tk,Q (.bool b) {s with toks:=tk}) :
  wpAny (model X.prog X.w) A (call (.builtin "isinstance") [u,c]) Q E s:=by
 cases ty with
 | bC=>cases(show u=Value.none from rx);exact PySem.W.kia_one PySem.W.kitx_none I.sr True.intro e (fun z=>nomatch z) h
 | bl y=>cases(show u=Value.bool y from rx);exact PySem.W.kia_one PySem.W.kitx_bool I.sr True.intro e (fun z=>nomatch z) h
 | int i=>obtain⟨t,q⟩:=(show∃t,u=Value.int i t from rx);cases q;exact PySem.W.kia_one PySem.W.kitx_int I.sr True.intro e (fun z=>nomatch z) h
 | str y=>obtain⟨t,q⟩:=(show∃t,u=Value.str y t from rx);cases q;exact PySem.W.kia_one PySem.W.kitx_str I.sr True.intro e (fun z=>nomatch z) h
 | N0 y=>obtain⟨t,q⟩:=(show∃t,u=Value.float y t from rx);cases q;exact PySem.W.kia_one PySem.W.kitx_float I.sr True.intro e (fun z=>nomatch z) h
 | @lst a xs ea=>
  cases(show u=Value.ref a from rx);obtain⟨_,_,n,_,h1⟩:=(show cx X.prog X.w H s.heap a (.lst xs) from I.bV a _ ea)
  exact PySem.W.kia_one PySem.W.kitx_list I.sr ⟨_,h1,rfl⟩ e (fun z=>nomatch z) h
 | @mW a ob xs ea=>
  cases(show u=Value.ref a from rx);obtain⟨_,_,_,n,_,h1⟩:=(show cx X.prog X.w H s.heap a (.mW ob (.lst xs)) from I.bV a _ ea)
  exact PySem.W.kia_one PySem.W.kitx_list I.sr ⟨_,h1,rfl⟩ e (fun z=>nomatch z) h
 | @tup a xs ea=>
  cases(show u=Value.ref a from rx);obtain⟨_,_,_,p⟩:=(show cx X.prog X.w H s.heap a (.tup xs) from I.bV a _ ea)
  obtain⟨o,h1,h2,_⟩:=p;exact PySem.W.kia_one PySem.W.kitx_tuple I.sr ⟨o,h1,h2⟩ e (fun z=>nomatch z) h
 | @dK a kvs ea=>
  cases(show u=Value.ref a from rx);obtain⟨_,_,vs,_,p⟩:=(show cx X.prog X.w H s.heap a (.dK kvs) from I.bV a _ ea)
  obtain⟨o,es,ep,h1,h2,_⟩:=p;exact PySem.W.kia_one PySem.W.kitx_dict I.sr ⟨o,h1,h2.1⟩ e (fun z=>nomatch z) h
 | @dT a kvs ea=>
  cases(show u=Value.ref a from rx);obtain⟨_,_,xs,_,o,es,ep,h1,h2,_⟩:=(show cx X.prog X.w H s.heap a (.dT kvs) from I.bV a _ ea)
  exact PySem.W.kia_one PySem.W.kitx_dict I.sr ⟨o,h1,h2.1⟩ e (fun z=>nomatch z) h
 | @ins a C dx fs ea cl ha hn htk hm=>
  cases(show u=Value.ref a from rx);obtain⟨mA,O,_⟩:=Dy I.bV ea;obtain⟨od,J,_⟩:=O.look;exact PySem.W.kia_one (PySem.W.kitx_own (cl.get _) cl.hd ha hn htk hm) I.sr J e (fun z=>nomatch z) h
end
end L2
namespace L2
open PySem PySem.Spec PyProof.Rows
structure fK (k:Nat) (A:Around):Prop where
 hd:A.handled=none
 dp:A.depth+3*k+5<recursionLimit
 un:A.units+16*k+200<cLine
def fK.mono (r:fK k A) (h:j<=k):fK j A:=⟨r.hd,by have:=r.dp;omega,by have:=r.un;omega⟩
theorem fK.deeper (r:fK (k+1) A) (env:Env):fK k (A.deeper env):=
 ⟨r.hd,by have:=r.dp;show A.depth+1+3*k+5<_;omega,by have:=r.un;show A.units+3+16*k+200<_;omega⟩
def Hz {A:Around} {C:Addr} {us:List Value} {kw:List (Str×Value)}:(A.under (.builtin "type.__call__" ⟨.ref C::us,kw⟩)).depth=A.depth+1:=by
 first | rfl | simp[Around.under,Code.weight,Code.isCreation,Code.isGuard,Code.isCaller,Code.frames,Code.isFrame,guardIds]
def Hy {A:Around} {C:Addr} {us:List Value} {kw:List (Str×Value)}:(A.under (.builtin "type.__call__" ⟨.ref C::us,kw⟩)).units=A.units+1:=by
 first | rfl | simp[Around.under,Code.cUnits,Code.frames,Code.isFrame]
def fK.make (r:fK (k+1) A) (C:Addr) (us:List Value) (kw:List (Str×Value)):fK k (A.under (.builtin "type.__call__" ⟨.ref C::us,kw⟩)):=
 ⟨r.hd,by have:=r.dp;rw[Hz];omega,by have:=r.un;rw[Hy];omega⟩
theorem fK.depth (r:fK k A):A.depth<recursionLimit:=by have:=r.dp;omega
theorem fK.units (r:fK k A):A.units+64<cLine:=by have:=r.un;omega
def eI:TA:=fun _ H Q=>Q [] H
def bK (ta:TE) (tr:TA):TA:=fun σ H Q=>ta σ H fun x H1=>tr σ H1 fun xs H2=>Q (x::xs) H2
section
variable {X:Cx} {e:Expr} {es:List Expr} {te:TE} {t:TA} {pos:Pos}
def af:PA X [] eI:=fun _ _ _ _ H Q I h=>Calls.spliced_nil ⟨[],H,I,.nil,h⟩
def ah (ha:PE X e te) (hr:PA X es t) (hs:starEach (e::es) X.env=(false,eval e X.env)::starEach es X.env<|>qe_):PA X (e::es) (bK te t):=by
 intro pos pins s σ H Q I h;rw[hs];show wpAny _ _ (spliced ((false,eval e X.env)::backTo pos (starEach es X.env))) _ _ s;refine Calls.spliced_cons (cQ (ha pins s σ H _ I h) fun u s1 zz=>?_);obtain⟨x,H1,I1,r1,q1⟩:=zz;exact cQ (hr pos pins s1 σ H1 _ I1 q1) fun us s2 ⟨xs,H2,I2,r2,q2⟩=>⟨x::xs,H2,I2,.cons r1 r2,q2⟩
def EH (t:TA):TE:=fun σ H Q=>t σ H fun xs H1=>xs.length<=sizeLine/\∀p,H1 p=none->Q (.ref p) (upd H1 p (.tup xs))
def EJ (t:TA):TE:=fun σ H Q=>t σ H fun xs H1=>xs.length<=sizeLine/\∀p,H1 p=none->Q (.ref p) (upd H1 p (.lst xs))
def bF {x1} (h:PA X es t):PE X (.Tuple es x1 pos) (EH t):=by
 intro pins s σ H Q I hq;refine wpAny_Tuple_spliced (cQ (h pos pins s σ H _ I hq) fun us s1 ⟨xs,H1,I1,r,z,q⟩=>⟨by rw[<-r.length];exact z,?_⟩);have hf:H1 ↑s1=none:=I1.bV.fresh (zk _);refine⟨.ref ↑s1,upd H1 ↑s1 (.tup xs),I1.laid (t':=s1.toks) (fun b u e=>yu _ e) (zk _) ?_,rfl,q _ hf⟩;exact⟨z,us,r,⟨_,yw _ rfl,rfl,_,rfl⟩⟩
def bx (h:PA X es t):PE X (.List es pos) (EJ t):=by
 intro pins s σ H Q I hq;refine wpAny_List_spliced (cQ (h pos pins s σ H _ I hq) fun us s1 ⟨xs,H1,I1,r,z,q⟩=>⟨by rw[<-r.length];exact z,?_⟩);have hf:H1 ↑s1=none:=I1.bV.fresh (zk _);refine⟨.ref ↑s1,upd H1 ↑s1 (.lst xs),I1.laid (t':=s1.toks) (fun b u e=>yu _ e) (zk _) ?_,rfl,q _ hf⟩;exact⟨z,us,0,r,yw _ rfl⟩
end
abbrev Sp:=List V->Hp->VK->XK->Prop
abbrev Iz:=List Env->Hp->Shared->XK->Value->Shared->Prop
structure GH (P:Program) (w:World) (K:yA) (mg:Str->Option Value) (base:Heap) (A:Around) (outer:List Env) (s:Shared) (H:Hp):Prop where
 frames:A.frames=some outer
 mod:Mod K mg base
 bs:∀b o,base.get? b=some o->s.heap.get? b=some o/\H b=none
 KQ:base.objs.size<=↑s
 oX:s.heap.FunFrames base outer
 FQ:∀b∈pN outer,H b=none
 bV:qP P w H s.heap
 bare:AllBare s.gens
def CE (outer:List Env) (P:Program) (w:World) (H:Hp) (s:Shared) (Q:VK) (u:Value) (s':Shared):Prop:=
 ∃v H',s'.os=s.os/\AllBare s'.gens/\Un (pN outer) [] H H' s.heap s'.heap/\qP P w H' s'.heap/\RelV v u/\Q v H'
def CR (CX:Iz) (outer:List Env) (P:Program) (w:World) (H:Hp) (s:Shared) (Q:VK) (E:XK) (r:Result) (s':Shared):Prop:=
 match r with
 | .ok (.ret u)=>CE outer P w H s Q u s'
 | .ok _=>False
 | .error e=>CX outer H s E e s'
structure dE (P:Program) (w:World) (K:yA) (mg:Str->Option Value) (base:Heap) (CX:Iz) (k:Nat) (f:Addr) (fd:FuncData) (ps:List Str) (sp:Sp):Prop where
 len:∀vs H Q E,sp vs H Q E->vs.length=ps.length
 run:∀(A:Around) (outer:List Env) (s:Shared) (H:Hp) (args:Args) (us:List Value) (vs:List V) (Q:VK) (E:XK),fK k A->GH P w K mg base A outer s H->BindsTo s fd args (ps.zip us)->Vals vs us->sp vs H Q E->
  codeAny (model P w) A (.call (.ref f) args) (CR CX outer P w H s Q E) s
theorem dE.mono {P:Program} {w:World} {K:yA} {mg:Str->Option Value} {base:Heap} {CX:Iz} {j k:Nat} {f:Addr} {fd:FuncData} {ps:List Str} {sp:Sp} (F:dE P w K mg base CX j f fd ps sp) (h:j<=k) :
  dE P w K mg base CX k f fd ps sp:=⟨F.len,fun A outer s H args us vs Q E hr=>F.run A outer s H args us vs Q E (hr.mono h)⟩
def GH.make {P:Program} {w:World} {K:yA} {mg:Str->Option Value} {base:Heap} {A:Around} {outer:List Env} {s:Shared} {H:Hp} (e:GH P w K mg base A outer s H) (C:Addr) (us:List Value) (kw:List (Str×Value)) :
  GH P w K mg base (A.under (.builtin "type.__call__" ⟨.ref C::us,kw⟩)) outer s H:=⟨by first | exact e.frames | (simpa[Around.under,Code.envs,Code.isFrame,pushEnvs] using e.frames),e.mod,e.bs,e.KQ,e.oX,e.FQ,e.bV,e.bare⟩
section
variable {X:Cx} {pins:List (Addr×Obj)} {σ:St} {H:Hp} {s s':Shared}
def Inv.N3 (I:Inv X pins σ H s):GH X.prog X.w X.K X.mg X.base X.A X.stack s H:=
 ⟨I.ok.frames,I.ok.mod,I.bs,zL I.ok.KQ I.sz,I.stack,I.qU,I.bV,I.bare⟩
def Inv.after (I:Inv X pins σ H s) (h:CE X.stack X.prog X.w H s Q u s'):EP X pins σ Q u s':=by
 obtain⟨v,H',os,bare,un,bV,r,q⟩:=h;obtain⟨hh,g,d,t,os'⟩:=s';obtain rfl:os'=s.os:=os;exact⟨v,H',I.call (h':=hh) (g':=g) (d':=d) (t':=t) (ch:=[]) un bV bare (fun b z=>absurd z (by simp)),r,q⟩
end
def gL (sp:Sp) (dvs:List V) (E:XK) (t:TA):TE:=fun σ H Q=>t σ H fun vs H1=>sp (vs++dvs) H1 Q E
def QL (C:Addr) (sp:Sp) (dvs:List V) (E:XK) (t:TA):TE:=fun σ H Q=>t σ H fun vs H1=>∀x dx,H1 x=none->H1 dx=none->dx≠x->
 sp (.ref x::(vs++dvs)) (upd (upd H1 dx (.own x)) x (.ins C dx [])) (fun v H2=>v=.bC/\Q (.ref x) H2) E
def Binds (K:yA) (fd:FuncData) (ps:List Str) (ds:List Value):Prop:=
 ∀(s:Shared) (us:List Value),K.In s.heap->(us++ds).length=ps.length->BindsTo s fd ⟨us,[]⟩ (ps.zip (us++ds))
def Binds.all {K:yA} {fd:FuncData} {ps:List Str} (h:∀us:List Value,us.length=ps.length->bindArgs fd ⟨us,[]⟩=pure (ps.zip us)):Binds K fd ps []:=fun s us _ hl=>by
 rw[zU] at hl ⊢;exact .of_eq (h us hl)
def Passes (CX:Iz) (X:Cx) (E:XK):Prop:=∀(pins:List (Addr×Obj)) (σ:St) (H:Hp) (s:Shared) (e:Value) (s':Shared),Inv X pins σ H s->CX X.stack H s E e s'->X.xe e s'
section
variable {X:Cx} {CX:Iz} {k:Nat} {f C:Addr} {fd:FuncData} {ps:List Str} {sp:Sp} {dvs:List V} {ds:List Value} {E:XK} {x m:Str} {p pos apos:Pos} {e o:Expr} {es:List Expr} {ta:TE} {t:TA}
def Ly (F:dE X.prog X.w X.K X.mg X.base CX k f fd ps sp) (hr:fK k X.A) (hb:Binds X.K fd ps ds) (hd:Vals dvs ds) (hx:Passes CX X E)
  (I:Inv X pins σ H s) (r:Vals vs us) (h:sp (vs++dvs) H Q E):wpAny (model X.prog X.w) X.A (call (.ref f) us) (EP X pins σ Q) X.xe s:=by
 have r2:Vals (vs++dvs) (us++ds):=r.append hd;have hl:(us++ds).length=ps.length:=by rw[<-r2.length];exact F.len _ _ _ _ h
 refine wpAny_call (codeAny_mono (F.run X.A X.stack s H ⟨us,[]⟩ (us++ds) (vs++dvs) Q E hr I.N3 (hb s us I.sr hl) r2 h) fun r s' hq=>?_);cases r with
 | error e=>exact hx pins σ H s e s' I hq
 | ok fl=>
  cases fl with
  | ret u=>exact I.after hq
  | next=>exact False.elim hq
  | brk=>exact False.elim hq
  | cont=>exact False.elim hq
def NJ (F:dE X.prog X.w X.K X.mg X.base CX k f fd ps sp) (hr:fK k X.A) (hg:Gl X x) (hm:X.mg x=some (.ref f)) (hk:PySem.W.keepIn X.K (.ref f)=true) (hb:Binds X.K fd ps ds) (hd:Vals dvs ds) (hx:Passes CX X E)
  (ha:PA X (e::es) t) (hdb:(x == ("__debug__": Str))=false<|>qb_) (he:starEach (e::es) X.env=(false,eval e X.env)::starEach es X.env<|>qe_) (hpl:(backTo pos (starEach es X.env)).any (·.1)=false<|>qe_) :
  PE X (.Call (.Name x p) (e::es) [] pos) (gL sp dvs E t):=by
 intro pins s σ H Q I h;refine wpAny_Call_Name_kw (jU I hg hm ?_ hdb);refine PySem.W.callWith_K (h₀:=X.base) I.ok.mod.PX hk (cQ (ha pos pins s σ H _ I h) fun us s1 ⟨vs,H1,I1,r,q⟩=>⟨I1.sr,?_⟩) he hpl;exact Ly F hr hb hd hx I1 r q
structure Mk (K:yA) (C f:Addr):Prop where
 makes:PySem.W.makesIn K C=true
 init:PySem.W.findIn K (.ref C) "__init__"= some (some (.ref f))
 fn:PySem.W.isFn K (.ref f)=true
 kp:PySem.W.keepIn K (.ref C)=true
def Lx (M:Mk X.K C f) (F:dE X.prog X.w X.K X.mg X.base CX k f fd ps sp) (hr:fK (k+1) X.A) (hb:Binds X.K fd ps ds) (hd:Vals dvs ds)
  (hx:Passes CX X E) (I:Inv X pins σ H s) (r:Vals vs us)
  (h:∀x dx,H x=none->H dx=none->dx≠x->sp (.ref x::(vs++dvs)) (upd (upd H dx (.own x)) x (.ins C dx [])) (fun v H2=>v=.bC/\Q (.ref x) H2) E) :
  wpAny (model X.prog X.w) X.A (call (.ref C) us) (EP X pins σ Q) X.xe s:=by
 have hq:=h (↑s+1) ↑s (I.bV.fresh (Nat.le_succ _)) (I.bV.fresh (zk _)) (yi (Nat.lt_succ_self _));have I2:=Inv.made (C:=C) I;have r2:Vals (V.ref (↑s+1)::(vs++dvs)) (Value.ref (↑s+1)::(us++ds)):=.cons rfl (r.append hd);have hl:(Value.ref (↑s+1)::us++ds).length=ps.length:=by
  have e:=r2.length;rw[F.len _ _ _ _ hq] at e;exact e.symm
 refine wpAny_call (Mb (f:=f) I.sr M.makes M.init (beq_iff_eq.mp M.fn) (codeAny_mono (F.run _ X.stack _ _ ⟨Value.ref (↑s+1)::us,[]⟩ (Value.ref (↑s+1)::(us++ds)) _ _ E (hr.make C us [])
  (I2.N3.make C us []) (hb _ (Value.ref (↑s+1)::us) I2.sr hl) r2 hq) fun r s' hq'=>?_))
 cases r with
 | error e=>exact hx pins σ _ _ e s' I2 hq'
 | ok fl=>
  cases fl with
  | ret u=>
   obtain⟨v,H',I3,rv,ev,q3⟩:=I2.after hq';subst ev;exact⟨rv,⟨V.ref (↑s+1),H',I3,rfl,q3⟩⟩
  | next=>exact False.elim hq'
  | brk=>exact False.elim hq'
  | cont=>exact False.elim hq'
def LX (M:Mk X.K C f) (F:dE X.prog X.w X.K X.mg X.base CX k f fd ps sp) (hr:fK (k+1) X.A) (hg:Gl X x) (hm:X.mg x=some (.ref C)) (hb:Binds X.K fd ps ds) (hd:Vals dvs ds) (hx:Passes CX X E)
  (hdb:(x == ("__debug__": Str))=false<|>qb_):PE X (.Call (.Name x p) [] [] pos) (QL C sp dvs E eI):=by
 intro pins s σ H Q I h;refine wpAny_Call_Name_kw (jU I hg hm ?_ hdb);exact PySem.W.callWith_K0 I.sr M.kp (Lx (us:=[]) M F hr hb hd hx I .nil h)
end
section
variable {X:Cx} {CX:Iz} {k:Nat} {f C:Addr} {fd:FuncData} {ps ks:List Str} {sp:Sp} {E:XK} {x m:Str} {p pos apos kpos:Pos} {e o:Expr} {es:List Expr} {kws:List Keyword} {te ta:TE} {t tk:TA} {nm:Option Str}
variable {g:List Value->List Value->List Value} {gV:List V->List V->List V}
end
structure aA (N P:List Str) (sc:Scope):Prop where
 kind:sc.kind=.function
 co:sc.isCoroutine=false
 gen:sc.isGenerator=false
 nd:N.Nodup
 pre:N.take P.length=P
 par:∀x∈P,sc.names.lookup x=some .local\/sc.names.lookup x=some .cell
 PR:∀y∈sc.names,y.2≠.free
theorem Cs {kindOf:Str->Option NameKind} {x:Str}:∀{binds:List (Str×Value)} {m:Str->Option Value},(∀v,(x,v)∉binds)->bindL kindOf binds m x=m x
 | [],_,_=>rfl
 | (n,v)::r,m,h=>by
  unfold bindL;rw[Cs fun w hw=>h w (zm _ hw)];split
  ·have:x≠n:=by rintro rfl;exact h v zp
   simp[this]
  ·rfl
theorem Cu {kindOf:Str->Option NameKind} {x:Str}:∀{binds:List (Str×Value)} {m:Str->Option Value},(∀v,(x,v)∉binds)->bindC kindOf binds m x=m x
 | [],_,_=>rfl
 | (n,v)::r,m,h=>by
  unfold bindC;rw[Cu fun w hw=>h w (zm _ hw)];split
  ·rfl
  ·have:x≠n:=by rintro rfl;exact h v zp
   simp[this]
theorem Ct {kindOf:Str->Option NameKind} {x:Str} {v:Value}:∀{P:List Str} {vs:List Value} {i:Nat} {m:Str->Option Value},P.Nodup->P[i]?=some x->vs[i]?=some v->kindOf x=some .local->
  bindL kindOf (P.zip vs) m x=some v
 | [],_,_,_,_,h,_,_=>by simp at h
 | _::_,[],_,_,_,_,h,_=>by simp at h
 | p::P,w::vs,0,m,nd,h1,h2,hk=>by
  simp at h1 h2;subst h1;subst h2;show bindL kindOf ((p,w)::P.zip vs) m p=_;unfold bindL;rw[Cs fun v hv=>(yc.mp nd).1 (List.of_mem_zip hv).1,if_pos hk];simp
 | p::P,w::vs,i+1,m,nd,h1,h2,hk=>by
  show bindL kindOf ((p,w)::P.zip vs) m x=_;unfold bindL;exact Ct (i:=i) (yc.mp nd).2 (by simpa using h1) (by simpa using h2) hk
theorem Cv {kindOf:Str->Option NameKind} {x:Str} {v:Value}:∀{P:List Str} {vs:List Value} {i:Nat} {m:Str->Option Value},P.Nodup->P[i]?=some x->vs[i]?=some v->kindOf x≠some .local->
  bindC kindOf (P.zip vs) m x=some v
 | [],_,_,_,_,h,_,_=>by simp at h
 | _::_,[],_,_,_,_,h,_=>by simp at h
 | p::P,w::vs,0,m,nd,h1,h2,hk=>by
  simp at h1 h2;subst h1;subst h2;show bindC kindOf ((p,w)::P.zip vs) m p=_;unfold bindC;rw[Cu fun v hv=>(yc.mp nd).1 (List.of_mem_zip hv).1,if_neg hk];simp
 | p::P,w::vs,i+1,m,nd,h1,h2,hk=>by
  show bindC kindOf ((p,w)::P.zip vs) m x=_;unfold bindC;exact Cv (i:=i) (yc.mp nd).2 (by simpa using h1) (by simpa using h2) hk
def start (N:List Str) (vs:List V):St:=vs.map some++List.replicate (N.length-vs.length) none
def kr (CX:Iz) (P:Program) (w:World) (K:yA) (mg:Str->Option Value) (base:Heap) (N:List Str) (qual:Str) (scope:Scope) (f:Addr) (cd:Value) (A:Around) (outer:List Env) (s:Shared) (H:Hp) (E:XK):Cx where
 prog:=P
 w:=w
 K:=K
 mg:=mg
 base:=base
 A:=A.deeper (envOfC qual scope ↑s f cd)
 N:=N
 s₀:=s
 H₀:=H
 env:=envOfC qual scope ↑s f cd
 outer:=outer
 stack:=envOfC qual scope ↑s f cd::outer
 ex:=[]
 calm:=true
 fn:=fun _=>true
 pn:=[]
 xe:=fun e s'=>wpAny (model P w) (A.deeper (envOfC qual scope ↑s f cd)) (leaving (envOfC qual scope ↑s f cd) e) (fun _ s''=>CX outer H s E e s'') (fun e' s''=>CX outer H s E e' s'') s'
def Gn {sc:Scope} {n:Nat} {x:Str} (h:sc.names.lookup x=some .cell):∃c,(cellsFrom n sc.names []).lookup x=some c:=by
 have q:=PySem.W.cellsFrom_some sc.names n [] (.inl h);exact Option.isSome_iff_exists.mp q
def J7 {CX:Iz} {P:Program} {w:World} {K:yA} {mg:Str->Option Value} {base:Heap} {N ps:List Str} {qual:Str} {scope:Scope} {f:Addr} {cd:Value} {A:Around} {outer:List Env} {s s1:Shared} {H:Hp} {E:XK} {us:List Value} {vs:List V}
  (S:aA N ps scope) (hd:A.handled=none) (e0:GH P w K mg base A outer s H) (hl:vs.length=ps.length) (r:Vals vs us)
  (x:InCallC s ↑s (bindL (envOfC qual scope ↑s f cd).kindOf (ps.zip us) fun _=>none) (cellsFrom (↑s+1) scope.names []) (bindC (envOfC qual scope ↑s f cd).kindOf (ps.zip us) fun _=>none) s1) :
  Inv (kr CX P w K mg base N qual scope f cd A outer s H E) [] (start N vs) H s1:=by
 have hpl:ps.length<=N.length:=by have:=congrArg List.length S.pre;rw[zP] at this;omega
 obtain⟨h1,tk,rfl,hk⟩:=x.done;have noA:∀b:Addr,b∉(kr CX P w K mg base N qual scope f cd A outer s H E).ex:=fun b z=>absurd (show b∈([]:List Addr) from z) (by simp);refine⟨⟨e0.mod,S.kind,rfl,rfl,zk _,fun y z c h1 h2=>?_,fun y hy=>?_,fun y c _ h=>?_,fun _=>hd,Around.frames_deeper e0.frames,.inr ⟨rfl,rfl⟩,fun b z=>absurd z (noA b),e0.bs,e0.KQ,fun b _ _=>noA b,fun b z=>absurd z (noA b),e0.oX,e0.FQ⟩,
  rfl,e0.bare,Un.kept hk,⟨_,x.toInCall.ns,fun i y v h1 h2 h3=>?_⟩,fun y c h=>⟨_,x.cell y c h⟩,e0.bV.fresh (zk _),fun y c h=>?_,fun p hp=>absurd (show p∈([]:List (Addr×Obj)) from hp) (by simp),e0.bV.kept hk,?_⟩
 ·exact name_of_addr x.apart (PySem.mem_of_lookup h1) (PySem.mem_of_lookup h2)
 ·have hy:scope.names.lookup y=some .cell\/scope.names.lookup y=some .free:=hy
  rcases hy with hy | hy
  ·exact Gn hy
  ·exact absurd rfl (S.PR _ (PySem.mem_of_lookup hy))
 ·exact yg (x.above y c (PySem.mem_of_lookup h))
 ·have hi:i<vs.length:=by
   unfold start at h2
   by_cases hi:i<vs.length
   ·exact hi
   ·rw[zZ (by simpa using hi)] at h2
    rw[List.getElem?_replicate] at h2;split at h2 <;> cases h2
  have ha:vs[i]?=some v:=by
   unfold start at h2;rw[List.getElem?_append_left (by simpa using hi),zJ] at h2;cases e:vs[i]? with
   | none=>rw[e] at h2;cases h2
   | some a=>rw[e] at h2;cases h2;rfl
  obtain⟨u,hu,rv⟩:=r.get ha;have hp:ps[i]?=some y:=by
   rw[<-S.pre,List.getElem?_take_of_lt nofun];exact h1
  have ndP:ps.Nodup:=by rw[<-S.pre];exact S.nd.sublist (List.take_sublist _ _)
  refine⟨u,rv,?_⟩;rcases S.par y (zB hp) with k | k
  ·exact .inl ⟨k,Ct ndP hp hu k⟩
  ·obtain⟨c,e⟩:=Gn (n:=↑s+1) k
   refine .inr ⟨.inl k,c,e,?_⟩;have q:=x.cell y c e;rw[Cv ndP hp hu (by show scope.names.lookup y≠_;rw[k];decide)] at q;exact q
 ·exact e0.bV.fresh (yg (x.above y c (PySem.mem_of_lookup h)))
 ·unfold start
  show _=N.length;rw[zg,za,List.length_replicate];omega
def OL {CX:Iz} {P:Program} {w:World} {K:yA} {mg:Str->Option Value} {base:Heap} {k:Nat} {f:Addr} {name qual:Str} {params:Arguments} {body:List Stmt} {scope:Scope} {dV kV doc pm cdv ct oc:Value} {an od:Option Addr}
  {osl:Array (Option Value)} {N ps:List Str} {sp:Sp} (lk:K.lookup f=some ⟨oc,od,.func (PySem.W.fnOf name qual params body scope dV kV doc pm an cdv ct),osl⟩) (hcd:PySem.W.codeIn K cdv qual=true) (S:aA N ps scope)
  (len:∀vs H Q E,sp vs H Q E->vs.length=ps.length)
  (hbody:∀(A:Around) (outer:List Env) (s:Shared) (H:Hp) (vs:List V) (Q:VK) (E:XK),fK k (A.deeper (envOfC qual scope ↑s f cdv))->sp vs H Q E->
   ∃t,Cz (kr CX P w K mg base N qual scope f cdv A outer s H E) body t/\t {nx:=fun _ H'=>Q .bC H',rt:=Q} (start N vs) H) :
  dE P w K mg base CX (k+1) f (PySem.W.fnOf name qual params body scope dV kV doc pm an cdv ct) ps sp:=by
 refine⟨len,fun A outer s H args us vs Q E hr e0 hb r hsp=>?_⟩;have hl:=len _ _ _ _ hsp;have KX:K.In s.heap:=e0.mod.PX.keeps fun b o e=>(e0.bs b o e).1;have lim:s.heap.NoLimit:=e0.mod.nolimit.keeps fun b o e=>(e0.bs b o e).1;have hkind:∀y∈ps.zip us,scope.names.lookup y.1=some .local\/(scope.names.lookup y.1=some .cell/\((cellsFrom (↑s+1) scope.names []).lookup y.1).isSome=true):=fun⟨n,v⟩ hy=>by
  rcases S.par n (List.of_mem_zip hy).1 with q | q
  ·exact .inl q
  ·exact .inr ⟨q,PySem.W.cellsFrom_some _ _ _ (.inl q)⟩
 refine codeAny_call_function hr.depth (KX _ _ lk) rfl S.co S.gen rfl (PySem.W.codeRec_of KX hcd) (hb _ _ _ _ ?_);refine wpAny_newFunctionEnv_cells S.kind hkind fun env he s1 x=>?_;subst he;refine⟨lim.keeps x.toInCall.keep,codeAny_func ?_⟩;obtain⟨t,ht,hq⟩:=hbody A outer s H vs Q E (hr.deeper _) hsp;have I:Inv (kr CX P w K mg base N qual scope f cdv A outer s H E) [] (start N vs) H s1:=J7 S hr.hd e0 hl r x;refine wpAny_mono (ht [] s1 (start N vs) H _ I hq) (fun fl s' hs=>?_) fun e s' hs=>hs;have fin:∀{σ':St} {H':Hp} {v:V} {u:Value},Inv (kr CX P w K mg base N qual scope f cdv A outer s H E) [] σ' H' s'->RelV v u->Q v H'->CE outer P w H s Q u s':=
  fun {σ' H' v u} J rv q=>⟨v,H',J.os,J.bare,J.base,J.bV,rv,q⟩
 cases fl with
 | ret u=>
  obtain⟨v,σ',H',J,rv,q⟩:=hs;exact fin J rv q
 | next=>
  obtain⟨σ',H',J,q⟩:=hs;exact fin (v:=V.bC) (u:=Value.none) J rfl q
 | brk=>
  obtain⟨_,_,_,q⟩:=hs;exact False.elim q
 | cont=>
  obtain⟨_,_,_,q⟩:=hs;exact False.elim q
end L2
namespace L2
open PySem PySem.Spec PyProof.Rows
section
variable {X:Cx} {x:Str} {p pos:Pos} {e:Expr} {es:List Expr} {t:TA} {id T:String} {r:List V->Hp->VK->Prop}
def JE (r:List V->Hp->VK->Prop) (t:TA):TE:=fun σ H Q=>t σ H fun vs H1=>r vs H1 Q
def Fj (hc:fJ X (.builtin id) r) (hg:Gl X x) (hm:X.mg x=none) (hv:bootBuiltins x=some (.builtin id)) (ha:PA X (e::es) t) (hn:x≠ "__name__"<|>qb_) (hdb:(x == ("__debug__": Str))=false<|>qb_)
  (he:starEach (e::es) X.env=(false,eval e X.env)::starEach es X.env<|>qe_) (hpl:(backTo pos (starEach es X.env)).any (·.1)=false<|>qe_):PE X (.Call (.Name x p) (e::es) [] pos) (JE r t):=by
 intro pins s σ H Q I h;refine wpAny_Call_Name_kw (ji I hg hm hv ?_ hn hdb);exact PyProof.Rows.callWith_builtin1 (cQ (ha pos pins s σ H _ I h) fun us s1 ⟨vs,H1,I1,r1,q1⟩=>hc pins s1 σ H1 vs us Q I1 r1 q1) he hpl
def JV (hc:fJ X (.type T) r) (hg:Gl X x) (hm:X.mg x=none) (hv:bootBuiltins x=some (.type T)) (ha:PA X (e::es) t) (hn:x≠ "__name__"<|>qb_) (hdb:(x == ("__debug__": Str))=false<|>qb_)
  (he:starEach (e::es) X.env=(false,eval e X.env)::starEach es X.env<|>qe_) (hpl:(backTo pos (starEach es X.env)).any (·.1)=false<|>qe_):PE X (.Call (.Name x p) (e::es) [] pos) (JE r t):=by
 intro pins s σ H Q I h;refine wpAny_Call_Name_kw (ji I hg hm hv ?_ hn hdb);exact yL (cQ (ha pos pins s σ H _ I h) fun us s1 ⟨vs,H1,I1,r1,q1⟩=>hc pins s1 σ H1 vs us Q I1 r1 q1) he hpl
end
end L2
namespace HT
open PySem PyProof.Rows
section
open PySem.SeqAt
open PySem.AutoSeq1 (wpAny_loadPart')
open PySem.MeetsSeq PySem.MeetsSeq2 PySem.MeetsSeq3
end
section
variable {prog:Program} {w:World} {A:Around} {E:Value->Shared->Prop} {s:Shared}
def fg (n d:Nat):Option Int->Nat
 | none=>d
 | some v=>if v<0 then(v+(n:Int)).toNat else min v.toNat n
def E2 (n d:Nat):fg n d none=d:=rfl
def Po (n d:Nat) (hd:d<=n) (o:Option Int):fg n d o<=n:=by
 cases o with
 | none=>exact hd
 | some v=>
  show(if v<0 then(v+(n:Int)).toNat else min v.toNat n)<=n
  by_cases hv:v<0
  ·rw[if_pos hv];omega
  ·rw[if_neg hv];exact Nat.min_le_right _ _
def Ji (v:Int) (n d:Nat):(if v<0 then max (v+(n:Int)) 0 else min v (n:Int))=((fg n d (some v):Nat):Int):=by
 show(if v<0 then max (v+(n:Int)) 0 else min v (n:Int))=(((if v<0 then(v+(n:Int)).toNat else min v.toNat n):Nat):Int)
 by_cases hv:v<0
 ·simp only[if_pos hv];omega
 ·simp only[if_neg hv];omega
def Ig (lo hi:Option Int) (n:Nat):Builtin.Slice.sliceAdjust lo hi 1 (n:Int)=(((fg n 0 lo:Nat):Int),((fg n n hi:Nat):Int)):=by
 have h1:¬((1:Int)<0):=nofun
 unfold Builtin.Slice.sliceAdjust;simp only[h1,if_false];refine Prod.ext ?_ ?_
 ·cases lo with
  | none=>rfl
  | some v=>exact Ji v n 0
 ·cases hi with
  | none=>rfl
  | some v=>exact Ji v n n
def Hj (i j:Nat):Builtin.Slice.slicePlaces (i:Int) (j:Int) 1=j-i:=by
 unfold Builtin.Slice.slicePlaces;have h1:(1:Int)>0:=nofun
 simp only[h1,if_true,Int.ediv_one];split <;> omega
def xq (p:IsPart v o) (h:Q o s):wpAny (model prog w) A (Builtin.Slice.slicePartIndex v) Q E s:=by
 cases p with
 | none=>exact slicePart_none h
 | int i t=>exact slicePart_int h
def kF {sl:Addr} {vl vu:Value} {lo hi:Option Int} {n:Nat} {Q:Int×Int×Nat->Shared->Prop} (hs:s.heap.IsSliceOf sl vl vu .none) (pl:IsPart vl lo) (pu:IsPart vu hi)
  (h:Q (((fg n 0 lo:Nat):Int),1,fg n n hi-fg n 0 lo) s):wpAny (model prog w) A (Builtin.Slice.sliceApplied (.ref sl) (pure (n:Int))) Q E s:=by
 obtain⟨os,hos,hcs,hds⟩:=id hs;unfold Builtin.Slice.sliceApplied Builtin.Slice.sliceFields;refine yt (yt (wpAny_field hos hds (x:=vl) rfl (yt (wpAny_field hos hds (x:=vu) rfl (yt (wpAny_field hos hds (x:=.none) rfl (yv ?_)))))));refine yt (slicePart_none ?_);show wpAny _ _ (if((1:Int) == 0)=true then _ else _) _ _ s;rw[if_neg ∅];refine yt (xq pl (yt (xq pu (yt (yv ?_)))));show wpAny _ _ (match Builtin.Slice.sliceAdjust lo hi 1 (n:Int) with | (lo,hi)=>pure (lo,(1:Int),Builtin.Slice.slicePlaces lo hi 1)) _ _ s;rw[Ig lo hi n];show wpAny _ _ (pure (((fg n 0 lo:Nat):Int),(1:Int),Builtin.Slice.slicePlaces ((fg n 0 lo:Nat):Int) ((fg n n hi:Nat):Int) 1)) _ _ s;rw[Hj];exact yv h
def LS (xs:Array Value) (i k:Nat):((List.range k).filterMap fun(m:Nat)=>xs[((i:Int)+(m:Int)*1).toNat]?).toArray=((xs.toList.drop i).take k).toArray:=by
 have e:(fun(m:Nat)=>xs[((i:Int)+(m:Int)*1).toNat]?)=fun m=>xs[i+m]?:=by
  funext m
  have:((i:Int)+(m:Int)*1).toNat=i+m:=nofun
  rw[this]
 rw[e];have:=pick_run xs i k;rw[List.filterMap_map] at this;have e2:((fun x=>xs[x]?)∘fun x=>i+x)=fun m=>xs[i+m]?:=rfl;rw[e2] at this;rw[this]
def sE {t sl:Addr} {items:Array Value} {vl vu:Value} {lo hi:Option Int} {Q:Value->Shared->Prop} (ht:IsTup s.heap t items) (hs:s.heap.IsSliceOf sl vl vu .none) (pl:IsPart vl lo) (pu:IsPart vu hi)
  (hw:¬(fg items.size 0 lo=0/\fg items.size items.size hi=items.size))
  (h:Q (.ref ↑s) {s with heap:=s.heap.push {cls:=.type "tuple",data:=.seq ((items.toList.drop (fg items.size 0 lo)).take (fg items.size items.size hi-fg items.size 0 lo)).toArray}})
  (hsz:items.size<=sizeLine):wpAny (model prog w) A (getItem (.ref t) (.ref sl)) Q E s:=by
 have htake:sizeOk (.seq ((items.toList.drop (fg items.size 0 lo)).take (fg items.size items.size hi-fg items.size 0 lo)).toArray):=by
  show((items.toList.drop (fg items.size 0 lo)).take (fg items.size items.size hi-fg items.size 0 lo)).toArray.size<=sizeLine;rw[ya,zP,List.length_drop,Array.length_toList];omega
 have hj:fg items.size items.size hi<=items.size:=Po _ _ (zk _) hi;obtain⟨os,hos,hcs,hds⟩:=id hs;have hTs:s.TypeIs (.ref sl) "slice":=⟨os,hos,hcs⟩
 unfold getItem
 try with_reducible refine wpAny_holding ?_
 first | refine yt (yv ?_) | skip
 refine yt (wpAny_sequenceKey ht.typeIs ∅ ?_);refine yt (wpAny_callSpecial?_slot (name:=Str.ofString "__getitem__") ht.typeIs PyProof.Rows.slot_tuple_getitem
  (wpAny_call_entry PyProof.Rows.slot_tuple_getitem ht.typeIs entry_tuple_getitem ?_ (args_tuple_getitem _ _)))
 show wpAny _ _ (Builtin.Tuple.tupleItemsOf (.ref t) >>= _) _ _ s;refine yt (tupleItemsOf_ ht ?_);refine yt (wpAny_typeOf hTs ?_);rw[if_pos ∅];refine yt (kF hs pl pu ?_);have hno:¬((((fg items.size 0 lo:Nat):Int) == 0&&(1:Int) == 1&&(fg items.size items.size hi-fg items.size 0 lo) == items.size)=true):=by
  intro q;rw[zN,zN] at q;have q1:((fg items.size 0 lo:Nat):Int)=0:=eq_of_beq q.1.1;have q2:fg items.size items.size hi-fg items.size 0 lo=items.size:=eq_of_beq q.2;exact hw ⟨nofun,nofun⟩
 show wpAny _ _ (if(((fg items.size 0 lo:Nat):Int) == 0&&(1:Int) == 1&&(fg items.size items.size hi-fg items.size 0 lo) == items.size)=true then _ else _) _ _ s;rw[if_neg hno,LS]
 first
  | exact yt (m:=Builtin.Tuple.tupleExact _) (wpAny_newObj_type (yv ⟨_,rfl,yv h⟩) htake)
  | exact yt (m:=Builtin.Tuple.tupleExact _) (wpAny_newObj_type (yt (yv (yv ⟨_,rfl,yv h⟩))) htake)
  | exact yt (yt (m:=Builtin.Tuple.tupleExact _) (wpAny_newObj_type (yv (yv ⟨_,rfl,yv h⟩)) htake))
  | exact yt (yt (m:=Builtin.Tuple.tupleExact _) (wpAny_newObj_type (yv ⟨_,rfl,yv h⟩) htake))
end
end HT
namespace L2
open PySem PySem.Spec PyProof.Rows
abbrev TO:=St->Hp->(Option Int->Hp->Prop)->Prop
def PO (X:Cx) (e:Option Expr) (t:TO):Prop:=
 ∀(pins:List (Addr×Obj)) (s:Shared) (σ:St) (H:Hp) (Q:Option Int->Hp->Prop),Inv X pins σ H s->t σ H Q->
  wpAny (model X.prog X.w) X.A (evalPart e X.env) (fun u s'=>∃o H',Inv X pins σ H' s'/\IsPart u o/\Q o H') X.xe s
def CG:TO:=fun _ H Q=>Q none H
def Ld (t:TE):TO:=fun σ H Q=>t σ H fun x H1=>∃i,x=.int i/\Q (some i) H1
def intsAre_of:∀{us:List Value},Vals (ns.map V.int) us->IntsAre us ns:=by
 induction ns with
 | nil=>intro us r;rw[ym] at r;cases r;exact .nil
 | cons n ns ih=>
  intro us r;rw[zh] at r;cases r with
  | cons r1 r2=>
   obtain⟨t,e⟩:=r1;subst e;exact .cons n t (ih r2)
section
variable {X:Cx} {e:Expr} {te:TE} {lo hi:Option Expr} {tl th:TO} {pos p2:Pos}
def eE:PO X none CG:=by
 intro pins s σ H Q I h;rw[evalPart_none];exact yv ⟨none,H,I,.none,h⟩
def eD (h:PE X e te):PO X (some e) (Ld te):=by
 intro pins s σ H Q I hw;rw[evalPart_some];refine cQ (h pins s σ H _ I hw) fun u s1 zz=>?_;obtain⟨x,H1,I1,r1,q1⟩:=zz;obtain⟨i,rfl,q⟩:=q1;obtain⟨t,rfl⟩:=r1;exact⟨some i,H1,I1,.int i t,q⟩
def MV (X:Cx) (r:V->Option Int->Option Int->Hp->VK->Prop):Prop:=
 ∀(pins:List (Addr×Obj)) (s:Shared) (σ:St) (H:Hp) (x:V) (v vl vu:Value) (lo hi:Option Int) (sl:Addr) (Q:VK),Inv X pins σ H s->RelV x v->s.heap.IsSliceOf sl vl vu .none->IsPart vl lo->IsPart vu hi->r x lo hi H Q->
  ∃T id,typeLookup (.type T) "__getitem__"= pure (some (.builtin id))/\s.TypeIs v T/\wpAny (model X.prog X.w) X.A (getItem v (.ref sl)) (EP X pins σ Q) X.xe s
def MV.or (h:MV X r) (h':MV X r'):MV X (fun x lo hi H Q=>r x lo hi H Q\/r' x lo hi H Q):=by
 intro pins s σ H x v vl vu lo hi sl Q I rx hs pl pu q;rcases q with q | q
 ·exact h pins s σ H x v vl vu lo hi sl Q I rx hs pl pu q
 ·exact h' pins s σ H x v vl vu lo hi sl Q I rx hs pl pu q
def Sg (r:V->Option Int->Option Int->Hp->VK->Prop) (te:TE) (tl th:TO):TE:=fun σ H Q=>te σ H fun x H1=>tl σ H1 fun l H2=>th σ H2 fun u H3=>r x l u H3 Q
def dz (hr:MV X r) (he:PE X e te) (hl:PO X lo tl) (hu:PO X hi th):PE X (.Subscript e (.Slice lo hi none p2) pos) (Sg r te tl th):=by
 intro pins s σ H Q I h;refine Subscript_ (cQ (he pins s σ H _ I h) fun v s1 zz=>?_);obtain⟨x,H1,I1,r1,q1⟩:=zz;refine wpAny_Slice (cQ (hl pins s1 σ H1 _ I1 q1) fun vl s2 ⟨l,H2,I2,pl,q2⟩=>cQ (hu pins s2 σ H2 _ I2 q2) fun vu s3 zz=>?_);obtain⟨u,H3,I3,pu,q3⟩:=zz;rw[evalPart_none];refine yv ?_;have I4:Inv X pins σ H3 {s3 with heap:=s3.heap.push {cls:=.type "slice",data:=.fields #[vl,vu,.none]}}:=I3.kept (t':=s3.toks) fun b ob q=>yu _ q;obtain⟨T,id,hT,ht,hg⟩:=hr pins {s3 with heap:=s3.heap.push {cls:=.type "slice",data:=.fields #[vl,vu,.none]}} σ H3 x v vl vu l u ↑s3 Q I4 r1 (Heap.IsSliceOf.new ..) pl pu q3;show wpAny (model X.prog X.w) X.A (subscriptTail e (.Slice lo hi none p2) v (.ref ↑s3)) (EP X pins σ Q) X.xe {s3 with heap:=s3.heap.push {cls:=.type "slice",data:=.fields #[vl,vu,.none]}};exact tail_any (ops:=[.ref ↑s3,v]) ht hT hg (by with_unfolding_all rfl)
def ku (xs:List V) (lo hi:Option Int):List V:=(xs.drop (HT.fg xs.length 0 lo)).take (HT.fg xs.length xs.length hi-HT.fg xs.length 0 lo)
def vn (xs:List V) (lo hi:Option Int):(ku xs lo hi).length<=xs.length:=by
 unfold ku;rw[zP,List.length_drop];omega
def QT (K:yA):V->Option Int->Option Int->Hp->VK->Prop:=fun x lo hi H Q=>∃a xs,x=.ref a/\du K H a xs/\
 ¬(HT.fg xs.length 0 lo=0/\HT.fg xs.length xs.length hi=xs.length)/\∀p,H p=none->Q (.ref p) (upd H p (.tup (ku xs lo hi)))
def Pl:MV X (QT X.K):=by
 intro pins s σ H x v vl vu lo hi sl Q I rx hs pl pu h;obtain⟨a,xs,rfl,hx,hw,q⟩:=h;cases rx;obtain⟨its,r,ht,hz⟩:=I.tuple hx;have hlen:its.toArray.size=xs.length:=by rw[ya];exact r.length.symm
 refine⟨"tuple",_,PyProof.Rows.slot_tuple_getitem.lookup,ht.typeIs,?_⟩;refine HT.sE ht hs pl pu (by rw[hlen];exact hw) ?_ (by rw[hlen];exact hz);rw[hlen];refine⟨.ref ↑s,_,I.laid (t':=s.toks) (o:=.tup (ku xs lo hi)) (fun b ob q=>yu _ q) (zk _) ?_,rfl,q _ (I.bV.fresh (zk _))⟩;exact⟨zL (vn xs lo hi) hz,_,(r.drop (HT.fg xs.length 0 lo)).take (HT.fg xs.length xs.length hi-HT.fg xs.length 0 lo),IsTup.new _ _⟩
end
end L2
namespace L2
open PySem PySem.Spec PyProof.Rows
def OG (n:Nat) (i:Int):Option Nat:=if 0<=i then(if i<n then some i.toNat else none) else if -(n:Int)<=i then some (i+n).toNat else none
def Cw (xs:List α) (i:Int):Option α:=(OG xs.length i).bind fun j=>xs[j]?
def NX (h:OG n i=some j):seqIndex? i n=some j/\j<n/\-(n:Int)<=i/\i<n:=by
 unfold OG at h
 by_cases h0:0<=i
 ·rw[if_pos h0] at h
  by_cases h1:i<n
  ·rw[if_pos h1] at h
   have e:i.toNat=j:=yj h;exact⟨by rw[seqIndex_of h0 h1,e],nofun,nofun,h1⟩
  ·rw[if_neg h1] at h;cases h
 ·rw[if_neg h0] at h
  by_cases h1:-(n:Int)<=i
  ·rw[if_pos h1] at h
   have e:(i+n).toNat=j:=yj h;exact⟨by rw[seqIndex_neg nofun h1,e],nofun,h1,nofun⟩
  ·rw[if_neg h1] at h;cases h
def Ea (h:Cw xs i=some v):∃j,seqIndex? i xs.length=some j/\xs[j]?=some v/\j<xs.length/\-(xs.length:Int)<=i/\i<xs.length:=by
 unfold Cw at h;cases e:OG xs.length i with
 | none=>rw[e] at h;cases h
 | some j=>
  rw[e] at h;obtain⟨h1,h2,h3,h4⟩:=NX e;exact⟨j,h1,h,h2,h3,h4⟩
def bz {α:Type} {xs:List α} {j:Nat} {v:α} (h:xs[j]?=some v):Cw xs (j:Int)=some v:=by
 have hj:j<xs.length:=(zw.mp h).1;have e:OG xs.length (j:Int)=some j:=by
  unfold OG;rw[if_pos nofun,if_pos nofun];simp
 unfold Cw;rw[e];exact h
def Az (xs:List α) (v:α):Cw (xs++[v]) (-1)=some v:=by
 have hl:(xs++[v]).length=xs.length+1:=by simp
 have e:OG (xs++[v]).length (-1)=some xs.length:=by
  unfold OG;rw[hl,if_neg ∅,if_pos nofun]
  congr 1
  omega
 unfold Cw;rw[e];show(xs++[v])[xs.length]?=some v;simp
def sW (b:Expr):Prop:=∀o i,subscripted b false o i=operate [o,i] (getItem o i)
def RM (X:Cx) (r:R2):Prop:=
 ∀(value slice:Expr) (pins:List (Addr×Obj)) (s:Shared) (σ:St) (H:Hp) (x y:V) (v u:Value) (Q:VK),Inv X pins σ H s->RelV x v->RelV y u->r x y H Q->
  subscripted slice false v u=operate [v,u] (getItem v u)->wpAny (model X.prog X.w) X.A (subscriptTail value slice v u) (EP X pins σ Q) X.xe s
def Te (X:Cx) (id:String) (r:V->List V->Hp->VK->Prop):Prop:=
 ∀(pins:List (Addr×Obj)) (s:Shared) (σ:St) (H:Hp) (x:V) (xs:List V) (v:Value) (us:List Value) (Q:VK),Inv X pins σ H s->RelV x v->Vals xs us->r x xs H Q->
  wpAny (model X.prog X.w) X.A (call (.builtin id) (v::us)) (EP X pins σ Q) X.xe s
section
variable {X:Cx} {a b:Expr} {ta tb:TE} {pos:Pos}
def xW (hr:RM X r) (ha:PE X a ta) (hb:PE X b tb) (hs:sW b):PE X (.Subscript a b pos) (fA r ta tb):=by
 intro pins s σ H Q I h;exact Subscript_ (Qk ha hb I h fun v u s2 x y H2 I2 rx ry q=>hr a b pins s2 σ H2 x y v u Q I2 rx ry q (hs _ _))
def NA (K:yA):R2:=fun x y H Q=>∃p xs i v,x=.ref p/\y=.int i/\aI K H p xs/\Cw xs i=some v/\Q v H
def qx (K:yA):R2:=fun x y H Q=>∃p xs i v,x=.ref p/\y=.int i/\du K H p xs/\Cw xs i=some v/\Q v H
def Nz:R2:=fun x y H Q=>∃z i c,x=.str z/\y=.int i/\z.length<=sizeLine/\Cw z.cps.toList i=some c/\Q (.str ⟨#[c]⟩) H
def IZ:RM X (NA X.K):=by
 intro value slice pins s σ H x y v u Q I rx ry h hs;obtain⟨p,xs,i,z,rfl,rfl,hq,he,q⟩:=h;cases rx;obtain⟨t,rfl⟩:=ry;obtain⟨its,r,pl,hz⟩:=I.list hq;obtain⟨j,h1,h2,h3,h4,h5⟩:=Ea he;obtain⟨w,ew,rw'⟩:=r.get h2;have hl:=r.length;have hn:=yT;have fin:EP X pins σ Q w s:=⟨z,H,I,rw',q⟩
 by_cases h0:0<=i
 ·have hj:i.toNat=j:=by
   rw[seqIndex_of h0 h5] at h1;exact yj h1
  exact item_listR pl.isList h0 nofun (by rw[hj];simpa using ew) fin hs
 ·have hj:(i+(its.toArray.size:Int)).toNat=j:=by
   rw[seqIndex_neg nofun h4] at h1;rw[ya,<-hl];exact yj h1
  exact subscriptTail_builtinR (x:=w) pl.isList.typeIs slot_list_getitem.lookup
   (wpAny_getItem_list_neg (Q:=fun r s'=>r=w/\EP X pins σ Q r s') pl.isList nofun (by rw[ya] <;> omega) nofun (by rw[hj];simpa using ew) ⟨rfl,fin⟩) hs
def P4:RM X (qx X.K):=by
 intro value slice pins s σ H x y v u Q I rx ry h hs;obtain⟨p,xs,i,z,rfl,rfl,hq,he,q⟩:=h;cases rx;obtain⟨t,rfl⟩:=ry;obtain⟨its,r,pl,hz⟩:=I.tuple hq;obtain⟨j,h1,h2,h3,h4,h5⟩:=Ea he;obtain⟨w,ew,rw'⟩:=r.get h2;have hl:=r.length;have hn:=yT;have fin:EP X pins σ Q w s:=⟨z,H,I,rw',q⟩
 exact subscriptTail_builtinR (x:=w) pl.typeIs slot_tuple_getitem.lookup
  (getItem_tuple (j:=j) (Q:=fun r s'=>r=w/\EP X pins σ Q r s') pl nofun nofun (by rw[ya,<-hl];exact h1) (by simpa using ew) ⟨rfl,fin⟩) hs
def Dw:RM X Nz:=by
 intro value slice pins s σ H x y v u Q I rx ry h hs;obtain⟨z,i,c,rfl,rfl,hz,he,q⟩:=h;obtain⟨t,rfl⟩:=rx;obtain⟨t',rfl⟩:=ry;obtain⟨j,h1,h2,h3,h4,h5⟩:=Ea he;have hl:z.cps.toList.length=z.length:=by simp[Str.length]
 rw[hl] at h1 h4 h5;have hn:=yT;exact tail_any (typeIs_str s z t) slot_str_getitem.lookup (getItem_str (c:=c) (by
  have e1:decide (i < -(2^63:Int))=false:=zd nofun;have e2:decide (i≥2^63)=false:=zd nofun;rw[e1,e2,Bool.or_false]) (by rw[h1];simpa using h2) ⟨.str ⟨#[c]⟩,H,I.tok _,⟨_,rfl⟩,q⟩) hs
def CV (lo hi:Option Int) (n:Nat):(sliceBounds lo hi none n).1=((HT.fg n 0 lo:Nat):Int)/\(sliceBounds lo hi none n).2.1=((HT.fg n n hi:Nat):Int)/\(sliceBounds lo hi none n).2.2=1:=by
 refine⟨?_,?_,rfl⟩
 ·cases lo with
  | none=>simp[sliceBounds,HT.fg]
  | some i=>
   simp only[sliceBounds,HT.fg,Option.getD_none,show(1:Int)>0 by decide,if_true]
   by_cases h:i<0
   ·simp only[h,if_true] <;> omega
   ·simp only[h,if_false] <;> omega
 ·cases hi with
  | none=>simp[sliceBounds,HT.fg]
  | some i=>
   simp only[sliceBounds,HT.fg,Option.getD_none,show(1:Int)>0 by decide,if_true]
   by_cases h:i<0
   ·simp only[h,if_true] <;> omega
   ·simp only[h,if_false] <;> omega
def A5 (its:List Value) (lo hi:Option Int):slicePick its.toArray lo hi none=((its.drop (HT.fg its.length 0 lo)).take (HT.fg its.length its.length hi-HT.fg its.length 0 lo)).toArray:=by
 obtain⟨h1,h2,h3⟩:=CV lo hi its.toArray.size;unfold slicePick;rw[h1,h2,h3];simp only[sliceRange_one,pick_run,ya] <;> rfl
def Su (K:yA):V->Option Int->Option Int->Hp->VK->Prop:=fun x lo hi H Q=>∃a xs,x=.ref a/\aI K H a xs/\∀p,H p=none->Q (.ref p) (upd H p (.lst (ku xs lo hi)))
def gC:MV X (Su X.K):=by
 intro pins s σ H x v vl vu lo hi sl Q I rx hs pl pu h;obtain⟨a,xs,rfl,hx,q⟩:=h;cases rx;obtain⟨its,r,ht,hz⟩:=I.list hx;have hlen:=r.length;refine⟨"list",_,slot_list_getitem.lookup,ht.isList.typeIs,?_⟩;refine wpAny_getItem_list_slice ht.isList hs pl pu .none (by simp) ?_ (by rw[ya] <;> omega);rw[A5,<-hlen];refine⟨.ref ↑s,_,I.laid (t':=s.toks) (o:=.lst (ku xs lo hi)) (fun b ob q=>yu _ q) (zk _) ?_,rfl,q _ (I.bV.fresh (zk _))⟩;exact⟨zL (vn xs lo hi) hz,_,0,(r.drop (HT.fg xs.length 0 lo)).take (HT.fg xs.length xs.length hi-HT.fg xs.length 0 lo),yw _ rfl⟩
def mL:V->Bool
 | .bC=>true
 | .bl _=>true
 | .int _=>true
 | .str _=>true
 | _=>false
def HI:V->V->Bool
 | .bC,.bC=>true
 | .bl a,.bl b=>a == b
 | .bl a,.int b=>(if a then 1 else 0) == b
 | .int a,.bl b=>a == (if b then 1 else 0)
 | .int a,.int b=>a == b
 | .str a,.str b=>a == b
 | _,_=>false
def MC (ry:RelV y u) (rx:RelV x v) (fy:mL y=true) (fx:mL x=true):SeqAt.EqAt A s u v (HI y x):=by
 cases y with
 | bC=>
  cases ry;cases x with
  | bC=>cases rx;exact SeqAt.EqAt.same _
  | bl b=>cases rx;exact SeqAt.EqAt.none_bool b
  | int b=>obtain⟨t,rfl⟩:=rx;exact SeqAt.EqAt.none_int b t
  | str b=>obtain⟨t,rfl⟩:=rx;exact SeqAt.EqAt.none_str b t
  | _=>exact absurd (show false=true from fx) zK
 | bl a=>
  cases ry;cases x with
  | bC=>cases rx;exact SeqAt.EqAt.bool_none a
  | bl b=>cases rx;exact SeqAt.EqAt.bool_bool a b
  | int b=>obtain⟨t,rfl⟩:=rx;exact SeqAt.EqAt.bool_int a b t
  | str b=>obtain⟨t,rfl⟩:=rx;exact SeqAt.EqAt.bool_str a b t
  | _=>exact absurd (show false=true from fx) zK
 | int a=>
  obtain⟨t',rfl⟩:=ry;cases x with
  | bC=>cases rx;exact SeqAt.EqAt.int_none a t'
  | bl b=>cases rx;exact SeqAt.EqAt.int_bool a t' b
  | int b=>obtain⟨t,rfl⟩:=rx;exact SeqAt.EqAt.int_int a t' b t
  | str b=>obtain⟨t,rfl⟩:=rx;exact SeqAt.EqAt.int_str a t' b t
  | _=>exact absurd (show false=true from fx) zK
 | str a=>
  obtain⟨t',rfl⟩:=ry;cases x with
  | bC=>cases rx;exact SeqAt.EqAt.str_none a t'
  | bl b=>cases rx;exact SeqAt.EqAt.str_bool a t' b
  | int b=>obtain⟨t,rfl⟩:=rx;exact SeqAt.EqAt.str_int a t' b t
  | str b=>obtain⟨t,rfl⟩:=rx;exact SeqAt.EqAt.str_str a t' b t
  | _=>exact absurd (show false=true from fx) zK
 | _=>exact absurd (show false=true from fy) zK
def HJ (x:V) (u:Value):Bool:=match u with
 | .none=>HI .bC x
 | .bool b=>HI (.bl b) x
 | .int i _=>HI (.int i) x
 | .str z _=>HI (.str z) x
 | _=>false
def MB (r:RelV y u) (f:mL y=true):HJ x u=HI y x:=by
 cases y with
 | bC=>cases r;rfl
 | bl b=>cases r;rfl
 | int i=>obtain⟨t,rfl⟩:=r;rfl
 | str z=>obtain⟨t,rfl⟩:=r;rfl
 | _=>exact absurd (show false=true from f) zK
theorem sQ:∀{xs:List V} {us:List Value},Vals xs us->xs.all mL=true->us.any (HJ x)=xs.any fun y=>HI y x
 | _,_,.nil,_=>rfl
 | y::xs,u::us,.cons r t,f=>by
  rw[List.all_cons,zN] at f;rw[List.any_cons,List.any_cons,MB r f.1,sQ t f.2]
theorem og (rx:RelV x v) (fx:mL x=true):∀{xs:List V} {us:List Value},Vals xs us->xs.all mL=true->∀u∈us,SeqAt.EqAt A s u v (HJ x u)
 | _,_,.nil,_=>fun u hu=>by cases hu
 | y::xs,u::us,.cons r t,f=>fun u' hu=>by
  rw[List.all_cons,zN] at f;rcases zC.mp hu with rfl | hu
  ·rw[MB r f.1];exact MC r rx f.1 fx
  ·exact og rx fx t f.2 u' hu
def Et (x:V) (xs:List V):Bool:=xs.any fun y=>HI y x
def Qu (K:yA) (neg:Bool):R2:=fun x y H Q=>∃p xs,y=.ref p/\(aI K H p xs\/du K H p xs)/\mL x=true/\xs.all mL=true/\Q (.bl (if neg then !Et x xs else Et x xs)) H
def oE:oO X (compareOp .In) (Qu X.K false):=by
 intro pins s σ H x y v u Q I rx ry h;obtain⟨p,xs,rfl,hq,fx,fs,q⟩:=h;cases ry;rcases hq with hq | hq
 ·obtain⟨its,r,pl,hz⟩:=I.list hq
  refine SeqAt.in_listAt (HJ x) pl.isList (fun w hw=>og rx fx r fs w (by simpa using hw)) ⟨.bl _,H,I,rfl,?_⟩;rw[show its.toArray.any (HJ x)=its.any (HJ x) by simp,sQ r fs];exact q
 ·obtain⟨its,r,pl,hz⟩:=I.tuple hq
  refine SeqAt.in_tupleAt (HJ x) pl (fun w hw=>og rx fx r fs w (by simpa using hw)) ⟨.bl _,H,I,rfl,?_⟩;rw[show its.toArray.any (HJ x)=its.any (HJ x) by simp,sQ r fs];exact q
def dS:oO X (compareOp .NotIn) (Qu X.K true):=by
 intro pins s σ H x y v u Q I rx ry h;obtain⟨p,xs,rfl,hq,fx,fs,q⟩:=h;cases ry;rcases hq with hq | hq
 ·obtain⟨its,r,pl,hz⟩:=I.list hq
  refine SeqAt.notIn_listAt (HJ x) pl.isList (fun w hw=>og rx fx r fs w (by simpa using hw)) ⟨.bl _,H,I,rfl,?_⟩;rw[show its.toArray.any (HJ x)=its.any (HJ x) by simp,sQ r fs];exact q
 ·obtain⟨its,r,pl,hz⟩:=I.tuple hq
  refine SeqAt.notIn_tupleAt (HJ x) pl (fun w hw=>og rx fx r fs w (by simpa using hw)) ⟨.bl _,H,I,rfl,?_⟩;rw[show its.toArray.any (HJ x)=its.any (HJ x) by simp,sQ r fs];exact q
def aB:fJ X (.builtin "len") (fun xs H Q=>∃p ys,xs=[.ref p]/\(aI X.K H p ys\/du X.K H p ys)/\Q (.int ys.length) H):=by
 intro pins s σ H xs us Q I r h;obtain⟨p,ys,rfl,hq,q⟩:=h;obtain⟨u,rfl,rx⟩:=vals1 r;cases rx;have hn:=yT;rcases hq with hq | hq
 ·obtain⟨its,r',pl,hz⟩:=I.list hq
  have hlen:=r'.length;exact Calls.call_len_list pl.isList (by simp only[ya] <;> omega) ⟨.int ys.length,H,I.tok _,⟨s.toks+1,by rw[ya,hlen]⟩,q⟩
 ·obtain⟨its,r',pl,hz⟩:=I.tuple hq
  have hlen:=r'.length;exact len_tuple pl (by simp only[ya] <;> omega) ⟨.int ys.length,H,I.tok _,⟨s.toks+1,by rw[ya,hlen]⟩,q⟩
def f9:fJ X (.builtin "len") (fun xs H Q=>∃z,xs=[.str z]/\z.length<=sizeLine/\Q (.int z.length) H):=by
 intro pins s σ H xs us Q I r h;obtain⟨z,rfl,hz,q⟩:=h;obtain⟨u,rfl,t,rfl⟩:=vals1 r;have hn:=yT;exact len_str nofun ⟨.int z.length,H,I.tok _,⟨_,rfl⟩,q⟩
def iI:fJ X (.type "list") (fun xs H Q=>∃p ys,xs=[.ref p]/\(aI X.K H p ys\/du X.K H p ys)/\∀l,H l=none->Q (.ref l) (upd H l (.lst ys))):=by
 intro pins s σ H xs us Q I r h;obtain⟨p,ys,rfl,hq,q⟩:=h;obtain⟨u,rfl,rx⟩:=vals1 r;cases rx;have fin:∀(its:List Value),Vals ys its->ys.length<=sizeLine->∀(h':Heap) (c':Nat),(∀b o',s.heap.get? b=some o'->h'.get? b=some o')->
   h'.get? ↑s=some {cls:=.type "list",dict:=none,data:=.seq its.toArray c',slots:=#[]}->EP X pins σ Q (.ref ↑s) {s with heap:=h'}:=fun its r' hz h' c' kp e=>
  ⟨.ref ↑s,_,I.laid (t':=s.toks) kp (zk _) (show cx X.prog X.w _ h' _ (.lst ys) from⟨hz,its,c',r',e⟩),rfl,q _ (I.bV.fresh (zk _))⟩
 rcases hq with hq | hq
 ·obtain⟨its,r',pl,hz⟩:=I.list hq
  have hlen:=r'.length;obtain⟨o,ho,hc,n,hd⟩:=pl.isList;exact call_list_seq p (.inl rfl) ho hc hd (fun h' c' kp e=>fin its r' hz h' c' kp e) (by simp only[ya] <;> omega)
 ·obtain⟨its,r',pl,hz⟩:=I.tuple hq
  have hlen:=r'.length;obtain⟨o,ho,hc,n,hd⟩:=pl;exact call_list_seq p (.inr rfl) ho hc hd (fun h' c' kp e=>fin its r' hz h' c' kp e) (by simp only[ya] <;> omega)
def cI:fJ X (.type "tuple") (fun xs H Q=>∃p ys,xs=[.ref p]/\((aI X.K H p ys/\∀l,H l=none->Q (.ref l) (upd H l (.tup ys)))\/(du X.K H p ys/\Q (.ref p) H))):=by
 intro pins s σ H xs us Q I r h;obtain⟨p,ys,rfl,h⟩:=h;obtain⟨u,rfl,rx⟩:=vals1 r;cases rx;rcases h with⟨hq,q⟩ | ⟨hq,q⟩
 ·obtain⟨its,r',pl,hz⟩:=I.list hq
  have hlen:=r'.length;refine call_tuple_list pl.isList (fun h' kp=>?_) (by simp only[ya] <;> omega);have I1:Inv X pins σ H {s with heap:=h'}:=I.kept (t':=s.toks) kp;have I2:Inv X pins σ (upd H h'.objs.size (.tup ys)) {s with heap:=h'.push {cls:=.type "tuple",data:=.seq its.toArray}}:=
   I1.laid (t':=s.toks) (fun b o e=>yu _ e) (zk _) (show cx X.prog X.w _ _ _ (.tup ys) from⟨hz,its,r',IsTup.new _ _⟩)
  exact⟨.ref h'.objs.size,_,I2,rfl,q _ (I1.bV.fresh (zk _))⟩
 ·obtain⟨its,r',pl,hz⟩:=I.tuple hq
  exact call_tuple_same pl ⟨.ref p,H,I,rfl,q⟩
def RB (K:yA) (T:String) (x:V) (H:Hp):Prop:=match x with
 | .str _=>T ="str"
 | .int _=>T ="int"
 | .ref p=>(T ="list"/\∃xs,aI K H p xs)\/(T ="tuple"/\∃o,K.lookup p=some o/\o.cls=.type "tuple"/\o.dict=none)\/
   (T ="dict"/\((∃kvs,H p=some (.dK kvs))\/∃kvs,H p=some (.dT kvs)))\/(T ="set"/\∃S n,H p=some (.set S n))
 | _=>False
def K5 (I:Inv X pins σ H s) (r:RelV x v) (ty:RB X.K T x H) :
  s.TypeIs v T/\∀a,v=.ref a->∃ob,s.heap.get? a=some ob/\ob.dict=none:=by
 cases x with
 | str z=>
  obtain⟨t,rfl⟩:=r;cases(show T ="str" from ty);exact⟨typeIs_str s z t,fun _ e=>nomatch e⟩
 | int i=>
  obtain⟨t,rfl⟩:=r;cases(show T ="int" from ty);exact⟨typeIs_int s i t,fun _ e=>nomatch e⟩
 | ref p=>
  cases r;rcases ty with⟨rfl,xs,hq⟩ | ⟨rfl,o,hk,hc,hd⟩ | ⟨rfl,hk⟩ | ⟨rfl,S,n,hk⟩
  ·obtain⟨its,_,pl,_⟩:=I.list hq
   refine⟨pl.isList.typeIs,fun a e=>?_⟩;cases e;obtain⟨o,n,e,c,hd,_⟩:=pl;exact⟨o,e,hd⟩
  ·refine⟨⟨o,I.sr p o hk,hc⟩,fun a e=>?_⟩
   cases e;exact⟨o,I.sr _ o hk,hd⟩
  ·have z:∃o,s.heap.get? p=some o/\o.ExactDict:=by
    rcases hk with⟨kvs,hk⟩ | ⟨kvs,hk⟩
    ·obtain⟨_,_,_,_,o,_,_,e,ex,_⟩:=I.bV p _ hk
     exact⟨o,e,ex⟩
    ·obtain⟨_,_,_,_,o,_,_,e,ex,_⟩:=I.bV p _ hk
     exact⟨o,e,ex⟩
   obtain⟨o,e,ex⟩:=z;refine⟨⟨o,e,ex.1⟩,fun a e2=>?_⟩;cases e2;exact⟨o,e,ex.2.1⟩
  ·obtain⟨o,_,_,_,e,ex,_⟩:=I.bV p _ hk
   refine⟨⟨o,e,ex.1⟩,fun a e2=>?_⟩;cases e2;exact⟨o,e,ex.2.1⟩
 | _=>exact False.elim ty
def Sl (K:yA) (T:String) (r:V->List V->Hp->VK->Prop) (to:TE):TE:=fun σ H Q=>to σ H fun x H1=>RB K T x H1/\r x [] H1 Q
def RE (K:yA) (T:String) (r:V->List V->Hp->VK->Prop) (to:TE) (t:TA):TE:=fun σ H Q=>to σ H fun x H1=>RB K T x H1/\t σ H1 fun xs H2=>r x xs H2 Q
variable {o e:Expr} {es:List Expr} {to:TE} {t:TA} {name:Str} {apos cpos:Pos} {T id:String} {r:V->List V->Hp->VK->Prop}
def PH (pa:PlainAttrs T) (slot:Slot T name id) (hty:typeOf (.builtin id)=pure (.type "method_descriptor")) (hm:Te X id r) (ho:PE X o to)
  (hbase:attributeBase o name X.env (eval o X.env)=eval o X.env<|>qe_) (hline:(apos.endLine == cpos.line)=true<|>qe_):PE X (.Call (.Attribute o name apos) [] [] cpos) (Sl X.K T r to):=by
 intro pins s σ H Q I h;refine wpAny_Call_method0_late hbase hline (cQ (ho pins s σ H _ I h) fun v s1 zz=>?_);obtain⟨x,H1,I1,r1,ty,q1⟩:=zz;obtain⟨h1,h2⟩:=K5 I1 r1 ty;exact⟨T,id,pa,slot,hty,h1,h2,Calls.callWith_builtin rfl (PySem.evalArgs_none (hm pins s1 σ H1 x [] v [] Q I1 r1 .nil q1))⟩
def ck (pa:PlainAttrs T) (slot:Slot T name id) (hty:typeOf (.builtin id)=pure (.type "method_descriptor")) (hm:Te X id r) (ho:PE X o to) (ha:PA X (e::es) t)
  (hbase:attributeBase o name X.env (eval o X.env)=eval o X.env<|>qe_)
  (hfew:((backTo cpos (starEach (e::es) X.env)).all (fun x=>!x.1)&&(backToKw cpos (keywordEach [] X.env)).all (fun x=>x.1.isSome)
   &&decide ((e::es).length+([]:List Keyword).length+(if([]:List Keyword).isEmpty then 0 else 1)<30))=true<|>qe_)
  (hline:(apos.endLine == cpos.line)=true<|>qe_) (hs:starEach (e::es) X.env=(false,eval e X.env)::starEach es X.env<|>qe_) (hplain:(backTo cpos (starEach es X.env)).any (·.1)=false<|>qe_) :
  PE X (.Call (.Attribute o name apos) (e::es) [] cpos) (RE X.K T r to t):=by
 intro pins s σ H Q I h;refine wpAny_Call_method_late hbase hfew hline rfl (cQ (ho pins s σ H _ I h) fun v s1 zz=>?_);obtain⟨x,H1,I1,r1,ty,q1⟩:=zz;obtain⟨h1,h2⟩:=K5 I1 r1 ty;refine⟨T,id,pa,slot,hty,h1,h2,?_⟩;have hA:=ha cpos pins s1 σ H1 _ I1 q1;rw[hs] at hA ⊢;refine Calls.callWith_builtin (by show(false||(backTo cpos (starEach es X.env)).any (·.1))=false;rw[hplain] <;> rfl) (Calls.evalArgs_plain ?_);exact cQ hA fun us s2 ⟨vs,H2,I2,r2,q2⟩=>hm pins s2 σ H2 x vs v us Q I2 r1 r2 q2
end
end L2
namespace L2
open PySem PySem.Spec PyProof.Rows
def OQ (X:Cx) (id:String) (r:V->List V->Hp->VK->Prop):Prop:=
 ∀(pins:List (Addr×Obj)) (s:Shared) (σ:St) (H:Hp) (x:V) (xs:List V) (v:Value) (us:List Value) (Q:VK),Inv X pins σ H s->RelV x v->Vals xs us->r x xs H Q->
  wpAny (model X.prog X.w) X.A (call (.builtin id) (v::us)) (EP X pins σ Q) X.xe s
theorem Vals.one:∀{x:V} {us:List Value},Vals [x] us->∃u,us=[u]/\RelV x u
 | _,_,.cons r .nil=>⟨_,rfl,r⟩
theorem Vals.zero:∀{us:List Value},Vals [] us->us=[]
 | _,.nil=>rfl
theorem Vals.reverse (h:Vals xs us):Vals xs.reverse us.reverse:=by
 induction h with
 | nil=>exact .nil
 | cons r t ih=>rw[List.reverse_cons,List.reverse_cons];exact Vals.append ih (.cons r .nil)
section
variable {X:Cx} {pins:List (Addr×Obj)} {σ:St} {H:Hp} {s:Shared} {l b:Addr} {xs ys zs:List V}
def Inv.NT {its its':List Value} {n:Nat} {f:Array Value->Array Value} {t':Nat} (I:Inv X pins σ H s) (hH:H l=some (.lst xs))
  (e:s.heap.get? l=some {cls:=.type "list",data:=.seq its.toArray n}) (hf:f its.toArray=its'.toArray) (hv:Vals ys its') (hz:ys.length<=sizeLine) :
  Inv X pins σ (upd H l (.lst ys)) {s with heap:=s.heap.update l (Obj.mapSeq f),toks:=t'}:=by
 have q:=PySem.IsL.update e f;rw[hf] at q;refine I.write (x:=l) (e:=l) (by rw[hH];exact trivial) (.inl rfl) (fun b' u hb hu=>(yy s.heap (Obj.mapSeq f) (Ne.symm hb)).trans hu) ⟨_,q⟩ ?_;exact⟨hz,its',_,hv,q⟩
def Inv.Q3 (I:Inv X pins σ H s) (hv:Vals ys its) (hz:ys.length<=sizeLine) :
  Inv X pins σ (upd H ↑s (.lst ys)) {s with heap:=s.heap.push {cls:=.type "list",data:=.seq its.toArray},toks:=t'}:=
 I.laid (fun _ _ q=>yu _ q) (zk _) ⟨hz,its,0,hv,yw _ rfl⟩
theorem Inv.fresh (I:Inv X pins σ H s):H ↑s=none:=I.bV.fresh (zk _)
def Inv.Mc (I:Inv X pins σ H s) (hH:H l=some (.lst xs)):xs.length<=sizeLine/\∃(its:List Value) (n:Nat),Vals xs its/\xs.length=its.length/\s.heap.get? l=some {cls:=.type "list",data:=.seq its.toArray n}:=by
 obtain⟨z,its,n,r,e⟩:=I.bV l _ hH;exact⟨z,its,n,r,r.length,e⟩
def Fx (h:n<=sizeLine):Builtin.List.listTooLong n=false:=by
 unfold Builtin.List.listTooLong;exact zd nofun
end
section
variable {X:Cx}
def NC:V->List V->Hp->VK->Prop:=fun x vs H Q=>∃l xs y,x=.ref l/\vs=[y]/\H l=some (.lst xs)/\xs.length<sizeLine/\Q .bC (upd H l (.lst (xs++[y])))
def bG:OQ X "list.append" NC:=by
 intro pins s σ H x vs v us Q I rx rv h;obtain⟨l,xs,y,rfl,rfl,hH,hz,q⟩:=h;cases rx;obtain⟨u,rfl,ru⟩:=rv.one;obtain⟨z,its,n,r,hl,e⟩:=I.Mc hH;refine call_meets F.slot_list_append ⟨_,e,rfl⟩ F.entry_list_append (F.args_list_append_2 _ _) (PySem.list_append l its.toArray n u (by rw[ya];omega)) ⟨e,?_⟩;refine⟨.bC,_,I.NT (its':=its++[u]) hH e (by simp) (r.append (.cons ru .nil)) ?_,rfl,q⟩;rw[zg,List.length_singleton];omega
def IQ:V->List V->Hp->VK->Prop:=fun x vs H Q=>∃l b xs zs,x=.ref l/\vs=[.ref b]/\H l=some (.lst xs)/\H b=some (.lst zs)/\xs.length+zs.length<=sizeLine/\Q .bC (upd H l (.lst (xs++zs)))
def JY:OQ X "list.extend" IQ:=by
 intro pins s σ H x vs v us Q I rx rv h;obtain⟨l,b,xs,zs,rfl,rfl,hH,hB,hz,q⟩:=h;cases rx;obtain⟨u,rfl,ru⟩:=rv.one;cases ru;obtain⟨z,its,n,r,hl,e⟩:=I.Mc hH;obtain⟨z2,its2,n2,r2,hl2,e2⟩:=I.Mc hB;have hsz:its.toArray.size+its2.toArray.size<=sizeLine:=by rw[ya,ya];omega
 have hlong:¬(!its.toArray.isEmpty&&Builtin.List.listTooLong (its.toArray.size+its2.toArray.size))=true:=by
  rw[Fx hsz,Bool.and_false];exact zK
 refine call_meets F.slot_list_extend ⟨_,e,rfl⟩ F.entry_list_extend (F.args_list_extend_2 _ _)
  (AutoSeq1.list_extend_list_list_0 l its.toArray n b its2.toArray n2 hlong (by rw[ya];omega) nofun) ⟨e,e2,?_⟩
 refine⟨.bC,_,I.NT (its':=its++its2) hH e (by simp) (r.append r2) ?_,rfl,q⟩;rw[zg];omega
def LK:V->List V->Hp->VK->Prop:=fun x vs H Q=>∃l xs,x=.ref l/\vs=[]/\H l=some (.lst xs)/\Q .bC (upd H l (.lst xs.reverse))
def Hs:OQ X "list.reverse" LK:=by
 intro pins s σ H x vs v us Q I rx rv h;obtain⟨l,xs,rfl,rfl,hH,q⟩:=h;cases rx;have hus:=rv.zero;subst hus;obtain⟨z,its,n,r,hl,e⟩:=I.Mc hH;refine call_meets F.slot_list_reverse ⟨_,e,rfl⟩ F.entry_list_reverse (F.args_list_reverse_1 _) (AutoSeq1.list_reverse_list_0 l its.toArray n (by rw[ya];omega)) ⟨e,?_⟩;refine⟨.bC,_,I.NT (its':=its.reverse) hH e (by simp) r.reverse ?_,rfl,q⟩;rw[List.length_reverse];omega
end
section
variable {prog:Program} {w:World} {A:Around} {E:Value->Shared->Prop} {s:Shared}
end
section
variable {X:Cx}
end
end L2
namespace Ti
open PySem PySem.W PySem.Calls PyProof.Rows
def vY:∀(ns:List Int) (vs:List Value),WellAll P h vs (ns.map WData.int)->IntsAre vs ns:=by
 intro ns
 induction ns with
 | nil=>
  intro vs w;rw[ym] at w;cases w;exact .nil
 | cons n ns ih=>
  intro vs w;rw[zh] at w;cases w with
  | cons a b=>
   cases a;exact .cons _ _ (ih _ b)
def JJ {l:OpenLaw} {n:Nat} (hn:l.most=some n) {P:Params} {h:Heap} {args:List WData} {vals:List Value}
  (hpre:l.row.toRowW.claim.pre args=true) (hwl:WellAll P h vals args) :
  ∃a vs ns,vals=[Value.ref a]/\args=[WData.list (ns.map WData.int)]/\h.get? a=some {cls:=.type "list",data:=.seq vs.toArray}/\IntsAre vs ns/\ns.length<=n:=by
 have hsh:WShape.hasAll [] args [.list .int]=true:=(pre_splitW hpre).1;have hc:l.pre.holds [] {args:=args}=true:=(pre_splitW hpre).2;obtain⟨d,r,rfl,h1,h2⟩:=hasAllW_cons hsh;obtain rfl:=hasAllW_nil h2;obtain⟨xs,rfl,h3⟩:=hasW_list h1;obtain⟨ns,rfl⟩:=items_int h3;have hlen:ns.length<=n:=by
  unfold OpenLaw.pre at hc;have h4:(WTm.not (.lt (.lit (.int (n:Int))) (.len (.arg 0)))).holds [] {args:=[.list (ns.map .int)]}=true:=by
   have h4:=(holds_andW hc).1;rw[hn] at h4;exact h4
  have h5:=condW_of h4 (w_not (w_lt w_lit (w_len_list (w_arg rfl))));rw[za] at h5;refine Nat.le_of_not_lt fun q=>?_;have q':(n:Int)<((ns.length:Nat):Int):=nofun
  first
   | (rw[ze q'] at h5;exact absurd h5 ∅)
   | (simp at h5;omega)
 cases hwl with
 | cons w1 w2=>
  cases w2;cases w1 with
  | list ho hall=>exact⟨_,_,ns,rfl,rfl,ho,vY ns _ hall,hlen⟩
def JR (l:OpenLaw) (args:List WData):l.row.toRowW.claim.post args (.bool true) args=true:=
 postW_of (r:=l.row.toRowW) (X:=(true == true))
  (show WShape.has [] (.bool true) .bool=true by first | rfl | decide | simp[WShape.has,WShape.arms,WShape.armsAll])
  (show(WTm.eq .res (.lit (.bool true))).value [] {args:=args,res:=some (.bool true),after:=args}=some (.bool (true == true)) from w_eq_bool (w_res rfl) w_lit) rfl
def Gr {l:OpenLaw} {n:Nat} {q:Program} {loose:List Str} {XP:(Str->Option Value)->Heap->Prop} {YP:World->Heap->Prop} {d:DefRec}
  (hn:l.most=some n) (hdf:d.params.defaults=[])
  (call:∀(w:World) (s₀ s₁:Shared) (mg mb:Str->Option Value) (fa:Addr) (o:Obj) (pm cd doc:Value) (a:Addr) (vs:List Value) (ns:List Int),
   Ground q loose [] XP w s₀ mg mb s₁.heap->YP w s₁.heap->
   s₁.heap.get? fa=some o->o.data=.func (docDef d.name d.params d.body d.scope pm cd doc)->s₁.heap.CodeRec cd d.name->mg d.name=some (.ref fa)->
   s₁.heap.get? a=some {cls:=.type "list",data:=.seq vs.toArray}->IntsAre vs ns->ns.length<=n->s₁.gens=#[]->
   codeAny (model l.prog w) callerA (.call (.ref fa) ⟨[.ref a],[]⟩) (fun r s'=>r=.ok (.ret (.bool true))/\OldK s₁.heap s'.heap/\s'.os=s₁.os/\AllBare s'.gens) s₁) :
  WalkO q loose XP YP l.row.toRowW d [] (fun f vs=>PySem.call f vs):=by
 intro w s₀ s₁ mg mb G Y fa o pm cd doc dV kV ho hd hcd hD hmg hg args vals as hpre hlay hrd hwl hlo;obtain rfl:dV=.none:=Dflts.none hD hdf;obtain rfl:kV=.none:=Dflts.noKw hD;obtain⟨a,vs,ns,rfl,rfl,hobj,hints,hlen⟩:=JJ hn hpre hwl;refine enter_call (codeAny_mono (call w s₀ s₁ mg mb fa o pm cd doc a vs ns G Y ho (fd_plain hd) hcd hmg hobj hints hlen hg) fun r s' hq=>?_);obtain⟨rfl,h2,h3,h4⟩:=hq;exact⟨.inl ⟨.bool true,.bool true,[],rfl,fun _=>rfl,.bool true,JR l _,fun _=>⟨List.Pairwise.nil,fun _ hm=>(nomatch hm)⟩⟩,h2,h3,h4⟩
section
variable {prog:Program} {w:World} {A:Around} {E:Value->Shared->Prop} {s:Shared} {K:Frag}
end
end Ti
namespace L2
open PySem PySem.Spec PyProof.Rows
theorem BO:∀{vs:List Value} {ns:List Int},IntsAre vs ns->Vals (ns.map V.int) vs
 | _,_,.nil=>.nil
 | _,_,.cons n t h=>.cons ⟨t,rfl⟩ (BO h)
def Qo (H:Hp):Prop:=∀b,H b=none\/∃o xs,H b=some (.mW o (.lst xs))
def Mm {P:Program} {w:World} {K:yA} {mg mb:Str->Option Value} {CX:Iz} {k:Nat} {fa a:Addr} {fd:FuncData} {x:Str} {sp:Sp} {s₁:Shared} {vs:List Value} {ns:List Int}
  (KX:K.In s₁.heap) (hns:s₁.heap.Ns mainGlobals mg) (hb:s₁.heap.Ns builtinsNs mb) (hbb:∀x:Str,x≠ "__name__"->mb x=bootBuiltins x) (hlim:s₁.heap.NoLimit) (hg:s₁.gens=#[])
  (ha:s₁.heap.get? a=some {cls:=.type "list",data:=.seq vs.toArray}) (hi:IntsAre vs ns) (hl:ns.length<=sizeLine) (hr:fK k callerA)
  (F:∀base:Heap,K.In base->base.Ns mainGlobals mg->dE P w K mg base CX k fa fd [x] sp) (hbind:∀(s:Shared) (u:Value),BindsTo s fd ⟨[u],[]⟩ [(x,u)])
  (hsp:∀H:Hp,Qo H->aI K H a (ns.map V.int)->sp [.ref a] H (fun v _=>v=.bl true) fun _ _ _=>False)
  (hCX:∀H e s',CX [] H s₁ (fun _ _ _=>False) e s'->False) :
  codeAny (model P w) callerA (.call (.ref fa) ⟨[.ref a],[]⟩) (fun r s'=>r=.ok (.ret (.bool true))/\OldK s₁.heap s'.heap/\s'.os=s₁.os/\AllBare s'.gens) s₁:=by
 have rv:=BO hi;have lenV:=hi.length;have core:∀H:Hp,Qo H->aI K H a (ns.map V.int)->qP P w H s₁.heap->(∀b,H b≠none->b=a)->(H a≠none->K.lookup a=none)->
   codeAny (model P w) callerA (.call (.ref fa) ⟨[.ref a],[]⟩) (fun r s'=>r=.ok (.ret (.bool true))/\OldK s₁.heap s'.heap/\s'.os=s₁.os/\AllBare s'.gens) s₁:=by
  intro H hO hS bV hA hK;have base_of:∀{b:Addr} {o:Obj},s₁.heap.get? b=some o->H b=none->(DB s₁.heap H).get? b=some o:=fun e n=>Mr e n;have noA:∀{b:Addr} {o:Obj} {es:Array DictEntry} {ep:Nat},s₁.heap.get? b=some o->o.data=.dict es ep->H b=none:=fun {b o es ep} e d=>by
   cases q:H b with
   | none=>rfl
   | some u=>
    have e':b=a:=hA b (by rw[q];simp);subst e';rw[ha] at e;cases e;have d':Data.seq vs.toArray _=Data.dict es ep:=d;cases d'
  have nsK:∀{b:Addr} {m:Str->Option Value},s₁.heap.Ns b m->(DB s₁.heap H).Ns b m:=fun {b m} ⟨o,es,ep,e,d,r⟩=>⟨o,es,ep,base_of e (noA e d),d,r⟩
  have hKb:K.In (DB s₁.heap H):=fun b o e=>base_of (KX b o e) (by
   cases q:H b with
   | none=>rfl
   | some u=>
    have e':b=a:=hA b (by rw[q];simp);subst e';rw[hK (by rw[q];simp)] at e;cases e)
  have hM:Mod K mg (DB s₁.heap H):=⟨hKb,nsK hns,⟨mb,nsK hb,hbb⟩,let ⟨mc,h1,h2⟩:=hlim;⟨mc,nsK h1,h2⟩⟩
  have e0:GH P w K mg (DB s₁.heap H) callerA [] s₁ H:=⟨rfl,hM,fun b o e=>NQ e,Nat.le_of_eq (J9 _ _),trivial,fun b hb=>absurd (show b∈([]:List Addr) from hb) (by simp),bV,.of_eq hg⟩
  refine codeAny_mono ((F _ hKb (nsK hns)).run callerA [] s₁ H ⟨[.ref a],[]⟩ [.ref a] [.ref a] _ _ hr e0 (hbind s₁ (.ref a)) (.cons rfl .nil) (hsp H hO hS)) fun r s' h=>?_;cases r with
  | error e=>exact(hCX H e s' h).elim
  | ok fl=>
   cases fl with
   | next=>exact False.elim h
   | brk=>exact False.elim h
   | cont=>exact False.elim h
   | ret u=>
    obtain⟨v,H',os,bare,un,hok',r',q⟩:=h;have q':v=.bl true:=q;subst q';obtain rfl:u=Value.bool true:=r';refine⟨rfl,OldK.of_keep fun b o e=>?_,os,bare⟩;cases q:H b with
    | none=>exact un.keep b o e q (by intro z;exact absurd (show b∈([]:List Addr) from z) (by simp)) (by simp)
    | some u=>
     rcases hO b with z | ⟨ob,xs,z⟩
     ·rw[q] at z;cases z
     ·have z2:=un.mR b ob _ z
      obtain⟨e1,_⟩:=bV b _ z;obtain⟨e2,_⟩:=hok' b _ z2;rw[e] at e1;cases e1;exact e2
 cases hk:K.lookup a with
 | some o=>
  have e:=KX a o hk;rw[ha] at e;cases e;refine core (fun _=>none) (fun _=>.inl rfl) (.inr ⟨_,vs.toArray,_,hk,rfl,rfl,rfl,by rw[ya,lenV];exact hl,by simpa using rv⟩) (fun b u z=>by have z':(none:Option HO)=some u:=z;cases z') (fun b z=>absurd rfl z) fun z=>absurd rfl z
 | none=>
  refine core (fun b=>if b=a then some (.mW {cls:=.type "list",data:=.seq vs.toArray} (.lst (ns.map V.int))) else none) (fun b=>?_) (.inl (.inr ⟨{cls:=.type "list",data:=.seq vs.toArray},if_pos rfl⟩)) (fun b u z=>?_) (fun b z=>?_) fun _=>hk
  ·by_cases hb:b=a
   ·exact .inr ⟨_,_,if_pos hb⟩
   ·exact .inl (if_neg hb)
  ·by_cases hb:b=a
   ·have z':=(if_pos hb).symm.trans z
    cases z';subst hb;exact⟨ha,by rw[za];exact hl,vs,_,rv,ha⟩
   ·have z':=(if_neg hb).symm.trans z
    cases z'
  ·by_cases hb:b=a
   ·exact hb
   ·exact absurd (if_neg hb) z
end L2
namespace L2
open PySem PySem.Spec PyProof.Rows
def Nb {l:PySem.W.OpenLaw} {n k:Nat} {q:Program} {loose:List Str} {XP:(Str->Option Value)->Heap->Prop} {YP:World->Heap->Prop} {d:DefRec} {K:Params->yA} {CX:World->Iz} {sp:World->Sp} {x:Str}
  (hn:l.most=some n) (hn2:n<=sizeLine) (hdf:d.params.defaults=[]) (hr:fK k callerA)
  (hY:∀(w:World) (h:Heap),YP w h->(K w.params).In h)
  (F:∀(w:World) (mg:Str->Option Value) (fa:Addr) (h:Heap),(K w.params).In h->h.Ns mainGlobals mg->mg d.name=some (.ref fa)->
   ∃fd:FuncData,(∀(s:Shared) (u:Value),BindsTo s fd ⟨[u],[]⟩ [(x,u)])/\
    ∀base:Heap,(K w.params).In base->base.Ns mainGlobals mg->dE l.prog w (K w.params) mg base (CX w) k fa fd [x] (sp w))
  (hsp:∀(w:World) (H:Hp) (a:Addr) (ns:List Int),ns.length<=n->Qo H->aI (K w.params) H a (ns.map V.int)->sp w [.ref a] H (fun v _=>v=.bl true) fun _ _ _=>False)
  (hCX:∀(w:World) (H:Hp) (s:Shared) (e:Value) (s':Shared),CX w [] H s (fun _ _ _=>False) e s'->False) :
  PySem.W.WalkO q loose XP YP l.row.toRowW d [] (fun f vs=>PySem.call f vs):=by
 refine Ti.Gr hn hdf fun w s₀ s₁ mg mb fa o pm cd doc a vs ns G Y ho hd hcd hmg hobj hints hlen hg=>?_;have KX:=hY w _ Y;obtain⟨fd,hb,hF⟩:=F w mg fa _ KX G.T.g hmg;exact Mm KX G.T.g G.T.b G.T.builtins G.T.nolimit hg hobj hints (zL hlen hn2) hr hF hb (fun H hO hS=>hsp w H a ns hlen hO hS) fun H e s'=>hCX w H s₁ e s'
end L2
namespace L2
open PySem PySem.Spec PyProof.Rows
def inClass (s:Stmt) (j:Nat):Stmt:=match s with
 | .ClassDef _ _ _ body _ _ _ _ _ _ _=>body.getD j (.Pass ⟨0,0,0,0⟩)
 | _=>.Pass ⟨0,0,0,0⟩
def cX (s:Stmt):Arguments:=match s with
 | .FunctionDef _ a _ _ _ _ _ _ _ _=>a
 | _=>{posonlyargs:=[],args:=[],vararg:=none,kwonlyargs:=[],kw_defaults:=[],kwarg:=none,defaults:=[]}
def cq (s:Stmt):List Stmt:=match s with
 | .FunctionDef _ _ b _ _ _ _ _ _ _=>b
 | _=>[]
def ao (s:Stmt):Scope:=match s with
 | .FunctionDef _ _ _ _ _ _ sc _ _ _=>sc
 | _=>{kind:=.function,names:=[],isGenerator:=false,isCoroutine:=false}
abbrev GJ:Iz:=fun _ _ _ _ _ _=>False
abbrev E0:XK:=fun _ _ _=>False
def IT:Passes GJ X E0:=fun _ _ _ _ _ _ _ h=>h.elim
structure M0 (K:yA) (x qual:Str) (st:Stmt) (f:Addr) (fd:FuncData):Prop where
 ex:∃(oc:Value) (od:Option Addr) (kV doc pm:Value) (an:Option Addr) (cdv ct:Value) (osl:Array (Option Value)),
  fd=PySem.W.fnOf x qual (cX st) (cq st) (ao st) .none kV doc pm an cdv ct/\K.lookup f=some ⟨oc,od,.func fd,osl⟩/\PySem.W.codeIn K cdv qual=true
 kp:PySem.W.keepIn K (.ref f)=true
section
variable {P:Program} {w:World} {K:yA} {mg:Str->Option Value} {base:Heap}
def M0.ok {x qual:Str} {st:Stmt} {f:Addr} {fd:FuncData} {N ps:List Str} {k:Nat} {sp:Sp} (F:M0 K x qual st f fd) (S:aA N ps (ao st)) (len:∀vs H Q E,sp vs H Q E->vs.length=ps.length)
  (hbody:∀(cdv:Value) (A:Around) (outer:List Env) (s:Shared) (H:Hp) (vs:List V) (Q:VK) (E:XK),fK k (A.deeper (envOfC qual (ao st) ↑s f cdv))->sp vs H Q E->
   ∃t,Cz (kr GJ P w K mg base N qual (ao st) f cdv A outer s H E).Ho (cq st) t/\t {nx:=fun _ H'=>Q .bC H',rt:=Q} (start N vs) H):dE P w K mg base GJ (k+1) f fd ps sp:=by
 obtain⟨oc,od,kV,doc,pm,an,cdv,ct,osl,rfl,lk,hcd⟩:=F.ex;refine OL lk hcd S len fun A outer s H vs Q E hr hsp=>?_;obtain⟨t,h,q⟩:=hbody cdv A outer s H vs Q E hr hsp;exact⟨t,h.Ho,q⟩
def M0.binds {x qual:Str} {st:Stmt} {f:Addr} {fd:FuncData} {ps:List Str} (F:M0 K x qual st f fd)
  (h:∀(kV doc pm:Value) (an:Option Addr) (cdv ct:Value) (us:List Value),us.length=ps.length->bindArgs (PySem.W.fnOf x qual (cX st) (cq st) (ao st) .none kV doc pm an cdv ct) ⟨us,[]⟩=pure (ps.zip us)):Binds K fd ps []:=by
 obtain⟨oc,od,kV,doc,pm,an,cdv,ct,osl,rfl,lk,hcd⟩:=F.ex;exact .all (h kV doc pm an cdv ct)
def km {x qual:Str} {st:Stmt} {f:Addr} {oc:Value} {od an:Option Addr} {osl:Array (Option Value)} {kV doc pm cdv ct:Value} (l:K.lookup f=some ⟨oc,od,.func (PySem.W.fnOf x qual (cX st) (cq st) (ao st) .none kV doc pm an cdv ct),osl⟩)
  (c:PySem.W.codeIn K cdv qual=true) (k:PySem.W.keepIn K (.ref f)=true):M0 K x qual st f (PySem.W.fnOf x qual (cX st) (cq st) (ao st) .none kV doc pm an cdv ct):=⟨⟨oc,od,kV,doc,pm,an,cdv,ct,osl,rfl,l,c⟩,k⟩
end
def mK (hr:fK k A):A.units+1<cLine:=Nat.lt_of_le_of_lt (Nat.add_le_add_left (by decide:1<=64) _) hr.units
section
variable {X:Cx}
def pv (i:Nat) (hN:X.N[i]?=some x<|>qe_) (hv:Qm X.env.scope x<|>qg_) (hd:(x == ("__debug__": Str))=false<|>qb_)
  (hcd:(x == ("__classdict__": Str))=false<|>qb_):PE X (.Name x pos) (aY i):=Pz hN hv hd hcd
end
def Q6 {A B:Prop} (h:B):if false=true then A else B:=by
 rw[if_neg zK];exact h
def SH {A B:Prop} (h:A):if true=true then A else B:=by
 rw[if_pos rfl];exact h
def vX {c A B:Prop} [Decidable c] (h1:c->A) (h2:¬c->B):if c then A else B:=by
 by_cases h:c
 ·rw[if_pos h]
  exact h1 h
 ·rw[if_neg h]
  exact h2 h
def OH {c A B:Prop} [Decidable c] (hc:c) (h:B):if(!decide c)=true then A else B:=by
 rw[ze hc];exact Q6 h
def au (H H':Hp):Prop:=∀b o,H b=some o->H' b=some o
def au.refl (H:Hp):au H H:=fun _ _ h=>h
def au.trans (a:au H H1) (b:au H1 H2):au H H2:=fun c o h=>b c o (a c o h)
def au.seq {K:yA} {H H':Hp} {a:Addr} {xs:List V} (e:au H H') (h:aI K H a xs):aI K H' a xs:=by
 rcases h with(h | ⟨o,h⟩) | h
 ·exact .inl (.inl (e _ _ h))
 ·exact .inl (.inr ⟨o,e _ _ h⟩)
 ·exact .inr h
end L2
namespace Lm
def red (t b:Int):Int×Int:=(t/(Int.gcd t b:Int),b/(Int.gcd t b:Int))
def wO {t b:Int} (hb:0<b):0<(Int.gcd t b:Int):=by
 have:0<Int.gcd t b:=Int.gcd_pos_of_ne_zero_right t nofun;omega
def rN {t b k:Int} (hk:0<k) (hb:0<b):red (k*t) (k*b)=red t b:=by
 have g0:=wO (t:=t) hb;have e:(Int.gcd (k*t) (k*b):Int)=k*(Int.gcd t b:Int):=by
  rw[Int.gcd_mul_left];simp only[Int.natCast_mul];rw[Int.natAbs_of_nonneg nofun]
 unfold red;rw[e,Int.mul_ediv_mul_of_pos _ _ hk,Int.mul_ediv_mul_of_pos _ _ hk]
def lC {t b:Int} (hb:0<b):∃g,0<g/\t=g*(red t b).1/\b=g*(red t b).2/\0<(red t b).2/\(red t b).2<=b:=by
 have g0:=wO (t:=t) hb;have d1:(Int.gcd t b:Int) ∣ t:=Int.gcd_dvd_left ..;have d2:(Int.gcd t b:Int) ∣ b:=Int.gcd_dvd_right ..;have e1:(Int.gcd t b:Int)*(t/(Int.gcd t b:Int))=t:=Int.mul_ediv_cancel' d1;have e2:(Int.gcd t b:Int)*(b/(Int.gcd t b:Int))=b:=Int.mul_ediv_cancel' d2;refine⟨_,g0,e1.symm,e2.symm,?_,?_⟩
 ·exact Int.ediv_pos_of_pos_of_dvd hb nofun d2
 ·exact zW _ nofun
def xO {t b:Int} (ht:0<=t):0<=(red t b).1:=zV ht (Int.natCast_nonneg _)
def xP {t b:Int} (ht:0<=t):(red t b).1<=t:=zW _ ht
def Nw {t b:Int} (hb:0<b):red (red t b).1 (red t b).2=red t b:=by
 obtain⟨g,g0,e1,e2,p,_⟩:=lC (t:=t) hb;have h:=rN (t:=(red t b).1) (b:=(red t b).2) g0 p;rw[<-e1,<-e2] at h;exact h.symm
def add (x y:Int×Int):Int×Int:=red (x.1*y.2+y.1*x.2) (x.2*y.2)
def Od {t b s c:Int} (hb:0<b) (hc:0<c):add (red t b) (red s c)=red (t*c+s*b) (b*c):=by
 obtain⟨g,g0,e1,e2,p,_⟩:=lC (t:=t) hb;obtain⟨k,k0,f1,f2,q,_⟩:=lC (t:=s) hc;unfold add;generalize hx:red t b=x at *;generalize hy:red s c=y at *;have h:=rN (t:=x.1*y.2+y.1*x.2) (b:=x.2*y.2) (Int.mul_pos g0 k0) (Int.mul_pos p q);rw[<-h]
 congr 1
 ·rw[e1,e2,f1,f2,Int.mul_add]
  congr 1 <;> simp only[Int.mul_assoc,Int.mul_left_comm,Int.mul_comm]
 ·rw[e2,f2];simp only[Int.mul_assoc,Int.mul_left_comm,Int.mul_comm]
end Lm
namespace Lm
def Rd (x:Int×Int):Prop:=∃t b,0<=t/\0<b/\x=red t b
def Rd.of {t b:Int} (ht:0<=t) (hb:0<b):Rd (red t b):=⟨t,b,ht,hb,rfl⟩
def Rd.pos {x:Int×Int} (h:Rd x):0<=x.1/\0<x.2/\red x.1 x.2=x:=by
 obtain⟨t,b,ht,hb,rfl⟩:=h;obtain⟨g,g0,e1,e2,p,_⟩:=lC (t:=t) hb;exact⟨xO ht,p,Nw hb⟩
def Rd.zero:Rd (0,1):=⟨0,1,∅,∅,∅⟩
theorem Rd.add {x y:Int×Int} (h:Rd x) (k:Rd y):Rd (add x y):=by
 obtain⟨a,b,_⟩:=h.pos;obtain⟨c,d,_⟩:=k.pos;refine⟨_,_,?_,Int.mul_pos b d,rfl⟩;exact Int.add_nonneg (Int.mul_nonneg a nofun) (Int.mul_nonneg c nofun)
def FN {x y:Int} (hx:0<=x) (hy:0<y):Int.gcd y (x%y)=Int.gcd x y:=by
 have e:(x%y).natAbs=x.natAbs%y.natAbs:=by
  obtain⟨a,rfl⟩:=yK hx;obtain⟨b,rfl⟩:=yK (Int.le_of_lt hy);rfl
 show Nat.gcd y.natAbs (x%y).natAbs=Nat.gcd x.natAbs y.natAbs;rw[e,Nat.gcd_comm x.natAbs,Nat.gcd_rec y.natAbs x.natAbs,Nat.gcd_comm]
def Mu {t b:Int} (hb:0<b):(Int.gcd t b:Int)<=b:=by
 have h:Int.gcd t b<=b.natAbs:=Nat.gcd_le_right _ nofun;omega
end Lm
namespace Lm
end Lm
namespace Lm
theorem Jh {c:Nat}:∀{p q A B:List Nat},c∉p->c∉q->p++c::A=q++c::B->p=q/\A=B
 | [],[],A,B,_,_,h=>⟨rfl,by simpa using h⟩
 | [],y::q,A,B,_,hq,h=>by
  simp at h;exact absurd (by rw[h.1];exact zp) hq
 | x::p,[],A,B,hp,_,h=>by
  simp at h;exact absurd (by rw[<-h.1];exact zp) hp
 | x::p,y::q,A,B,hp,hq,h=>by
  simp only[List.cons_append,List.cons.injEq] at h;obtain⟨e,h⟩:=h;obtain⟨e1,e2⟩:=Jh (fun z=>hp (zm _ z)) (fun z=>hq (zm _ z)) h;exact⟨by rw[e,e1],e2⟩
def Ms:∀(n:Nat),0<n->∃c r,Nat.toDigits 10 n=c::r/\c≠'0':=by
 intro n
 induction n using Nat.strongRecOn with
 | _ n ih=>
  intro hn
  by_cases h:n<10
  ·rw[Nat.toDigits_of_lt_base h]
   refine⟨_,[],rfl,?_⟩;exact(by decide:∀n<10,0<n->Nat.digitChar n≠'0') n h hn
  ·have hd:n%10<10:=Nat.mod_lt _ ∅
   obtain⟨c,r,e,hc⟩:=ih (n/10) nofun nofun;have t:=Nat.toDigits_append_toDigits (b:=10) (n:=n/10) (d:=n%10) ∅ nofun hd;rw[Nat.div_add_mod,e] at t;exact⟨c,r++Nat.toDigits 10 (n%10),by rw[<-t];rfl,hc⟩
def PV {n k:Nat} (hk:0<k):n<10^k->(Nat.toDigits 10 n).length<=k:=by
 intro h
 induction k generalizing n with
 | zero=>omega
 | succ k ih=>
  by_cases h10:n<10
  ·rw[Nat.toDigits_of_lt_base h10];simp
  ·have hd:n%10<10:=Nat.mod_lt _ ∅
   have hk0:0<k:=by
    rcases Nat.eq_zero_or_pos k with rfl | z
    ·simp at h;omega
    ·exact z
   have:=ih hk0 (n:=n/10) (by rw[Nat.div_lt_iff_lt_mul ∅];rw[Nat.pow_succ] at h;exact h);have t:=Nat.toDigits_append_toDigits (b:=10) (n:=n/10) (d:=n%10) ∅ nofun hd;rw[Nat.div_add_mod] at t;rw[<-t,zg,Nat.toDigits_of_lt_base hd];simp;omega
end Lm
namespace L2
open PySem
def fe (t:Bool) (h:Heap) (a:Addr) (items:Array Value):Prop:=match t with
 | true=>h.IsTuple a items
 | false=>h.IsList a items
def dm (t:Bool) (h:Heap) (it a:Addr) (k:Nat):Prop:=match t with
 | true=>h.IsTupleIter it a k
 | false=>h.IsListIter it a k
def sA (t:Bool) (a:Addr):Obj:=match t with
 | true=>{cls:=.type "tuple_iterator",data:=.fields #[.ref a,.int 0 0]}
 | false=>{cls:=.type "list_iterator",data:=.fields #[.ref a,.int 0 0]}
theorem fe.at {t:Bool} {h h':Heap} {a:Addr} {items:Array Value} (x:fe t h a items) (e:∀o,h.get? a=some o->h'.get? a=some o):fe t h' a items:=by
 cases t
 ·exact Heap.IsList.at x e
 ·obtain⟨o,ho,r⟩:=x;exact⟨o,e o ho,r⟩
theorem dm.at {t:Bool} {h h':Heap} {it a:Addr} {k:Nat} (x:dm t h it a k) (e:∀o,h.get? it=some o->h'.get? it=some o):dm t h' it a k:=by
 cases t
 ·exact Heap.IsListIter.at x e
 ·exact Heap.IsTupleIter.at x e
def fe.but {t:Bool} {h h':Heap} {a b:Addr} {items:Array Value} (x:fe t h a items) (hs:Heap.SameBut b h h') (n:a≠b):fe t h' a items:=x.at fun o e=>hs.extBut a o n e
def dm.but {t:Bool} {h h':Heap} {it a b:Addr} {k:Nat} (x:dm t h it a k) (hs:Heap.SameBut b h h') (n:it≠b):dm t h' it a k:=x.at fun o e=>hs.extBut it o n e
theorem dm.get {t:Bool} {h:Heap} {it a:Addr} {k:Nat} (x:dm t h it a k):∃o,h.get? it=some o/\∀v,o.data≠.cell v:=by
 cases t
 ·obtain⟨o,e,_,d⟩:=x;exact⟨o,e,fun v z=>by rw[d] at z;cases z⟩
 ·obtain⟨o,e,_,d⟩:=x;exact⟨o,e,fun v z=>by rw[d] at z;cases z⟩
def dm.new (t:Bool) (h:Heap) (a:Addr):dm t (h.push (sA t a)) h.objs.size a 0:=by
 cases t
 ·exact⟨_,yw _ rfl,rfl,rfl⟩
 ·exact⟨_,yw _ rfl,rfl,rfl⟩
section
variable {prog:Program} {w:World} {A:Around} {E:Value->Shared->Prop} {s:Shared}
def IJ {t:Bool} {a:Addr} {items:Array Value} {Q:Value->Shared->Prop} (hl:fe t s.heap a items) (hQ:Q (.ref ↑s) {s with heap:=s.heap.push (sA t a)}) :
  wpAny (model prog w) A (pyIter (.ref a)) Q E s:=by
 cases t
 ·exact wpAny_pyIter_list hl hQ
 ·exact wpAny_pyIter_tuple hl hQ
def qV {t:Bool} {it a:Addr} {i:Nat} {items:Array Value} {x:Value} {Q:Value->Shared->Prop} (hit:dm t s.heap it a i) (hl:fe t s.heap a items) (hx:items[i]?=some x)
  (hQ:∀h',dm t h' it a (i+1)->Heap.SameBut it s.heap h'->Q x {s with heap:=h'}):wpAny (model prog w) A (Builtin.SmallTypes.nextOf (.ref it)) Q E s:=by
 cases t
 ·exact wpAny_nextOf_list_item hit hl hx hQ
 ·have hit':s.heap.IsTupleIter it a i:=hit
  obtain⟨o,ho,hc,hd⟩:=id hit';obtain⟨ol,hol,_,nl,hdl⟩:=(show s.heap.IsTuple a items from hl)
  unfold Builtin.SmallTypes.nextOf;refine yt (wpAny_callSpecial?_slot (name:=Str.ofString "__next__") hit'.typeIs F.slot_tuple_iterator_next (wpAny_call_entry F.slot_tuple_iterator_next hit'.typeIs F.entry_tuple_iterator_next ?_ (F.args_tuple_iterator_next_1 _)));show wpAny _ _ (field (.ref it) 0 >>= _) _ _ s;refine yt (wpAny_field ho hd (x:=.ref a) rfl ?_);show wpAny _ _ (if(Value.ref a == Value.none)=true then _ else _) _ _ s;rw[if_neg (show¬((Value.ref a == Value.none)=true) from zK)];show wpAny _ _ (field (.ref it) 1 >>= _) _ _ s;refine yt (wpAny_field ho hd (x:=.int i 0) rfl ?_);show wpAny _ _ (seqItems? (.ref a) >>= _) _ _ s;refine yt (wpAny_seqItems hol hdl ?_);simp only[Int.toNat_natCast,hx];refine yt (wpAny_setField ho hd (by simp) (yv ⟨x,rfl,yv (hQ _ ?_ (Heap.SameBut.update ..))⟩));exact⟨_,yz _ ho (Obj.isFreed_of_fields (Obj.data_mapFields hd _)),(Obj.cls_mapFields ..).trans hc,by rw[Obj.data_mapFields hd];simp[rawInt]⟩
def CK {t:Bool} {it a:Addr} {i:Nat} {items:Array Value} {Q:Value->Shared->Prop} (hh:A.handled=none) (hit:dm t s.heap it a i) (hl:fe t s.heap a items) (hx:items[i]?=none)
  (hE:∀h' e,Heap.ExtBut it s.heap h'->(∃o,h'.get? e=some o/\o.cls=.type "StopIteration")->E (.ref e) {s with heap:=h'}):wpAny (model prog w) A (Builtin.SmallTypes.nextOf (.ref it)) Q E s:=by
 cases t
 ·exact wpAny_nextOf_list_end hh hit hl hx hE
 ·have hit':s.heap.IsTupleIter it a i:=hit
  obtain⟨o,ho,hc,hd⟩:=id hit';obtain⟨ol,hol,_,nl,hdl⟩:=(show s.heap.IsTuple a items from hl)
  unfold Builtin.SmallTypes.nextOf;refine yt (wpAny_callSpecial?_slot (name:=Str.ofString "__next__") hit'.typeIs F.slot_tuple_iterator_next (wpAny_call_entry F.slot_tuple_iterator_next hit'.typeIs F.entry_tuple_iterator_next ?_ (F.args_tuple_iterator_next_1 _)));show wpAny _ _ (field (.ref it) 0 >>= _) _ _ s;refine yt (wpAny_field ho hd (x:=.ref a) rfl ?_);show wpAny _ _ (if(Value.ref a == Value.none)=true then _ else _) _ _ s;rw[if_neg (show¬((Value.ref a == Value.none)=true) from zK)];show wpAny _ _ (field (.ref it) 1 >>= _) _ _ s;refine yt (wpAny_field ho hd (x:=.int i 0) rfl ?_);show wpAny _ _ (seqItems? (.ref a) >>= _) _ _ s;refine yt (wpAny_seqItems hol hdl ?_);simp only[Int.toNat_natCast,hx];refine yt (wpAny_rule (yt (wpAny_setField ho hd (by simp) ?_)));show wpAny _ _ (newExc (.type "StopIteration") [] >>= _) _ _ _;refine yt ?_;simp only[newExc,newTuple];refine yt (wpAny_newObj_type ?_ (by size_fits));refine yt (m:=firstArgMember _ _) (wpAny_of_eq (a:=Value.none) (by first | rfl | (simp only[firstArgMember];rfl)) (wpAny_newObj_type ?_ (by size_fits)));simp only[raiseNew];refine yt (wpAny_handled ?_)
  first | rw[show A.in1.handled=none from hh] | rw[hh]
  exact yt (yv (wpAny_throw (hE _ _ (((Heap.SameBut.update ..).extBut.push _).push _) ⟨_,yw _ rfl,rfl⟩)))
structure KC (z TI TO i1 i2:Addr):Prop where
 a1:TI≠z
 a2:TO≠z
 a3:i1≠z
 a4:i2≠z
 a5:TI≠TO
 a6:TI≠i1
 a7:TI≠i2
 a8:TO≠i1
 a9:TO≠i2
 b1:i1≠i2
structure AR (l z TO i1 i2:Addr):Prop where
 a1:l≠z
 a2:l≠TO
 a3:l≠i1
 a4:l≠i2
def sV (z TO i1 i2:Addr) (h h':Heap):Prop:=∀c o,c≠z->c≠TO->c≠i1->c≠i2->h.get? c=some o->h'.get? c=some o
structure M7 (t1 t2:Bool) (h:Heap) (z TI TO i1 i2 l1 l2:Addr) (k:Nat) (f0:Value):Prop where
 z:IsZip h z TI TO f0
 ti:IsPair h TI (.ref i1) (.ref i2)
 to:∃a b,IsPair h TO a b
 i1:dm t1 h i1 l1 k
 i2:dm t2 h i2 l2 k
def KZ {t1 t2:Bool} {z TI TO i1 i2 l1 l2:Addr} {k:Nat} {xs ys:Array Value} {x y:Value} {Q:Value->Shared->Prop} (D:KC z TI TO i1 i2) (L1:AR l1 z TO i1 i2) (L2:AR l2 z TO i1 i2)
  (S:M7 t1 t2 s.heap z TI TO i1 i2 l1 l2 k .none) (hl1:fe t1 s.heap l1 xs) (hl2:fe t2 s.heap l2 ys) (hx:xs[k]?=some x) (hy:ys[k]?=some y)
  (hQ:∀h',M7 t1 t2 h' z TI TO i1 i2 l1 l2 (k+1) (rawInt ↑s)->IsPair h' ↑s x y->sV z TO i1 i2 s.heap h'->Q (.ref ↑s) {s with heap:=h'}) :
  wpAny (model prog w) A (Builtin.«zip.__next__» ⟨[.ref z],[]⟩) (fun fin s'=>∃v,fin=.done (.ret v)/\Q v s') E s:=by
 obtain⟨hz,hTI,⟨a,b,hTO⟩,h1,h2⟩:=S;show wpAny _ _ (field (.ref z) 2 >>= _) _ _ _;refine yt (wpAny_field hz rfl (x:=.bool false) rfl ?_);show wpAny _ _ (field (.ref z) 3 >>= _) _ _ _;refine yt (wpAny_field hz rfl (x:=.ref TI) rfl (yt (wpAny_seqItems hTI rfl ?_)));show wpAny _ _ (Builtin.SmallTypes.ownedTupleIsFree (.ref z) >>= _) _ _ _;refine yt ?_;unfold Builtin.SmallTypes.ownedTupleIsFree;refine yt (wpAny_field hz rfl (x:=.none) rfl (yv ?_));simp only[if_true];refine yt (wpAny_rule (yt (wpAny_field hz rfl (x:=.ref TO) rfl (yt (wpAny_setField_rec hz (by simp) fun g1 z1 q1=>?_)))));replace z1:IsZip g1 z TI TO .ellipsis:=z1;refine yt ?_;simp only[List.zipIdx_cons,List.zipIdx_nil,List.forIn_cons,List.forIn_nil];refine yt (yt (wpAny_onRaise ?_));show wpAny _ _ (Builtin.SmallTypes.nextOf (.ref i1) >>= _) _ _ _;refine yt (qV (h1.but q1 D.a3) (hl1.but q1 L1.a1) hx fun g2 p2 q2=>yv ?_);have o2:IsPair g2 TO a b:=q2.extBut _ _ D.a8 (q1.extBut _ _ D.a2 hTO);refine yt (wpAny_seqItems o2 rfl (yt (wpAny_updateSeq_pair o2 fun g3 o3 q3=>yt (wpAny_letGo (yv (yt (yt (wpAny_onRaise ?_))))))));replace o3:IsPair g3 TO x b:=o3;show wpAny _ _ (Builtin.SmallTypes.nextOf (.ref i2) >>= _) _ _ _;refine yt (qV (((h2.but q1 D.a4).but q2 D.b1.symm).but q3 D.a9.symm) (((hl2.but q1 L2.a1).but q2 L2.a3).but q3 L2.a2) hy fun g4 p4 q4=>yv ?_);have o4:IsPair g4 TO x b:=q4.extBut _ _ D.a9 o3;refine yt (wpAny_seqItems o4 rfl (yt (wpAny_updateSeq_pair o4 fun g5 o5 q5=>yt (wpAny_letGo (yv (yv ?_))))));replace o5:IsPair g5 TO x y:=o5;refine yt (wpAny_seqItems o5 rfl (yt (wpAny_newTuple ?_)));have sz:g5.objs.size=↑s:=by rw[q5.1,q4.1,q3.1,q2.1,q1.1]
 have z5:IsZip g5 z TI TO .ellipsis:=q5.extBut _ _ D.a2.symm (q4.extBut _ _ D.a4.symm (q3.extBut _ _ D.a2.symm (q2.extBut _ _ D.a3.symm z1)));have k5:sV z TO i1 i2 s.heap g5:=fun c o c1 c2 c3 c4 e=>q5.extBut _ _ c2 (q4.extBut _ _ c4 (q3.extBut _ _ c2 (q2.extBut _ _ c3 (q1.extBut _ _ c1 e))));have r1:dm t1 g5 i1 l1 (k+1):=((p2.but q3 D.a8.symm).but q4 D.b1).but q5 D.a8.symm;have r2:dm t2 g5 i2 l2 (k+1):=p4.but q5 D.a9.symm;have zl:z<g5.objs.size:=yx z5;show wpAny _ _ (Builtin.SmallTypes.ownedTupleHandOut (.ref z) (.ref g5.objs.size) >>= _) _ _ _;refine yt ?_;unfold Builtin.SmallTypes.ownedTupleHandOut;have z6:IsZip (g5.push {cls:=.type "tuple",data:=.seq #[x,y]}) z TI TO .ellipsis:=yu _ z5;refine yt (wpAny_setField_rec z6 (by simp) fun g7 z7 q7=>?_);replace z7:IsZip g7 z TI TO (rawInt g5.objs.size):=z7;refine wpAny_setField_rec z7 (by simp) fun g8 z8 q8=>?_;replace z8:IsZip g8 z TI TO (rawInt g5.objs.size):=z8;have up:∀c o,c≠z->g5.get? c=some o->g8.get? c=some o:=fun c o c1 e=>q8.extBut _ _ c1 (q7.extBut _ _ c1 (yu _ e));have t8:IsPair g8 g5.objs.size x y:=q8.extBut _ _ (yh zl) (q7.extBut _ _ (yh zl) (yw _ rfl));rw[sz] at z8 t8;refine yv ⟨_,rfl,?_⟩;show Q (.ref g5.objs.size) _;rw[sz];exact hQ g8 ⟨z8,up _ _ D.a1 (k5 _ _ D.a1 D.a5 D.a6 D.a7 hTI),⟨_,_,up _ _ D.a2 o5⟩,r1.at fun o e=>up _ o D.a3 e,r2.at fun o e=>up _ o D.a4 e⟩ t8 fun c o c1 c2 c3 c4 e=>up c o c1 (k5 c o c1 c2 c3 c4 e)
def KY {t1 t2:Bool} {z TI TO i1 i2 l1 l2:Addr} {k:Nat} {xs ys:Array Value} {Q:Fin->Shared->Prop} (hh:A.handled=none) (D:KC z TI TO i1 i2) (L1:AR l1 z TO i1 i2) (L2:AR l2 z TO i1 i2)
  (S:M7 t1 t2 s.heap z TI TO i1 i2 l1 l2 k .none) (hl1:fe t1 s.heap l1 xs) (hl2:fe t2 s.heap l2 ys) (hend:xs[k]?=none\/ys[k]?=none)
  (hE:∀h' e,sV z TO i1 i2 s.heap h'->(∃o,h'.get? e=some o/\o.cls=.type "StopIteration")->E (.ref e) {s with heap:=h'}) :
  wpAny (model prog w) A (Builtin.«zip.__next__» ⟨[.ref z],[]⟩) Q E s:=by
 obtain⟨hz,hTI,⟨a,b,hTO⟩,h1,h2⟩:=S;show wpAny _ _ (field (.ref z) 2 >>= _) _ _ _;refine yt (wpAny_field hz rfl (x:=.bool false) rfl ?_);show wpAny _ _ (field (.ref z) 3 >>= _) _ _ _;refine yt (wpAny_field hz rfl (x:=.ref TI) rfl (yt (wpAny_seqItems hTI rfl ?_)));show wpAny _ _ (Builtin.SmallTypes.ownedTupleIsFree (.ref z) >>= _) _ _ _;refine yt ?_;unfold Builtin.SmallTypes.ownedTupleIsFree;refine yt (wpAny_field hz rfl (x:=.none) rfl (yv ?_));simp only[if_true];refine yt (wpAny_rule (yt (wpAny_field hz rfl (x:=.ref TO) rfl (yt (wpAny_setField_rec hz (by simp) fun g1 z1 q1=>?_)))));replace z1:IsZip g1 z TI TO .ellipsis:=z1;refine yt ?_;simp only[List.zipIdx_cons,List.zipIdx_nil,List.forIn_cons,List.forIn_nil];refine yt (yt (wpAny_onRaise ?_));show wpAny _ _ (Builtin.SmallTypes.nextOf (.ref i1) >>= _) _ _ _;cases hx:xs[k]? with
 | none=>
  refine yt (CK hh (h1.but q1 D.a3) (hl1.but q1 L1.a1) hx fun g2 e q2 he=>?_);obtain⟨oe,hoe,hce⟩:=he;have z2:IsZip g2 z TI TO .ellipsis:=q2 _ _ D.a3.symm z1;have hez:e≠z:=fun x=>by subst x;rw[z2] at hoe;cases hoe;simp at hce
  exact wpAny_setField_rec z2 (by simp) fun g3 _ q3=>hE g3 e (fun c o c1 _ c3 _ x=>q3.extBut _ _ c1 (q2 _ _ c3 (q1.extBut _ _ c1 x))) ⟨oe,q3.extBut _ _ hez hoe,hce⟩
 | some x=>
  have hy:ys[k]?=none:=by rcases hend with h | h;rw[hx] at h;cases h;exact h
  refine yt (qV (h1.but q1 D.a3) (hl1.but q1 L1.a1) hx fun g2 p2 q2=>yv ?_);have o2:IsPair g2 TO a b:=q2.extBut _ _ D.a8 (q1.extBut _ _ D.a2 hTO);refine yt (wpAny_seqItems o2 rfl (yt (wpAny_updateSeq_pair o2 fun g3 o3 q3=>yt (wpAny_letGo (yv (yt (yt (wpAny_onRaise ?_))))))));show wpAny _ _ (Builtin.SmallTypes.nextOf (.ref i2) >>= _) _ _ _;refine yt (CK hh (((h2.but q1 D.a4).but q2 D.b1.symm).but q3 D.a9.symm) (((hl2.but q1 L2.a1).but q2 L2.a3).but q3 L2.a2) hy fun g4 e q4 he=>?_);obtain⟨oe,hoe,hce⟩:=he;have z4:IsZip g4 z TI TO .ellipsis:=q4 _ _ D.a4.symm (q3.extBut _ _ D.a2.symm (q2.extBut _ _ D.a3.symm z1));have hez:e≠z:=fun x=>by subst x;rw[z4] at hoe;cases hoe;simp at hce
  exact wpAny_setField_rec z4 (by simp) fun g5 _ q5=>hE g5 e (fun c o c1 c2 c3 c4 x=>q5.extBut _ _ c1 (q4 _ _ c4 (q3.extBut _ _ c2 (q2.extBut _ _ c3 (q1.extBut _ _ c1 x))))) ⟨oe,q5.extBut _ _ hez hoe,hce⟩
def EA {t1 t2:Bool} {z TI TO i1 i2 l1 l2:Addr} {k:Nat} {xs ys:Array Value} {x y:Value} {Q:Option Value->Shared->Prop} (D:KC z TI TO i1 i2) (L1:AR l1 z TO i1 i2) (L2:AR l2 z TO i1 i2)
  (S:M7 t1 t2 s.heap z TI TO i1 i2 l1 l2 k .none) (hl1:fe t1 s.heap l1 xs) (hl2:fe t2 s.heap l2 ys) (hx:xs[k]?=some x) (hy:ys[k]?=some y)
  (hQ:∀h',M7 t1 t2 h' z TI TO i1 i2 l1 l2 (k+1) (rawInt ↑s)->IsPair h' ↑s x y->sV z TO i1 i2 s.heap h'->Q (some (.ref ↑s)) {s with heap:=h'}) :
  wpAny (model prog w) A (pyNext (.ref z)) Q E s:=by
 have hT:s.TypeIs (.ref z) "zip":=⟨_,S.z,rfl⟩
 unfold pyNext;exact yt (wpAny_attempt (wpAny_callSpecial?_slot (name:=Str.ofString "__next__") hT F.slot_zip_next (wpAny_call_entry F.slot_zip_next hT F.entry_zip_next (KZ D L1 L2 S hl1 hl2 hx hy fun h' a1 a2 a3=>yv (hQ h' a1 a2 a3)) (F.args_zip_next_1 _))))
def Ey {t1 t2:Bool} {z TI TO i1 i2 l1 l2:Addr} {k:Nat} {xs ys:Array Value} {Q:Option Value->Shared->Prop} (hh:A.handled=none) (D:KC z TI TO i1 i2) (L1:AR l1 z TO i1 i2) (L2:AR l2 z TO i1 i2)
  (S:M7 t1 t2 s.heap z TI TO i1 i2 l1 l2 k .none) (hl1:fe t1 s.heap l1 xs) (hl2:fe t2 s.heap l2 ys) (hend:xs[k]?=none\/ys[k]?=none)
  (hQ:∀h',sV z TO i1 i2 s.heap h'->Q none {s with heap:=h'}):wpAny (model prog w) A (pyNext (.ref z)) Q E s:=by
 have hT:s.TypeIs (.ref z) "zip":=⟨_,S.z,rfl⟩
 unfold pyNext;refine yt (wpAny_attempt (wpAny_callSpecial?_slot (name:=Str.ofString "__next__") hT F.slot_zip_next (wpAny_call_entry F.slot_zip_next hT F.entry_zip_next (KY hh D L1 L2 S hl1 hl2 hend fun h' e hk he=>?_) (F.args_zip_next_1 _))));obtain⟨o,ho,hc⟩:=he;exact yt (wpAny_isInstance (T:="StopIteration") (b:=true) ⟨o,ho,hc⟩ isSubtype_stop (yv (hQ _ hk)))
end
abbrev RA (t1:Bool) (h:Heap) (l1:Addr):Heap:=h.push (sA t1 l1)
abbrev Qw (t1 t2:Bool) (h:Heap) (l1 l2:Addr):Heap:=(RA t1 h l1).push (sA t2 l2)
abbrev Rz (t1 t2:Bool) (h:Heap) (l1 l2:Addr):Heap:=(Qw t1 t2 h l1 l2).push {cls:=.type "tuple",data:=.seq #[.ref h.objs.size,.ref (RA t1 h l1).objs.size]}
abbrev Ry (t1 t2:Bool) (h:Heap) (l1 l2:Addr):Heap:=(Rz t1 t2 h l1 l2).push {cls:=.type "tuple",data:=.seq #[.none,.none]}
abbrev OT (t1 t2:Bool) (h:Heap) (l1 l2:Addr):Heap:=(Ry t1 t2 h l1 l2).push {cls:=.type "zip",data:=.fields #[.none,.bool false,.bool false,.ref (Qw t1 t2 h l1 l2).objs.size,.ref (Rz t1 t2 h l1 l2).objs.size]}
def K1 (t1 t2:Bool) (l1 l2:Addr) (xs ys:Array Value) :
  Meets (Builtin.«zip.__new__» ⟨[.type "zip",.ref l1,.ref l2],[]⟩) (fun _ R s=>fe t1 s.heap l1 xs/\fe t2 s.heap l2 ys/\R (.ok (.ret (.ref (Ry t1 t2 s.heap l1 l2).objs.size))) {s with heap:=OT t1 t2 s.heap l1 l2}):=
 .of_wp fun prog w A R s h=>by
  obtain⟨hp,g,d,tk,os⟩:=s;obtain⟨a1,a2,h⟩:=h;have hsub:=sub_zip;have b1:fe t1 (Shared.heap ⟨hp,g,d,tk,os⟩) l1 xs:=a1;have b2:fe t2 (Shared.heap ⟨hp.push (sA t1 l1),g,d,tk,os⟩) l2 ys:=a2.at fun o e=>yu _ e;wp_walk using IJ b1,IJ b2;exact⟨_,rfl,h⟩
def EB {prog:Program} {w:World} {A:Around} {E:Value->Shared->Prop} {s:Shared} {t1 t2:Bool} {l1 l2:Addr} {xs ys:Array Value} {Q:Value->Shared->Prop} (hl1:fe t1 s.heap l1 xs) (hl2:fe t2 s.heap l2 ys)
  (h:∀h',M7 t1 t2 h' (↑s+4) (↑s+2) (↑s+3) ↑s (↑s+1) l1 l2 0 .none->(∀c o,s.heap.get? c=some o->h'.get? c=some o)->Q (.ref (↑s+4)) {s with heap:=h'}) :
  wpAny (model prog w) A (call (.type "zip") [.ref l1,.ref l2]) Q E s:=by
 refine callType_new F.called_zip ∅ (F.typeCall_zip_2 _ _) (F.newCall_zip_2 _ _) (fun obj=>F.args_object_init_3 obj _ _) F.entry_zip_new (K1 t1 t2 l1 l2 xs ys) ⟨hl1,hl2,?_⟩;have z1:(RA t1 s.heap l1).objs.size=↑s+1:=Heap.size_push ..;have z2:(Qw t1 t2 s.heap l1 l2).objs.size=↑s+2:=by rw[Heap.size_push,z1]
 have z3:(Rz t1 t2 s.heap l1 l2).objs.size=↑s+3:=by rw[Heap.size_push,z2]
 have z4:(Ry t1 t2 s.heap l1 l2).objs.size=↑s+4:=by rw[Heap.size_push,z3]
 have up:∀c o,(Qw t1 t2 s.heap l1 l2).get? c=some o->(OT t1 t2 s.heap l1 l2).get? c=some o:=fun c o e=>yu _ (yu _ (yu _ e));have g5:(OT t1 t2 s.heap l1 l2).get? (Ry t1 t2 s.heap l1 l2).objs.size=some _:=yw _ rfl;have g4:(OT t1 t2 s.heap l1 l2).get? (Rz t1 t2 s.heap l1 l2).objs.size=some _:=yu _ (yw _ rfl);have g3:(OT t1 t2 s.heap l1 l2).get? (Qw t1 t2 s.heap l1 l2).objs.size=some _:=yu _ (yu _ (yw _ rfl));have g2:dm t2 (OT t1 t2 s.heap l1 l2) (RA t1 s.heap l1).objs.size l2 0:=(dm.new t2 _ l2).at (up _);have g1:dm t1 (OT t1 t2 s.heap l1 l2) ↑s l1 0:=((dm.new t1 _ l1).at fun o e=>yu _ e).at (up _);show _/\_;rw[z2,z3,z4] at g5;rw[z1,z2] at g3;rw[z3] at g4;rw[z1] at g2;rw[z4];exact⟨⟨_,g5,rfl⟩,h _ ⟨g5,g3,⟨_,_,g4⟩,g1,g2⟩ fun c o x=>up c o (yu _ (yu _ x))⟩
end L2
namespace L2
open PySem PySem.Spec PyProof.Rows
def aV (h:H p=none):au H (upd H p o):=fun b u e=>by rw[aD (bf e h)];exact e
def laid {H:Hp} {o:HO} {Q:VK} (k:∀p H',au H H'->H' p=some o->Q (.ref p) H'):∀p,H p=none->Q (.ref p) (upd H p o):=fun p hp=>k p _ (aV hp) aC
def au.tup {K:yA} {H H':Hp} {a:Addr} {xs:List V} (e:au H H') (h:du K H a xs):du K H' a xs:=by
 rcases h with(h | ⟨o,h⟩) | h
 ·exact .inl (.inl (e _ _ h))
 ·exact .inl (.inr ⟨o,e _ _ h⟩)
 ·exact .inr h
section
variable {X:Cx} {pins:List (Addr×Obj)} {σ:St} {H:Hp} {s:Shared} {h':Heap}
def Inv.w9 {T:Addr} {o:HO} {ch:List Addr} {t':Nat} (I:Inv X pins σ H s) (hf:∀b∈ch,qQ X pins H b) (hT:↑s<=T) (k:∀b u,b∉ch->s.heap.get? b=some u->h'.get? b=some u)
  (new:cx X.prog X.w (upd H T o) h' T o):Inv X pins σ (upd H T o) {s with heap:=h',toks:=t'}:=by
 have hn:H T=none:=I.bV.fresh hT;have neT:∀b u,s.heap.get? b=some u->b≠T:=fun b u e=>yi (yb (yx e) hT);have nch:∀b u,H b=some u->b∉ch:=fun b u e hb=>by rw[(hf b hb).1] at e;cases e
 refine I.step (g':=s.gens) (d':=s.drawn) (ch:=ch) (fun b hb=>?_) (fun b u _ _ hc e _=>k b u hc e) (fun b u _ _ hc e _=>⟨u.slots,k b u hc e⟩) (fun b u hc e n=>by rw[aD (neT b u e)];exact n) (fun b u hc e=>⟨u,k b u hc e⟩)
  (fun b xs e=>by rw[aD (bf e hn)];exact e) (fun b ob u e=>by rw[aD (bf e hn)];exact e) (fun b ps e=>⟨#[],by rw[aD (bf e hn),e];simp⟩) (fun m hm=>?_) (fun b u e=>?_) I.bare
 ·obtain⟨f0,f1,f2,f3,f4,f5⟩:=hf b hb
  exact⟨f3,f1,f4,f5⟩
 ·obtain⟨ob,es,ep,ho,r⟩:=hm
  exact⟨ob,es,ep,k _ _ (fun z=>(hf _ z).2.1 rfl) ho,r⟩
 ·by_cases hb:b=T
  ·subst hb;rw[aC] at e;cases e;exact new
  ·rw[aD hb] at e
   refine(I.bV b u e).lh (fun c v hc q=>k c v ?_ q) (fun c q=>by rw[aD (bf q hn)];exact q) fun c xs q=>by rw[aD (bf q hn)];exact q
   rcases hc with z | z
   ·rw[z];exact nch b u e
   ·exact nch c _ z
def Inv.turns {ch:List Addr} {t':Nat} (I:Inv X pins σ H s) (hf:∀b∈ch,qQ X pins H b) (k:∀b u,b∉ch->s.heap.get? b=some u->h'.get? b=some u):Inv X pins σ H {s with heap:=h',toks:=t'}:=by
 have nch:∀b u,H b=some u->b∉ch:=fun b u e hb=>by rw[(hf b hb).1] at e;cases e
 refine I.step (g':=s.gens) (d':=s.drawn) (ch:=ch) (fun b hb=>?_) (fun b u _ _ hc e _=>k b u hc e) (fun b u _ _ hc e _=>⟨u.slots,k b u hc e⟩) (fun b u hc e n=>n) (fun b u hc e=>⟨u,k b u hc e⟩)
  (fun b xs e=>e) (fun b ob u e=>e) (fun b ps e=>⟨#[],by rw[e];simp⟩) (fun m hm=>?_) (fun b u e=>?_) I.bare
 ·obtain⟨f0,f1,f2,f3,f4,f5⟩:=hf b hb
  exact⟨f3,f1,f4,f5⟩
 ·obtain⟨ob,es,ep,ho,r⟩:=hm
  exact⟨ob,es,ep,k _ _ (fun z=>(hf _ z).2.1 rfl) ho,r⟩
 ·refine(I.bV b u e).lh (fun c v hc q=>k c v ?_ q) (fun c q=>q) fun c xs q=>q
  rcases hc with z | z
  ·rw[z];exact nch b u e
  ·exact nch c _ z
def DZ:bootBuiltins "enumerate"= some (.type "enumerate"):=by decide +kernel
def MN:bootBuiltins "zip"= some (.type "zip"):=by decide +kernel
def Qq (K:yA) (a:Addr):It:=
 ⟨fun i H=>∃xs x,aI K H a xs/\xs[i]?=some x,fun i H x H'=>∃p v,H p=none/\x=.ref p/\H'=upd H p (.tup [.int (i:Int),v])/\∀xs,aI K H a xs->xs[i]?=some v,fun i H=>∃xs,aI K H a xs/\xs.length<=i⟩
def JB {P:Program} {w:World} {K:yA} {es:List Expr} {kt:Nat} {tp:Pos} (a it e:Addr) (hne:e≠it) :
  Turn P w K (.Tuple es kt tp) (Qq K a) [e,it] e (fun i h=>(∃old,IsEnum h e it (i:Int) old)/\h.IsListIter it a i) where
 mem:=by simp
 obj:=fun i h st b hb=>by
  obtain⟨⟨old,he⟩,o,e1,c,d⟩:=st;rcases zC.mp hb with z | z
  ·subst z;exact⟨_,he,fun v z=>by cases z⟩
  ·have z':b=it:=by simpa using z
   subst z';exact⟨o,e1,fun v z=>by rw[d] at z;cases z⟩
 keep:=fun i h h' st k=>⟨let ⟨old,he⟩:=st.1;⟨old,k e (by simp) _ he⟩,st.2.at fun o e=>k it (by simp) o e⟩
 item:=by
  intro X hP hw hK hc i pins s σ H E I hf st hg;subst hP hw hK;obtain⟨xs,x,hq,hx⟩:=hg;obtain⟨its,rv,p,hz⟩:=I.list hq;obtain⟨u,hu,ru⟩:=rv.get hx;obtain⟨⟨old,he⟩,hit⟩:=st;refine wpAny_pyNext_enum_item he hit p.isList (x:=u) (by simpa using hu) hne fun g1 ho hit1 hT hsz hk=>?_;refine⟨_,rfl,wpAny_letOwnedTupleGo_enum (s:={s with heap:=g1,toks:=s.toks+1}) ho fun g2 he2 hs2=>?_⟩;have hel:e<↑s:=yx he;have gT:g2.get? ↑s=some {cls:=.type "tuple",data:=.seq #[.int i s.toks,u]}:=hs2.extBut _ _ (yh hel) hT;have I1:Inv X pins σ (upd H ↑s (.tup [.int (i:Int),x])) {s with heap:=g2,toks:=s.toks+1}:=
   I.w9 hf (zk _) (fun b ob hb q=>hs2.extBut _ _ (fun z=>hb (by simp[z])) (hk b ob (fun z=>hb (by simp[z])) (fun z=>hb (by simp[z])) q))
    ⟨by show 2<=sizeLine;decide,[.int i s.toks,u],.cons ⟨_,rfl⟩ (.cons ru .nil),⟨_,gT,rfl,_,rfl⟩⟩
  refine⟨.ref ↑s,_,I1,rfl,⟨_,x,I.bV.fresh (zk _),rfl,rfl,fun ys hy=>by rw[I.yS hy hq];exact hx⟩,⟨⟨_,by simpa using he2⟩,hit1.at fun o q=>hs2.extBut _ _ hne.symm q⟩,fun b hb=>?_⟩;have hb':=(hf b hb).1;obtain⟨o,ho',_⟩:∃o,s.heap.get? b=some o/\True:=by
   rcases zC.mp hb with z | z
   ·subst z;exact⟨_,he,trivial⟩
   ·have z':b=it:=by simpa using z
    subst z';obtain⟨o,e1,_⟩:=hit;exact⟨o,e1,trivial⟩
  rw[aD (yi (yx ho'))];exact hb'
 done:=by
  intro X hP hw hK hc i pins s σ H E I hf st hg;subst hP hw hK;obtain⟨xs,hq,hx⟩:=hg;obtain⟨its,rv,p,hz⟩:=I.list hq;obtain⟨⟨old,he⟩,hit⟩:=st;have hl:=rv.length;exact wpAny_pyNext_enum_end (I.ok.hd hc) he hit p.isList (by simp;omega) fun g1 eb=>⟨rfl,I.turns (t':=s.toks) hf fun b o hb q=>eb b o (fun z=>hb (by simp[z])) q⟩
 self:=fun _ _ _ _ _ st h=>let ⟨_,he⟩:=st.1;wpAny_pyIter_enum he h
def OI (K:yA) (ta:TA):TI:=fun σ H R=>ta σ H fun vs H1=>∃a xs,vs=[.ref a]/\aI K H1 a xs/\R (Qq K a) H1
def wH {a:Expr} {ta:TA} {es:List Expr} {kt:Nat} {tp p pos:Pos} (hg:Gl X "enumerate") (hm:X.mg "enumerate"= none) (ha:PA X [a] ta) (hs:starEach [a] X.env=[(false,eval a X.env)]<|>qe_) :
  PI X (.Tuple es kt tp) (.Call (.Name "enumerate" p) [a] [] pos) (OI X.K ta):=by
 intro pins s σ H R I h;refine Call_ (ji I hg hm DZ (yL (cQ (ha pos pins s σ H _ I h) fun us s1 ⟨vs,H1,I1,r1,q1⟩=>?_) hs rfl));obtain⟨l,xs,e,hq,q⟩:=q1;subst e;cases r1 with
 | cons r rr=>
  cases rr;cases r;obtain⟨its,rv,pl,hz⟩:=I1.list hq;refine call_enumerate_list pl.isList fun g he hit hsz hk=>?_;refine wpAny_pyIter_enum (s:={s1 with heap:=g}) he ?_;have I2:Inv X pins σ H1 {s1 with heap:=g}:=I1.kept (t':=s1.toks) hk;refine⟨↑s1+1,[↑s1+1,↑s1],_,Qq X.K l,H1,rfl,I2,JB l ↑s1 (↑s1+1) (yh (Nat.lt_succ_self _)),⟨⟨_,by simpa using he⟩,hit⟩,fun b hb=>?_,q⟩;have hb':↑s1<=b:=by
   rcases zC.mp hb with z | z
   ·subst z;exact Nat.le_succ _
   ·have z':b=↑s1:=by simpa using z
    subst z';exact zk _
  exact I1.vZ hb' (I1.bV.fresh hb')
def BK (t:Bool) (K:yA) (H:Hp) (a:Addr) (xs:List V):Prop:=match t with
 | true=>du K H a xs
 | false=>aI K H a xs
def Inv.sq (I:Inv X pins σ H s) (h:BK t X.K H a xs):∃its:List Value,Vals xs its/\fe t s.heap a its.toArray/\xs.length<=sizeLine:=by
 cases t
 ·obtain⟨its,r,p,z⟩:=I.list h;exact⟨its,r,p.isList,z⟩
 ·obtain⟨its,r,p,z⟩:=I.tuple h;exact⟨its,r,p,z⟩
def Inv.Lp (I:Inv X pins σ H s) (h:BK t X.K H a xs) (h':BK t X.K H a ys):xs=ys:=by
 cases t
 ·exact I.yS h h'
 ·exact I.BP h h'
def fe.lt (x:fe t h a items):a<h.objs.size:=by
 cases t
 ·obtain⟨o,e,_⟩:=x;exact yx e
 ·obtain⟨o,e,_⟩:=x;exact yx e
def RN (t1 t2:Bool) (K:yA) (a b:Addr):It:=
  ⟨fun i H=>∃xs ys x y,BK t1 K H a xs/\BK t2 K H b ys/\xs[i]?=some x/\ys[i]?=some y,
   fun i H x H'=>∃p u v,H p=none/\x=.ref p/\H'=upd H p (.tup [u,v])/\(∀xs,BK t1 K H a xs->xs[i]?=some u)/\∀ys,BK t2 K H b ys->ys[i]?=some v,
   fun i H=>∃xs ys,BK t1 K H a xs/\BK t2 K H b ys/\(xs.length<=i\/ys.length<=i)⟩
def K7 {P:Program} {w:World} {K:yA} {es:List Expr} {kt:Nat} {tp:Pos} (t1 t2:Bool) (a b z TI TO i1 i2:Addr) (D:KC z TI TO i1 i2) (L1:AR a z TO i1 i2) (L2:AR b z TO i1 i2) :
  Turn P w K (.Tuple es kt tp) (RN t1 t2 K a b) [z,TI,TO,i1,i2] z (fun i h=>M7 t1 t2 h z TI TO i1 i2 a b i .none) where
 mem:=by simp
 obj:=fun i h st c hc=>by
  obtain⟨hz,hi,⟨_,_,ho⟩,h1,h2⟩:=st;simp only[zC,zD,or_false] at hc;rcases hc with e | e | e | e | e
  ·subst e;exact⟨_,hz,fun v q=>by cases q⟩
  ·subst e;exact⟨_,hi,fun v q=>by cases q⟩
  ·subst e;exact⟨_,ho,fun v q=>by cases q⟩
  ·subst e;exact h1.get
  ·subst e;exact h2.get
 keep:=fun i h h' st k=>⟨k z (by simp) _ st.z,k TI (by simp) _ st.ti,let ⟨x,y,e⟩:=st.to;⟨x,y,k TO (by simp) _ e⟩,st.i1.at fun o e=>k i1 (by simp) o e,st.i2.at fun o e=>k i2 (by simp) o e⟩
 item:=by
  intro X hP hw hK hc i pins s σ H E I hf st hg;subst hP hw hK;obtain⟨xs,ys,x,y,hq,hq',hx,hy⟩:=hg;obtain⟨its,rv,p,hz⟩:=I.sq hq;obtain⟨jts,rw',p',hz'⟩:=I.sq hq';obtain⟨u,hu,ru⟩:=rv.get hx;obtain⟨u',hu',ru'⟩:=rw'.get hy;refine EA D L1 L2 st p p' (x:=u) (y:=u') (by simpa using hu) (by simpa using hu') fun g1 S1 hT hk=>?_;refine⟨_,rfl,wpAny_letOwnedTupleGo_zip (s:={s with heap:=g1}) S1.z fun g2 z2 hs2=>?_⟩;have zl:z<↑s:=yx st.z;have gT:g2.get? ↑s=some {cls:=.type "tuple",data:=.seq #[u,u']}:=hs2.extBut _ _ (yh zl) hT;have I1:Inv X pins σ (upd H ↑s (.tup [x,y])) {s with heap:=g2}:=
   I.w9 (t':=s.toks) hf (zk _) (fun c ob hb q=>hs2.extBut _ _ (fun e=>hb (by simp[e])) (hk c ob (fun e=>hb (by simp[e])) (fun e=>hb (by simp[e])) (fun e=>hb (by simp[e])) (fun e=>hb (by simp[e])) q))
    ⟨by show 2<=sizeLine;decide,[u,u'],.cons ru (.cons ru' .nil),⟨_,gT,rfl,_,rfl⟩⟩
  refine⟨.ref ↑s,_,I1,rfl,⟨_,x,y,I.bV.fresh (zk _),rfl,rfl,fun zs h=>by rw[I.Lp h hq];exact hx,fun zs h=>by rw[I.Lp h hq'];exact hy⟩,⟨z2,hs2.extBut _ _ D.a1 S1.ti,let ⟨x,y,e⟩:=S1.to;⟨x,y,hs2.extBut _ _ D.a2 e⟩,S1.i1.but hs2 D.a3,S1.i2.but hs2 D.a4⟩,fun c hc=>?_⟩;have hb':=(hf c hc).1;obtain⟨o,ho',_⟩:∃o,s.heap.get? c=some o/\True:=by
   obtain⟨hz,hi,⟨_,_,ho⟩,⟨q1,e1,_⟩,⟨q2,e2,_⟩⟩:_/\_/\_/\_/\_:=⟨st.z,st.ti,st.to,st.i1.get,st.i2.get⟩
   simp only[zC,zD,or_false] at hc;rcases hc with e | e | e | e | e
   ·subst e;exact⟨_,hz,trivial⟩
   ·subst e;exact⟨_,hi,trivial⟩
   ·subst e;exact⟨_,ho,trivial⟩
   ·subst e;exact⟨_,e1,trivial⟩
   ·subst e;exact⟨_,e2,trivial⟩
  rw[aD (yi (yx ho'))];exact hb'
 done:=by
  intro X hP hw hK hc i pins s σ H E I hf st hg;subst hP hw hK;obtain⟨xs,ys,hq,hq',hx⟩:=hg;obtain⟨its,rv,p,hz⟩:=I.sq hq;obtain⟨jts,rw',p',hz'⟩:=I.sq hq';have hl:=rv.length;have hl':=rw'.length;refine Ey (I.ok.hd hc) D L1 L2 st p p' ?_ fun g1 eb=>⟨rfl,I.turns (t':=s.toks) hf fun c o hb q=>eb c o (fun e=>hb (by simp[e])) (fun e=>hb (by simp[e])) (fun e=>hb (by simp[e])) (fun e=>hb (by simp[e])) q⟩
  rcases hx with h | h
  ·exact .inl (by simp;omega)
  ·exact .inr (by simp;omega)
 self:=fun _ _ _ _ _ st h=>wpAny_pyIter_zip st.z h
def SI (K:yA) (ta:TA):TI:=fun σ H R=>ta σ H fun vs H1=>∃t1 t2 a b xs ys,vs=[.ref a,.ref b]/\BK t1 K H1 a xs/\BK t2 K H1 b ys/\R (RN t1 t2 K a b) H1
def LU {a b:Expr} {ta:TA} {es:List Expr} {kt:Nat} {tp p pos:Pos} (hg:Gl X "zip") (hm:X.mg "zip"= none) (ha:PA X [a,b] ta)
  (hs:starEach [a,b] X.env=[(false,eval a X.env),(false,eval b X.env)]<|>qe_) (hs2:starEach [b] X.env=[(false,eval b X.env)]<|>qe_) :
  PI X (.Tuple es kt tp) (.Call (.Name "zip" p) [a,b] [] pos) (SI X.K ta):=by
 intro pins s σ H R I h;refine Call_ (ji I hg hm MN (yL (cQ (ha pos pins s σ H _ I h) fun us s1 ⟨vs,H1,I1,r1,q1⟩=>?_) (by rw[hs,hs2]) (by rw[hs2];rfl)));obtain⟨t1,t2,a,b,xs,ys,e,hq,hq',q⟩:=q1;subst e;cases r1 with
 | cons r rr=>
  cases rr with
  | cons r' rr=>
   cases rr;cases r;cases r';obtain⟨its,rv,pl,hz⟩:=I1.sq hq;obtain⟨jts,rv',pl',hz'⟩:=I1.sq hq';have la:=pl.lt;have lb:=pl'.lt;refine EB pl pl' fun g S hk=>?_;refine wpAny_pyIter_zip (s:={s1 with heap:=g}) S.z ?_;have I2:Inv X pins σ H1 {s1 with heap:=g}:=I1.kept (t':=s1.toks) hk;have D:KC (↑s1+4) (↑s1+2) (↑s1+3) ↑s1 (↑s1+1):=by
    constructor <;> (show _≠(_:Nat)) <;> omega
   have L:∀c,c<↑s1->AR c (↑s1+4) (↑s1+3) ↑s1 (↑s1+1):=fun c hc=>by
    constructor <;> (show _≠(_:Nat)) <;> omega
   refine⟨↑s1+4,[_,_,_,_,_],_,RN t1 t2 X.K a b,H1,rfl,I2,K7 t1 t2 a b _ _ _ _ _ D (L a la) (L b lb),S,fun c hc=>?_,q⟩;have hb':↑s1<=c:=by
    simp only[zC,zD,or_false] at hc;rcases hc with e | e | e | e | e <;> (subst e;first | exact Nat.le_add_right _ _ | exact zk _)
   exact I1.vZ hb' (I1.bV.fresh hb')
def C6 (bs:List Bool):((List.range bs.length).all fun i=>(bs[i]?).getD true)=bs.all id:=by
 rw[Bool.eq_iff_iff,yo,yo];constructor
 ·intro h b hb
  obtain⟨i,hi,e⟩:=List.mem_iff_getElem.mp hb;have:=h i (List.mem_range.mpr hi);rw[zb hi,e] at this;exact this
 ·intro h i hi
  have hi':=List.mem_range.mp hi;rw[zb hi'];exact h _ (yk hi')
def oM (hc:X.calm=true):fJ X (.builtin "all") (fun xs H Q=>∃(a:Addr) (bs:List Bool),xs=[.ref a]/\aI X.K H a (bs.map V.bl)/\Q (.bl (bs.all id)) H):=by
 intro pins s σ H xs us Q I r h;obtain⟨a,bs,e,hq,q⟩:=h;subst e;cases r with
 | cons r rr=>
  cases rr;cases r;obtain⟨its,rv,p,hz⟩:=I.list hq;have hlt:a<↑s:=by obtain⟨o,n,e,_⟩:=p;exact yx e
  have hlen:bs.length=its.length:=by have:=rv.length;rw[za] at this;exact this
  refine call_all_walk (wpAny_pyIter_list p.isList ?_);refine⟨↑s,[↑s,a],[↑s],its.toArray.size,_,_,fun i=>(bs[i]?).getD true,rfl,Walks.list (A:=X.A.in1) (I.ok.hd hc) _ a (yi hlt) its.toArray,
   ⟨⟨_,yw _ rfl,rfl,rfl⟩,p.isList.push _⟩,fun i v s' Q' E' hP hQ=>?_,fun h' tk hk=>?_⟩
  ·have hP':its[i]?=some v:=by simpa using hP
   have hi:i<bs.length:=by rw[hlen];exact(zw.mp hP').1
   have hm:(bs.map V.bl)[i]?=some (.bl bs[i]):=by rw[zJ,zb hi];rfl
   obtain⟨u,hu,ru⟩:=rv.get hm;rw[hP'] at hu;cases hu;cases ru;dsimp only at hQ;rw[zb hi] at hQ;exact wpAny_truthy_bool hQ
  ·have e:((List.range its.toArray.size).all fun i=>(bs[i]?).getD true)=bs.all id:=by rw[ya,<-hlen];exact C6 bs
   rw[e];exact⟨.bl _,H,I.kept fun b o x=>hk b o (fun hm=>by rw[zy.mp hm] at x;exact ye _ (yx x)) (yu _ x),rfl,q⟩
end
section
variable {X:Cx} {pos:Pos}
end
inductive Ty where
 | bC | bl | int | str | tup | lst | Rl
def Ty.name:Ty->String
 | .bC=> "NoneType" | .bl=> "bool" | .int=> "int" | .str=> "str" | .tup=> "tuple" | .lst=> "list" | .Rl=> "dict"
def tag (H:Hp):V->Option Ty
 | .bC=>some .bC
 | .bl _=>some .bl
 | .int _=>some .int
 | .str _=>some .str
 | .ref a=>match H a with
  | some (.tup _)=>some .tup
  | some (.lst _)=>some .lst
  | some (.mW _ (.lst _))=>some .lst
  | some (.dK _)=>some .Rl
  | some (.dT _)=>some .Rl
  | _=>none
 | _=>none
def O4 {K:yA} {H:Hp} {x:V} {n:Ty} (h:tag H x=some n):uF K H x (.type n.name):=by
 cases x with
 | bC=>cases h;exact .bC
 | bl b=>cases h;exact .bl b
 | int i=>cases h;exact .int i
 | str y=>cases h;exact .str y
 | Jj _=>cases h
 | N0 _=>cases h
 | ty _=>cases h
 | ref a=>
  simp only[tag] at h;split at h
  ·cases h;exact .tup ‹_›
  ·cases h;exact .lst ‹_›
  ·cases h;exact .mW ‹_›
  ·cases h;exact .dK ‹_›
  ·cases h;exact .dT ‹_›
  ·cases h
def Ty.sub:Ty->Ty->Bool
 | .bl,.bl=>true | .int,.int=>true | .str,.str=>true | .tup,.tup=>true | .lst,.lst=>true | .Rl,.Rl=>true | .bC,.bC=>true
 | .bl,.int=>true
 | _,_=>false
def NW (K:yA) (a b:Ty):PySem.W.kitOne K (.type a.name) (.type b.name)=some (a.sub b):=by
 cases a <;> cases b <;> first | rfl | decide +kernel | kernel_rfl
def Sj (c:Ty) (ta:TE):TE:=fun σ H Q=>ta σ H fun x H1=>∃n,tag H1 x=some n/\Q (.bl (n.sub c)) H1
section
variable {X:Cx}
def PF (c:Ty) (hx:bootBuiltins x=some (.type c.name)) (ha:PE X a ta) (hm:X.mg "isinstance"= none) (hm2:X.mg x=none)
  (hg:Gl X "isinstance"<|>qe_) (hg2:Gl X x<|>qe_) (hn:x≠ "__name__"<|>qb_) (hd:(x == ("__debug__": Str))=false<|>qb_)
  (hs:starEach [a,.Name x p2] X.env=(false,eval a X.env)::starEach [.Name x p2] X.env<|>qe_) (hs2:starEach [.Name x p2] X.env=[(false,eval (.Name x p2) X.env)]<|>qe_) :
  PE X (.Call (.Name "isinstance" p1) [a,.Name x p2] [] pos) (Sj c ta):=by
 have hc:fJ X (.builtin "isinstance") (fun xs H Q=>∃v n,xs=[v,.ty c.name]/\tag H v=some n/\Q (.bl (n.sub c)) H):=by
  intro pins s σ H xs us Q I r h;obtain⟨v,n,e,ht,q⟩:=h;subst e;cases r with
  | cons r rr=>
   cases rr with
   | cons r' rr=>
    cases rr;cases r';exact J6 I r (O4 ht) (NW _ _ _) fun tk=>⟨.bl _,H,I.tok tk,rfl,q⟩
 have hb:PE X (.Name x p2) (tC (.ty c.name)):=NK (u:=.type c.name) hg2 hm2 hx rfl hn hd;have ht:=Fj (p:=p1) (pos:=pos) hc hg hm (by decide +kernel) (ah ha (ah hb af hs2) hs) (he:=hs) (hpl:=by rw[hs2];rfl);intro pins s σ H Q I h;have mono:ta σ H (fun x H1=>∃n,tag H1 x=some n/\Q (.bl (n.sub c)) H1)->JE (fun xs H Q=>∃v n,xs=[v,.ty c.name]/\tag H v=some n/\Q (.bl (n.sub c)) H) (bK ta (bK (tC (.ty c.name)) eI)) σ H Q:=fun z=>by
  show ta σ H fun x H1=>∃v n,[x,V.ty c.name]=[v,.ty c.name]/\tag H1 v=some n/\Q (.bl (n.sub c)) H1;have e:(fun x H1=>∃n,tag H1 x=some n/\Q (.bl (n.sub c)) H1)=(fun(x:V) (H1:Hp)=>∃v n,[x,V.ty c.name]=[v,V.ty c.name]/\tag H1 v=some n/\Q (.bl (n.sub c)) H1):=by
   funext x H1
   apply propext;constructor
   ·rintro⟨n,h1,h2⟩;exact⟨x,n,rfl,h1,h2⟩
   ·rintro⟨v,n,e,h1,h2⟩;cases e;exact⟨n,h1,h2⟩
  rw[<-e];exact z
 exact ht pins s σ H Q I (mono h)
end
inductive Dt where
 | bC | bl (b:Bool) | int (i:Int) | str (x:Str) | tup (l:List Dt)
mutual
def Is (H:Hp):Dt->V->Prop
 | .bC,v=>v=.bC
 | .bl b,v=>v=.bl b
 | .int i,v=>v=.int i
 | .str x,v=>v=.str x
 | .tup l,v=>∃a vs,v=.ref a/\H a=some (.tup vs)/\ay H l vs
def ay (H:Hp):List Dt->List V->Prop
 | [],vs=>vs=[]
 | d::l,vs=>∃v r,vs=v::r/\Is H d v/\ay H l r
end
mutual
theorem Is.mono (s:au H H'):∀{d:Dt} {v:V},Is H d v->Is H' d v
 | .bC,_,h=>by unfold Is at h ⊢;exact h
 | .bl _,_,h=>by unfold Is at h ⊢;exact h
 | .int _,_,h=>by unfold Is at h ⊢;exact h
 | .str _,_,h=>by unfold Is at h ⊢;exact h
 | .tup l,_,h=>by
  unfold Is at h ⊢;obtain⟨a,vs,e,ha,hl⟩:=h;exact⟨a,vs,e,s _ _ ha,ay.mono s hl⟩
theorem ay.mono (s:au H H'):∀{l:List Dt} {vs:List V},ay H l vs->ay H' l vs
 | [],_,h=>by unfold ay at h ⊢;exact h
 | d::l,_,h=>by
  unfold ay at h ⊢;obtain⟨v,r,e,hv,hr⟩:=h;exact⟨v,r,e,Is.mono s hv,ay.mono s hr⟩
end
theorem ay.len:∀{l:List Dt} {vs:List V},ay H l vs->vs.length=l.length
 | [],_,h=>by unfold ay at h;rw[h];rfl
 | d::l,_,h=>by
  unfold ay at h;obtain⟨v,r,e,_,hr⟩:=h;rw[e,zt,zt,ay.len hr]
theorem ay.get:∀{l:List Dt} {vs:List V} {i:Nat} {v:V},ay H l vs->vs[i]?=some v->∃d,l[i]?=some d/\Is H d v
 | [],_,i,v,h,e=>by unfold ay at h;rw[h] at e;simp at e
 | d::l,_,i,v,h,e=>by
  unfold ay at h;obtain⟨u,r,e1,hv,hr⟩:=h;subst e1;cases i with
  | zero=>simp at e;subst e;exact⟨d,rfl,hv⟩
  | succ i=>
   obtain⟨d',h1,h2⟩:=ay.get (i:=i) hr (by simpa using e);exact⟨d',by simpa using h1,h2⟩
def au.kf (e:upd H p o=H') (h:H p=none):au H H':=e▸aV h
def ky (e:upd H p o=H'):H' p=some o:=e▸aC
def b9 {c:Bool} {A B:Prop} (h:c=true) (q:A):if c=true then A else B:=by rw[if_pos h];exact q
def cm {c:Bool} {A B:Prop} (h:c=false) (q:B):if c=true then A else B:=by rw[if_neg (by rw[h];decide)];exact q
def dn:[a,b].length<=sizeLine:=by show 2<=sizeLine;decide
def nh:[a,b,c].length<=sizeLine:=by show 3<=sizeLine;decide
def iG (h:H p=some (.tup [.int a,.int b])):Is H (.tup [.int a,.int b]) (.ref p):=by
 unfold Is;exact⟨p,_,rfl,h,by simp only[ay,Is];exact⟨_,_,rfl,rfl,_,_,rfl,rfl,rfl⟩⟩
def sF {K:yA} {a:Addr} {xs:List V} {g:TG} {tb:TS} {D:Ends} {σ:St} {H:Hp} (Pv:Nat->St->Hp->Prop) (h0:Pv 0 σ H) (hl:∀i σ H,i<=xs.length->Pv i σ H->aI K H a xs)
  (hs:∀i x σ H p H',xs[i]?=some x->Pv i σ H->au H H'->H' p=some (.tup [.int (i:Int),x])->g (.ref p) σ H' fun σ2 H2=>tb {D with nx:=Pv (i+1),ct:=Pv (i+1),bk:=D.nx} σ2 H2) (hd:∀σ H,Pv xs.length σ H->D.nx σ H) :
  ∃W:Nat->Nat->St->Hp->Prop,(∃m,W 0 m σ H)/\∀i m σ H,W i m σ H->
   ((Qq K a).stop i H/\D.nx σ H)\/((Qq K a).go i H/\∃N:St->Hp->Prop,(∀σ' H',N σ' H'->∃m',m'<m/\W (i+1) m' σ' H')/\∀x H',(Qq K a).Jw i H x H'->g x σ H' fun σ2 H2=>tb {D with nx:=N,ct:=N,bk:=D.nx} σ2 H2):=by
 refine⟨fun i m σ H=>m=xs.length-i/\i<=xs.length/\Pv i σ H,⟨xs.length,by simp,yf _,h0⟩,?_⟩;rintro i m σ H ⟨rfl,hi,p⟩;have q:=hl i σ H hi p
 by_cases hlt:i<xs.length
 ·refine .inr ⟨⟨xs,xs[i],q,by simp[hlt]⟩,Pv (i+1),fun σ' H' p'=>⟨xs.length-(i+1),nofun,rfl,hlt,p'⟩,fun x H' y=>?_⟩
  obtain⟨pp,v,hp,e1,e2,y⟩:=y;subst e1 e2;exact hs i v σ H pp _ (y xs q) p (aV hp) aC
 ·have e:i=xs.length:=nofun
  subst e;exact .inl ⟨⟨xs,q,zk _⟩,hd σ H p⟩
section
variable {X:Cx} {pos:Pos}
def Inv.Q4 (I2:Inv X pins σ2 H2 s2) (hC:↑s2<=C) (I:Inv X pins σ H s) (hn:H C=none) (hs:Heap.SameBut C s.heap h'):Inv X pins σ H {s with heap:=h'}:=by
 obtain⟨f0,f1,f2,f3,f4,f5⟩:=I2.vZ hC hn;exact I.turned (t':=s.toks) (fun b o hb e=>hs.extBut b o hb e) f0 f1 f3 f4 f5
end
section
variable {X:Cx} {pins:List (Addr×Obj)} {σ:St} {H:Hp} {s:Shared}
def Sz (n:Nat) (i:Int):Prop:=i.natAbs<2^n
def Sz.mono (h:Sz n i) (k:n<=m):Sz m i:=yb h (Nat.pow_le_pow_right ∅ k)
def Sz.mul (h:Sz n i) (k:Sz m j):Sz (n+m) (i*j):=by
 unfold Sz at *;rw[Int.natAbs_mul,Nat.pow_add];exact Nat.mul_lt_mul'' h k
def Sz.add (h:Sz n i) (k:Sz n j):Sz (n+1) (i+j):=by
 unfold Sz at *;have:=Int.natAbs_add_le i j;rw[Nat.pow_succ];omega
def Sz.le (h:Sz n j) (h0:0<=i) (hl:i<=j):Sz n i:=by
 unfold Sz at *;have:i.natAbs<=j.natAbs:=nofun
 omega
def Sz.bits (h:Sz n i):Builtin.Int.intBits i<=n:=by
 unfold Builtin.Int.intBits;split
 ·exact yf _
 ·rename_i hz
  have:i.natAbs≠0:=by
   intro e;have:i=0:=Int.natAbs_eq_zero.mp e;subst this;exact hz rfl
  have:=(Nat.log2_lt this).mpr h;omega
def Rw (i j:Int):Prop:=Sz 20000 i/\Sz 20000 j
def Rx (_ j:Int):Prop:=0<j/\Sz 8999 j
def rW:oO X (binaryOp .Mult) (rI Rw fun i j=>.int (i*j)):=Qv fun _ _ _ _ _ _ _ hc q=>mul_int q (.of_bits (zL hc.1.bits ∅) (zL hc.2.bits ∅))
def rX:oO X (binaryOp .FloorDiv) (rI Rx fun i j=>.int (i/j)):=Qv fun i j _ _ _ _ _ hc q=>by
 have h1:(0:Int)<j:=hc.1;refine floordiv_int nofun (by rw[Int.fdiv_eq_ediv_of_nonneg i nofun];exact q) (.inl (PyProof.noPylong_of_log2 ?_));have h2:j.natAbs<2^8999:=hc.2;have h3:j.natAbs≠0:=nofun
 exact Nat.lt_trans ((Nat.log2_lt h3).mpr h2) ∅
def MQ {ns:List Int} {j:Int} (h0:0<=j) (h1:j<ns.length):Cw (ns.map V.int) j=some (.int (ns.getD j.toNat 0)):=by
 obtain⟨k,rfl⟩:=yK h0;refine bz ?_;have hk:k<ns.length:=nofun
 rw[zJ,zb hk];simp[List.getD,hk]
end
section
variable {X:Cx} {pos:Pos}
def OC (K:yA):R2:=fun x y H Q=>∃l b xs zs,x=.ref l/\y=.ref b/\aI K H l xs/\aI K H b zs/\xs.length+zs.length<=sizeLine/\∀p,H p=none->Q (.ref p) (upd H p (.lst (xs++zs)))
def gE:oO X (binaryOp .Add) (OC X.K):=by
 intro pins s σ H x y v u Q I rx ry h;obtain⟨l,b,xs,zs,rfl,rfl,hH,hB,hz,q⟩:=h;cases rx;cases ry;obtain⟨its,r,p,z⟩:=I.list hH;obtain⟨jts,r',p',z'⟩:=I.list hB;have l1:=r.length;have l2:=r'.length;obtain⟨⟨cls,dd,data,sl⟩,ho,hc,n,hd⟩:=id p.isList;obtain⟨⟨cls2,dd2,data2,sl2⟩,ho2,hc2,n2,hd2⟩:=id p'.isList;simp only at hc hd hc2 hd2;subst hc hd hc2 hd2;refine concat_meets ⟨_,ho,rfl⟩ ⟨_,ho2,rfl⟩ noFill_list_add seq_list_add PySem.F.slot_list_add PySem.F.entry_list_add (PySem.F.args_list_add_2 _ _) (list_addW l b its.toArray jts.toArray n n2 dd dd2 sl sl2 (by rw[ya,ya];omega)) ⟨ho,ho2,?_⟩;have ea:its.toArray++jts.toArray=(its++jts).toArray:=by simp
 rw[ea];exact⟨.ref _,_,I.Q3 (t':=s.toks) (r.append r') (by rw[zg];omega),rfl,q _ I.fresh⟩
end
def AU (n:Nat) (x:Int×Int):Prop:=Sz n x.1/\Sz n x.2
theorem AU.red (ht:0<=t) (hb:0<b) (h1:Sz n t) (h2:Sz n b):AU n (Lm.red t b):=by
 obtain⟨g,g0,_,_,p,l⟩:=Lm.lC (t:=t) hb;exact⟨h1.le (Lm.xO ht) (Lm.xP ht),h2.le (Int.le_of_lt p) l⟩
theorem AU.add (hx:Lm.Rd x) (hy:Lm.Rd y) (h:AU n x) (k:AU m y):AU (n+m+1) (Lm.add x y):=by
 obtain⟨a,b,_⟩:=hx.pos;obtain⟨c,d,_⟩:=hy.pos;refine AU.red (Int.add_nonneg (Int.mul_nonneg a nofun) (Int.mul_nonneg c nofun)) (Int.mul_pos b d) ?_ ((h.2.mul k.2).mono nofun);refine Sz.add (h.1.mul k.2) ?_;have:=k.1.mul h.2;rw[Nat.add_comm] at this;exact this
def dec (n:Int):Str:=Str.ofString (toString n)
def lg {x y:Str} (h:x.cps.toList=y.cps.toList):x=y:=by
 cases x;cases y;simp only[Str.mk.injEq];exact Array.toList_inj.mp h
def cA (x y:Str):(x++y).cps.toList=x.cps.toList++y.cps.toList:=Array.toList_append ..
def len_app (x y:Str):(x++y).length=x.length+y.length:=Array.size_append ..
def Kt (x y z:Str):x++y++z=x++(y++z):=lg (by rw[cA,cA,cA,cA,zE])
def wR (m:Nat):(dec (m:Int)).cps.toList=(Nat.toDigits 10 m).map Char.toNat:=PySem.W.KIN.signs_num m
def DF (m:Nat):(dec (m:Int)).length=(Nat.toDigits 10 m).length:=by
 have h:=congrArg List.length (wR m);rw[za,Array.length_toList] at h;exact h
def N7 (h:c∈(Nat.toDigits 10 m).map Char.toNat):48<=c/\c<=57:=by
 obtain⟨ch,hc,e⟩:=zG.mp h;have r:=Nat.isDigit_of_mem_toDigits ∅ ∅ hc;rw[<-e];simp only[Char.isDigit,zN,decide_eq_true_eq] at r;exact⟨r.1,r.2⟩
section
variable {X:Cx}
end
section
variable {X:Cx}
def Pt:V->Option Int->Option Int->Hp->VK->Prop:=fun x lo hi H Q=>∃t:Str,x=.str t/\t.length<=sizeLine/\Q (.str (PySem.Txt.slice t lo hi)) H
def G4:MV X Pt:=by
 intro pins s σ H x v vl vu lo hi sl Q I rx hs pl pu h;obtain⟨t,rfl,hz,q⟩:=h;obtain⟨tk,rfl⟩:=rx;obtain⟨o,ho,hc,hd⟩:=hs;have fin:∀(l u:Option (Int×Tok)),l.map (·.1)=lo->u.map (·.1)=hi->partValue l=vl->partValue u=vu->
   ∃T id,typeLookup (.type T) "__getitem__"= pure (some (.builtin id))/\s.TypeIs (.str t tk) T/\wpAny (model X.prog X.w) X.A (getItem (.str t tk) (.ref sl)) (EP X pins σ Q) X.xe s:=by
  intro l u e1 e2 e3 e4;subst e1 e2 e3 e4;exact⟨"str",_,F.slot_str_getitem.lookup,typeIs_str _ _ _,wpAny_getItem_str_slice (l:=l) (u:=u) (st:=none) ⟨o,ho,hc,hd⟩ rfl
   (post_val_or_str ⟨zL (PySem.Txt.slice_le t _ _) hz,fun t' k=>⟨.str _,H,I.tok _,⟨_,rfl⟩,q⟩⟩)⟩
 cases pl with
 | none=>
  cases pu with
  | none=>exact fin none none rfl rfl rfl rfl
  | int j tj=>exact fin none (some (j,tj)) rfl rfl rfl rfl
 | int i ti=>
  cases pu with
  | none=>exact fin (some (i,ti)) none rfl rfl rfl rfl
  | int j tj=>exact fin (some (i,ti)) (some (j,tj)) rfl rfl rfl rfl
def Rt (x:Str):It:=⟨fun i _=>i<x.length,fun i H v H'=>H'=H/\∃c,x.cps[i]?=some c/\v=.str ⟨#[c]⟩,fun i _=>x.length<=i⟩
def K8 {P:Program} {w:World} {K:yA} {tg:Expr} (x:Str) (t:Tok) (it:Addr) (ty:String) (hty:ty ="str_ascii_iterator"\/ty ="str_iterator"):Turn P w K tg (Rt x) [it] it (fun i h=>i<=x.length/\h.IsStrIter it ty x t i) where
 mem:=by simp
 obj:=fun i h st b hb=>by
  have e:b=it:=by simpa using hb
  subst e;obtain⟨_,o,e,c,d⟩:=st;exact⟨o,e,fun v z=>by rw[d] at z;cases z⟩
 keep:=fun i h h' st k=>⟨st.1,let ⟨o,ho,r⟩:=st.2;⟨o,k it (by simp) o ho,r⟩⟩
 item:=by
  intro X hP hw hK hc i pins s σ H E I hf st hg;subst hP hw hK;have W:Walks X.prog X.w X.A it [it] [it] x.cps.size (SignAt x) (fun i h=>h.IsStrIter it ty x t i):=by
   rcases hty with rfl | rfl
   ·exact Walks.strAscii (I.ok.hd hc) it x t
   ·exact Walks.strWide (I.ok.hd hc) it x t
  refine W.item i s _ _ hg st.2 fun v h' tk hv z' kk=>?_;obtain⟨c,u,hcx,rfl⟩:=hv;have I1:Inv X pins σ H {s with heap:=h',toks:=tk}:=I.turns hf fun b o hb e=>kk b o (by simpa using hb) e;obtain⟨o,e,cc,d⟩:=id z';have hgl:i<x.length:=hg;refine⟨_,rfl,Ci (s:={s with heap:=h',toks:=tk}) (n:=ty) e cc d ?_ ⟨.str ⟨#[c]⟩,H,I1,⟨u,rfl⟩,⟨rfl,c,hcx,rfl⟩,⟨hgl,z'⟩,fun b hb=>(hf b hb).1⟩⟩;rcases hty with rfl | rfl <;> decide
 done:=by
  intro X hP hw hK hc i pins s σ H E I hf st hg;subst hP hw hK;have hi:i=x.cps.size:=Nat.le_antisymm st.1 hg;subst hi;have W:Walks X.prog X.w X.A it [it] [it] x.cps.size (SignAt x) (fun i h=>h.IsStrIter it ty x t i):=by
   rcases hty with rfl | rfl
   ·exact Walks.strAscii (I.ok.hd hc) it x t
   ·exact Walks.strWide (I.ok.hd hc) it x t
  exact W.done s _ _ st.2 fun h' tk eb=>⟨rfl,I.turns hf fun b o hb e=>eb b o (by simpa using hb) e⟩
 self:=fun A i s Q E z h=>by
  rcases hty with rfl | rfl
  ·exact wpAny_pyIter_striter_ascii z.2 h
  ·exact wpAny_pyIter_striter_wide z.2 h
def SK (tl:TE):TI:=fun σ H R=>tl σ H fun x H1=>∃t,x=.str t/\R (Rt t) H1
def LV {tg l:Expr} {tl:TE} (hl:PE X l tl):PI X tg l (SK tl):=by
 intro pins s σ H R I h;refine cQ (hl pins s σ H _ I h) fun v s1 zz=>?_;obtain⟨x,H1,I1,r1,q1⟩:=zz;obtain⟨t,e,q⟩:=q1;subst e;obtain⟨tk,rfl⟩:=r1;refine wpAny_pyIter_strU ?_;refine⟨↑s1,[↑s1],_,_,H1,rfl,I1.kept (t':=s1.toks) fun b o e=>yu _ e,K8 t tk _ (strIterType t) ?_,⟨yf _,_,yw _ rfl,rfl,rfl⟩,fun b hb=>?_,q⟩
 ·unfold strIterType
  split
  ·exact .inl rfl
  ·exact .inr rfl
 ·have e:b=↑s1:=by simpa using hb
  subst e;exact I1.vZ (zk _) (I1.bV.fresh (zk _))
theorem BN:∀(l:List (Str×Tok)),Vals ((l.map (·.1)).map V.str) (strValues l)
 | []=>.nil
 | (x,t)::r=>.cons ⟨t,rfl⟩ (BN r)
def Pr:V->List V->Hp->VK->Prop:=fun x vs H Q=>∃(t y:Str),x=.str t/\vs=[.str y]/\y.length=1/\t.length+2<=sizeLine/\∀l,H l=none->Q (.ref l) (upd H l (.lst ((PySem.Txt.split t y).map V.str)))
def jh:OQ X "str.split" Pr:=by
 intro pins s σ H x vs v us Q I rx rv h;obtain⟨t,y,rfl,rfl,hy,hz,q⟩:=h;obtain⟨tk,rfl⟩:=rx;obtain⟨u,rfl,tk',rfl⟩:=rv.one;have hy':(y.length == 0)=false:=by rw[hy];rfl
 have hle:=split_le t y;have fin:∀(l:List (Str×Tok)) (k:Nat),l.map (·.1)=PySem.Txt.split t y->
   EP X pins σ Q (.ref ↑s) {s with heap:=s.heap.push {cls:=.type "list",data:=.seq (strValues l).toArray},toks:=k}:=fun l k e=>
  ⟨.ref _,_,I.Q3 (t':=k) (by rw[<-e];exact BN l) (by rw[za];omega),rfl,q _ I.fresh⟩
 cases h1:(decide (t.length<y.length)||decide (Builtin.Str.strKind t<Builtin.Str.strKind y))
 ·cases hf:(Builtin.Str.occurrences t y 0 t.length (t.length+1)).isEmpty
  ·have es:PySem.Txt.split t y=Builtin.Str.partsBetween t (Builtin.Str.occurrences t y 0 t.length (t.length+1)) y.length:=by
    unfold PySem.Txt.split;rw[h1,hf];rfl
   refine call_meets F.slot_str_split (typeIs_str s t tk) F.entry_str_split (F.args_str_split_2 _ _) (meets_str_split_sep t y tk tk' h1 hy' hf nofun (by rw[<-es];omega)) ?_;rw[strsFrom_eq];exact fin (numbered s.toks _) _ ((numbered_texts _ _).trans es.symm)
  ·have es:PySem.Txt.split t y=[t]:=by
    unfold PySem.Txt.split;rw[h1,hf];rfl
   refine call_meets F.slot_str_split (typeIs_str s t tk) F.entry_str_split (F.args_str_split_2 _ _) (meets_str_split_not_found t y tk tk' h1 hy' hf) ?_;exact fin [(t,tk)] _ es.symm
 ·have es:PySem.Txt.split t y=[t]:=by
   unfold PySem.Txt.split;rw[h1];rfl
  refine call_meets F.slot_str_split (typeIs_str s t tk) F.entry_str_split (F.args_str_split_2 _ _) (meets_str_split_cannot_occur t y tk tk' h1) ?_;exact fin [(t,tk)] _ es.symm
def Ny:V->List V->Hp->VK->Prop:=fun x vs H Q=>∃(t y:Str),x=.str t/\vs=[.str y]/\Q (.bl (decide (0+y.length<=t.length)&&Builtin.Str.subAt t y 0)) H
def Bk:OQ X "str.startswith" Ny:=by
 intro pins s σ H x vs v us Q I rx rv h;obtain⟨t,y,rfl,rfl,q⟩:=h;obtain⟨tk,rfl⟩:=rx;obtain⟨u,rfl,tk',rfl⟩:=rv.one;exact call_meets F.slot_str_startswith (typeIs_str s t tk) F.entry_str_startswith (F.args_str_startswith_2 _ _) (gives_str_startswith t y tk tk').meets ⟨.bl _,H,I,rfl,q⟩
def DU:fJ X (.type "int") (fun xs H Q=>∃(t:Str) (n:Int),xs=[.str t]/\PySem.intText? t=some n/\t.length<=640/\Q (.int n) H):=by
 intro pins s σ H xs us Q I r h;obtain⟨t,n,rfl,hn,hl,q⟩:=h;obtain⟨u,rfl,tk,rfl⟩:=vals1 r;exact PySem.W.KIN.call_text hn hl ⟨.int n,H,I.tok _,⟨_,rfl⟩,q⟩
end
def join_one (sep x:Str):Str.join sep [x]=x:=rfl
def eV (sep x y:Str) (r:List Str):Str.join sep (x::y::r)=x++sep++Str.join sep (y::r):=rfl
theorem FI:∀{ps qs:List Str},ps≠[]->qs≠[]->(∀p∈ps,c∉p.cps.toList)->(∀q∈qs,c∉q.cps.toList)->Str.join ⟨#[c]⟩ ps=Str.join ⟨#[c]⟩ qs->ps=qs
 | [],_,h,_,_,_,_=>absurd rfl h
 | _,[],_,h,_,_,_=>absurd rfl h
 | [p],[q],_,_,_,_,h=>by rw[join_one,join_one] at h;rw[h]
 | [p],q::q2::r,_,_,hp,_,h=>by
  rw[join_one,eV] at h;have e:=congrArg (fun z:Str=>z.cps.toList) h;simp only[cA] at e;exact absurd (show c∈p.cps.toList by rw[e];simp) (hp p zp)
 | p::p2::r,[q],_,_,_,hq,h=>by
  rw[join_one,eV] at h;have e:=congrArg (fun z:Str=>z.cps.toList) h;simp only[cA] at e;exact absurd (show c∈q.cps.toList by rw[<-e];simp) (hq q zp)
 | p::p2::r,q::q2::r',_,_,hp,hq,h=>by
  rw[eV,eV] at h;have e:=congrArg (fun z:Str=>z.cps.toList) h;simp only[cA,zE] at e;obtain⟨e1,e2⟩:=Lm.Jh (hp p zp) (hq q zp) (show p.cps.toList++c::(Str.join ⟨#[c]⟩ (p2::r)).cps.toList=q.cps.toList++c::(Str.join ⟨#[c]⟩ (q2::r')).cps.toList from e);have ih:=FI (ps:=p2::r) (qs:=q2::r') (by simp) (by simp) (fun z hz=>hp z (zm _ hz)) (fun z hz=>hq z (zm _ hz)) (lg e2);rw[ih,lg e1]
def gj (ne:ps≠[]) (fr:∀p∈ps,c∉p.cps.toList):PySem.Txt.split (Str.join ⟨#[c]⟩ ps) ⟨#[c]⟩=ps:=by
 refine FI ?_ ne (PySem.StrLaws.split_free _ c) fr (PySem.StrLaws.join_split _ _);intro z;have:=split_pos (Str.join ⟨#[c]⟩ ps) ⟨#[c]⟩;rw[z] at this;exact absurd this ∅
def CL (ha:c∉a.cps.toList) (hb:c∉b.cps.toList):PySem.Txt.split (a++⟨#[c]⟩++b) ⟨#[c]⟩=[a,b]:=by
 refine gj (ps:=[a,b]) (by simp) fun p hp=>?_;rcases zC.mp hp with rfl | hp
 ·exact ha
 ·rw[zy.mp hp];exact hb
def split1 (ha:c∉a.cps.toList):PySem.Txt.split a ⟨#[c]⟩=[a]:=by
 refine gj (ps:=[a]) (by simp) fun p hp=>?_;rw[zy.mp hp];exact ha
def Pk (ha:c∉a.cps.toList) (hb:c∉b.cps.toList) (hd:c∉d.cps.toList):PySem.Txt.split (a++⟨#[c]⟩++b++⟨#[c]⟩++d) ⟨#[c]⟩=[a,b,d]:=by
 have e:a++(⟨#[c]⟩:Str)++b++⟨#[c]⟩++d=Str.join ⟨#[c]⟩ [a,b,d]:=by
  rw[eV,eV,join_one];simp only[Kt]
 rw[e];refine gj (ps:=[a,b,d]) (by simp) fun p hp=>?_;rcases zC.mp hp with rfl | hp
 ·exact ha
 rcases zC.mp hp with rfl | hp
 ·exact hb
 ·rw[zy.mp hp];exact hd
def wQ (h:n<0):dec n ="-" ++ dec (-n):=by
 obtain⟨m,rfl⟩:∃m:Nat,n=Int.negSucc m:=⟨(-n-1).toNat,nofun⟩
 refine lg ?_;rw[cA];have e1:(dec (Int.negSucc m)).cps.toList=("-" ++ toString (m+1)).toList.map Char.toNat:=PyProof.Rows.signs_ofString _;have e2:(dec (-(Int.negSucc m))).cps.toList=(toString (m+1)).toList.map Char.toNat:=PyProof.Rows.signs_ofString _;rw[e1,e2,String.toList_append,zj];rfl
def kR {n:Nat} {c:Nat} (h:c∈(dec (n:Int)).cps.toList):48<=c/\c<=57:=by
 rw[wR] at h;exact N7 h
def Kh {n:Nat} (h:(dec (n:Int)).cps[0]?=some 48):(dec (n:Int)).length=1:=by
 rcases Nat.eq_zero_or_pos n with rfl | hn
 ·rw[DF];decide
 ·obtain⟨c,r,e,hc⟩:=Lm.Ms n hn
  rw[<-Array.getElem?_toList,wR,e] at h;simp only[zh,List.getElem?_cons_zero,Option.some.injEq] at h;exact absurd (Char.toNat_inj.mp (by rw[h];rfl)) hc
def F5 {n:Nat}:1<=(dec (n:Int)).length:=by
 rw[DF];exact PySem.toDigits_len_ge 10 n
def Cp {n k:Nat} (hk:0<k) (h:n<10^k):(dec (n:Int)).length<=k:=by rw[DF];exact Lm.PV hk h
def P8 (a:Option Int) (n:Nat):Builtin.Str.strSliceIndices a none 1 n=Builtin.Str.strSliceIndices a (some (n:Int)) 1 n:=by
 have h:¬((n:Int)<0):=nofun
 have e:max (0:Int) (min (n:Int) (n:Int))=n:=nofun
 simp only[Builtin.Str.strSliceIndices,h,if_false,e,show((1:Int)>0)=True from by simp,if_true]
def P7 (b:Option Int) (n:Nat):Builtin.Str.strSliceIndices none b 1 n=Builtin.Str.strSliceIndices (some ((0:Nat):Int)) b 1 n:=by
 have h:¬(((0:Nat):Int)<0):=nofun
 have e:max (0:Int) (min ((0:Nat):Int) (n:Int))=0:=nofun
 simp only[Builtin.Str.strSliceIndices,h,if_false,e,show((1:Int)>0)=True from by simp,if_true]
def BS (x:Str) (hab:a<=b) (hb:b<=x.length):(PySem.Txt.slice x (some (a:Int)) (some (b:Int))).cps.toList=(x.cps.toList.drop a).take (b-a):=by
 unfold PySem.Txt.slice;split
 ·rename_i h
  rw[PySem.StrLaws.strSliceIndices_plain hab hb] at h;simp only[beq_self_eq_true,Bool.true_and,beq_iff_eq,za,zQ] at h;have hl:x.cps.toList.length=x.length:=Array.length_toList;have ea:a=0:=nofun
  have eb:b-a=x.cps.toList.length:=nofun
  rw[eb,ea,List.drop_zero,zM]
 ·exact PySem.StrLaws.sliced_plain x hab hb
def pW (x:Str) (h:a<=x.length):(PySem.Txt.slice x (some (a:Int)) none).cps.toList=x.cps.toList.drop a:=by
 have e:PySem.Txt.slice x (some (a:Int)) none=PySem.Txt.slice x (some (a:Int)) (some ((x.length:Nat):Int)):=by
  unfold PySem.Txt.slice;rw[P8]
 have hl:x.cps.toList.length=x.length:=Array.length_toList;rw[e,BS x h (zk _),List.take_of_length_le (by rw[List.length_drop];omega)]
def EW (x:Str) (h:b<=x.length):(PySem.Txt.slice x none (some (b:Int))).cps.toList=x.cps.toList.take b:=by
 have e:PySem.Txt.slice x none (some (b:Int))=PySem.Txt.slice x (some ((0:Nat):Int)) (some (b:Int)):=by
  unfold PySem.Txt.slice;rw[P7]
 rw[e,BS x (yf _) h,List.drop_zero,Nat.sub_zero]
def qz {K:yA} {mg:Str->Option Value} {base:Heap} {x:Str} {C:Addr} {bm:List Value} {newId:String} (P:Program) (m:Mod K mg base) (e:PySem.W.nsIn K mainGlobals x=some (some (.ref C)))
  (q:PySem.W.excIn K C bm newId=true):OwnCls x C bm newId mg base:=by
 obtain⟨mb,hb,hbb⟩:=m.blt;obtain⟨o0,es0,ep0,hg0,hd0,sk0,look⟩:=m.glob;have fr:∀y,y∉(es0.toList.filterMap fun(d:DictEntry)=>match d.key with | .str z _=>some z | _=>none)->mg y=none:=fun y hy=>by
  rw[<-look y];show(es0.find? fun d=>d.key.isStr y).map (·.val)=none;cases hf:es0.find? fun d=>d.key.isStr y with
  | none=>rfl
  | some d=>
   exfalso;have hm:=Array.mem_of_find?_eq_some hf;have hk:=Array.find?_some hf;obtain⟨z,t,ez⟩:=sk0 d hm;have ezy:z=y:=by rw[ez] at hk;exact eq_of_beq (show(z == y)=true from hk)
   exact hy (List.mem_filterMap.mpr ⟨d,by simpa using hm,by rw[ez,ezy]⟩)
 exact PySem.W.own_of_in (p:=P) (loose:=es0.toList.filterMap fun(d:DictEntry)=>match d.key with | .str z _=>some z | _=>none) m.PX ⟨m.glob,hb,m.nolimit,hbb,fun y _ hl _ _ _=>fr y hl⟩ e q
structure KU (P:Program) (w:World) (fs:List Addr) (H H':Hp) (h B h':Heap):Prop where
 keep:∀b o,h.get? b=some o->H b=none->b∉fs->B.get? b=some o
 slot:∀b o,h.get? b=some o->H b=none->b∈fs->∃sl,h'.get? b=some {o with slots:=sl}
 free:∀b o,h.get? b=some o->H b=none->H' b=none
 there:∀b o,h.get? b=some o->b∉fs->∃o',B.get? b=some o'
 oP:∀b xs,H b=some (.tup xs)->H' b=some (.tup xs)
 mR:∀b o u,H b=some (.mW o u)->H' b=some (.mW o u)
 oQ:∀b ps,H b=some (.Lb ps)->∃more,H' b=some (.Lb (ps++more))
 bV:qP P w H' B
 lh:B.StaysIn h'
section
variable {P:Program} {w:World} {fs:List Addr} {H H':Hp} {h B h' h2:Heap}
def KU.un (f:KU P w fs H H' h B h') (FQ:∀b∈fs,H b=none):Un fs [] H H' h h' where
 keep:=fun b o e n hb _=>f.lh b o (f.keep b o e n hb)
 slot:=fun b o e n hb _=>f.slot b o e n hb
 free:=fun b o e n _=>f.free b o e n
 there:=fun b o e _=>by
  by_cases hb:b∈fs
  ·obtain⟨sl,q⟩:=f.slot b o e (FQ b hb) hb
   exact⟨_,q⟩
  ·obtain⟨o',q⟩:=f.there b o e hb
   exact⟨o',f.lh b o' q⟩
 oP:=f.oP
 mR:=f.mR
 oQ:=f.oQ
def KU.on (f:KU P w fs H H' h B h') (u:h'.UpToSlots h2) (st:B.StaysIn h2) (nf:∀b∈fs,∃o,h'.get? b=some o/\∀vs,o.data≠.fields vs):KU P w fs H H' h B h2:=
 ⟨f.keep,fun b o e n hb=>by
  obtain⟨sl,q⟩:=f.slot b o e n hb;obtain⟨o1,q1,nd⟩:=nf b hb;rw[q] at q1;cases q1;obtain⟨sl2,q2⟩:=u b _ q nd;exact⟨sl2,q2⟩,f.free,f.there,f.oP,f.mR,f.oQ,f.bV,st⟩
end
def GI (P:Program) (w:World):Iz:=fun outer H s E e s'=>∃(a:Addr) (cls a0:Value) (B:Heap) (H':Hp),e=.ref a/\s'.os=s.os/\AllBare s'.gens/\Heap.FlyingW B outer a cls a0 s'.heap/\KU P w (pN outer) H H' s.heap B s'.heap/\E cls none H'
def Mx (hf:env.frame=some L):pN (env::outer)=L::pN outer:=by
 unfold pN;rw[List.filterMap_cons,hf]
def O7 (C:Addr) (te:TA) (E:XK):TS:=fun _ σ H=>te σ H fun vs H1=>vs.length<=sizeLine/\E (.ref C) none H1
section
variable {P:Program} {w:World} {K:yA} {mg:Str->Option Value} {base:Heap} {N:List Str} {qual:Str} {scope:Scope} {f:Addr} {cdv:Value} {A:Around} {outer:List Env} {s₀:Shared} {H₀:Hp} {E:XK}
def Fc
  (hC0:PySem.W.nsIn K mainGlobals x=some (some (.ref C))) (hQ0:PySem.W.excIn K C bm newId=true) (FB:ExcBaseFacts Bn newId initId bm) (hg:Gl (kr (GI P w) P w K mg base N qual scope f cdv A outer s₀ H₀ E) x)
  (ha:PA (kr (GI P w) P w K mg base N qual scope f cdv A outer s₀ H₀ E) (e₀::es) ta) (hd:(x == ("__debug__": Str))=false<|>qb_)
  (hs:starEach (e₀::es) (kr (GI P w) P w K mg base N qual scope f cdv A outer s₀ H₀ E).env=(false,eval e₀ (kr (GI P w) P w K mg base N qual scope f cdv A outer s₀ H₀ E).env)::starEach es (kr (GI P w) P w K mg base N qual scope f cdv A outer s₀ H₀ E).env<|>qe_)
  (hpl:(backTo cpos (starEach es (kr (GI P w) P w K mg base N qual scope f cdv A outer s₀ H₀ E).env)).any (·.1)=false<|>qe_) :
  PS (kr (GI P w) P w K mg base N qual scope f cdv A outer s₀ H₀ E) (.Raise (some (.Call (.Name x np) (e₀::es) [] cpos)) none pos) (O7 C ta E):=by
 intro pins s σ H D I h;have O:OwnCls x C bm newId mg base:=qz P I.ok.mod hC0 hQ0;obtain⟨tl,Nn,nm,q,bs,hdct,sn,sub,ab,col,dd,k0,k1,k2,k3,k5,mN,hC,hN,hni,T⟩:=O.obj;refine wpAny_Raise_call_subT (C:=C) (nm:=nm) (q:=q) (N:=Nn) (bs:=bs) (bm:=tl) (hdct:=hdct) (sn:=sn) (sub:=sub) (ab:=ab) (col:=col) (dd:=dd) (k0:=k0) (k1:=k1) (k2:=k2) (k3:=k3) (k5:=k5)
  FB (mN:=mN) (T.hasType FB.hasBase) (I.ok.hd rfl) (by rw[hs];show(false||(backTo cpos (starEach es (kr (GI P w) P w K mg base N qual scope f cdv A outer s₀ H₀ E).env)).any (·.1))=false;rw[hpl];rfl) hni (jU I hg O.bound ⟨rfl,?_⟩ hd)
 have hA:=ha cpos pins s σ H _ I h;rw[hs] at hA ⊢;refine Calls.evalArgs_plain (wpAny_mono hA (fun us s2 ⟨vs,H2,I2,r2,hl,q2⟩=>⟨rfl,?_,I2.bk _ _ hC,hN.keeps I2.bk,T.keeps I2.bk,fun h' e mk=>?_⟩) fun _ _ y=>y)
 ·show us.length<=sizeLine
  rw[<-r2.length];exact hl
 show wpAny (model P w) (A.deeper (envOfC qual scope ↑s₀ f cdv)) (leaving (envOfC qual scope ↑s₀ f cdv) (.ref e)) (fun _ s''=>GI P w outer H₀ s₀ E (.ref e) s'') (fun e' s''=>GI P w outer H₀ s₀ E e' s'') {s2 with heap:=h'};have hfr:pN (envOfC qual scope ↑s₀ f cdv::outer)=↑s₀::pN outer:=Mx rfl;have hst:s2.heap.FunFrames base (envOfC qual scope ↑s₀ f cdv::outer):=I2.stack;have hin:∀env∈(envOfC qual scope ↑s₀ f cdv::outer),∀a,env.frame=some a->a∈pN (envOfC qual scope ↑s₀ f cdv::outer):=fun env he a hf=>List.mem_filterMap.mpr ⟨env,he,hf⟩;have hl:=PySem.W.funFrames_hide (as:=pN (envOfC qual scope ↑s₀ f cdv::outer)) hst hin;refine wpAny_leaves_madeW (base:=PySem.W.hideAll s2.heap (pN (envOfC qual scope ↑s₀ f cdv::outer))) (h:=s2.heap) I2.ok.frames rfl (fun b o q=>PySem.W.of_hideAll _ q) hl mk (fun h'' t fl _ _ ups=>?_);have low:∀b o,s₀.heap.get? b=some o->b≠↑s₀:=fun b o e z=>absurd (yx e) (by rw[z];exact ye _);have nin:∀b o,s₀.heap.get? b=some o->b∉pN outer->b∉pN (envOfC qual scope ↑s₀ f cdv::outer):=fun b o e n z=>by
  rw[hfr] at z;rcases zC.mp z with z | z
  ·exact low b o e z
  ·exact n z
 have vV:∀b:Addr,b∉(kr (GI P w) P w K mg base N qual scope f cdv A outer s₀ H₀ E).ex:=fun b z=>absurd (show b∈([]:List Addr) from z) (by simp);refine⟨e,.ref C,.ref t,_,H2,rfl,I2.os,I2.bare,fl,⟨fun b o q n hb=>PySem.W.hideAll_get _ (I2.base.keep b o q n hb (vV b)) (nin b o q hb),fun b o q n hb=>?_,fun b o q n=>I2.base.free b o q n (vV b),fun b o q hb=>?_,I2.base.oP,I2.base.mR,I2.base.oQ,fun a o q=>?_,fl.1⟩,q2⟩
 ·obtain⟨sl,e1⟩:=I2.base.slot b o q n hb (vV b)
  obtain⟨_,o1,e2,nd⟩:=I2.ok.oX.mem hb;have e3:=mk.keeps _ _ e1;have e2':s₀.heap.get? b=some o1:=e2;rw[q] at e2';cases e2';obtain⟨sl2,e4⟩:=ups b _ e3 nd;exact⟨sl2,e4⟩
 ·obtain⟨o',e1⟩:=I2.base.there b o q (vV b)
  exact⟨o',PySem.W.hideAll_get _ e1 (nin b o q hb)⟩
 ·refine(I2.bV a o q).lh (fun b u hb e1=>PySem.W.hideAll_get _ e1 fun z=>?_) (fun _ z=>z) fun _ _ z=>z
  have n:=I2.qU b z;rcases hb with rfl | hb
  ·rw[q] at n;cases n
  ·rw[hb] at n;cases n
def M0.Tq {x:Str} {st:Stmt} {fd:FuncData} {ps:List Str} {k:Nat} {sp:Sp} (F:M0 K x qual st f fd) (S:aA N ps (ao st)) (len:∀vs H Q E,sp vs H Q E->vs.length=ps.length)
  (hbody:∀(cdv:Value) (A:Around) (outer:List Env) (s:Shared) (H:Hp) (vs:List V) (Q:VK) (E:XK),fK k (A.deeper (envOfC qual (ao st) ↑s f cdv))->sp vs H Q E->
   ∃t,Cz (kr (GI P w) P w K mg base N qual (ao st) f cdv A outer s H E) (cq st) t/\t {nx:=fun _ H'=>Q .bC H',rt:=Q} (start N vs) H):dE P w K mg base (GI P w) (k+1) f fd ps sp:=by
 obtain⟨oc,od,kV,doc,pm,an,cdv,ct,osl,rfl,lk,hcd⟩:=F.ex;exact OL lk hcd S len fun A outer s H vs Q E hr hsp=>hbody cdv A outer s H vs Q E hr hsp
end
abbrev Cx.held (X:Cx) (e:Value):Cx:={X with A:=X.A.mark (some e),calm:=false}
theorem Cx.Ok.held {X:Cx} (ok:X.Ok) (e:Value):(X.held e).Ok:=
 ⟨ok.mod,ok.kind,ok.glob,ok.blt,ok.above,ok.inj,ok.has,ok.Qj,fun z=>(nomatch (show false=true from z)),ok.frames,ok.Qt,ok.RG,ok.bs,ok.KQ,ok.vV,ok.HG,ok.oX,ok.FQ⟩
def Cx.Ok.kY {X:Cx} {e:Value} (ok:(X.held e).Ok) (hd:X.calm=true->X.A.handled=none):X.Ok:=
 ⟨ok.mod,ok.kind,ok.glob,ok.blt,ok.above,ok.inj,ok.has,ok.Qj,hd,ok.frames,ok.Qt,ok.RG,ok.bs,ok.KQ,ok.vV,ok.HG,ok.oX,ok.FQ⟩
section
variable {X:Cx} {pins:List (Addr×Obj)} {σ:St} {H:Hp} {s:Shared} {e:Value}
theorem Inv.held (I:Inv X pins σ H s) (e:Value):Inv (X.held e) pins σ H s:=⟨I.ok.held e,I.os,I.bare,I.base,I.loc,I.cell,I.free,I.jX,I.pin,I.bV,I.len⟩
theorem Inv.kY (I:Inv (X.held e) pins σ H s) (hd:X.calm=true->X.A.handled=none):Inv X pins σ H s:=⟨I.ok.kY hd,I.os,I.bare,I.base,I.loc,I.cell,I.free,I.jX,I.pin,I.bV,I.len⟩
theorem SP.kY (hd:X.calm=true->X.A.handled=none) (h:SP (X.held e) pins D f s'):SP X pins D f s':=by
 cases f with
 | next=>obtain⟨σ',H',I,q⟩:=h;exact⟨σ',H',I.kY hd,q⟩
 | brk=>obtain⟨σ',H',I,q⟩:=h;exact⟨σ',H',I.kY hd,q⟩
 | cont=>obtain⟨σ',H',I,q⟩:=h;exact⟨σ',H',I.kY hd,q⟩
 | ret u=>obtain⟨v,σ',H',I,r,q⟩:=h;exact⟨v,σ',H',I.kY hd,r,q⟩
end
def QI (i:Nat) (sp:Sp) (t:TA) (C:Addr) (th:TS):TS:=fun D σ H=>t σ H fun vs H1=>sp vs H1 (fun v H2=>b7 i v σ H2 D.nx) fun cls _ H2=>cls=.ref C/\th D σ H2
section
variable {X:Cx} {k:Nat} {f:Addr} {fd:FuncData} {ps:List Str} {sp:Sp} {fx cn x:Str} {p pos cpos pa tpos np hpos:Pos} {e₀:Expr} {es:List Expr} {t:TA} {i:Nat} {C:Addr} {bm:List Value} {newId:String} {b₀:Stmt} {suite:List Stmt} {th:TS}
def NF (F:dE X.prog X.w X.K X.mg X.base (GI X.prog X.w) k f fd ps sp) (hr:fK k X.A) (hg:Gl X fx) (hm:X.mg fx=some (.ref f)) (hk:PySem.W.keepIn X.K (.ref f)=true) (hb:Binds X.K fd ps []) (ha:PA X.Ho (e₀::es) t)
  (hc:X.calm=true) (hN:X.N.Nodup) (hi:X.N[i]?=some x) (hx:Loc X.env.scope x) (hgc:Gl X cn) (hC0:PySem.W.nsIn X.K mainGlobals cn=some (some (.ref C))) (hQ0:PySem.W.excIn X.K C bm newId=true) (hbase:bm.contains (.type "BaseException")=true) (hstk:X.stack=X.env::X.outer) (hfrm:X.env.frame=some X.env.locals)
  (hsu:∀e,Cz (X.held e).Ho (b₀::suite) th)
  (hdb:(fx == ("__debug__": Str))=false<|>qb_) (hdc:(cn == ("__debug__": Str))=false<|>qb_) (he:starEach (e₀::es) X.env=(false,eval e₀ X.env)::starEach es X.env<|>qe_) (hpl:(backTo cpos (starEach es X.env)).any (·.1)=false<|>qe_)
  (hs:swapsWith (.Call (.Name fx p) (e₀::es) [] cpos) (some (.Name x tpos)) pa.line X.env=pure false<|>qe_) (hf:X.fn x=true\/X.env.scope.names.lookup x=some .local<|>qa_) :
  PS X (.Try [.Assign [.Name x tpos] (.Call (.Name fx p) (e₀::es) [] cpos) pa] [.ExceptHandler (some (.Name cn np)) none (b₀::suite) hpos] [] [] pos) (QI i sp t C th):=by
 intro pins s σ H D I h;have O:OwnCls cn C bm newId X.mg X.base:=qz X.prog I.ok.mod hC0 hQ0;refine wpAny_Try_except (wpAny_execs_cons ?_);refine wpAny_Assign_Name ?_ hs;refine wpAny_Call_Name_kw (jU I hg hm ?_ hdb);have hA:wpAny (model X.prog X.w) X.A (spliced (backTo cpos (starEach (e₀::es) X.env))) (AP X.Ho pins σ _) (fun _ _=>False) s:=ha cpos pins s σ H _ (I.qR _) h;refine PySem.W.callWith_K (h₀:=X.base) I.ok.mod.PX hk (wpAny_mono hA (fun us s1 ⟨vs,H1,I1',r,q⟩=>⟨I1'.sr,?_⟩) fun _ _ z=>z.elim) he hpl;have I1:Inv X pins σ H1 s1:=I1'.gU;have hl:us.length=ps.length:=by rw[<-r.length];exact F.len _ _ _ _ q
 refine wpAny_call (codeAny_mono (F.run X.A X.stack s1 H1 ⟨us,[]⟩ us vs _ _ hr I1.N3 (by have:=hb s1 us I1.sr (by rw[zU];exact hl);rw[zU] at this;exact this) r q) fun rr s' hq=>?_);cases rr with
 | ok fl=>
  cases fl with
  | ret u=>
   obtain⟨v,H2,I2,r2,q2⟩:=I1.after hq;refine m7 I2 hN hi hx r2 (fun s2 I3=>?_) hf;exact wpAny_execs_nil (wpAny_execs_nil ⟨_,H2,I3,q2⟩)
  | next=>exact False.elim hq
  | brk=>exact False.elim hq
  | cont=>exact False.elim hq
 | error ev=>
  obtain⟨a,cls,a0,B,H',rfl,os,bare,fl,fly,⟨rfl,q2⟩⟩:=hq;have FQ:∀b∈pN X.stack,H1 b=none:=I1.qU;have nf:∀{hh:Heap},Heap.FunFrames hh B X.stack->∀b∈pN X.stack,∃o,hh.get? b=some o/\∀vs,o.data≠.fields vs:=fun hF b hb=>(hF.mem hb).2;have back:∀(hh:Heap),KU X.prog X.w (pN X.stack) H1 H' s1.heap B hh->Inv X pins σ H' {s' with heap:=hh}:=fun hh fy=>
   I1.ML (s':={s' with heap:=hh}) (ch:=[]) os (fy.un FQ) (fy.bV.kept fy.lh) bare fun b z=>absurd z (by simp)
  have hfr:X.A.frames=some (X.env::X.outer):=by rw[<-hstk];exact I1.ok.frames
  refine wpAny_looks_onW hfr hfrm (by rw[<-hstk];exact fl) fun h4 held4 up4=>?_;refine wpAny_landsW held4 fun h5 fl5 up5=>?_;have fl5':Heap.FlyingW B X.stack a (.ref C) a0 h5:=by rw[hstk];exact fl5
  have fy5:KU X.prog X.w (pN X.stack) H1 H' s1.heap B h5:=fly.on (up4.trans up5) fl5.1 (nf fl.2.2.1);have I5:=back h5 fy5;obtain⟨ob,hob,hobc⟩:=fl5'.there;obtain⟨tl,Nn,nm,qn,bs,hdct,sn,sub,ab,col,dd,k0,k1,k2,k3,k5,mN,hC,hN',hni,T⟩:=O.obj;refine wpAny_handleBy_cons (codeAny_handlers_test (jU (X:=X.held (.ref a)) (I5.held _) hgc O.bound ?_ hdc)) (by intro q;cases q);refine wpAny_excMatches_sub_self (I5.bk _ _ hC) hob hobc (T.hasType hbase) (codeAny_handlers_suite ?_);refine lands_againW fl5' fun h6 fl6 up6=>?_;have fy6:KU X.prog X.w (pN X.stack) H1 H' s1.heap B h6:=fy5.on up6 fl6.1 (nf fl5'.2.2.1);have I6:=back h6 fy6;refine wpAny_mono (hsu (.ref a) pins _ σ H' D ((I6.held _).qR _) q2) (fun fl s7 z=>?_) fun _ _ z=>z.elim;exact SP.kY I.ok.hd (SP.gU z)
end
section
variable {X:Cx}
def Lj {zs:List Str} {its:List Value} (r:Vals (zs.map V.str) its) {j:Nat} (h:j<its.length):∃z t,zs[j]?=some z/\its[j]=.str z t:=by
 have hl:zs.length=its.length:=by have:=r.length;rw[za] at this;exact this
 obtain⟨u,hu,ru⟩:=r.get (i:=j) (x:=.str (zs[j]'nofun)) (by rw[zJ,zb nofun];rfl);obtain⟨t,rfl⟩:=ru;rw[zb h] at hu;exact⟨_,t,zb nofun,yj hu⟩
end
section
variable {K:yA} {D x:Addr} {prog:Program} {w:World} {A:Around} {E:Value->Shared->Prop} {h:Heap} {g:Array GenState} {d:Drawn} {t:Nat} {os:OsState}
open Builtin Builtin.ObjectAttr Builtin.Getset_descriptor in
end
section
variable {X:Cx}
end
def cx.here (x:cx P w H h a o):∃ob,h.get? a=some ob:=by
 cases o with
 | lst xs=>obtain⟨_,_,_,_,e⟩:=x;exact⟨_,e⟩
 | tup xs=>obtain⟨_,_,_,o,e,_⟩:=x;exact⟨_,e⟩
 | dK kvs=>obtain⟨_,_,_,_,o,_,_,e,_⟩:=x;exact⟨_,e⟩
 | dT kvs=>obtain⟨_,_,_,_,o,_,_,e,_⟩:=x;exact⟨_,e⟩
 | set S n=>obtain⟨o,_,_,_,e,_⟩:=x;exact⟨_,e⟩
 | ins C dx fs=>obtain⟨_,_,_,e,_⟩:=x;exact⟨_,e⟩
 | own y=>exact x
 | xd fs=>obtain⟨_,⟨_,_,_,e,_⟩,_⟩:=x;exact⟨_,e⟩
 | JO lo hi=>obtain⟨_,_,_,e⟩:=x;exact⟨_,e⟩
 | mW ob u=>obtain⟨e,_⟩:=x;exact⟨_,e⟩
 | Lb ps=>exact⟨_,x⟩
 | met f y=>exact⟨_,x⟩
 | ext φ=>exact x.2.1
section
variable {X:Cx} {pins:List (Addr×Obj)} {σ:St} {H:Hp} {s:Shared}
def Inv.QF (I:Inv X pins σ H s) (hn:H a=none) (h0:X.s₀.heap.get? a=none) (hl:a≠X.env.locals) (hc:∀x c,X.env.cells.lookup x=some c->c≠a) (hp:∀p∈X.pn++pins,p.1≠a)
  (new:cx X.prog X.w (upd H a o) s.heap a o):Inv X pins σ (upd H a o) s where
 ok:=I.ok
 os:=I.os
 bare:=I.bare
 base:=⟨I.base.keep,I.base.slot,fun b ob e n hx=>by rw[aD (fun z=>by rw[z,h0] at e;cases e)];exact I.base.free b ob e n hx,I.base.there,
  fun b xs e=>by have:=I.base.oP b xs e;rw[aD (bf this hn)];exact this,fun b ob u e=>by have:=I.base.mR b ob u e;rw[aD (bf this hn)];exact this,
  fun b ps e=>by obtain⟨m,e1⟩:=I.base.oQ b ps e;exact⟨m,by rw[aD (bf e1 hn)];exact e1⟩⟩
 loc:=I.loc
 cell:=I.cell
 free:=by rw[aD (Ne.symm hl)];exact I.free
 jX:=fun x c e=>by rw[aD (hc x c e)];exact I.jX x c e
 pin:=fun p hpp=>by obtain⟨e,n,ne,nf,d⟩:=I.pin p hpp;exact⟨e,by rw[aD (hp p hpp)];exact n,ne,nf,d⟩
 bV:=fun b u e=>by
  by_cases hb:b=a
  ·subst hb
   rw[aC] at e;cases e;exact new
  ·rw[aD hb] at e
   refine(I.bV b u e).lh (fun _ _ _ q=>q) (fun c q=>?_) fun c xs q=>?_
   ·rw[aD (bf q hn)];exact q
   ·rw[aD (bf q hn)];exact q
 len:=I.len
end
section
variable {X:Cx} {k:Nat} {f:Addr} {fd:FuncData} {ps:List Str} {sp:Sp} {fx cn n x:Str} {p pos cpos pa tpos np hpos:Pos} {e₀:Expr} {es:List Expr} {t:TA} {i j:Nat} {C S:Addr} {bm bmS:List Value} {newId newIdS:String} {b₀:Stmt} {suite:List Stmt} {th:TS}
end
end L2
namespace L2
open PySem PySem.Spec PyProof.Rows
section
variable {κ:Type} [DecidableEq κ]
def e9 (kvs:List (κ×V)) (k:κ):Option V:=(kvs.find? fun kv=>decide (kv.1=k)).map (·.2)
def putK (kvs:List (κ×V)) (k:κ) (v:V):List (κ×V):=
 if(kvs.any fun kv=>decide (kv.1=k))=true then kvs.map (fun kv=>if kv.1=k then(kv.1,v) else kv) else kvs++[(k,v)]
def wX {p:κ×V} {r:List (κ×V)} {k:κ} (e:p.1=k):e9 (p::r) k=some p.2:=by simp[e9,List.find?_cons,e]
def wY {p:κ×V} {r:List (κ×V)} {k:κ} (e:¬p.1=k):e9 (p::r) k=e9 r k:=by simp[e9,List.find?_cons,e]
theorem wZ (k:κ):∀kvs:List (κ×V),(kvs.any fun kv=>decide (kv.1=k))=(e9 kvs k).isSome
 | []=>rfl
 | p::r=>by
  rw[List.any_cons]
  by_cases e:p.1=k
  ·simp only[wX e,ze e,Bool.true_or,Option.isSome_some]
  ·rw[wY e,zd e,Bool.false_or];exact wZ k r
def vf (kvs:List (κ×V)) (k:κ) (v:V):(putK kvs k v).length<=kvs.length+1:=by
 unfold putK;split
 ·rw[za];omega
 ·rw[zg,zt,List.length_nil];omega
def LM {kvs:List (κ×V)} {k:κ} (v:V) (h:e9 kvs k=none):putK kvs k v=kvs++[(k,v)]:=by
 unfold putK;rw[wZ,h];exact if_neg ∅
def lZ.kO (r:lZ o u):o.isSome=u.isSome:=by
 cases o with
 | none=>cases u with
  | none=>rfl
  | some _=>exact(show False from r).elim
 | some _=>cases u with
  | none=>exact(show False from r).elim
  | some _=>rfl
theorem lZ.getD (r:lZ o u) (rd:RelV d d'):RelV (o.getD d) (u.getD d'):=by
 cases o with
 | none=>cases u with
  | none=>exact rd
  | some _=>exact(show False from r).elim
 | some _=>cases u with
  | none=>exact(show False from r).elim
  | some _=>exact r
def KV.val {kvs:List (κ×V)} {vs:List (κ×Value)} (r:KV kvs vs) (k:κ):lZ (e9 kvs k) (valueAt vs k):=by
 unfold KV at r
 induction r with
 | nil=>exact True.intro
 | @cons p q ps qs h t ih=>
  obtain⟨h1,h2⟩:=h
  by_cases e:p.1=k
  ·have e':q.1=k:=h1.symm.trans e
   have b:valueAt (q::qs) k=some q.2:=by simp[valueAt,List.find?_cons,e']
   rw[wX e,b];exact h2
  ·have e':¬q.1=k:=fun z=>e (h1.trans z)
   have b:valueAt (q::qs) k=valueAt qs k:=by simp[valueAt,List.find?_cons,e']
   rw[wY e,b];exact ih
theorem KV.any (r:KV kvs vs) (k:κ):(kvs.any fun kv=>decide (kv.1=k))=vs.any fun kv=>decide (kv.1=k):=by
 unfold KV at r
 induction r with
 | nil=>rfl
 | cons h t ih=>rw[List.any_cons,List.any_cons,ih,h.1]
def KV.Pq (r:KV kvs vs) (k:κ) (ry:RelV y u) :
  KV (kvs.map fun kv=>if kv.1=k then(kv.1,y) else kv) (vs.map fun kv=>if kv.1=k then(kv.1,u) else kv):=by
 unfold KV at r ⊢
 induction r with
 | nil=>exact .nil
 | @cons p q ps qs h t ih=>
  rw[zh,zh];refine .cons ?_ ih;obtain⟨h1,h2⟩:=h
  by_cases e:p.1=k
  ·rw[if_pos e,if_pos (h1.symm.trans e)];exact⟨h1,ry⟩
  ·rw[if_neg e,if_neg (fun z=>e (h1.trans z))];exact⟨h1,h2⟩
def KV.put (r:KV kvs vs) (k:κ) (ry:RelV y u):KV (putK kvs k y) (stored vs k u):=by
 unfold putK stored;rw[r.any k]
 by_cases e:(vs.any fun kv=>decide (kv.1=k))=true
 ·rw[if_pos e,if_pos e];exact r.Pq k ry
 ·rw[if_neg e,if_neg e];exact Paired.snoc r ⟨rfl,ry⟩
theorem KV.length (r:KV kvs vs):kvs.length=vs.length:=Paired.length r
end
def Ca (r:RelV (kV k) u):(cW P w).is k u=true:=by
 cases k with
 | inl i=>obtain⟨t,e⟩:=(show∃t,u=Value.int i t from r);subst e;exact FE P w i t
 | inr x=>obtain⟨t,e⟩:=(show∃t,u=Value.str x t from r);subst e;exact vc P w x t
theorem Cb:∀{ks:List Key} {us:List Value},Vals (ks.map kV) us->ItemsAre (cW P w) ks us
 | [],_,r=>by rw[ym] at r;cases r;exact .nil
 | k::ks,_,r=>by
  rw[zh] at r;cases r with
  | cons h t=>exact .cons (Ca h) (Cb t)
abbrev KT (H:Hp):List (List Key×V)->List (List Key×Addr×Value)->Prop:=Paired fun p q=>p.1=q.1/\H q.2.1=some (.tup (p.1.map kV))/\RelV p.2 q.2.2
def KT.val {H:Hp} {kvs:List (List Key×V)} {xs:List (List Key×Addr×Value)} (r:KT H kvs xs) (k:List Key):lZ (e9 kvs k) ((atKey xs k).map (·.2)):=by
 induction r with
 | nil=>exact True.intro
 | @cons p q ps qs h t ih=>
  obtain⟨h1,_,h2⟩:=h
  by_cases e:p.1=k
  ·have e':q.1=k:=h1.symm.trans e
   have b:atKey (q::qs) k=some q.2:=by simp[atKey,List.find?_cons,e']
   rw[wX e,b];exact h2
  ·have e':¬q.1=k:=fun z=>e (h1.trans z)
   have b:atKey (q::qs) k=atKey qs k:=by simp[atKey,List.find?_cons,e']
   rw[wY e,b];exact ih
def KT.Pq (r:KT H kvs xs) (k:List Key) (ry:RelV y u) :
  KT H (kvs.map fun kv=>if kv.1=k then(kv.1,y) else kv) (xs.map (putAt k u)):=by
 induction r with
 | nil=>exact .nil
 | @cons p q ps qs h t ih=>
  rw[zh,zh];refine .cons ?_ ih;obtain⟨h1,h2,h3⟩:=h;unfold putAt
  by_cases e:p.1=k
  ·rw[if_pos e,if_pos (h1.symm.trans e)];exact⟨h1,h2,ry⟩
  ·rw[if_neg e,if_neg (fun z=>e (h1.trans z))];exact⟨h1,h2,h3⟩
def KT.put (r:KT H kvs xs) (k:List Key) (hb:H b=some (.tup (k.map kV))) (ry:RelV y u) :
  KT H (putK kvs k y) (storedH xs k b u):=by
 have e:(kvs.any fun kv=>decide (kv.1=k))=(atKey xs k).isSome:=by
  rw[wZ,(r.val k).kO,Option.isSome_map]
 unfold putK storedH;rw[e]
 by_cases q:(atKey xs k).isSome=true
 ·rw[if_pos q,if_pos q];exact r.Pq k ry
 ·rw[if_neg q,if_neg q];exact Paired.snoc r ⟨rfl,hb,ry⟩
def KT.keeps (r:KT H kvs xs) (ht:∀b ys,H b=some (.tup ys)->H' b=some (.tup ys)):KT H' kvs xs:=
 Paired.PU r fun _ _ z=>⟨z.1,ht _ _ z.2.1,z.2.2⟩
section
variable {P:Program} {w:World} {H:Hp} {h:Heap} {a:Addr}
def Oy (ok:qP P w H h) (e:Rd H a u):cx P w H h a u:=e.ok ok
def vj (ok:qP P w H h) (e:Rd H a (.dK kvs)):kvs.length<=sizeLine/\(a == sysModules)=false/\∃vs,KV kvs vs/\h.DictOf (cW P w) a vs:=
 show cx P w H h a (.dK kvs) from Oy ok e
def Rk (ok:qP P w H h) (e:H a=some (.dK kvs)):kvs.length<=sizeLine/\(a == sysModules)=false/\∃vs,KV kvs vs/\h.DictOf (cW P w) a vs:=vj ok (.inl e)
def ue (ok:qP P w H h) (e:H a=some (.tup (ks.map kV))):(tupleKind (cW P w)).is h ks a:=by
 obtain⟨_,its,r,o,h1,h2,n,h3⟩:=(show cx P w H h a (.tup (ks.map kV)) from ok a _ e)
 exact⟨o,its.toArray,n,h1,h2,h3,by simpa using Cb r⟩
def Aa (ok:qP P w H h) (e:Rd H a (.dT kvs)):kvs.length<=sizeLine/\(a == sysModules)=false/\
  ∃xs,KT H kvs xs/\h.DictOfH (tupleKind (cW P w)) a xs:=by
 obtain⟨z,y,xs,r,o,es,ep,h1,h2,h3,h4,h5⟩:=(show cx P w H h a (.dT kvs) from Oy ok e)
 refine⟨z,y,xs,r,o,es,ep,h1,h2,h3,h4,fun x hx=>?_,h5⟩;have all:∀{l:List (List Key×V)} {m:List (List Key×Addr×Value)},KT H l m->∀x∈m,(tupleKind (cW P w)).is h x.1 x.2.1:=by
  intro l m q
  induction q with
  | nil=>intro x hx;exact nomatch hx
  | @cons p q ps qs hq t ih=>
   intro x hx;rcases zC.mp hx with e | hx
   ·subst e
    exact ue ok (by rw[<-hq.1];exact hq.2.1)
   ·exact ih x hx
 exact all r x hx
def Rj (ok:qP P w H h) (e:H a=some (.dT kvs)):kvs.length<=sizeLine/\(a == sysModules)=false/\
  ∃xs,KT H kvs xs/\h.DictOfH (tupleKind (cW P w)) a xs:=Aa ok (.inl e)
end
def Es (H:Hp) (a:Addr) (y:V) (r:Option V):Prop:=
 (∃kvs k,Rd H a (.dK kvs)/\y=kV k/\r=e9 kvs k)\/∃kvs k b,Rd H a (.dT kvs)/\y=.ref b/\H b=some (.tup (k.map kV))/\r=e9 kvs k
def Rv (H:Hp) (a:Addr) (y v:V) (H':Hp):Prop:=
 (∃kvs k,H a=some (.dK kvs)/\y=kV k/\kvs.length<sizeLine/\H'=upd H a (.dK (putK kvs k v)))\/
 ∃kvs k b,H a=some (.dT kvs)/\y=.ref b/\H b=some (.tup (k.map kV))/\kvs.length<sizeLine/\H'=upd H a (.dT (putK kvs k v))
section
variable {X:Cx} {pins:List (Addr×Obj)} {σ:St} {H:Hp} {s:Shared} {a:Addr} {y v:V} {u r:Value} {o:Option V} {A:Around} {E:Value->Shared->Prop}
def Inv.big (I:Inv X pins σ H s):sysModules<↑s:=by
 have h:mainGlobals<↑s:=(I.mod.glob.keeps I.bk).lt;exact Nat.lt_trans ∅ h
def Kk (hu:A.units+1<cLine) (I:Inv X pins σ H s) (g:Es H a y (some v)) (ry:RelV y u) (h:∀w' s',Inv X pins σ H s'->RelV v w'->Q w' s') :
  wpAny (model X.prog X.w) A (getItem (.ref a) u) Q E s:=by
 rcases g with⟨kvs,k,e,ey,l⟩ | ⟨kvs,k,b,e,ey,eb,l⟩
 ·subst ey
  obtain⟨z,hd,vs,rel,dd⟩:=vj I.bV e;obtain⟨w',hw,rw'⟩:=lZ.some_of (v:=v) (o:=valueAt vs k) (by rw[l];exact rel.val k);exact wpAny_getItem_of (Ca ry) dd.mapOf hw (h w' _ (I.tok _) rw')
 ·subst ey
  cases(show u=Value.ref b from ry);obtain⟨z,hd,xs,rel,dd⟩:=Aa I.bV e;obtain⟨w',hw,rw'⟩:=lZ.some_of (v:=v) (o:=(atKey xs k).map (·.2)) (by rw[l];exact rel.val k);obtain⟨p,hp,hp2⟩:=Option.map_eq_some_iff.mp hw;refine wpAny_getItem_heap (tupleKind_room_in1 hu) (ue I.bV eb) dd hp ?_;rw[hp2];exact h w' _ (I.tok _) rw'
def SU (hu:A.units+1<cLine) (I:Inv X pins σ H s) (g:Es H a y o) (ry:RelV y u) (h:∀s',Inv X pins σ H s'->Q (.bool o.isSome) s') :
  wpAny (model X.prog X.w) A (compareOp .In u (.ref a)) Q E s:=by
 rcases g with⟨kvs,k,e,ey,l⟩ | ⟨kvs,k,b,e,ey,eb,l⟩
 ·subst ey
  obtain⟨z,hd,vs,rel,dd⟩:=vj I.bV e;refine wpAny_in_of (Ca ry) hd dd.mapOf ?_;rw[<-(rel.val k).kO,<-l];exact h _ (I.tok _)
 ·subst ey
  cases(show u=Value.ref b from ry);obtain⟨z,hd,xs,rel,dd⟩:=Aa I.bV e;refine wpAny_in_heap (tupleKind_room_in1 hu) (ue I.bV eb) hd dd ?_;have q:=(rel.val k).kO;rw[Option.isSome_map] at q;rw[<-q,<-l];exact h _ (I.tok _)
def N8 (hu:A.units+1<cLine) (I:Inv X pins σ H s) (g:Es H a y o) (ry:RelV y u) (h:∀s',Inv X pins σ H s'->Q (.bool (!o.isSome)) s') :
  wpAny (model X.prog X.w) A (compareOp .NotIn u (.ref a)) Q E s:=by
 rcases g with⟨kvs,k,e,ey,l⟩ | ⟨kvs,k,b,e,ey,eb,l⟩
 ·subst ey
  obtain⟨z,hd,vs,rel,dd⟩:=vj I.bV e;refine wpAny_notIn_of (Ca ry) hd dd.mapOf ?_;rw[<-(rel.val k).kO,<-l];exact h _ (I.tok _)
 ·subst ey
  cases(show u=Value.ref b from ry);obtain⟨z,hd,xs,rel,dd⟩:=Aa I.bV e;refine wpAny_notIn_heap (tupleKind_room_in1 hu) (ue I.bV eb) hd dd ?_;have q:=(rel.val k).kO;rw[Option.isSome_map] at q;rw[<-q,<-l];exact h _ (I.tok _)
def Jg (I:Inv X pins σ H s) (mu:Rq (H a)) (hs:Heap.SameBut a s.heap h') (he:∃q,h'.get? a=some q) (new:cx X.prog X.w (upd H a ob) h' a ob) :
  Inv X pins σ (upd H a ob) {s with heap:=h',toks:=t'}:=
 I.write (x:=a) (e:=a) mu (.inl rfl) (fun b q hb z=>(hs.2 b hb).trans z) he new
def Qh (z:kvs.length<=sizeLine) (hd:(a == sysModules)=false) (rel:KV kvs vs) (dd:h'.DictOf (cW P w) a vs) :
  cx P w H' h' a (.dK kvs):=⟨z,hd,vs,rel,dd⟩
def Kj (hu:A.units+1<cLine) (I:Inv X pins σ H s) (g:Rv H a y v H') (ry:RelV y u) (rv:RelV v r) (h:∀s',Inv X pins σ H' s'->Q () s') :
  wpAny (model X.prog X.w) A (setItem (.ref a) u r) Q E s:=by
 rcases g with⟨kvs,k,e,ey,l,eH⟩ | ⟨kvs,k,b,e,ey,eb,l,eH⟩
 ·subst ey eH
  obtain⟨z,hd,vs,rel,dd⟩:=Rk I.bV e;have hz:vs.length<=sizeLine:=by rw[<-rel.length];exact z
  have hl:(putK kvs k v).length<=sizeLine:=by have:=vf kvs k v;omega
  refine wpAny_setItem_pairs (hsz:=hz) (Ca ry) dd fun h' dd' hs=>h _ ?_;have he:∃q,h'.get? a=some q:=let ⟨q,_,_,hq,_⟩:=dd';⟨q,hq⟩;exact Jg I (by rw[e];exact True.intro) hs he (Qh hl hd (rel.put k rv) dd')
 ·subst ey eH
  cases(show u=Value.ref b from ry);obtain⟨z,hd,xs,rel,dd⟩:=Rj I.bV e;have hz:xs.length<=sizeLine:=by rw[<-Paired.length rel];exact z
  have hl:(putK kvs k v).length<=sizeLine:=by have:=vf kvs k v;omega
  refine wpAny_setItem_heap (hsz:=hz) (tupleKind_room_in1 hu) (ue I.bV eb) dd fun h' dd' hs=>h _ ?_;obtain⟨q,es,ep,hq,h2,h3,h4,_,h5⟩:=dd';refine Jg I (by rw[e];exact True.intro) hs ⟨q,hq⟩ ⟨hl,hd,_,(rel.put k eb rv).keeps fun c ys ec=>?_,q,es,ep,hq,h2,h3,h4,h5⟩;rw[aD (aZ ec e (fun z=>nomatch z))];exact ec
end
section
variable {X:Cx} {pins:List (Addr×Obj)} {σ:St} {H:Hp} {s:Shared} {a:Addr} {kvs:List (Key×V)} {k:Key} {u:Value} {A:Around} {E:Value->Shared->Prop}
def Rm (I:Inv X pins σ H s) (e:Rd H a (.dK kvs)) (h:∀t s',Inv X pins σ H s'->Q (.int kvs.length t) s'):wpAny (model X.prog X.w) A (call (.builtin "len") [.ref a]) Q E s:=by
 obtain⟨z,hd,vs,rel,dd⟩:=vj I.bV e;refine call_len_dict hd dd (by rw[<-rel.length];rw[yB] at z;omega) ?_;rw[<-rel.length];exact h _ _ (I.tok _)
end
def Qp (i:Expr):Prop:=∀ov iv,subscripted i false ov iv=operate [ov,iv] (getItem ov iv)
def IH {prog:Program} {w:World} {A:Around} {E:Value->Shared->Prop} {s:Shared} {env:Env} {value slice:Expr} {pos:Pos} {T id:String} {Q:Value->Shared->Prop}
  (hl:typeLookup (.type T) "__getitem__"= pure (some (.builtin id))) (hs:Qp slice)
  (h:wpAny (model prog w) A (eval value env) (fun o s₁=>wpAny (model prog w) A (eval slice env) (fun i s₂=>s₂.TypeIs o T/\wpAny (model prog w) A (getItem o i) Q E s₂) E s₁) E s) :
  wpAny (model prog w) A (eval (.Subscript value slice pos) env) Q E s:=by
 refine Subscript_ (wpAny_mono h (fun o s₁ h₁=>wpAny_mono h₁ (fun i s₂ h₂=>?_) fun _ _ x=>x) fun _ _ x=>x);obtain⟨hT,h₂⟩:=h₂;unfold subscriptTail;refine yt ?_;rw[getitemInPython_of_ne hT.not_modules];refine yt (wpAny_specialOf hT hl ?_);have fin:wpAny (model prog w) A (subscripted slice false o i) (fun r s₃=>wpAny (model prog w) A (letTemporaryGo value o r >>= fun _=>pure r) Q E s₃) E s₂:=by
  rw[hs o i];exact wpAny_operating (wpAny_mono h₂ (fun r s₃ h₃=>yt (wpAny_letTemporaryGo (yv h₃))) fun _ _ x=>x)
 first
  | exact yv (yt fin)
  | exact yt (yv (yt fin))
  | exact yt fin
def F3 (I:Inv X pins σ H s) (g:Es H a y o):s.TypeIs (.ref a) "dict":=by
 rcases g with⟨kvs,k,e,_,_⟩ | ⟨kvs,k,b,e,_,_,_⟩
 ·obtain⟨_,_,vs,_,dd⟩:=vj I.bV e
  exact dd.typeIs
 ·obtain⟨_,_,xs,_,dd⟩:=Aa I.bV e
  exact dd.typeIs
def QN (td ty:TE):TE:=fun σ H Q=>td σ H fun x H1=>ty σ H1 fun y H2=>∃a v,x=.ref a/\Es H2 a y (some v)/\Q v H2
def Sk (ty td:TE):TE:=fun σ H Q=>ty σ H fun y H1=>td σ H1 fun x H2=>∃a o,x=.ref a/\Es H2 a y o/\Q (.bl o.isSome) H2
def Ni (ty td:TE):TE:=fun σ H Q=>ty σ H fun y H1=>td σ H1 fun x H2=>∃a o,x=.ref a/\Es H2 a y o/\Q (.bl (!o.isSome)) H2
def QS (td ty tv:TE):TS:=fun D σ H=>tv σ H fun v H1=>td σ H1 fun x H2=>ty σ H2 fun y H3=>∃a H4,x=.ref a/\Rv H3 a y v H4/\D.nx σ H4
section
variable {X:Cx} {o i e value:Expr} {pos pos' tpos:Pos} {td ty tv:TE}
def NI (hu:X.A.units+1<cLine) (ho:PE X o td) (hi:PE X i ty) (hs:Qp i):PE X (.Subscript o i pos) (QN td ty):=by
 intro pins s σ H Q I h;refine IH PySem.F.slot_dict_getitem.lookup hs (cQ (ho pins s σ H _ I h) fun u s1 ⟨x,H1,I1,rx,q1⟩=>cQ (hi pins s1 σ H1 _ I1 q1) fun iv s2 zz=>?_);obtain⟨y,H2,I2,ry,a,v,ex,g,q2⟩:=zz;subst ex;obtain rfl:u=Value.ref a:=rx;exact⟨F3 I2 g,Kk hu I2 g ry fun w' s3 I3 rw'=>⟨v,H2,I3,rw',q2⟩⟩
def Hk (hu:X.A.units+1<cLine) (hi:PE X i ty) (ho:PE X o td):PC X .In i o (Sk ty td):=by
 intro pins s σ H Q I h;refine cQ (hi pins s σ H _ I h) fun iv s1 ⟨y,H1,I1,ry,q1⟩=>cQ (ho pins s1 σ H1 _ I1 q1) fun u s2 zz=>?_;obtain⟨x,H2,I2,rx,a,ov,ex,g,q2⟩:=zz;subst ex;obtain rfl:u=Value.ref a:=rx;exact SU hu I2 g ry fun s3 I3=>⟨.bl ov.isSome,H2,I3,rfl,q2⟩
def B1 (hu:X.A.units+1<cLine) (hi:PE X i ty) (ho:PE X o td):PC X .NotIn i o (Ni ty td):=by
 intro pins s σ H Q I h;refine cQ (hi pins s σ H _ I h) fun iv s1 ⟨y,H1,I1,ry,q1⟩=>cQ (ho pins s1 σ H1 _ I1 q1) fun u s2 zz=>?_;obtain⟨x,H2,I2,rx,a,ov,ex,g,q2⟩:=zz;subst ex;obtain rfl:u=Value.ref a:=rx;exact N8 hu I2 g ry fun s3 I3=>⟨.bl (!ov.isSome),H2,I3,rfl,q2⟩
def wG (hu:X.A.units+1<cLine) (ho:PE X o td) (hi:PE X i ty) (hv:PE X value tv) (hs:swapsWith value (some (.Subscript o i pos')) pos.line X.env=pure false) :
  PS X (.Assign [.Subscript o i pos'] value pos) (QS td ty tv):=by
 intro pins s σ H D I h;refine wpAny_Assign_Subscript (cQ (hv pins s σ H _ I h) fun r s1 ⟨v,H1,I1,rv,q1⟩=>cQ (ho pins s1 σ H1 _ I1 q1) fun u s2 ⟨x,H2,I2,rx,q2⟩=>cQ (hi pins s2 σ H2 _ I2 q2) fun iv s3 ⟨y,H3,I3,ry,a,H4,ex,g,q3⟩=>?_) hs;subst ex;obtain rfl:u=Value.ref a:=rx;exact Kj hu I3 g ry rv fun s4 I4=>⟨σ,H4,I4,q3⟩
end
def MG (h:Heap) (hb:sysModules<h.objs.size):cx P w H (h.push {cls:=.type "dict",data:=.dict #[]}) h.objs.size (.dK []):=
 ⟨yf _,beq_eq_false_iff_ne.mpr (Ne.symm (yi hb)),[],.nil,Heap.DictOf.new h⟩
def ME (h:Heap) (hb:sysModules<h.objs.size):cx P w H (h.push {cls:=.type "dict",data:=.dict #[]}) h.objs.size (.dT []):=
 ⟨yf _,beq_eq_false_iff_ne.mpr (Ne.symm (yi hb)),[],.nil,_,#[],0,yw _ rfl,⟨rfl,rfl,rfl⟩,rfl,rfl,List.nodup_nil⟩
def Pd:TE:=fun _ H Q=>∀p,H p=none->Q (.ref p) (upd H p (.dK []))
def Pc:TE:=fun _ H Q=>∀p,H p=none->Q (.ref p) (upd H p (.dT []))
section
variable {X:Cx} {pos:Pos}
def xX:PE X (.Dict [] [] pos) Pd:=fun pins s σ H Q I h=>
 wpAny_Dict_empty ⟨.ref ↑s,_,I.laid (a:=↑s) (o:=.dK []) (t':=s.toks) (fun _ _ q=>yu _ q) (zk _) (MG s.heap I.big),rfl,h _ (I.bV.fresh (zk _))⟩
def L0:PE X (.Dict [] [] pos) Pc:=fun pins s σ H Q I h=>
 wpAny_Dict_empty ⟨.ref ↑s,_,I.laid (a:=↑s) (o:=.dT []) (t':=s.toks) (fun _ _ q=>yu _ q) (zk _) (ME s.heap I.big),rfl,h _ (I.bV.fresh (zk _))⟩
end
structure M2 (X:Cx) (o:Expr) (m:Str) (apos:Pos) (e f:Expr) (cpos:Pos):Prop where
 base:attributeBase o m X.env (eval o X.env)=eval o X.env
 Tt:((backTo cpos (starEach [e,f] X.env)).all (fun x=>!x.1)&&(backToKw cpos (keywordEach [] X.env)).all (fun x=>x.1.isSome)
  &&decide (([e,f]:List Expr).length+([]:List Keyword).length+(if([]:List Keyword).isEmpty then 0 else 1)<30))=true
 line:(apos.endLine == cpos.line)=true
 trees:backTo cpos (starEach [e,f] X.env)=[(false,eval e X.env),(false,eval f X.env)]
def Tg (H:Hp) (a:Addr):Prop:=(∃kvs,Rd H a (.dK kvs))\/∃kvs,Rd H a (.dT kvs)
def P6 (I:Inv X pins σ H s) (d:Tg H a) :
  s.TypeIs (.ref a) "dict"/\(∀b,Value.ref a=.ref b->∃ob,s.heap.get? b=some ob/\ob.dict=none)/\(a == sysModules)=false:=by
 rcases d with⟨kvs,e⟩ | ⟨kvs,e⟩
 ·obtain⟨_,hd,vs,_,dd⟩:=vj I.bV e
  refine⟨dd.typeIs,fun b q=>?_,hd⟩;cases q;obtain⟨ob,_,_,h1,h2,_⟩:=dd;exact⟨ob,h1,h2.2.1⟩
 ·obtain⟨_,hd,xs,_,dd⟩:=Aa I.bV e
  refine⟨dd.typeIs,fun b q=>?_,hd⟩;cases q;obtain⟨ob,_,_,h1,h2,_⟩:=dd;exact⟨ob,h1,h2.2.1⟩
section
variable {X:Cx} {pins:List (Addr×Obj)} {σ:St} {H:Hp} {s:Shared} {a:Addr} {y d:V} {u r:Value} {o:Option V} {A:Around} {E:Value->Shared->Prop}
def Qi (hu:A.units+1<cLine) (I:Inv X pins σ H s) (g:Es H a y o) (ry:RelV y u) (rd:RelV d r) (h:∀w' s',Inv X pins σ H s'->RelV (o.getD d) w'->Q w' s') :
  wpAny (model X.prog X.w) A (call (.builtin "dict.get") [.ref a,u,r]) Q E s:=by
 rcases g with⟨kvs,k,e,ey,l⟩ | ⟨kvs,k,b,e,ey,eb,l⟩
 ·subst ey
  obtain⟨z,hd,vs,rel,dd⟩:=vj I.bV e;refine call_meetsIn PySem.F.slot_dict_get dd.typeIs PySem.F.entry_dict_get (PySem.F.args_dict_get_3 _ _ _) (meets_dict_get_default (cW X.prog X.w) a (Ca ry) hd r) ⟨_,dd.mapOf,h _ _ (I.tok _) ?_⟩;rw[l];exact(rel.val k).getD rd
 ·subst ey
  cases(show u=Value.ref b from ry);obtain⟨z,hd,xs,rel,dd⟩:=Aa I.bV e;refine call_meetsIn PySem.F.slot_dict_get dd.typeIs PySem.F.entry_dict_get (PySem.F.args_dict_get_3 _ _ _) (meetsH_dict_get_default (tupleKind (cW X.prog X.w)) a b hd r) ⟨tupleKind_room_in1 hu,k,xs,ue I.bV eb,dd,h _ _ (I.tok _) ?_⟩;rw[l];exact(rel.val k).getD rd
end
def Pg (td ty tx:TE):TE:=fun σ H Q=>td σ H fun x H1=>∃a,x=.ref a/\Tg H1 a/\ty σ H1 fun y H2=>tx σ H2 fun z H3=>∃o,Es H3 a y o/\Q (o.getD z) H3
section
variable {X:Cx} {o e f:Expr} {apos cpos:Pos} {td ty tx:TE}
def Fg (hu:X.A.units+1<cLine) (ho:PE X o td) (he:PE X e ty) (hf:PE X f tx) (m:M2 X o "get" apos e f cpos):PE X (.Call (.Attribute o "get" apos) [e,f] [] cpos) (Pg td ty tx):=by
 intro pins s σ H Q I h;refine wpAny_Call_method m.base m.Tt m.line PySem.F.plainAttrs_dict PySem.F.slot_dict_get PySem.F.type_dict_get (cQ (ho pins s σ H _ I h) fun u s1 zz=>?_);obtain⟨x,H1,I1,rx,a,ex,d,q1⟩:=zz;subst ex;obtain rfl:u=Value.ref a:=rx;obtain⟨t1,t2,_⟩:=P6 I1 d;refine⟨t1,t2,?_⟩;rw[m.trees];refine Calls.callWith_builtin rfl (Calls.evalArgs_plain (Calls.spliced_cons (cQ (he pins s1 σ H1 _ I1 q1) fun iv s2 ⟨y,H2,I2,ry,q2⟩=>
  Calls.spliced_cons (cQ (hf pins s2 σ H2 _ I2 q2) fun fv s3 ⟨z,H3,I3,rz,ov,g,q3⟩=>Calls.spliced_nil ?_))))
 exact Qi hu I3 g ry rz fun w' s4 I4 rw'=>⟨_,H3,I4,rw',q3⟩
end
section
variable {X:Cx} {pins:List (Addr×Obj)} {σ:St} {H:Hp} {s:Shared} {a:Addr} {kvs:List (Key×V)} {A:Around} {E:Value->Shared->Prop}
end
section
variable {X:Cx} {pins:List (Addr×Obj)} {σ:St} {H:Hp} {s:Shared} {a:Addr} {y:V} {u:Value} {A:Around} {E:Value->Shared->Prop}
end
end L2
namespace L2
open PySem PySem.Spec PyProof.Rows
section
variable {κ:Type} [DecidableEq κ]
end
end L2
namespace L2
open PySem PySem.Spec PyProof.Rows
def dJ (σ₀:St) (g:TG) (tc:TT) (te:TE) (Q:VK) (J:It) (H1:Hp):Prop:=∃W:Nat->Nat->List V->St->Hp->Prop,(∃m,W 0 m [] σ₀ H1)/\∀i m xs σ' H',W i m xs σ' H'->
 (J.stop i H'/\xs.length<=sizeLine/\∀D,H' D=none->Q (.ref D) (upd H' D (.lst xs)))\/
 (J.go i H'/\xs.length<sizeLine/\∀x H2,J.Jw i H' x H2->g x σ' H2 fun σ3 H3=>tc σ3 H3 fun b H4=>if b=true then te σ3 H4 fun y H5=>∃m',m'<m/\W (i+1) m' (xs++[y]) σ3 H5 else∃m',m'<m/\W (i+1) m' xs σ3 H4)
def cL (X:Cx) (N:List Str) (scope:Scope) (cl:List (Str×Addr)) (C:Addr) (s₀:Shared) (H₀:Hp) (ex:List Addr):Cx:=
 {X with N:=N,s₀:=s₀,H₀:=H₀,env:=compEnvC scope (cellsFrom (C+1) scope.names cl) C X.env,outer:=X.stack,stack:=X.stack,ex:=ex,fn:=fun x=>((cellsFrom (C+1) scope.names []).lookup x).isSome,pn:=[],xe:=fun _ _=>False}
def m6 (fr:List (Option Nat)) (wi:TI) (g:TG) (tc:TT) (te:TE):TE:=fun σ H Q=>wi σ H fun J H1=>dJ (fr.map fun o=>o.bind fun j=>(σ[j]?).join) g tc te Q J H1
def Og (X:Cx) (ifs:List Expr) (tc:TT):Prop:=∀(pins:List (Addr×Obj)) (s:Shared) (σ:St) (H:Hp) (Q:Bool->Hp->Prop),Inv X pins σ H s->tc σ H Q->
 wpAny (model X.prog X.w) X.A (forIn ifs true fun c r=>if r=true then do let ok <-isTrue c X.env (eval c X.env);pure (ForInStep.yield ok) else pure (ForInStep.yield r)) (TP X pins σ Q) X.xe s
def vw:TT:=fun _ H Q=>Q true H
def bj:Og X [] vw:=fun _ _ _ H _ I h=>wpAny_tests_nil ⟨H,I,h⟩
def iC (h:PT X c tc):Og X [c] tc:=fun pins s σ H Q I q=>wpAny_tests_one (h pins s σ H Q I q)
theorem de:∀(names:List (Str×NameKind)) (n:Nat) (acc:List (Str×Addr)),cellsFrom n names acc=cellsFrom n names []++acc
 | [],_,_=>rfl
 | (x,k)::r,n,acc=>by
  unfold cellsFrom;split
  ·rw[de r (n+1) ((x,n)::acc),de r (n+1) [(x,n)],zE];rfl
  ·exact de r n acc
def NN {h:Heap} {lo:Nat} {cs:List (Str×Addr)} (ok:CellsOk h lo cs) {x y:Str} {c:Addr} (e:cs.lookup x=some c) (e':cs.lookup y=some c):x=y:=by
 have key:∀(l:List (Str×Addr)),l.Pairwise (fun x y=>x.2≠y.2)->(x,c)∈l->(y,c)∈l->x=y:=by
  intro l
  induction l with
  | nil=>intro _ h;cases h
  | cons p r ih=>
   intro hp h1 h2;rw[List.pairwise_cons] at hp;rcases zC.mp h1 with h1 | h1
   ·rcases zC.mp h2 with h2 | h2
    ·rw[<-h1] at h2;exact(Prod.mk.inj h2).1.symm
    ·exact absurd rfl (by have:=hp.1 _ h2;rw[<-h1] at this;exact this)
   ·rcases zC.mp h2 with h2 | h2
    ·exact absurd rfl (by have:=hp.1 _ h1;rw[<-h2] at this;exact this)
    ·exact ih hp.2 h1 h2
 exact key cs ok.apart (mem_of_lookup e) (mem_of_lookup e')
def Dr
  (hQ:∀g1:Heap,g1.Ns ↑s (fun _=>none)->(∀b o,s.heap.get? b=some o->g1.get? b=some o)->CellsOk g1 (↑s+1) (cellsFrom (↑s+1) scope.names [])->
   Q (newEnv scope ↑s globals (cellsFrom (↑s+1) scope.names cl) qual none .none (some outer) builtinsNs) {s with heap:=g1}) :
  wpAny M A (newFunctionEnv scope globals cl [] qual none .none (some outer)) Q E s:=by
 simp only[newFunctionEnv,Option.isSome_some,if_true];refine yt (wpAny_alloc ?_);refine yt (wpAny_layCells _ (fun name kind cells=>by cases hkc:kind == NameKind.cell <;> simp[hkc]) _ _ _ _ ?_);have ok:=cellsFrom_ok scope.names (s.heap.push {cls:=.type "dict",data:=.dict #[]}) (↑s+1) [] ⟨fun _ _ hm=>(nomatch hm),List.Pairwise.nil⟩ (by rw[Heap.size_push];exact zk _);rw[Heap.size_push] at ok;rw[show({s with heap:=s.heap.push {cls:=.type "dict",data:=.dict #[]}}:Shared).heap.objs.size=↑s+1 from Heap.size_push ..];exact yt (yv (yv (hQ _ ((Heap.Ns.new s.heap (.type "dict")).keeps (pushCells_keeps _ _)) (fun b o e=>pushCells_keeps _ _ b o (yu _ e)) ok)))
def HY (I:Nat->Shared->Prop)
  (turn:∀n s,I n s->wpAny (model prog w) A (pyNext it) (fun r s1=>match r with
   | none=>R (.ok .next) s1
   | some v=>wpAny (model prog w) A (letOwnedTupleGo target it v) (fun _ s2=>wpAny (model prog w) A (assign target env v) (fun _ s3=>
     wpAny (model prog w) A (forIn ifs true fun c r=>if r=true then do let ok <-isTrue c env (eval c env);pure (ForInStep.yield ok) else pure (ForInStep.yield r)) (fun ok s3'=>if ok=true then wpAny (model prog w) A (eval elt env) (fun x s4=>
     wpAny (model prog w) A (call (.builtin "list.append") [acc,x]) (fun _ s5=>∃m,m<n/\I m s5) (fun _ _=>False) s4) (fun _ _=>False) s3' else∃m,m<n/\I m s3') (fun _ _=>False) s3) (fun _ _=>False) s2) (fun _ _=>False) s1) (fun _ _=>False) s)
  (n:Nat) (h:I n s):codeAny (model prog w) A (.compLoop (.ListComp elt [⟨target,iter,ifs,0⟩] scope pos) 0 it acc env) R s:=by
 refine codeAny_loop rfl I (fun n s hI=>?_) n h;show wpAny _ _ ((compTurn (.ListComp elt [⟨target,iter,ifs,0⟩] scope pos) 0 it acc env).onRaise (fun x=>do noteFrame x env;theTreesLotGoes x)) _ _ s;refine wpAny_noted ?_;rw[compTurn_list];have no:∀(E:Value->Shared->Prop) (x:Value) (s':Shared),False->E x s':=fun _ _ _ f=>f.elim;refine yt (wpAny_standAt (yt (wpAny_mono (turn n s hI) (fun r s1 h1=>?_) (no _))));cases r with
 | none=>exact yv h1
 | some v=>
  refine yt (wpAny_mono h1 (fun _ s2 h2=>yt (wpAny_mono h2 (fun _ s3 h3=>yt (wpAny_mono h3 (fun ok s3' h3'=>?_) (no _))) (no _))) (no _));cases ok with
  | false=>
   rw[if_neg ∅] at h3';exact yv ⟨rfl,h3'⟩
  | true=>
   rw[if_pos rfl] at h3';exact yt (yt (wpAny_mono h3' (fun x s4 h4=>yt (wpAny_mono h4 (fun _ s5 h5=>yv (yv ⟨rfl,h5⟩)) (no _))) (no _)))
section
variable {X:Cx} {pos:Pos}
def Ar {elt target iter:Expr} {scope:Scope} {N:List Str} {fr:List (Option Nat)} {cl:List (Str×Addr)} {g:TG} {tc:TT} {te:TE} {ifs:List Expr} (hc:X.calm=true) (hsub:∀x c,cl.lookup x=some c->X.env.cells.lookup x=some c) (hhas:∀C x,((compEnvC scope cl C X.env).kindOf x=some .cell\/(compEnvC scope cl C X.env).kindOf x=some .free)->(∃c,cl.lookup x=some c)\/∃c,(cellsFrom (C+1) scope.names []).lookup x=some c)
  (hlen:fr.length=N.length) (hfr:∀(i:Nat) x j,N[i]?=some x->fr[i]?=some (some j)->X.N[j]?=some x/\Qm X.env.scope x/\X.env.kindOf x≠some .local/\(∀C,(compEnvC scope cl C X.env).kindOf x=some .cell\/(compEnvC scope cl C X.env).kindOf x=some .free)/\(∀c,X.env.cells.lookup x=some c->cl.lookup x=some c)/\∀C,(cellsFrom (C+1) scope.names []).lookup x=none) (hkind:scope.kind=.function)
  (hg:∀C s₀ H₀ ex,PG (cL X N scope cl C s₀ H₀ ex) target g) (hif:∀C s₀ H₀ ex,Og (cL X N scope cl C s₀ H₀ ex) ifs tc) (he:∀C s₀ H₀ ex,PE (cL X N scope cl C s₀ H₀ ex) elt te)
  {pins:List (Addr×Obj)} {σ:St} {s2:Shared} {it:Addr} {fp:List Addr} {tn:Nat->Heap->Prop} {J:It} {H2:Hp} {Q:VK} {RR:Value->Addr->Result->Shared->Prop} (I2:Inv X pins σ H2 s2) (T:Turn X.prog X.w X.K target J fp it tn) (st2:tn 0 s2.heap) (f2:∀b∈fp,qQ X pins H2 b)
  (ok:dJ (fr.map fun o=>o.bind fun j=>(σ[j]?).join) g tc te Q J H2)
  (fin:∀D C s4 H' xs,↑s2<=D->↑s2<=C->C≠D->Inv X pins σ (upd H' D (.lst xs)) s4->H' D=none->H' C=none->(∃m,s4.heap.Ns C m)->(∀D,H' D=none->Q (.ref D) (upd H' D (.lst xs)))->RR (.ref D) C (.ok .next) s4) :
  wpAny (model X.prog X.w) X.A (newList []) (fun acc s3=>wpAny (model X.prog X.w) X.A (newFunctionEnv scope X.env.globals cl [] X.env.qual none .none (some X.env)) (fun cenv s4=>
   codeAny (model X.prog X.w) X.A (.compStart (.ListComp elt [⟨target,iter,ifs,0⟩] scope pos) 0 (.ref it) acc {cenv with scope:=relabel scope X.env}) (RR acc cenv.locals) s4) X.xe s3) X.xe s2:=by
 obtain⟨W,⟨m0,w0⟩,turn⟩:=ok;refine wpAny_newObj_type (Dr fun g1 hns hold hown=>?_);dsimp only at hns hold hown ⊢;generalize hG:s2.heap.push {cls:=.type "list",dict:=none,data:=.seq ([]:List Value).toArray}=G2 at hns hold hown ⊢;have hC:G2.objs.size=↑s2+1:=by rw[<-hG,Heap.size_push]
 have below:∀b,b<↑s2->b≠G2.objs.size/\b≠↑s2:=fun b hb=>⟨by rw[hC];exact yi (Nat.lt_succ_of_lt hb),yi hb⟩
 have hDC:↑s2≠G2.objs.size:=by rw[hC];exact yi (Nat.lt_succ_self _)
 have old:∀b o,s2.heap.get? b=some o->g1.get? b=some o:=fun b o e=>hold b o (hG▸yu _ e);have hacc:g1.get? ↑s2=some {cls:=.type "list",data:=.seq ([]:List Value).toArray 0}:=hold _ _ (hG▸yw _ rfl);have hsC:↑s2<G2.objs.size:=by rw[hC];exact Nat.lt_succ_self _
 have csl:∀x c,(cellsFrom (G2.objs.size+1) scope.names cl).lookup x=some c->((cellsFrom (G2.objs.size+1) scope.names []).lookup x=some c/\G2.objs.size<c/\g1.IsCell c none)\/((cellsFrom (G2.objs.size+1) scope.names []).lookup x=none/\cl.lookup x=some c/\X.env.cells.lookup x=some c/\c<↑s2):=fun x c e=>by
  rw[de,List.lookup_append] at e;cases q:(cellsFrom (G2.objs.size+1) scope.names []).lookup x with
  | some d=>
   rw[q] at e;cases e;obtain⟨z1,z2⟩:=hown.empty x _ (mem_of_lookup q);exact .inl ⟨rfl,z2,z1⟩
  | none=>
   rw[q] at e;obtain⟨v,z⟩:=I2.cell x c (hsub x c e);exact .inr ⟨rfl,e,hsub x c e,z.lt⟩
 have fplt:∀b∈fp,b<↑s2:=fun b hb=>let ⟨o,e,_⟩:=T.obj _ _ st2 b hb;yx e;have M6:∀b∈fp,∀x c,(cellsFrom (G2.objs.size+1) scope.names cl).lookup x=some c->c≠b:=fun b hb x c e=>by
  rcases csl x c e with⟨_,l,_⟩ | ⟨_,_,z,_⟩
  ·exact yh (Nat.lt_trans (fplt b hb) (Nat.lt_trans hsC l))
  ·exact(f2 b hb).2.2.2.2.1 x c z
 let Y:Cx:=cL X N scope cl G2.objs.size s2 H2 fp
 have okY:Y.Ok:=by
  refine⟨I2.ok.mod,hkind,I2.ok.glob,I2.ok.blt,?_,fun x y c e e'=>?_,fun x hx=>?_,fun x c hf e=>?_,I2.ok.hd,I2.ok.frames,.inl rfl,fun b hb=>⟨(below b (fplt b hb)).1,fun x c e=>M6 b hb x c e⟩,I2.bs,zL I2.ok.KQ I2.sz,fun b o e hb=>?_,fun b hb hf=>?_,I2.stack,I2.qU⟩
  ·show ↑s2<=G2.objs.size
   rw[hC];exact Nat.le_succ _
  ·rcases csl x c e with⟨q,l,_⟩ | ⟨_,q,z,l⟩
   ·rcases csl y c e' with⟨q',l',_⟩ | ⟨_,q',z',l'⟩
    ·exact NN hown q q'
    ·exact absurd (Nat.lt_trans (Nat.lt_trans hsC l) l') (ye _)
   ·rcases csl y c e' with⟨q',l',_⟩ | ⟨_,q',z',l'⟩
    ·exact absurd (Nat.lt_trans (Nat.lt_trans hsC l') l) (ye _)
    ·exact I2.ok.inj x y c z z'
  ·show∃c,(cellsFrom (G2.objs.size+1) scope.names cl).lookup x=some c
   rw[de,List.lookup_append];rcases hhas G2.objs.size x hx with⟨c,e⟩ | ⟨c,e⟩
   ·rw[e];cases(cellsFrom (G2.objs.size+1) scope.names []).lookup x with
    | none=>exact⟨c,rfl⟩
    | some d=>exact⟨d,rfl⟩
   ·rw[e];exact⟨c,rfl⟩
  ·have hf':((cellsFrom (G2.objs.size+1) scope.names []).lookup x).isSome=true:=hf
   rcases csl x c e with⟨q,l,_⟩ | ⟨q,_⟩
   ·exact yg (Nat.lt_trans hsC l)
   ·rw[q] at hf';cases hf'
  ·rcases(f2 b hb).2.2.2.1 with z | z
   ·exact I2.ok.vV b o e z
   ·exact absurd (yb (yx e) (zL I2.ok.KQ z)) (ye _)
  ·rcases zC.mp (I2.CI b hf) with z | z
   ·exact(f2 b hb).2.1 z
   ·exact(f2 b hb).2.2.1 z
 have cl2:∀x c,(cellsFrom (G2.objs.size+1) scope.names cl).lookup x=some c->(∃v,g1.IsCell c v)/\H2 c=none/\c≠↑s2:=fun x c e=>by
  rcases csl x c e with⟨_,l,z⟩ | ⟨_,_,z,l⟩
  ·exact⟨⟨_,z⟩,I2.bV.fresh (yg (Nat.lt_trans hsC l)),yh (Nat.lt_trans hsC l)⟩
  ·obtain⟨v,oc,hoc,hd⟩:=I2.cell x c z
   exact⟨⟨v,oc,old _ _ hoc,hd⟩,I2.jX x c z,yi l⟩
 have Dfs:↑s2∉Y.fs:=fun hb=>by
  rcases zC.mp (I2.CI _ hb) with z | z
  ·exact absurd (z▸I2.lt) (ye _)
  ·exact I2.QY (zk _) z
 have hCf:H2 G2.objs.size=none:=I2.bV.fresh (by rw[hC];exact Nat.le_succ _);have start:∀tk,Inv Y [(↑s2,{cls:=.type "list",data:=.seq ([]:List Value).toArray 0})] (fr.map fun o=>o.bind fun j=>(σ[j]?).join) H2 {s2 with heap:=g1,toks:=tk}:=fun tk=>
  ⟨okY,rfl,I2.bare,Un.kept old,⟨_,hns,fun i x v e1 e2 _=>by
    rw[zJ] at e2;cases ef:fr[i]? with
    | none=>rw[ef] at e2;cases e2
    | some o=>
     cases o with
     | none=>rw[ef] at e2;cases e2
     | some j=>
      rw[ef] at e2;have e2':(σ[j]?).join=some v:=by simpa using e2
      have ej:σ[j]?=some (some v):=by
       cases q:σ[j]? with
       | none=>rw[q] at e2';cases e2'
       | some w=>rw[q] at e2';cases w with
        | none=>cases e2'
        | some w=>cases e2';rfl
      obtain⟨k1,k2,k3,k4,k5,k6⟩:=hfr i x j e1 ef;obtain⟨m,_,hl⟩:=I2.loc;obtain⟨u,r,l⟩:=hl j x v k1 ej k2;refine⟨u,r,?_⟩;rcases l with l | ⟨_,c,ec,z⟩
      ·exact absurd l.1 k3
      ·obtain⟨oc,hoc,hd⟩:=z
       exact .inr ⟨k4 G2.objs.size,c,by show(cellsFrom (G2.objs.size+1) scope.names cl).lookup x=some c;rw[de,List.lookup_append,k6];exact k5 c ec,oc,old _ _ hoc,hd⟩⟩,
   fun x c e=>(cl2 x c e).1,hCf,fun x c e=>(cl2 x c e).2.1,
   fun p hp=>by
    have e:p=(↑s2,{cls:=.type "list",data:=.seq ([]:List Value).toArray 0}):=by simpa using (show p∈[]++[_] from hp)
    subst e;exact⟨hacc,I2.bV.fresh (zk _),hDC,Dfs,fun v z=>by cases z⟩,I2.bV.kept old,by rw[za,hlen];rfl⟩
 have stat:∀{H':Hp} {ob:Obj},(∀b∈fp,H' b=none)->∀b∈fp,qQ Y [(↑s2,ob)] H' b:=fun {H' ob} hn b hb=>by
  refine⟨hn b hb,(below b (fplt b hb)).1,fun z=>okY.HG b hb z,.inl hb,M6 b hb,fun p hp=>?_⟩;have e:p=(↑s2,ob):=by simpa using (show p∈[]++[_] from hp)
  subst e;exact(below b (fplt b hb)).2.symm
 have loop:∀tk,codeAny (model X.prog X.w) X.A (.compLoop (.ListComp elt [⟨target,iter,ifs,0⟩] scope pos) 0 (.ref it) (.ref ↑s2) (compEnvC scope (cellsFrom (G2.objs.size+1) scope.names cl) G2.objs.size X.env))
   (RR (.ref ↑s2) G2.objs.size) {s2 with heap:=g1,toks:=tk}:=by
  intro tk;refine HY (fun n s'=>∃i σ' H' xs its k,Inv Y [(↑s2,{cls:=.type "list",data:=.seq its.toArray k})] σ' H' s'/\tn i s'.heap/\(∀b∈fp,H' b=none)/\Vals xs its/\W i n xs σ' H') ?_ m0
   ⟨0,_,H2,[],[],0,start tk,T.keep _ _ _ st2 fun b _ o e=>old b o e,fun b hb=>(f2 b hb).1,.nil,w0⟩
  rintro n s3 ⟨i,σ3,H3,xs,its,k,I3,st3,fr3,rv3,w3⟩;rcases turn i n xs σ3 H3 w3 with⟨stop,hz,qn⟩ | ⟨go,hz,step⟩
  ·refine cQ (T.done Y rfl rfl rfl hc i _ s3 σ3 H3 _ I3 (stat fr3) st3 stop) fun r s4 ⟨hr,I4⟩=>?_
   subst hr;obtain⟨m,hm,_⟩:=id I4.loc;obtain⟨pD,nD,neD,fD,_⟩:=I4.pin (↑s2,{cls:=.type "list",data:=.seq its.toArray k}) (by show _∈[]++[_];simp);refine fin ↑s2 G2.objs.size s4 H3 xs (zk _) (by rw[hC];exact Nat.le_succ _) hDC.symm (I2.ML (s':=s4) (ch:=fp) I4.os ?_ ?_ I4.bare (fun b hb=>⟨(f2 b hb).2.2.2.1,(f2 b hb).2.1,(f2 b hb).2.2.2.2.1,(f2 b hb).2.2.2.2.2⟩)) nD I4.free ⟨m,hm⟩ qn
   ·have ub:Un Y.fs Y.ex H2 H3 s2.heap s4.heap:=I4.base
    have lt:∀b o,s2.heap.get? b=some o->b≠G2.objs.size/\b≠↑s2:=fun b o e=>below b (yx e);refine⟨fun b o e n hb hx=>ub.keep b o e n hb hx,fun b o e n hb hx=>ub.slot b o e n hb hx,fun b o e n hx=>?_,fun b o e hx=>ub.there b o e hx,fun b ys e=>?_,fun b o u e=>?_,fun b ps e=>?_⟩
    ·rw[aD (lt b o e).2];exact ub.free b o e n hx
    ·have q:=ub.oP b ys e
     rw[aD (bf q nD)];exact q
    ·have q:=ub.mR b o u e
     rw[aD (bf q nD)];exact q
    ·obtain⟨more,q⟩:=ub.oQ b ps e
     exact⟨more,by rw[aD (bf q nD)];exact q⟩
   ·intro b u e
    by_cases hb:b=↑s2
    ·subst hb;rw[aC] at e;cases e
     exact⟨hz,its,k,rv3,pD⟩
    ·rw[aD hb] at e
     exact(I4.bV b u e).lh (fun c v hc' q=>q) (fun c q=>by rw[aD (bf q nD)];exact q) fun c ys q=>by rw[aD (bf q nD)];exact q
  ·refine cQ (T.item Y rfl rfl rfl hc i _ s3 σ3 H3 _ I3 (stat fr3) st3 go) fun r s4 ⟨u,hr,h4⟩=>?_
   subst hr;refine cQ h4 fun _ s5 zz=>?_;obtain⟨x,H5,I5,r5,y5,st5,fr5⟩:=zz;have I5':=I5.pinned (stat fr5) (T.obj _ _ st5);refine cQ (hg G2.objs.size s2 H2 fp _ s5 σ3 H5 x u _ I5' r5 (step x H5 y5)) fun _ s6 ⟨σ6,H6,I6,q6⟩=>?_;refine cQ (hif G2.objs.size s2 H2 fp _ s6 σ6 H6 _ I6 q6) fun b s6' ⟨H6',I6',q6'⟩=>?_;cases b with
   | false=>
    rw[if_neg ∅] at q6' ⊢;obtain⟨m',hm,w7⟩:=q6';have inD:(↑s2,({cls:=.type "list",data:=.seq its.toArray k}:Obj))∈Y.pn++([(↑s2,({cls:=.type "list",data:=.seq its.toArray k}:Obj))]++tO fp s5.heap):=by show _∈[]++_;simp
    obtain⟨pD,nD,neD,fD,dD⟩:=I6'.pin _ inD;have I7':Inv Y [] σ6 H6' s6':=I6'.oC fun p hp=>nomatch hp;refine⟨m',hm,i+1,σ6,H6',xs,its,k,I7'.oC fun p hp=>?_,T.keep _ _ _ st5 (fun b hb o e=>(I6'.pin (b,o) (zH _ (zH _ (gm hb e)))).1),fun b hb=>?_,rv3,w7⟩
    ·have e:p=(↑s2,{cls:=.type "list",data:=.seq its.toArray k}):=by simpa using hp
     subst e;exact⟨pD,nD,neD,fD,dD⟩
    ·obtain⟨o,e,d⟩:=T.obj _ _ st5 b hb
     exact(I6'.pin (b,o) (zH _ (zH _ (gm hb e)))).2.1
   | true=>
   rw[if_pos rfl] at q6' ⊢;refine cQ (he G2.objs.size s2 H2 fp _ s6' σ6 H6' _ I6' q6') fun v s7 zz=>?_;obtain⟨y,H7,I7,r7,m',hm,w7⟩:=zz;have inD:(↑s2,({cls:=.type "list",data:=.seq its.toArray k}:Obj))∈Y.pn++([(↑s2,({cls:=.type "list",data:=.seq its.toArray k}:Obj))]++tO fp s5.heap):=by show _∈[]++_;simp
   obtain⟨pD,nD,neD,fD,dD⟩:=I7.pin _ inD;have hlen:=rv3.length;refine wpAny_list_append_plain (items:=its.toArray) (hsz:=by rw[ya];omega) ⟨k,pD⟩ fun g8 pl8 sb8=>?_;obtain⟨k8,e8⟩:=pl8;have I7':Inv Y [] σ6 H7 s7:=I7.oC fun p hp=>nomatch hp;have I8:Inv Y [] σ6 H7 {s7 with heap:=g8}:=I7'.turned (t':=s7.toks) (fun b o hb e=>sb8.extBut b o hb e) nD neD (.inr (zk _)) (fun x c e=>(cl2 x c e).2.2) (fun p hp=>(nomatch (show p∈([]:List (Addr×Obj)) from hp)));have e8':g8.get? ↑s2=some {cls:=.type "list",data:=.seq (its++[v]).toArray k8}:=by rw[e8];simp
   have fpD:∀b∈fp,∀o,s5.heap.get? b=some o->g8.get? b=some o:=fun b hb o e=>sb8.extBut b o (below b (fplt b hb)).2 (I7.pin (b,o) (zH _ (zH _ (gm hb e)))).1;refine⟨m',hm,i+1,σ6,H7,xs++[y],its++[v],k8,I8.oC fun p hp=>?_,T.keep _ _ _ st5 fpD,fun b hb=>?_,rv3.append (.cons r7 .nil),w7⟩
   ·have e:p=(↑s2,{cls:=.type "list",data:=.seq (its++[v]).toArray k8}):=by simpa using hp
    subst e;exact⟨e8',nD,neD,fD,fun v z=>by cases z⟩
   ·obtain⟨o,e,d⟩:=T.obj _ _ st5 b hb
    exact(I7.pin (b,o) (zH _ (zH _ (gm hb e)))).2.1
 exact codeAny_compStart_list (loop _) (T.self _ _ _ _ _ (T.keep _ _ _ st2 fun b _ o e=>old b o e) (loop _))
def JU {elt target iter:Expr} {scope:Scope} {N:List Str} {fr:List (Option Nat)} {cl:List (Str×Addr)} {wi:TI} {g:TG} {tc:TT} {te:TE} {ifs:List Expr} (hc:X.calm=true) (hclos:closureFor scope X.env=pure cl) (hsub:∀x c,cl.lookup x=some c->X.env.cells.lookup x=some c) (hhas:∀C x,((compEnvC scope cl C X.env).kindOf x=some .cell\/(compEnvC scope cl C X.env).kindOf x=some .free)->(∃c,cl.lookup x=some c)\/∃c,(cellsFrom (C+1) scope.names []).lookup x=some c)
  (hlen:fr.length=N.length) (hfr:∀(i:Nat) x j,N[i]?=some x->fr[i]?=some (some j)->X.N[j]?=some x/\Qm X.env.scope x/\X.env.kindOf x≠some .local/\(∀C,(compEnvC scope cl C X.env).kindOf x=some .cell\/(compEnvC scope cl C X.env).kindOf x=some .free)/\(∀c,X.env.cells.lookup x=some c->cl.lookup x=some c)/\∀C,(cellsFrom (C+1) scope.names []).lookup x=none) (hkind:scope.kind=.function)
  (hnames:∀y∈scope.names,y.2=.local->scope.names.lookup y.1=some .local) (hi:PI X target iter wi)
  (hg:∀C s₀ H₀ ex,PG (cL X N scope cl C s₀ H₀ ex) target g) (hif:∀C s₀ H₀ ex,Og (cL X N scope cl C s₀ H₀ ex) ifs tc) (he:∀C s₀ H₀ ex,PE (cL X N scope cl C s₀ H₀ ex) elt te) (hs:(∀x,foldedSetIterable iter X.env x=pure x)<|>qd_) :
  PE X (.ListComp elt [⟨target,iter,ifs,0⟩] scope pos) (m6 fr wi g tc te):=by
 intro pins s σ H Q I h;rw[eval_ListComp];refine wpAny_comprehension_free (use:=none) (cl:=cl) rfl hs hclos hkind hnames (cQ (hi pins s σ H _ I h) fun xv s1 h1=>cQ h1 fun itv s2 h2=>?_);obtain⟨it,fp,tn,J,H2,e,I2,T,st2,f2,ok⟩:=h2;subst e;refine Ar (RR:=fun acc C=>compPost (model X.prog X.w) X.A X.xe none (EP X pins σ Q) acc C) hc hsub hhas hlen hfr hkind hg hif he I2 T st2 f2 ok ?_;intro D C s4 H' xs hD hC hne I4 nD nC ⟨m,hm⟩ qn;refine⟨m,hm,fun g5 hs5=>⟨.ref D,upd H' D (.lst xs),I2.Q4 hC I4 (by rw[aD hne];exact nC) hs5,rfl,qn D nD⟩⟩
def JQ {elt target iter:Expr} {scope:Scope} {N:List Str} {fr:List (Option Nat)} {cl:List (Str×Addr)} {wi:TI} {g:TG} {tc:TT} {te:TE} {ifs:List Expr} (hc:X.calm=true) (hclos:closureFor scope X.env=pure cl) (hsub:∀x c,cl.lookup x=some c->X.env.cells.lookup x=some c) (hhas:∀C x,((compEnvC scope cl C X.env).kindOf x=some .cell\/(compEnvC scope cl C X.env).kindOf x=some .free)->(∃c,cl.lookup x=some c)\/∃c,(cellsFrom (C+1) scope.names []).lookup x=some c)
  (hlen:fr.length=N.length) (hfr:∀(i:Nat) x j,N[i]?=some x->fr[i]?=some (some j)->X.N[j]?=some x/\Qm X.env.scope x/\X.env.kindOf x≠some .local/\(∀C,(compEnvC scope cl C X.env).kindOf x=some .cell\/(compEnvC scope cl C X.env).kindOf x=some .free)/\(∀c,X.env.cells.lookup x=some c->cl.lookup x=some c)/\∀C,(cellsFrom (C+1) scope.names []).lookup x=none) (hkind:scope.kind=.function)
  (hnames:∀y∈scope.names,y.2=.local->scope.names.lookup y.1=some .local) (hi:PI X target iter wi)
  (hg:∀C s₀ H₀ ex,PG (cL X N scope cl C s₀ H₀ ex) target g) (hif:∀C s₀ H₀ ex,Og (cL X N scope cl C s₀ H₀ ex) ifs tc) (he:∀C s₀ H₀ ex,PE (cL X N scope cl C s₀ H₀ ex) elt te) (hs:(∀x,foldedSetIterable iter X.env x=pure x)<|>qd_)  {i:Nat} {x:Str} {ps pa:Pos} (hN:X.N.Nodup) (hx1:X.N[i]?=some x) (hx2:Loc X.env.scope x) (hsw:swapsWith (.ListComp elt [⟨target,iter,ifs,0⟩] scope pos) (some (.Name x ps)) pa.line X.env=pure true<|>qe_)
  (hf:X.fn x=true\/X.env.scope.names.lookup x=some .local<|>qa_) :
  PS X (.Assign [.Name x ps] (.ListComp elt [⟨target,iter,ifs,0⟩] scope pos) pa) (EK (m6 fr wi g tc te) (b7 i)):=by
 intro pins s σ H D I h;rw[exec_Assign_Name_used _ _ _ _ hsw];refine yt (wpAny_standAt (yt ?_));show wpAny _ X.A (do let _ <-comprehension (.ListComp elt [⟨target,iter,ifs,0⟩] scope pos) scope X.env _ (newList []) false (eval iter X.env) (some (assign (.Name x ps) X.env))) _ _ s;refine yt (wpAny_mono (wpAny_comprehension_free (use:=some (assign (.Name x ps) X.env)) (cl:=cl) (Q:=fun _ s'=>SP X pins D .next s') rfl hs hclos hkind hnames (cQ (hi pins s σ H _ I h) fun xv s1 h1=>cQ h1 fun itv s2 h2=>?_)) (fun _ s' hq=>yv (yv hq)) fun _ _ e=>e);obtain⟨it,fp,tn,J,H2,e,I2,T,st2,f2,ok⟩:=h2;subst e;refine Ar (RR:=fun acc C=>compPost (model X.prog X.w) X.A X.xe (some (assign (.Name x ps) X.env)) (fun _ s'=>SP X pins D .next s') acc C) hc hsub hhas hlen hfr hkind hg hif he I2 T st2 f2 ok ?_;intro E C s4 H' xs hE hC hne I4 nE nC ⟨m,hm⟩ qn;show wpAny _ X.A (assign (.Name x ps) X.env (.ref E)) _ _ s4;refine wpAny_assign_Name (BQ I4 hN hx1 hx2 (v:=.ref E) rfl (fun s5 I5 hw=>?_) hf);obtain⟨aw,sb,ha⟩:=hw;have hCn:(upd H' E (.lst xs)) C=none:=by rw[aD hne];exact nC
 obtain⟨f0,f1,f2',f3,f4,f5⟩:=I2.vZ hC hCn;have neC:C≠aw:=by
  rcases ha with z | z
  ·rw[z];exact f1
  ·exact fun q=>f4 x aw z q.symm
 refine⟨m,hm.sameBut sb neC,fun g6 hs6=>?_⟩;exact⟨_,_,I2.Q4 hC I5 hCn hs6,qn E nE⟩
end
def Ek (cells:List (Str×Addr)):List (Str×Addr)->Prop
 | []=>True
 | p::r=>cells.lookup p.1=some p.2/\Ek cells r
theorem Ek.sub:∀{cl:List (Str×Addr)},Ek cells cl->∀x c,cl.lookup x=some c->cells.lookup x=some c
 | [],_,x,c,e=>by cases e
 | (y,d)::r,h,x,c,e=>by
  rw[yp] at e;split at e
  ·rename_i q
   cases e;rw[eq_of_beq q];exact h.1
  ·exact Ek.sub h.2 x c e
def KN (X:Cx) (scope:Scope) (cl:List (Str×Addr)):List Str->List Nat->Prop
 | [],[]=>True
 | y::ys,j::js=>(X.N[j]?=some y/\(X.env.kindOf y=some .cell\/X.env.kindOf y=some .free)/\((relabel scope X.env).names.lookup y=some .cell\/(relabel scope X.env).names.lookup y=some .free)/\∃c,X.env.cells.lookup y=some c/\cl.lookup y=some c)/\KN X scope cl ys js
 | _,_=>False
theorem KN.len:∀{ys:List Str} {js:List Nat},KN X scope cl ys js->js.length=ys.length
 | [],[],_=>rfl
 | _::_,_::_,h=>by rw[zt,zt,KN.len h.2]
 | [],_::_,h=>h.elim
 | _::_,[],h=>h.elim
theorem KN.get:∀{ys:List Str} {js:List Nat} {i:Nat} {y:Str} {j:Nat},KN X scope cl ys js->ys[i]?=some y->js[i]?=some j->
  X.N[j]?=some y/\(X.env.kindOf y=some .cell\/X.env.kindOf y=some .free)/\((relabel scope X.env).names.lookup y=some .cell\/(relabel scope X.env).names.lookup y=some .free)/\∃c,X.env.cells.lookup y=some c/\cl.lookup y=some c
 | [],_,_,_,_,_,e,_=>by simp at e
 | _::_,[],_,_,_,h,_,_=>h.elim
 | y::ys,j::js,0,_,_,h,e,e'=>by simp at e e';subst e e';exact h.1
 | y::ys,j::js,i+1,_,_,h,e,e'=>KN.get (i:=i) h.2 (by simpa using e) (by simpa using e')
theorem Ia:∀{names:List (Str×NameKind)} {n:Nat} {x:Str} {c:Addr},(cellsFrom n names []).lookup x=some c->(x,NameKind.cell)∈names
 | [],_,_,_,e=>by cases e
 | (y,k)::r,n,x,c,e=>by
  unfold cellsFrom at e;split at e
  ·rename_i hk
   rw[de,List.lookup_append] at e;cases q:(cellsFrom (n+1) r []).lookup x with
   | some d=>exact zm _ (Ia q)
   | none=>
    rw[q] at e;have e':([(y,n)]:List (Str×Addr)).lookup x=some c:=e;rw[yp] at e';split at e'
    ·rename_i z
     rw[eq_of_beq z,eq_of_beq hk];exact zp
    ·cases e'
  ·exact zm _ (Ia e)
theorem Ib:∀{names:List (Str×NameKind)} {n:Nat} {x:Str},(x,NameKind.cell)∈names->∃c,(cellsFrom n names []).lookup x=some c
 | [],_,_,h=>by cases h
 | (y,k)::r,n,x,h=>by
  unfold cellsFrom;split
  ·rw[de,List.lookup_append]
   cases q:(cellsFrom (n+1) r []).lookup x with
   | some d=>exact⟨d,rfl⟩
   | none=>
    rcases zC.mp h with h | h
    ·obtain⟨e1,_⟩:=Prod.mk.inj h
     exact⟨n,by show([(y,n)]:List (Str×Addr)).lookup x=some n;rw[e1,yp,beq_self_eq_true]⟩
    ·obtain⟨c,e⟩:=Ib (n:=n+1) h
     rw[q] at e;cases e
  ·rename_i hk
   rcases zC.mp h with h | h
   ·cases h;exact absurd rfl hk
   ·exact Ib h
theorem vd:∀{L:List (Str×NameKind)} {x:Str} {k:NameKind},L.lookup x=some k->(x,k)∈L
 | [],_,_,h=>by cases h
 | (y,j)::r,x,k,h=>by
  rw[yp] at h;split at h
  ·rename_i q;cases h;rw[eq_of_beq q];exact zp
  ·exact zm _ (vd h)
section
variable {X:Cx} {pos:Pos} {elt target iter:Expr} {ifs:List Expr} {scope:Scope} {ts ys:List Str} {js:List Nat} {cl:List (Str×Addr)} {wi:TI} {g:TG} {tc:TT} {te:TE}
def Cq (hcl:Ek X.env.cells cl) (hLo:((relabel scope X.env).names.all fun p=>(p.2 != .cell&&p.2 != .free)||ys.contains p.1||scope.names.contains (p.1,.cell))=true) (hno:∀p∈scope.names,p.2=.cell->p.1∉ys) (hfr:KN X scope cl ys js) :
  (∀(C:Addr) x,((compEnvC scope cl C X.env).kindOf x=some .cell\/(compEnvC scope cl C X.env).kindOf x=some .free)->(∃c,cl.lookup x=some c)\/∃c,(cellsFrom (C+1) scope.names []).lookup x=some c)/\
  (ts.map (fun _=>(none:Option Nat))++js.map some).length=(ts++ys).length/\
  (∀(i:Nat) x j,(ts++ys)[i]?=some x->(ts.map (fun _=>(none:Option Nat))++js.map some)[i]?=some (some j)->X.N[j]?=some x/\Qm X.env.scope x/\X.env.kindOf x≠some .local/\(∀C,(compEnvC scope cl C X.env).kindOf x=some .cell\/(compEnvC scope cl C X.env).kindOf x=some .free)/\(∀c,X.env.cells.lookup x=some c->cl.lookup x=some c)/\∀C,(cellsFrom (C+1) scope.names []).lookup x=none):=by
 refine⟨fun C x hx=>?_,by simp[KN.len hfr],fun i x j h1 h2=>?_⟩
 ·have key:∀k,(relabel scope X.env).names.lookup x=some k->(k=.cell\/k=.free)->(∃c,cl.lookup x=some c)\/∃c,(cellsFrom (C+1) scope.names []).lookup x=some c:=fun k hk hk'=>by
   have:=(yo.mp hLo) _ (vd hk);rw[Bool.or_eq_true,Bool.or_eq_true] at this;rcases this with(z | z) | z
   ·rcases hk' with rfl | rfl <;> simp at z
   ·have hm:x∈ys:=List.contains_iff_mem.mp z
    obtain⟨n,hn⟩:=List.getElem?_of_mem hm;have hl:n<js.length:=by rw[hfr.len];exact(zw.mp hn).1
    obtain⟨_,_,_,c,_,e⟩:=hfr.get hn (zb hl);exact .inl ⟨c,e⟩
   ·exact .inr (Ib (List.contains_iff_mem.mp z))
  rcases hx with hx | hx
  ·exact key _ hx (.inl rfl)
  ·exact key _ hx (.inr rfl)
 ·have hi:ts.length<=i:=by
   rcases Nat.lt_or_ge i ts.length with h | h
   ·rw[List.getElem?_append_left (by simpa using h),zJ] at h2
    cases q:ts[i]? with
    | none=>rw[q] at h2;cases h2
    | some z=>rw[q] at h2;cases h2
   ·exact h
  rw[zZ hi] at h1;rw[zZ (by simpa using hi),za,zJ] at h2;have h2':js[i-ts.length]?=some j:=by
   cases q:js[i-ts.length]? with
   | none=>rw[q] at h2;cases h2
   | some z=>rw[q] at h2;cases h2;rfl
  obtain⟨k1,k2,k3,c,k4,k5⟩:=hfr.get h1 h2';refine⟨k1,.inr k2,fun z=>?_,fun C=>k3,fun d hd=>?_,fun C=>?_⟩
  ·rcases k2 with k2 | k2 <;> (rw[z] at k2;cases k2)
  ·rw[k4] at hd;cases hd;exact k5
  ·cases q:(cellsFrom (C+1) scope.names []).lookup x with
   | none=>rfl
   | some d=>exact absurd (zB h1) (hno _ (Ia q) rfl)
def L3 (hc:X.calm=true) (hclos:closureFor scope X.env=pure cl) (hcl:Ek X.env.cells cl) (hLo:((relabel scope X.env).names.all fun p=>(p.2 != .cell&&p.2 != .free)||ys.contains p.1||scope.names.contains (p.1,.cell))=true) (hno:∀p∈scope.names,p.2=.cell->p.1∉ys) (hfr:KN X scope cl ys js) (hkind:scope.kind=.function)
  (hnames:∀y∈scope.names,y.2=.local->scope.names.lookup y.1=some .local) (hi:PI X target iter wi)
  (hg:∀C s₀ H₀ ex,PG (cL X (ts++ys) scope cl C s₀ H₀ ex) target g) (hif:∀C s₀ H₀ ex,Og (cL X (ts++ys) scope cl C s₀ H₀ ex) ifs tc) (he:∀C s₀ H₀ ex,PE (cL X (ts++ys) scope cl C s₀ H₀ ex) elt te) (hs:(∀x,foldedSetIterable iter X.env x=pure x)<|>qd_) :
  PE X (.ListComp elt [⟨target,iter,ifs,0⟩] scope pos) (m6 (ts.map (fun _=>none)++js.map some) wi g tc te):=by
 obtain⟨a,b,c⟩:=Cq (ts:=ts) hcl hLo hno hfr;exact JU hc hclos hcl.sub a b c hkind hnames hi hg hif he hs
def LQ (hc:X.calm=true) (hclos:closureFor scope X.env=pure cl) (hcl:Ek X.env.cells cl) (hLo:((relabel scope X.env).names.all fun p=>(p.2 != .cell&&p.2 != .free)||ys.contains p.1||scope.names.contains (p.1,.cell))=true) (hno:∀p∈scope.names,p.2=.cell->p.1∉ys) (hfr:KN X scope cl ys js) (hkind:scope.kind=.function)
  (hnames:∀y∈scope.names,y.2=.local->scope.names.lookup y.1=some .local) (hi:PI X target iter wi)
  (hg:∀C s₀ H₀ ex,PG (cL X (ts++ys) scope cl C s₀ H₀ ex) target g) (hif:∀C s₀ H₀ ex,Og (cL X (ts++ys) scope cl C s₀ H₀ ex) ifs tc) (he:∀C s₀ H₀ ex,PE (cL X (ts++ys) scope cl C s₀ H₀ ex) elt te) (hN:X.N.Nodup) (hx1:X.N[i]?=some x) (hx2:Loc X.env.scope x) (hs:(∀x,foldedSetIterable iter X.env x=pure x)<|>qd_) (hsw:swapsWith (.ListComp elt [⟨target,iter,ifs,0⟩] scope pos) (some (.Name x ps)) pa.line X.env=pure true<|>qe_)
  (hf:X.fn x=true\/X.env.scope.names.lookup x=some .local<|>qa_) :
  PS X (.Assign [.Name x ps] (.ListComp elt [⟨target,iter,ifs,0⟩] scope pos) pa) (EK (m6 (ts.map (fun _=>none)++js.map some) wi g tc te) (b7 i)):=by
 obtain⟨a,b,c⟩:=Cq (ts:=ts) hcl hLo hno hfr;exact JQ hc hclos hcl.sub a b c hkind hnames hi hg hif he hs hN hx1 hx2 hsw hf
end
def GK (n:Nat) (f:Nat->List V) (Pv:Nat->St->Hp->Prop) (i m:Nat) (xs:List V) (σ:St) (H:Hp):Prop:=m=n-i/\i<=n/\xs=f i/\Pv i σ H
def GK.push (hi:i<n) (e:f (i+1)=f i++[y]) (p:Pv (i+1) σ H):∃m',m'<n-i/\GK n f Pv (i+1) m' (f i++[y]) σ H:=⟨n-(i+1),nofun,rfl,hi,e.symm,p⟩
def GK.skip (hi:i<n) (e:f (i+1)=f i) (p:Pv (i+1) σ H):∃m',m'<n-i/\GK n f Pv (i+1) m' (f i) σ H:=⟨n-(i+1),nofun,rfl,hi,e.symm,p⟩
def oo (n:Nat) (f:Nat->List V) (Pv:Nat->St->Hp->Prop) (hz:∀i,i<=n->(f i).length<=i) (hn:n<=sizeLine) (f0:f 0=[]) (h0:Pv 0 σ₀ H1)
  (go:∀i σ H,i<n->Pv i σ H->J.go i H) (stop:∀σ H,Pv n σ H->J.stop n H)
  (turn:∀i x σ H H2,i<n->Pv i σ H->J.Jw i H x H2->g x σ H2 fun σ3 H3=>tc σ3 H3 fun b H4=>if b=true then te σ3 H4 fun y H5=>∃m',m'<n-i/\GK n f Pv (i+1) m' (f i++[y]) σ3 H5 else∃m',m'<n-i/\GK n f Pv (i+1) m' (f i) σ3 H4)
  (fin:∀σ H,Pv n σ H->∀D,H D=none->Q (.ref D) (upd H D (.lst (f n)))):dJ σ₀ g tc te Q J H1:=by
 refine⟨GK n f Pv,⟨n,by simp,yf _,f0.symm,h0⟩,?_⟩;rintro i m xs σ H ⟨rfl,hi,rfl,p⟩;have:=hz i hi;rcases Nat.lt_or_ge i n with hlt | hge
 ·exact .inr ⟨go i σ H hlt p,nofun,fun x H2 y=>turn i x σ H H2 hlt p y⟩
 ·have e:i=n:=nofun
  subst e;exact .inl ⟨stop σ H p,nofun,fin σ H p⟩
section
variable {X:Cx}
def C5 (bs:List Bool):((List.range bs.length).any fun i=>(bs[i]?).getD false)=bs.any id:=by
 rw[Bool.eq_iff_iff,yn,yn];constructor
 ·rintro⟨i,hi,e⟩
  have hi':=List.mem_range.mp hi;rw[zb hi'] at e;exact⟨_,yk hi',e⟩
 ·rintro⟨b,hb,e⟩
  obtain⟨i,hi,e'⟩:=List.mem_iff_getElem.mp hb;exact⟨i,List.mem_range.mpr hi,by rw[zb hi,e'];exact e⟩
def gz (hc:X.calm=true):fJ X (.builtin "any") (fun xs H Q=>∃(a:Addr) (bs:List Bool),xs=[.ref a]/\aI X.K H a (bs.map V.bl)/\Q (.bl (bs.any id)) H):=by
 intro pins s σ H xs us Q I r h;obtain⟨a,bs,e,hq,q⟩:=h;subst e;cases r with
 | cons r rr=>
  cases rr;cases r;obtain⟨its,rv,p,hz⟩:=I.list hq;have hlt:a<↑s:=by obtain⟨o,n,e,_⟩:=p;exact yx e
  have hlen:bs.length=its.length:=by have:=rv.length;rw[za] at this;exact this
  refine call_any_walk (wpAny_pyIter_list p.isList ?_);refine⟨↑s,[↑s,a],[↑s],its.toArray.size,_,_,fun i=>(bs[i]?).getD false,rfl,Walks.list (A:=X.A.in1) (I.ok.hd hc) _ a (yi hlt) its.toArray,
   ⟨⟨_,yw _ rfl,rfl,rfl⟩,p.isList.push _⟩,fun i v s' Q' E' hP hQ=>?_,fun h' tk hk=>?_⟩
  ·have hP':its[i]?=some v:=by simpa using hP
   have hi:i<bs.length:=by rw[hlen];exact(zw.mp hP').1
   have hm:(bs.map V.bl)[i]?=some (.bl bs[i]):=by rw[zJ,zb hi];rfl
   obtain⟨u,hu,ru⟩:=rv.get hm;rw[hP'] at hu;cases hu;cases ru;dsimp only at hQ;rw[zb hi] at hQ;exact wpAny_truthy_bool hQ
  ·have e:((List.range its.toArray.size).any fun i=>(bs[i]?).getD false)=bs.any id:=by rw[ya,<-hlen];exact C5 bs
   rw[e];exact⟨.bl _,H,I.kept fun b o x=>hk b o (fun hm=>by rw[zy.mp hm] at x;exact ye _ (yx x)) (yu _ x),rfl,q⟩
def vb (ns:List Int):∀k,k<=ns.length->preSum (fun i=>(ns[i]?).getD 0) k=(ns.take k).sum:=by
 intro k
 induction k with
 | zero=>intro _;simp[preSum]
 | succ k ih=>
  intro hk;have hk':k<ns.length:=hk;have e:=ih (yg hk');rw[List.take_succ,List.sum_append,<-e,zb hk'];simp[preSum,zb hk']
def Ko (hc:X.calm=true):fJ X (.builtin "sum") (fun xs H Q=>∃(a:Addr) (ns:List Int),xs=[.ref a]/\aI X.K H a (ns.map V.int)/\(∀n∈ns,0<=n/\n<1000000)/\ns.length<=1000/\Q (.int ns.sum) H):=by
 intro pins s σ H xs us Q I r h;obtain⟨a,ns,e,hq,hb,hl,q⟩:=h;subst e;cases r with
 | cons r rr=>
  cases rr;cases r;obtain⟨its,rv,p,hz⟩:=I.list hq;have hlt:a<↑s:=by obtain⟨o,n,e,_⟩:=p;exact yx e
  have hlen:ns.length=its.length:=by have:=rv.length;rw[za] at this;exact this
  have bnd:∀k,k<=ns.length->0<=(ns.take k).sum/\(ns.take k).sum<=1000000*k:=by
   intro k
   induction k with
   | zero=>intro _;simp
   | succ k ih=>
    intro hk;have hk':k<ns.length:=hk;have:=ih (yg hk');rw[List.take_succ,List.sum_append,zb hk'];have hb':=hb _ (yk hk');simp only[Option.toList_some,List.sum_cons,List.sum_nil];omega
  refine call_sum_walk (wpAny_pyIter_list p.isList ?_);refine⟨↑s,[↑s,a],[↑s],its.toArray.size,_,_,fun i=>(ns[i]?).getD 0,rfl,Walks.list (A:=X.A.in1) (I.ok.hd hc) _ a (yi hlt) its.toArray,
   ⟨⟨_,yw _ rfl,rfl,rfl⟩,p.isList.push _⟩,fun b hb'=>?_,fun i v hP=>?_,fun j hj=>?_,fun h' tk t' hk=>?_⟩
  ·rw[Heap.size_push]
   rcases zC.mp hb' with e | e
   ·rw[e];exact Nat.lt_succ_self _
   ·rw[zy.mp e];exact Nat.lt_succ_of_lt hlt
  ·have hP':its[i]?=some v:=by simpa using hP
   have hi:i<ns.length:=by rw[hlen];exact(zw.mp hP').1
   have hm:(ns.map V.int)[i]?=some (.int ns[i]):=by rw[zJ,zb hi];rfl
   obtain⟨u,hu,ru⟩:=rv.get hm;rw[hP'] at hu;cases hu;dsimp only;rw[zb hi];exact ru
  ·have hj':j<ns.length:=by rw[hlen];simpa using hj
   have b1:=hb _ (yk hj');have b2:=bnd (j+1) hj';rw[vb ns (j+1) hj'];dsimp only;rw[zb hj'];simp only[Option.getD_some];constructor <;> (unfold InLong;omega)
  ·have e:preSum (fun i=>(ns[i]?).getD 0) its.toArray.size=ns.sum:=by rw[ya,<-hlen,vb ns _ (zk _),zM]
   rw[e];exact⟨.int _,H,I.kept fun b o x=>hk b o (fun hm=>by rw[zy.mp hm] at x;exact ye _ (yx x)) (yu _ x),⟨_,rfl⟩,q⟩
end
section
variable {prog:Program} {w:World} {A:Around} {E:Value->Shared->Prop} {s:Shared}
def By (hl:IsTup s.heap l vs.toArray)
  (h:Q vs {s with heap:=(s.heap.push (seqObj "list" #[] 0)).update ↑s (Obj.mapSeq (·++vs.toArray))}) (hsz:vs.length<=sizeLine) :
  wpAny (model prog w) A (collect (.ref l)) Q E s:=by
 obtain⟨o,ho,hc,n,hd⟩:=id hl;unfold collect;refine yt (wpAny_runValue (codeAny_builtin entry_proto_collect' ?_));show wpAny _ _ (do again (.builtin "list.__iadd__" ⟨[<-newList [],.ref l],[]⟩)) _ _ s;refine yt (wpAny_newList (yv ⟨Code.quiet_builtin _ (by decide +kernel),codeAny_builtin entry_list_iadd' ?_⟩));show wpAny _ _ (Builtin.List.listExtendWith (.ref ↑s) (.ref l) (.ref ↑s)) _ _ {s with heap:=s.heap.push (seqObj "list" #[] 0)};unfold Builtin.List.listExtendWith;have ho':(s.heap.push (seqObj "list" #[] 0)).get? l=some o:=yu _ ho;refine yt (wpAny_typeOf (T:="tuple") ⟨o,ho',hc⟩ ?_);have ht:(Value.type "tuple"== Value.type "tuple")=true:=by rfl
 rw[if_pos (by rw[ht];simp)];refine yt (listItems_at ho' hd ?_);refine yt (listItems_at (xs:=#[]) (n:=0) (yw _ rfl) rfl ?_);rw[if_neg (by simp)];refine yt (listUpdate_at (xs:=#[]) (n:=0) (yw _ rfl) rfl ?_ (yf _) (by show(#[]++vs.toArray).size<=sizeLine+1;simp only[Array.size_append,ya,List.length_nil];omega));refine yv ?_;show wpAny (model prog w) A (do
   let o <-load ↑s
   match o.data with
   | .seq xs _=>pure xs.toList
   | _=>unsupported "internal:collect") Q E {s with heap:=(s.heap.push (seqObj "list" #[] 0)).update ↑s (Obj.mapSeq (·++vs.toArray))}
 refine yt (wpAny_load (get?_update_seq (yw _ rfl) _) ?_);show wpAny _ _ (pure ((#[]:Array Value)++vs.toArray).toList) Q E _;rw[show((#[]:Array Value)++vs.toArray).toList=vs by simp];exact yv h
def G3 (hl:IsTup s.heap l vs.toArray) (hI:IntsAre vs ns) (h64:vs.length<64)
  (h:∀(out:Array Value) (ns':List Int),IntsAre out.toList ns'->ns'.Perm ns->ns'.Pairwise (·<=·)->Q (.ref (↑s+1)) {s with heap:=sortedAll s.heap vs out}) :
  wpAny (model prog w) A (call (.builtin "sorted") [.ref l]) Q E s:=by
 refine Calls.call_function_entry kind_sorted plain_sorted entry_sorted (args_sorted1 _) ?_;unfold Builtin.«sorted»;refine yt (m:=checkCount "sorted" 1 1 _) (yv ?_);refine yt (By hl ?_ (by rw[yB];omega));refine yt (wpAny_newList ?_);have hsz:((s.heap.push (seqObj "list" #[] 0)).update ↑s (Obj.mapSeq (·++vs.toArray))).objs.size=↑s+1:=by
  rw[Heap.size_update,size_push']
 have hoL:(((s.heap.push (seqObj "list" #[] 0)).update ↑s (Obj.mapSeq (·++vs.toArray))).push (seqObj "list" vs.toArray 0)).get? (↑s+1)=some (seqObj "list" vs.toArray 0):=by
  rw[<-hsz];exact yw _ rfl
 show wpAny _ _ _ _ _ {s with heap:=((s.heap.push (seqObj "list" #[] 0)).update ↑s (Obj.mapSeq (·++vs.toArray))).push (seqObj "list" vs.toArray 0)};rw[hsz];refine yt (wpAny_holding (wpAny_call_entry slot_list_sort ⟨_,hoL,rfl⟩ entry_list_sort (list_sort_tree hoL hI h64 fun out ns' a1 a2 a3=>⟨_,rfl,?_⟩) (args_list_sort _)));exact yv ⟨_,rfl,h out ns' a1 a2 a3⟩
def A4 (h:Heap) (vs:List Value) (out:Array Value):∃n,(sortedAll h vs out).get? (h.objs.size+1)=some {cls:=.type "list",data:=.seq out n}:=by
 have hsz:((h.push (seqObj "list" #[] 0)).update h.objs.size (Obj.mapSeq (·++vs.toArray))).objs.size=h.objs.size+1:=by rw[Heap.size_update,size_push']
 have h1:(((h.push (seqObj "list" #[] 0)).update h.objs.size (Obj.mapSeq (·++vs.toArray))).push (seqObj "list" vs.toArray 0)).get? (h.objs.size+1)=some (seqObj "list" vs.toArray 0):=by
  rw[<-hsz];exact yw _ rfl
 unfold sortedAll sortedHeap;have h2:=get?_update_seq h1 (fun _=>#[]);have h3:=yu (seqObj "list" #[] 0) (yu (seqObj "tuple" vs.toArray 0) h2);exact⟨_,get?_update_seq h3 (fun _=>out)⟩
def vG (h:Heap) (vs:List Value) (out:Array Value) (b:Addr) (o:Obj) (e:h.get? b=some o):(sortedAll h vs out).get? b=some o:=by
 have hb:b<h.objs.size:=yx e;unfold sortedAll sortedHeap;have n1:h.objs.size≠b:=yh hb;have n2:h.objs.size+1≠b:=yh (Nat.lt_succ_of_lt hb);rw[yy _ _ n2];refine yu _ (yu _ ?_);rw[yy _ _ n2];refine yu _ ?_;rw[yy _ _ n1];exact yu _ e
end
theorem qS:∀{us:List Value} {ns:List Int},IntsAre us ns->Vals (ns.map V.int) us
 | _,_,.nil=>.nil
 | _,_,.cons r t h=>.cons ⟨_,rfl⟩ (qS h)
section
variable {X:Cx}
def sO:fJ X (.builtin "sorted") (fun xs H Q=>∃(a:Addr) (ns:List Int),xs=[.ref a]/\(aI X.K H a (ns.map V.int)\/du X.K H a (ns.map V.int))/\ns.length<64/\∀ns':List Int,ns'.Perm ns->ns'.Pairwise (·<=·)->∀l,H l=none->Q (.ref l) (upd H l (.lst (ns'.map V.int)))):=by
 intro pins s σ H xs us Q I r h;obtain⟨a,ns,rfl,hq,h64,q⟩:=h;obtain⟨u,rfl,rx⟩:=vals1 r;cases rx;have fin:∀(its:List Value),ns.length=its.length->∀(out:Array Value) (ns':List Int),IntsAre out.toList ns'->ns'.Perm ns->ns'.Pairwise (·<=·)->EP X pins σ Q (.ref (↑s+1)) {s with heap:=sortedAll s.heap its out}:=fun its hl out ns' a1 a2 a3=>by
  obtain⟨n,hn⟩:=A4 s.heap its out;refine⟨.ref _,_,I.laid (t':=s.toks) (a:=↑s+1) (o:=.lst (ns'.map V.int)) (vG s.heap its out) (Nat.le_succ _) ?_,rfl,q ns' a2 a3 _ (I.bV.fresh (Nat.le_succ _))⟩;refine⟨by rw[za,a2.length_eq,yB];omega,out.toList,n,qS a1,by simpa using hn⟩
 rcases hq with hq | hq
 ·obtain⟨its,rv,p,_⟩:=I.list hq
  have hl:ns.length=its.length:=by have:=rv.length;rw[za] at this;exact this
  exact sorted_ints p.isList (intsAre_of rv) nofun (fin its hl)
 ·obtain⟨its,rv,p,_⟩:=I.tuple hq
  have hl:ns.length=its.length:=by have:=rv.length;rw[za] at this;exact this
  exact G3 p (intsAre_of rv) nofun (fin its hl)
theorem II:∀{zs:List Str} {us:List Value},Vals (zs.map V.str) us->∃l:List (Str×Tok),us=strValues l/\l.map (·.1)=zs
 | [],_,.nil=>⟨[],rfl,rfl⟩
 | z::zs,_,.cons ⟨t,e⟩ r=>by
  obtain⟨l,e1,e2⟩:=II r;subst e e1 e2;exact⟨(z,t)::l,rfl,rfl⟩
def rJoin (K:yA):V->List V->Hp->VK->Prop:=fun x vs H Q=>∃(sep:Str) (a:Addr) (zs:List Str),x=.str sep/\vs=[.ref a]/\aI K H a (zs.map V.str)/\(zs.map (fun z:Str=>z.length+sep.length)).sum<=sizeLine/\Q (.str (Str.join sep zs)) H
theorem FR (sep:Str):∀(zs:List Str) (k:Nat),zs.foldl (fun n z=>n+z.length+sep.length) k=k+(zs.map (fun z:Str=>z.length+sep.length)).sum
 | [],k=>by simp
 | z::zs,k=>by
  rw[List.foldl_cons,FR sep zs,zh,List.sum_cons];omega
theorem IG (sep:Str):∀zs:List Str,(zs.map (·.length)).sum+zs.length*sep.length=(zs.map (fun z:Str=>z.length+sep.length)).sum
 | []=>by simp
 | z::zs=>by
  have ih:=IG sep zs;simp only[zh,List.sum_cons,zt,Nat.succ_mul] at ih ⊢;omega
def gF:OQ X "str.join" (rJoin X.K):=by
 intro pins s σ H x vs v us Q I rx rv h;obtain⟨sep,a,zs,rfl,rfl,hq,hz,q⟩:=h;obtain⟨tk,rfl⟩:=rx;obtain⟨u,rfl,ru⟩:=rv.one;cases ru;obtain⟨its,ri,p,_⟩:=I.list hq;obtain⟨l,e1,e2⟩:=II ri;subst e1;have hl:Builtin.Str.tooLong ((l.map (·.1)).toArray.foldl (·+·.length+sep.length) 0)=false:=by
  rw[e2,List.foldl_toArray,FR,Nat.zero_add];exact zd nofun
 have hj:Builtin.Str.glued sep (l.map (·.1))=Str.join sep zs:=by rw[e2];exact StrLaws.glued_eq_join sep zs
 have jl:(Str.join sep zs).length<=sizeLine:=by
  exact zL (StrLaws.join_length_le sep zs) (zL (Nat.le_of_eq (IG sep zs)) hz)
 refine call_meets F.slot_str_join (typeIs_str s sep tk) F.entry_str_join (F.args_str_join_2 _ _) (meets_str_join_list sep tk a l hl) ⟨p.isList,?_⟩
 match l,e2,hj with
 | [],e2,hj=>
  subst e2;exact⟨by rw[hj];exact jl,.str _,H,I.tok _,⟨_,rfl⟩,by rw[hj];exact q⟩
 | [z],e2,hj=>
  subst e2;exact⟨.str _,H,I,⟨_,rfl⟩,q⟩
 | z::z'::r,e2,hj=>
  subst e2;exact⟨by rw[hj];exact jl,.str _,H,I.tok _,⟨_,rfl⟩,by rw[hj];exact q⟩
def qk (x:Str) (n:Nat):Str:=⟨(List.replicate n x.cps).foldl (·++·) #[]⟩
def OB:R2:=fun x y H Q=>∃(t:Str) (n:Int),x=.str t/\y=.int n/\0<=n/\n<=1000/\t.length<=1000/\Q (.str (qk t n.toNat)) H
def rM (x:Str) (n:Nat):(qk x n).cps.toList=(List.replicate n x.cps.toList).flatten:=by
 have key:∀(n:Nat) (a:Array Nat),((List.replicate n x.cps).foldl (·++·) a).toList=a.toList++(List.replicate n x.cps.toList).flatten:=by
  intro n
  induction n with
  | zero=>intro a;simp
  | succ n ih=>intro a;rw[List.replicate_succ,List.foldl_cons,ih,List.replicate_succ,z9];simp
 have:=key n #[];show((List.replicate n x.cps).foldl (·++·) #[]).toList=_;rw[this];rfl
def E7 (x:Str) (n:Nat):(qk x n).length=n*x.length:=by
 have e:(qk x n).length=(qk x n).cps.toList.length:=Array.length_toList.symm;rw[e,rM];have e2:x.cps.toList.length=x.length:=Array.length_toList;simp[e2]
def LD (x:Str):qk x 1=x:=lg (by rw[rM];simp)
def NO:oO X (binaryOp .Mult) OB:=by
 intro pins s σ H x y v u Q I rx ry h;obtain⟨t,n,rfl,rfl,h0,h1,hl,q⟩:=h;obtain⟨tk,rfl⟩:=rx;obtain⟨tk',rfl⟩:=ry;have sl:=yB;have hm:t.length*n.toNat<=1000000:=by
  have:t.length*n.toNat<=1000*1000:=Nat.mul_le_mul hl nofun;omega
 refine P.mul_str (by rw[zd nofun,zd nofun];rfl) (fun h2 _=>?_) (fun _ _=>zd nofun) ?_
 ·have:(2^63-1)/1000<=((2:Int)^63-1)/n:=by
   rw[Int.le_ediv_iff_mul_le nofun];have:n*9223372036854775<=1000*9223372036854775:=Int.mul_le_mul_of_nonneg_right h1 ∅;omega
  omega
 ·by_cases c1:n<1
  ·have e:n.toNat=0:=nofun
   rw[if_pos c1];rw[e] at q;exact⟨∅,.str _,H,I.tok _,⟨_,rfl⟩,q⟩
  ·rw[if_neg c1]
   refine post_val_or_str ⟨?_,fun t' k=>⟨.str _,H,I.tok _,⟨_,rfl⟩,?_⟩⟩
   ·split
    ·omega
    ·have:=E7 t n.toNat
     have e:n.toNat*t.length=t.length*n.toNat:=Nat.mul_comm _ _;show(qk t n.toNat).length<=sizeLine;omega
   ·have ee:(if(n == 1||t.length == 0)=true then t else qk t n.toNat)=qk t n.toNat:=by
     split
     ·rename_i c2
      rw[Bool.or_eq_true,beq_iff_eq,beq_iff_eq] at c2;rcases c2 with rfl | c2
      ·exact(LD t).symm
      ·refine lg ?_
       have e2:t.cps.toList=[]:=yr.mp (by rw[Array.length_toList];exact c2);rw[rM,e2];simp
     ·rfl
    show Q (.str (if(n == 1||t.length == 0)=true then t else qk t n.toNat)) H;rw[ee];exact q
end
def KD (P:Program) (w:World) (K:yA) (a:Addr) (kvs:List (Str×V)):Prop:=
 (a == sysModules)=false/\(kvs.map (·.1)).Nodup/\∀h:Heap,K.In h->∃vs:List (Key×Value),KV (kvs.map fun p=>((Sum.inr p.1:Key),p.2)) vs/\h.DictOf (cW P w) a vs
def F0 (Pm:Params) (l:List (Str×Tok×Addr)):List DictEntry:=l.map fun p=>⟨PyData.keyHash Pm p.1,.str p.1 p.2.1,.ref p.2.2⟩
theorem L8:∀{l:List Str},l.Nodup->(l.map (Sum.inr:Str->Key)).Nodup
 | [],_=>List.nodup_nil
 | x::r,h=>by
  rw[yc] at h;rw[zh,yc];exact⟨fun z=>by obtain⟨y,hy,e⟩:=zG.mp z;exact h.1 (Sum.inr.inj e▸hy),L8 h.2⟩
def Q5 {P:Program} {w:World} {K:yA} {a:Addr} {l:List (Str×Tok×Addr)} {n:Nat} (hl:K.lookup a=some {cls:=.type "dict",data:=.dict (F0 w.params l).toArray n}) (hs:(a == sysModules)=false) (nd:(l.map (·.1)).Nodup) :
  KD P w K a (l.map fun p=>(p.1,V.ref p.2.2)):=by
 have e1:(l.map fun p=>(p.1,V.ref p.2.2)).map (·.1)=l.map (·.1):=by rw[zA];rfl
 refine⟨hs,by rw[e1];exact nd,fun h X=>⟨l.map fun p=>(Sum.inr p.1,.ref p.2.2),?_,_,_,_,X _ _ hl,⟨rfl,rfl,rfl⟩,rfl,?_,?_,?_⟩⟩
 ·clear hl nd e1
  induction l with
  | nil=>exact .nil
  | cons p r ih=>exact .cons ⟨rfl,rfl⟩ ih
 ·intro e he
  rw[List.mem_toArray] at he;obtain⟨p,_,rfl⟩:=zG.mp he;exact⟨Sum.inr p.1,oI p.1 p.2.1,rfl⟩
 ·show PySem.Pairs _ (F0 w.params l) _
  clear hl nd e1
  induction l with
  | nil=>exact .nil
  | cons p r ih=>exact .cons (oI p.1 p.2.1) rfl ih
 ·have e2:(l.map fun p=>((Sum.inr p.1:Key),(Value.ref p.2.2))).map (·.1)=(l.map (·.1)).map Sum.inr:=by rw[zA,zA];rfl
  rw[e2];exact L8 nd
def sY (kvs:List (Str×V)) (k:Str):Option V:=(kvs.find? fun p=>decide (p.1=k)).map (·.2)
theorem HB:∀{kvs:List (Str×V)} {vs:List (Key×Value)} (k:Str),KV (kvs.map fun p=>((Sum.inr p.1:Key),p.2)) vs->lZ (sY kvs k) (valueAt vs (Sum.inr k))
 | [],_,_,.nil=>trivial
 | (x,v)::r,_,k,.cons (b:=b) h t=>by
  obtain⟨h1,h2⟩:=h;obtain⟨bk,bv⟩:=b;dsimp only at h1 h2;subst h1
  by_cases e:x=k
  ·subst e
   simp only[sY,valueAt,List.find?_cons,decide_true];exact h2
  ·have ih:=HB k t
   have e':¬((Sum.inr x:Key)=Sum.inr k):=fun z=>e (Sum.inr.inj z);simp only[sY,valueAt,List.find?_cons,e,e',decide_false] at ih ⊢;exact ih
def Pf (P:Program) (w:World) (K:yA) (td ty:TE):TE:=fun σ H Q=>td σ H fun x H1=>ty σ H1 fun y H2=>∃a kvs k v,x=.ref a/\KD P w K a kvs/\y=.str k/\sY kvs k=some v/\Q v H2
def QM (P:Program) (w:World) (K:yA) (b:Bool) (ty td:TE):TE:=fun σ H Q=>ty σ H fun y H1=>td σ H1 fun x H2=>∃a kvs k,x=.ref a/\KD P w K a kvs/\y=.str k/\Q (.bl (b ^^ (sY kvs k).isSome)) H2
section
variable {X:Cx} {pos:Pos} {o i:Expr} {td ty:TE}
theorem lZ.HC:∀{a:Option V} {b:Option Value},lZ a b->a.isSome=b.isSome
 | some _,some _,_=>rfl
 | none,none,_=>rfl
 | some _,none,h=>h.elim
 | none,some _,h=>h.elim
def Ff (ho:PE X o td) (hi:PE X i ty) (hs:Qp i):PE X (.Subscript o i pos) (Pf X.prog X.w X.K td ty):=by
 intro pins s σ H Q I h;refine IH PySem.F.slot_dict_getitem.lookup hs (cQ (ho pins s σ H _ I h) fun u s1 ⟨x,H1,I1,rx,q1⟩=>cQ (hi pins s1 σ H1 _ I1 q1) fun iv s2 zz=>?_);obtain⟨y,H2,I2,ry,a,kvs,k,v,ex,kd,ey,hv,q2⟩:=zz;subst ex ey;obtain rfl:u=Value.ref a:=rx;obtain⟨tk,rfl⟩:=ry;obtain⟨hd,_,hk⟩:=kd;obtain⟨vs,rel,dd⟩:=hk _ I2.sr;have rv:=HB k rel;rw[hv] at rv;cases hw:valueAt vs (Sum.inr k) with
 | none=>rw[hw] at rv;exact rv.elim
 | some w'=>
  rw[hw] at rv;exact⟨dd.typeIs,wpAny_getItem_of (oI k tk) dd.mapOf hw ⟨v,H2,I2.tok _,rv,q2⟩⟩
def NL (hi:PE X i ty) (ho:PE X o td):PC X .In i o (QM X.prog X.w X.K false ty td):=by
 intro pins s σ H Q I h;refine cQ (hi pins s σ H _ I h) fun iv s1 ⟨y,H1,I1,ry,q1⟩=>cQ (ho pins s1 σ H1 _ I1 q1) fun u s2 zz=>?_;obtain⟨x,H2,I2,rx,a,kvs,k,ex,kd,ey,q2⟩:=zz;subst ex ey;obtain rfl:u=Value.ref a:=rx;obtain⟨tk,rfl⟩:=ry;obtain⟨hd,_,hk⟩:=kd;obtain⟨vs,rel,dd⟩:=hk _ I2.sr;refine wpAny_in_of (vc _ _ k tk) hd dd.mapOf ?_;have e:=lZ.HC (HB k rel);exact⟨.bl _,H2,I2.tok _,rfl,by rw[e,Bool.false_xor] at q2;exact q2⟩
end
structure Qr (X:Cx) (CX:Iz) (k:Nat) (f:Addr) (sp:Sp):Prop where
 ok:∃fd ps,dE X.prog X.w X.K X.mg X.base CX k f fd ps sp/\PySem.W.keepIn X.K (.ref f)=true/\Binds X.K fd ps []
def Ph (Tb:Addr->Sp->Prop) (E:XK) (i:Nat) (t:TA):TE:=fun σ H Q=>∃f sp,σ[i]?=some (some (.ref f))/\Tb f sp/\t σ H fun vs H1=>sp vs H1 Q E
section
variable {X:Cx} {CX:Iz} {k:Nat} {x:Str} {i:Nat} {p pos:Pos} {e:Expr} {es:List Expr} {t:TA} {E:XK}
def Fi (Tb:Addr->Sp->Prop) (hT:∀f sp,Tb f sp->Qr X CX k f sp) (hr:fK k X.A) (hv:PE X (.Name x p) (aY i)) (hx:Passes CX X E)
  (ha:PA X (e::es) t) (he:starEach (e::es) X.env=(false,eval e X.env)::starEach es X.env<|>qe_) (hpl:(backTo pos (starEach es X.env)).any (·.1)=false<|>qe_) :
  PE X (.Call (.Name x p) (e::es) [] pos) (Ph Tb E i t):=by
 intro pins s σ H Q I h;obtain⟨f,sp,hf,hTb,h⟩:=h;obtain⟨fd,ps,F,hk,hb⟩:=(hT f sp hTb).ok;refine wpAny_Call_Name_kw (cQ (hv pins s σ H (fun v H1=>v=.ref f/\H1=H) I ⟨_,hf,rfl,rfl⟩) fun u s1 zz=>?_);obtain⟨v,H1,I1,rv,ev,eH⟩:=zz;subst ev eH;obtain rfl:u=Value.ref f:=rv;refine PySem.W.callWith_K (h₀:=X.base) I1.ok.mod.PX hk (cQ (ha pos pins s1 σ _ _ I1 h) fun us s2 ⟨vs,H2,I2,r,q⟩=>⟨I2.sr,?_⟩) he hpl;exact Ly F hr hb .nil hx I2 r (by rw[zU];exact q)
end
def QH (sp:Sp) (t:TA) (C:Addr) (th:TS):TS:=fun D σ H=>t σ H fun vs H1=>sp vs H1 (fun v H2=>D.rt v H2) fun cls _ H2=>cls=.ref C/\th D σ H2
section
variable {X:Cx} {k:Nat} {f:Addr} {fd:FuncData} {ps:List Str} {sp:Sp} {fx cn:Str} {p pos cpos pa np hpos:Pos} {e₀:Expr} {es:List Expr} {t:TA} {C:Addr} {bm:List Value} {newId:String} {b₀:Stmt} {suite:List Stmt} {th:TS}
def ND (F:dE X.prog X.w X.K X.mg X.base (GI X.prog X.w) k f fd ps sp) (hr:fK k X.A) (hg:Gl X fx) (hm:X.mg fx=some (.ref f)) (hk:PySem.W.keepIn X.K (.ref f)=true) (hb:Binds X.K fd ps []) (ha:PA X.Ho (e₀::es) t)
  (hc:X.calm=true) (hgc:Gl X cn) (hC0:PySem.W.nsIn X.K mainGlobals cn=some (some (.ref C))) (hQ0:PySem.W.excIn X.K C bm newId=true) (hbase:bm.contains (.type "BaseException")=true) (hstk:X.stack=X.env::X.outer) (hfrm:X.env.frame=some X.env.locals)
  (hsu:∀e,Cz (X.held e).Ho (b₀::suite) th)
  (hdb:(fx == ("__debug__": Str))=false<|>qb_) (hdc:(cn == ("__debug__": Str))=false<|>qb_) (he:starEach (e₀::es) X.env=(false,eval e₀ X.env)::starEach es X.env<|>qe_) (hpl:(backTo cpos (starEach es X.env)).any (·.1)=false<|>qe_) :
  PS X (.Try [.Return (some (.Call (.Name fx p) (e₀::es) [] cpos)) pa] [.ExceptHandler (some (.Name cn np)) none (b₀::suite) hpos] [] [] pos) (QH sp t C th):=by
 intro pins s σ H D I h;have O:OwnCls cn C bm newId X.mg X.base:=qz X.prog I.ok.mod hC0 hQ0;refine wpAny_Try_except (wpAny_execs_cons ?_);refine wpAny_Return_some ?_;refine wpAny_Call_Name_kw (jU I hg hm ?_ hdb);have hA:wpAny (model X.prog X.w) X.A (spliced (backTo cpos (starEach (e₀::es) X.env))) (AP X.Ho pins σ _) (fun _ _=>False) s:=ha cpos pins s σ H _ (I.qR _) h;refine PySem.W.callWith_K (h₀:=X.base) I.ok.mod.PX hk (wpAny_mono hA (fun us s1 ⟨vs,H1,I1',r,q⟩=>⟨I1'.sr,?_⟩) fun _ _ z=>z.elim) he hpl;have I1:Inv X pins σ H1 s1:=I1'.gU;have hl:us.length=ps.length:=by rw[<-r.length];exact F.len _ _ _ _ q
 refine wpAny_call (codeAny_mono (F.run X.A X.stack s1 H1 ⟨us,[]⟩ us vs _ _ hr I1.N3 (by have:=hb s1 us I1.sr (by rw[zU];exact hl);rw[zU] at this;exact this) r q) fun rr s' hq=>?_);cases rr with
 | ok fl=>
  cases fl with
  | ret u=>
   obtain⟨v,H2,I2,r2,q2⟩:=I1.after hq;exact⟨v,σ,H2,I2,r2,q2⟩
  | next=>exact False.elim hq
  | brk=>exact False.elim hq
  | cont=>exact False.elim hq
 | error ev=>
  obtain⟨a,cls,a0,B,H',rfl,os,bare,fl,fly,⟨rfl,q2⟩⟩:=hq;have FQ:∀b∈pN X.stack,H1 b=none:=I1.qU;have nf:∀{hh:Heap},Heap.FunFrames hh B X.stack->∀b∈pN X.stack,∃o,hh.get? b=some o/\∀vs,o.data≠.fields vs:=fun hF b hb=>(hF.mem hb).2;have back:∀(hh:Heap),KU X.prog X.w (pN X.stack) H1 H' s1.heap B hh->Inv X pins σ H' {s' with heap:=hh}:=fun hh fy=>
   I1.ML (s':={s' with heap:=hh}) (ch:=[]) os (fy.un FQ) (fy.bV.kept fy.lh) bare fun b z=>absurd z (by simp)
  have hfr:X.A.frames=some (X.env::X.outer):=by rw[<-hstk];exact I1.ok.frames
  refine wpAny_looks_onW hfr hfrm (by rw[<-hstk];exact fl) fun h4 held4 up4=>?_;refine wpAny_landsW held4 fun h5 fl5 up5=>?_;have fl5':Heap.FlyingW B X.stack a (.ref C) a0 h5:=by rw[hstk];exact fl5
  have fy5:KU X.prog X.w (pN X.stack) H1 H' s1.heap B h5:=fly.on (up4.trans up5) fl5.1 (nf fl.2.2.1);have I5:=back h5 fy5;obtain⟨ob,hob,hobc⟩:=fl5'.there;obtain⟨tl,Nn,nm,qn,bs,hdct,sn,sub,ab,col,dd,k0,k1,k2,k3,k5,mN,hC,hN',hni,T⟩:=O.obj;refine wpAny_handleBy_cons (codeAny_handlers_test (jU (X:=X.held (.ref a)) (I5.held _) hgc O.bound ?_ hdc)) (by intro q;cases q);refine wpAny_excMatches_sub_self (I5.bk _ _ hC) hob hobc (T.hasType hbase) (codeAny_handlers_suite ?_);refine lands_againW fl5' fun h6 fl6 up6=>?_;have fy6:KU X.prog X.w (pN X.stack) H1 H' s1.heap B h6:=fy5.on up6 fl6.1 (nf fl5'.2.2.1);have I6:=back h6 fy6;refine wpAny_mono (hsu (.ref a) pins _ σ H' D ((I6.held _).qR _) q2) (fun fl s7 z=>?_) fun _ _ z=>z.elim;exact SP.kY I.ok.hd (SP.gU z)
end
section
variable {prog:Program} {w:World} {A:Around} {E:Value->Shared->Prop} {s:Shared}
def LI (hd:(d == sysModules)=false) (ho:s.heap.get? d=some o) (hx:o.ExactDict) (hdat:o.data=.dict es ep)
  (hQ:Q (.ref ↑s) {s with heap:=s.heap.push {cls:=.type "dict_keyiterator",data:=.fields #[.ref d,.int 0 0,.int es.size 0,.int ep 0]}}) :
  wpAny (model prog w) A (pyIter (.ref d)) Q E s:=by
 have hT:s.TypeIs (.ref d) "dict":=⟨o,ho,hx.1⟩
 refine wpAny_pyIter_slot hT F.slot_dict_iter (wpAny_call_entry F.slot_dict_iter hT F.entry_dict_iter ?_ (F.args_dict_iter_1 _));unfold Builtin.«dict.__iter__»;refine yt ?_;unfold Builtin.Dict.dictSlotNone;refine yt (wpAny_notOrdered_dict hT ?_);show wpAny _ _ (pure (Value.ref d)) _ _ s;refine yv ?_;show wpAny _ _ (Builtin.Dict.showsAll d >>= _) _ _ s;unfold Builtin.Dict.showsAll;rw[if_neg (by rw[hd];exact zK)];refine yt (yv ?_);refine yt (wpAny_dictEntries ho hdat ?_);refine yt (wpAny_dictEpoch ho hdat ?_);refine yt (wpAny_newObj_type (yv ⟨_,rfl,"dict_keyiterator",_,⟨_,yw _ rfl,rfl⟩,F.slot_dict_keyiterator_next.lookup,?_⟩))
 simpa[rawInt] using hQ
def LJ (hit:s.heap.IsKeyIter it d i es.size ep)
  (hod:s.heap.get? d=some od) (hdd:od.data=.dict es ep) (hx:es[i]?=some e)
  (hQ:∀h',h'.IsKeyIter it d (i+1) es.size ep->Heap.SameBut it s.heap h'->Q (some e.key) {s with heap:=h'}) :
  wpAny (model prog w) A (pyNext (.ref it)) Q E s:=by
 obtain⟨o,ho,hc,hd⟩:=id hit;unfold pyNext;refine yt (wpAny_attempt (wpAny_callSpecial?_slot (name:=Str.ofString "__next__") hit.typeIs F.slot_dict_keyiterator_next
  (wpAny_call_entry F.slot_dict_keyiterator_next hit.typeIs F.entry_dict_keyiterator_next ?_ (F.args_dict_keyiterator_next_1 _))))
 refine yt (yv ?_);refine yt ?_;refine yt ?_
 first | refine yt (wpAny_typeNameOfWhole_keyiter hit.typeIs (yv ?_)) | refine yt (wpAny_typeNameOf_keyiter hit.typeIs (yv ?_))
 refine yt (wpAny_fieldsOf ho hd ?_);have hown:Builtin.Dict_items.ownsTuple "dict_keyiterator"= false:=by decide
 simp only[hown,Bool.false_eq_true,if_false];show wpAny _ _ (if(Value.ref d == Value.none)=true then _ else _) _ _ s;rw[if_neg (show¬((Value.ref d == Value.none)=true) from zK)];refine yt (yv ?_);refine yt (wpAny_dictEntries hod hdd ?_);rw[if_neg (by simp)];refine yt (yv ?_);refine yt (wpAny_dictEpoch hod hdd ?_);rw[if_neg (by simp)];refine yv ?_;simp only[show¬((i:Int)<0) from by omega,if_false,Int.toNat_natCast,hx];refine yt ?_
 first | refine yt (wpAny_typeNameOfWhole_keyiter hit.typeIs (yv ?_)) | refine yt (wpAny_typeNameOf_keyiter hit.typeIs (yv ?_))
 refine yt (wpAny_isOneOf_keyiter hit.typeIs ?_);show wpAny _ _ (setField (.ref it) 1 (rawInt ((i:Int)+1)) >>= _) _ _ s;refine yt (wpAny_setField ho hd (by simp) ?_);have hit':(s.heap.update it (Obj.mapFields (·.setIfInBounds 1 (rawInt ((i:Int)+1))))).IsKeyIter it d (i+1) es.size ep:=
  ⟨_,yz _ ho (Obj.isFreed_of_fields (Obj.data_mapFields hd _)),(Obj.cls_mapFields ..).trans hc,by rw[Obj.data_mapFields hd];simp[rawInt]⟩
 refine yt (wpAny_holding ?_);refine yt (wpAny_isOneOf_keyiter (s:={s with heap:=s.heap.update it (Obj.mapFields (·.setIfInBounds 1 (rawInt ((i:Int)+1))))}) hit'.typeIs ?_);show wpAny _ _ (pure e.key) _ _ _;exact yv (yv ⟨_,rfl,yv (hQ _ hit' (Heap.SameBut.update ..))⟩)
def Nx (hh:A.handled=none) (hit:s.heap.IsKeyIter it d i es.size ep)
  (hod:s.heap.get? d=some od) (hdd:od.data=.dict es ep) (hx:es.size<=i)
  (hQ:∀h',Heap.ExtBut it s.heap h'->Q none {s with heap:=h'}):wpAny (model prog w) A (pyNext (.ref it)) Q E s:=by
 obtain⟨o,ho,hc,hd⟩:=id hit;unfold pyNext;refine yt (wpAny_attempt (wpAny_callSpecial?_slot (name:=Str.ofString "__next__") hit.typeIs F.slot_dict_keyiterator_next
  (wpAny_call_entry F.slot_dict_keyiterator_next hit.typeIs F.entry_dict_keyiterator_next ?_ (F.args_dict_keyiterator_next_1 _))))
 refine yt (yv ?_);refine yt ?_;refine yt ?_
 first | refine yt (wpAny_typeNameOfWhole_keyiter hit.typeIs (yv ?_)) | refine yt (wpAny_typeNameOf_keyiter hit.typeIs (yv ?_))
 refine yt (wpAny_fieldsOf ho hd ?_);have hown:Builtin.Dict_items.ownsTuple "dict_keyiterator"= false:=by decide
 simp only[hown,Bool.false_eq_true,if_false];show wpAny _ _ (if(Value.ref d == Value.none)=true then _ else _) _ _ s;rw[if_neg (show¬((Value.ref d == Value.none)=true) from zK)];refine yt (yv ?_);refine yt (wpAny_dictEntries hod hdd ?_);rw[if_neg (by simp)];refine yt (yv ?_);refine yt (wpAny_dictEpoch hod hdd ?_);rw[if_neg (by simp)];refine yv ?_;simp only[show¬((i:Int)<0) from by omega,if_false,Int.toNat_natCast,Array.getElem?_eq_none hx];refine yt ?_
 first | refine yt (wpAny_typeNameOfWhole_keyiter hit.typeIs (yv ?_)) | refine yt (wpAny_typeNameOf_keyiter hit.typeIs (yv ?_))
 show wpAny _ _ (setField (.ref it) 0 .none >>= _) _ _ s;refine yt (wpAny_setField ho hd (by simp) ?_);show wpAny _ _ (newExc (.type "StopIteration") [] >>= _) _ _ _;refine yt ?_;simp only[newExc,newTuple];refine yt (wpAny_newObj_type ?_ (by size_fits));refine yt (m:=firstArgMember _ _) (wpAny_of_eq (a:=Value.none) (by first | rfl | (simp only[firstArgMember];rfl)) ?_);refine wpAny_newObj_type ?_ (by size_fits);simp only[raiseNew];refine yt (wpAny_handled ?_);rw[show A.in1.handled=none from hh];refine yt (yv (wpAny_throw ?_));refine yt (wpAny_isInstance (T:="StopIteration") (b:=true) ⟨_,yw _ rfl,rfl⟩ isSubtype_stop ?_);exact yv (hQ _ (((Heap.SameBut.update ..).extBut.push _).push _))
end
def M1 (H:Hp) (d:Addr) (o:Obj) (n:Nat) (kat:Hp->Nat->V->Prop):Prop:=∃u,H d=some (.mW o u)/\((∃kvs:List (Key×V),u=.dK kvs/\n=kvs.length/\kat=fun _ i x=>∃p,kvs[i]?=some p/\x=kV p.1)\/
 ∃kvs:List (List Key×V),u=.dT kvs/\n=kvs.length/\kat=fun H i x=>∃p b,kvs[i]?=some p/\H b=some (.tup (p.1.map kV))/\x=.ref b)
theorem B4 {K:Type} [DecidableEq K] {prog:Program} {w:World} {knd:KeyKind prog w K}:∀{es:List DictEntry} {kvs:List (K×Value)} {i:Nat} {e:DictEntry},PySem.Pairs knd es kvs->es[i]?=some e->∃kv,kvs[i]?=some kv/\knd.is kv.1 e.key=true/\e.val=kv.2
 | _,_,_,_,.nil,h=>by simp at h
 | _,_,0,_,.cons a b _,h=>by simp at h;subst h;exact⟨_,rfl,a,b⟩
 | _,_,i+1,_,.cons _ _ t,h=>by
  obtain⟨kv,h1,h2⟩:=B4 (i:=i) t (by simpa using h);exact⟨kv,by simpa using h1,h2⟩
theorem lH:∀{l:List α} {m:List β} {i:Nat} {b:β},Paired F l m->m[i]?=some b->∃a,l[i]?=some a/\F a b
 | _,_,_,_,.nil,h=>by simp at h
 | _,_,0,_,.cons r _,h=>by simp at h;subst h;exact⟨_,rfl,r⟩
 | _,_,i+1,_,.cons _ t,h=>by
  obtain⟨a,h1,h2⟩:=lH (i:=i) t (by simpa using h);exact⟨a,by simpa using h1,h2⟩
section
variable {X:Cx} {pins:List (Addr×Obj)} {σ:St} {H:Hp} {s:Shared} {d:Addr} {o:Obj} {n:Nat} {kat:Hp->Nat->V->Prop}
def M1.raw (f:M1 H d o n kat) (I:Inv X pins σ H s):(d == sysModules)=false/\∃es ep,s.heap.get? d=some o/\o.ExactDict/\o.data=.dict es ep/\es.size=n/\∀i e,es[i]?=some e->∃x,RelV x e.key/\kat H i x:=by
 obtain⟨u,hH,hu⟩:=f;obtain⟨ho,ok⟩:=(show cx X.prog X.w H s.heap d (.mW o u) from I.bV d _ hH)
 rcases hu with⟨kvs,rfl,rfl,rfl⟩ | ⟨kvs,rfl,rfl,rfl⟩
 ·obtain⟨_,hd,vs,rel,o',es,ep,ho',hx,hdat,_,hp,_⟩:=ok
  have hl:es.size=kvs.length:=by
   have h1:=hp.length;have h2:kvs.length=vs.length:=Paired.length rel;have h3:es.toList.length=es.size:=Array.length_toList;omega
  rw[ho] at ho';cases ho';refine⟨hd,es,ep,ho,hx,hdat,hl,fun i e he=>?_⟩;obtain⟨kv,h1,h2,_⟩:=B4 hp (i:=i) (e:=e) (by rw[Array.getElem?_toList];exact he);obtain⟨p,h3,h4,_⟩:=lH rel h1;refine⟨kV p.1,?_,p,h3,rfl⟩;rw[<-h4] at h2;rcases cZ h2 with⟨j,t,e1,e2⟩ | ⟨y,t,e1,e2⟩
  ·rw[e1,e2];exact⟨t,rfl⟩
  ·rw[e1,e2];exact⟨t,rfl⟩
 ·obtain⟨_,hd,xs,rel,o',es,ep,ho',hx,hdat,he,_⟩:=ok
  have h3:es.toList.length=es.size:=Array.length_toList;have hl:es.size=kvs.length:=by
   have h2:kvs.length=xs.length:=Paired.length rel;rw[he,za] at h3;omega
  rw[ho] at ho';cases ho';refine⟨hd,es,ep,ho,hx,hdat,hl,fun i e hi=>?_⟩;rw[<-Array.getElem?_toList,he,zJ] at hi;cases q:xs[i]? with
  | none=>rw[q] at hi;cases hi
  | some y=>
   rw[q] at hi;cases hi;obtain⟨p,h4,h5,h6,_⟩:=lH rel q;exact⟨.ref y.2.1,rfl,p,y.2.1,h4,h6,rfl⟩
end
def Tf (d:Addr) (o:Obj) (n:Nat) (kat:Hp->Nat->V->Prop):It:=⟨fun i H=>M1 H d o n kat/\i<n,fun i H x H'=>H'=H/\kat H i x,fun i H=>M1 H d o n kat/\n<=i⟩
def JA {P:Program} {w:World} {K:yA} {tg:Expr} (d it:Addr) (n:Nat) (kat:Hp->Nat->V->Prop) (o:Obj) (es:Array DictEntry) (ep:Nat) (hdat:o.data=.dict es ep) (hn:es.size=n) :
  Turn P w K tg (Tf d o n kat) [it] it (fun i h=>h.IsKeyIter it d i n ep) where
 mem:=by simp
 obj:=fun i h st b hb=>by
  have e:b=it:=by simpa using hb
  subst e;obtain⟨o,e,c,d⟩:=st;exact⟨o,e,fun v z=>by rw[d] at z;cases z⟩
 keep:=fun i h h' st k=>st.at fun o e=>k it (by simp) o e
 item:=by
  intro X hP hw hK hc i pins s σ H E I hf st hg;subst hP hw hK hn;obtain⟨fz,hlt⟩:=hg;obtain⟨hd,es',ep',ho,hx,hdat',hsz,hk⟩:=fz.raw I;rw[hdat] at hdat';cases hdat';obtain⟨f0,f1,f2,f3,f4,f5⟩:=hf it (by simp);have he:es[i]?=some es[i]:=Array.getElem?_eq_getElem hlt;obtain⟨x,rx,kx⟩:=hk i _ he;refine LJ st ho hdat he fun h' st' sb=>?_;have I1:Inv X pins σ H {s with heap:=h'}:=I.turned (t':=s.toks) (fun b o hb e=>(sb.2 b hb).trans e) f0 f1 f3 f4 f5;obtain⟨oi,e,c,dd⟩:=id st';exact⟨_,rfl,Ci (s:={s with heap:=h'}) e c dd ∅ ⟨x,H,I1,rx,⟨rfl,kx⟩,st',fun b hb=>(hf b hb).1⟩⟩
 done:=by
  intro X hP hw hK hc i pins s σ H E I hf st hg;subst hP hw hK hn;obtain⟨fz,hge⟩:=hg;obtain⟨hd,es',ep',ho,hx,hdat',hsz,hk⟩:=fz.raw I;rw[hdat] at hdat';cases hdat';obtain⟨f0,f1,f2,f3,f4,f5⟩:=hf it (by simp);exact Nx (I.ok.hd hc) st ho hdat hge fun h' eb=>⟨rfl,I.turned (t':=s.toks) (fun b o hb e=>eb b o hb e) f0 f1 f3 f4 f5⟩
 self:=fun _ _ _ _ _ st h=>wpAny_pyIter_keyiter st h
def Rb (td:TE):TI:=fun σ H R=>td σ H fun x H1=>∃d o n kat,x=.ref d/\M1 H1 d o n kat/\R (Tf d o n kat) H1
section
variable {X:Cx} {tg l:Expr} {tl:TE}
def NG (hl:PE X l tl):PI X tg l (Rb tl):=by
 intro pins s σ H R I h;refine cQ (hl pins s σ H _ I h) fun v s1 zz=>?_;obtain⟨x,H1,I1,r1,q1⟩:=zz;obtain⟨d,o,n,kat,e,fz,q⟩:=q1;subst e;cases r1;obtain⟨hd,es,ep,ho,hx,hdat,hsz,hk⟩:=fz.raw I1;refine LI hd ho hx hdat ?_;refine⟨↑s1,[↑s1],_,_,H1,rfl,I1.kept (t':=s1.toks) fun b o e=>yu _ e,JA d _ n kat o es ep hdat hsz,⟨_,yw _ rfl,rfl,by rw[hsz];rfl⟩,fun b hb=>?_,q⟩;have e:b=↑s1:=by simpa using hb
 subst e;exact I1.vZ (zk _) (I1.bV.fresh (zk _))
end
def Iw (H:Hp) (d:Addr) (o:Obj) (kvs:List (Key×V)):Prop:=H d=some (.mW o (.dK kvs))
def MZ (d:Addr) (o:Obj) (kvs:List (Key×V)):It:=⟨fun i H=>Iw H d o kvs/\i<kvs.length,fun i H x H'=>H'=H/\∃p,kvs[i]?=some p/\x=p.2,fun i H=>Iw H d o kvs/\kvs.length<=i⟩
section
variable {X:Cx} {pins:List (Addr×Obj)} {σ:St} {H:Hp} {s:Shared} {d:Addr} {o:Obj} {kvs:List (Key×V)}
def Iw.at' (f:Iw H d o kvs) (I:Inv X pins σ H s):(d == sysModules)=false/\∃vs es ep,KV kvs vs/\o.data=.dict es ep/\s.heap.DictAt (cW X.prog X.w) d vs ep:=by
 obtain⟨ho,ok⟩:=(show cx X.prog X.w H s.heap d (.mW o (.dK kvs)) from I.bV d _ f)
 obtain⟨_,hd,vs,rel,o',es,ep,ho',hx,hdat,hk,hp,nd⟩:=ok;rw[ho] at ho';cases ho';exact⟨hd,vs,es,ep,rel,hdat,o,es,ho,hx,hdat,hk,hp,nd⟩
end
def ED {P:Program} {w:World} {K:yA} {tg:Expr} (d it:Addr) (o:Obj) (kvs:List (Key×V)) (es:Array DictEntry) (ep:Nat) (hdat:o.data=.dict es ep) :
  Turn P w K tg (MZ d o kvs) [it] it (fun i h=>h.IsValIter it d i kvs.length ep) where
 mem:=by simp
 obj:=fun i h st b hb=>by
  have e:b=it:=by simpa using hb
  subst e;obtain⟨o,e,c,d⟩:=st;exact⟨o,e,fun v z=>by rw[d] at z;cases z⟩
 keep:=fun i h h' st k=>st.at fun o e=>k it (by simp) o e
 item:=by
  intro X hP hw hK hc i pins s σ H E I hf st hg;subst hP hw hK;obtain⟨fz,hlt⟩:=hg;obtain⟨hd,vs,es',ep',rel,hdat',da⟩:=fz.at' I;rw[hdat] at hdat';cases hdat';obtain⟨f0,f1,f2,f3,f4,f5⟩:=hf it (by simp);have hl:kvs.length=vs.length:=Paired.length rel;have hi:vs[i]?=some (vs[i]'nofun):=zb nofun;obtain⟨p,h3,h4,h5⟩:=lH rel hi;refine wpAny_pyNext_values_item (by rw[<-hl];exact st) da hi fun h' st' sb=>?_;have I1:Inv X pins σ H {s with heap:=h'}:=I.turned (t':=s.toks) (fun b o hb e=>(sb.2 b hb).trans e) f0 f1 f3 f4 f5;obtain⟨oi,e,c,dd⟩:=id st';exact⟨_,rfl,Ci (s:={s with heap:=h'}) e c dd ∅ ⟨p.2,H,I1,h5,⟨rfl,p,h3,rfl⟩,by rw[hl];exact st',fun b hb=>(hf b hb).1⟩⟩
 done:=by
  intro X hP hw hK hc i pins s σ H E I hf st hg;subst hP hw hK;obtain⟨fz,hge⟩:=hg;obtain⟨hd,vs,es',ep',rel,hdat',da⟩:=fz.at' I;rw[hdat] at hdat';cases hdat';obtain⟨f0,f1,f2,f3,f4,f5⟩:=hf it (by simp);have hl:kvs.length=vs.length:=Paired.length rel;exact wpAny_pyNext_values_end (I.ok.hd hc) (by rw[<-hl];exact st) da (by simp;omega) fun h' eb=>⟨rfl,I.turned (t':=s.toks) (fun b o hb e=>eb b o hb e) f0 f1 f3 f4 f5⟩
 self:=fun _ _ _ _ _ st h=>wpAny_pyIter_valiter st h
def NZ (td:TE):TI:=fun σ H R=>td σ H fun x H1=>∃d o kvs,x=.ref d/\Iw H1 d o kvs/\R (MZ d o kvs) H1
section
variable {X:Cx} {tg l:Expr} {tl:TE} {apos cpos:Pos}
def JT (hl:PE X l tl) (hbase:attributeBase l "values" X.env (eval l X.env)=eval l X.env<|>qe_) (hline:(apos.endLine == cpos.line)=true<|>qe_):PI X tg (.Call (.Attribute l "values" apos) [] [] cpos) (NZ tl):=by
 intro pins s σ H R I h;refine wpAny_Call_method0_late hbase hline (cQ (hl pins s σ H _ I h) fun v s1 zz=>?_);obtain⟨x,H1,I1,r1,q1⟩:=zz;obtain⟨d,o,kvs,e,fz,q⟩:=q1;subst e;cases r1;obtain⟨hd,vs,es,ep,rel,hdat,da⟩:=fz.at' I1;refine⟨"dict","dict.values",F.plainAttrs_dict,F.slot_dict_values,F.type_dict_values,da.dictOf.typeIs,da.dictOf.mapOf.noDict,Calls.callWith_builtin rfl (PySem.evalArgs_none ?_)⟩;refine call_meetsIn F.slot_dict_values da.dictOf.typeIs F.entry_dict_values (F.args_dict_values_1 _) (meets_dict_values (cW X.prog X.w) d hd) ⟨⟨vs,da.dictOf⟩,?_⟩;have I2:Inv X pins σ H1 {s1 with heap:=s1.heap.push {cls:=.type "dict_values",data:=.fields #[.ref d]}}:=I1.kept (t':=s1.toks) fun b o e=>yu _ e;obtain⟨_,vs2,es2,ep2,rel2,hdat2,da2⟩:=fz.at' I2;rw[hdat] at hdat2;cases hdat2;have hl2:kvs.length=vs2.length:=Paired.length rel2;refine wpAny_pyIter_values (knd:=cW X.prog X.w) ⟨_,yw _ rfl,rfl,rfl⟩ da2 ?_;refine⟨_,[_],_,_,H1,rfl,I2.kept (t':=s1.toks) fun b o e=>yu _ e,ED d _ o kvs es ep hdat,⟨_,yw _ rfl,rfl,by rw[hl2];rfl⟩,fun b hb=>?_,q⟩;rw[zy.mp hb];exact I2.vZ (zk _) (I2.bV.fresh (zk _))
end
def HF {d:Addr} {o:Obj} {kvs:List (Key×V)} {g:TG} {tb:TS} {D:Ends} {σ:St} {H:Hp} (Pv:Nat->St->Hp->Prop) (h0:Pv 0 σ H) (hf:∀i σ H,i<=kvs.length->Pv i σ H->Iw H d o kvs)
  (hs:∀i p σ H,kvs[i]?=some p->Pv i σ H->g p.2 σ H fun σ2 H2=>tb {D with nx:=Pv (i+1),ct:=Pv (i+1),bk:=D.nx} σ2 H2) (hd:∀σ H,Pv kvs.length σ H->D.nx σ H) :
  ∃W:Nat->Nat->St->Hp->Prop,(∃m,W 0 m σ H)/\∀i m σ H,W i m σ H->
   ((MZ d o kvs).stop i H/\D.nx σ H)\/((MZ d o kvs).go i H/\∃Nn:St->Hp->Prop,(∀σ' H',Nn σ' H'->∃m',m'<m/\W (i+1) m' σ' H')/\∀v H',(MZ d o kvs).Jw i H v H'->g v σ H' fun σ2 H2=>tb {D with nx:=Nn,ct:=Nn,bk:=D.nx} σ2 H2):=by
 refine⟨fun i m σ H=>m=kvs.length-i/\i<=kvs.length/\Pv i σ H,⟨kvs.length,by simp,yf _,h0⟩,?_⟩;rintro i m σ H ⟨rfl,hi,pv'⟩;rcases Nat.lt_or_ge i kvs.length with hlt | hge
 ·refine .inr ⟨⟨hf i σ H hi pv',hlt⟩,Pv (i+1),fun σ' H' p'=>⟨kvs.length-(i+1),nofun,rfl,hlt,p'⟩,fun v H' y=>?_⟩
  obtain⟨e1,p,hp,e2⟩:=y;rw[e1,e2];exact hs i p σ H hp pv'
 ·have e:i=kvs.length:=nofun
  subst e;exact .inl ⟨⟨hf _ σ H hi pv',zk _⟩,hd σ H pv'⟩
def Q9:HO->Bool
 | .dK _=>true
 | .dT _=>true
 | _=>false
def dE.Ou {P:Program} {w:World} {K:yA} {mg:Str->Option Value} {base:Heap} {k:Nat} {f:Addr} {fd:FuncData} {ps:List Str} {sp sp':Sp} (F:dE P w K mg base GJ k f fd ps sp) (len:∀vs H Q E,sp' vs H Q E->vs.length=ps.length)
  (h:∀vs H Q E,sp' vs H Q E->∃d u,H d=some u/\Q9 u=true/\∀o,sp vs (upd H d (.mW o u)) (fun v H'=>Q v (upd H' d u)) E):dE P w K mg base GJ k f fd ps sp':=by
 refine⟨len,fun A outer s H args us vs Q E hr e hb hv hs=>?_⟩;obtain⟨d,u,hd,hu,hsp⟩:=h vs H Q E hs;have okd:=e.bV d u hd;obtain⟨o,ho⟩:=okd.here;have nt:∀xs,u≠.tup xs:=fun xs z=>by rw[z] at hu;cases hu
 have no:∀x,u≠.own x:=fun x z=>by rw[z] at hu;cases hu
 have nf:∀a b,u≠.mW a b:=fun a b z=>by rw[z] at hu;cases hu
 have nb:∀a,u≠.Lb a:=fun a z=>by rw[z] at hu;cases hu
 have off:∀b,H b=none->b≠d:=fun b n z=>by rw[z,hd] at n;cases n
 have tup1:∀b xs,H b=some (.tup xs)->upd H d (.mW o u) b=some (.tup xs):=fun b xs q=>by rw[aD (fun z=>by rw[z,hd] at q;exact nt xs (yj q))];exact q
 have own1:∀b x,H b=some (.own x)->upd H d (.mW o u) b=some (.own x):=fun b x q=>by rw[aD (fun z=>by rw[z,hd] at q;exact no x (yj q))];exact q
 have e1:GH P w K mg base A outer s (upd H d (.mW o u)):=by
  refine⟨e.frames,e.mod,fun b ob q=>⟨(e.bs b ob q).1,by rw[aD (off b (e.bs b ob q).2)];exact(e.bs b ob q).2⟩,e.KQ,e.oX,fun b hb=>by rw[aD (off b (e.FQ b hb))];exact e.FQ b hb,fun b ub q=>?_,e.bare⟩
  by_cases hbd:b=d
  ·subst hbd
   rw[aC] at q;cases q;exact⟨ho,okd.lh (fun _ _ _ z=>z) (fun c z=>own1 c _ z) tup1⟩
  ·rw[aD hbd] at q
   exact(e.bV b ub q).lh (fun _ _ _ z=>z) (fun c z=>own1 c _ z) tup1
 refine codeAny_mono (F.run A outer s _ args us vs _ E hr e1 hb hv (hsp o)) fun r s' hq=>?_;cases r with
 | error x=>exact hq
 | ok fl=>
  cases fl with
  | next=>exact hq
  | brk=>exact hq
  | cont=>exact hq
  | ret uv=>
   obtain⟨v,H',os,bare,un,bV,rv,q⟩:=hq;have hd':H' d=some (.mW o u):=un.mR d o u aC;have off1:∀b,H b=none->upd H d (.mW o u) b=none:=fun b n=>by rw[aD (off b n)];exact n
   have back:∀b z,H b=some z->b≠d->upd H d (.mW o u) b=some z:=fun b z q n=>by rw[aD n];exact q
   refine⟨v,upd H' d u,os,bare,⟨fun b ob q n hb hx=>un.keep b ob q (off1 b n) hb hx,fun b ob q n hb hx=>un.slot b ob q (off1 b n) hb hx,fun b ob q n hx=>by rw[aD (off b n)];exact un.free b ob q (off1 b n) hx,un.there,
    fun b xs q=>?_,fun b ob uu q=>?_,fun b ps' q=>?_⟩,fun b ub q=>?_,rv,q⟩
   ·have n:b≠d:=fun z=>by rw[z,hd] at q;exact nt xs (yj q)
    rw[aD n];exact un.oP b xs (back b _ q n)
   ·have n:b≠d:=fun z=>by rw[z,hd] at q;exact nf ob uu (yj q)
    rw[aD n];exact un.mR b ob uu (back b _ q n)
   ·have n:b≠d:=fun z=>by rw[z,hd] at q;exact nb ps' (yj q)
    obtain⟨m,z⟩:=un.oQ b ps' (back b _ q n);exact⟨m,by rw[aD n];exact z⟩
   ·have own2:∀c x,H' c=some (.own x)->upd H' d u c=some (.own x):=fun c x z=>by rw[aD (fun y=>by rw[y,hd'] at z;cases z)];exact z
    have tup2:∀c xs,H' c=some (.tup xs)->upd H' d u c=some (.tup xs):=fun c xs z=>by rw[aD (fun y=>by rw[y,hd'] at z;cases z)];exact z
    by_cases hbd:b=d
    ·subst hbd
     rw[aC] at q;cases q;obtain⟨_,ok'⟩:=(show cx P w H' s'.heap b (.mW o u) from bV b _ hd')
     exact ok'.lh (fun _ _ _ z=>z) (fun c z=>own2 c _ z) tup2
    ·rw[aD hbd] at q
     exact(bV b ub q).lh (fun _ _ _ z=>z) (fun c z=>own2 c _ z) tup2
def Fb (σ:List Str) (x:Str):List Str:=if x∈σ then σ else σ++[x]
def gs (l:List Str):List Str:=l.foldl Fb []
def F4 (l:List Str):(gs l).length<=l.length/\((gs l).length=l.length↔l.Nodup):=by
 have key:∀(l σ:List Str),σ.Nodup->(l.foldl Fb σ).length<=σ.length+l.length/\((l.foldl Fb σ).length=σ.length+l.length↔(σ++l).Nodup):=by
  intro l
  induction l with
  | nil=>intro σ h;simp[h]
  | cons x l ih=>
   intro σ h;rw[List.foldl_cons,zt]
   by_cases hx:x∈σ
   ·rw[show Fb σ x=σ from if_pos hx]
    have:=ih σ h;refine⟨nofun,⟨fun e=>nofun,fun e=>?_⟩⟩;exact absurd hx (fun z=>(zR.mp e).2.2 x z x zp rfl)
   ·rw[show Fb σ x=σ++[x] from if_neg hx]
    have hn:(σ++[x]).Nodup:=zR.mpr ⟨h,by simp,fun a ha b hb e=>by rw[zy.mp hb] at e;exact hx (e▸ha)⟩;have:=ih (σ++[x]) hn;rw[zg,List.length_singleton,zE,List.singleton_append] at this;exact⟨nofun,⟨fun e=>this.2.mp nofun,fun e=>by have:=this.2.mpr e;omega⟩⟩
 have:=key l [] List.nodup_nil
 simpa[gs] using this
def sub_tuple_set:isSubtype (.type "tuple") (.type "set")=pure false:=by rw[isSubtype_type];kernel_rfl
def sub_tuple_frozenset:isSubtype (.type "tuple") (.type "frozenset")=pure false:=by rw[isSubtype_type];kernel_rfl
section
variable {prog:Program} {w:World}
def Lu {A:Around} {R:Result->Shared->Prop} {I:Addr} {fp wr:List Addr} {G:Array GenState->Array GenState->Prop} {n:Nat} {P:Nat->Value->Prop} {St:Nat->Shared->Prop} (W:WalksS prog w A.in1 I fp wr G n P St) (S:Addr) (hSf:S∉fp)
  (zs:List Str) (hn:n=zs.length) (hval:∀i v,P i v->∃z t,zs[i]?=some z/\v=.str z t) (hb:n+1<scanBound) :
  ∀(k i:Nat) (s:Shared),n-i=k->i<=n->St i s->s.heap.SetOf (PySem.strKind prog w) S (fun x=>decide (x∈gs (zs.take i))) (gs (zs.take i)).length->
   (∀s',Moved (S::wr) G s s'->s'.heap.SetOf (PySem.strKind prog w) S (fun x=>decide (x∈gs zs)) (gs zs).length->R (.ok (.ret .none)) s')->
   codeAny (model prog w) A (.builtin "set.update.loop" ⟨[.ref S,.ref I],[]⟩) R s:=by
 have hSw:S∉wr:=fun h=>hSf (W.sub _ h);have hsub:∀b∈wr,b∈S::wr:=fun b hb=>zm _ hb;intro k
 induction k with
 | zero=>
  intro i s hk hi hst hS hR;have hin:i=n:=nofun
  subst hin;rw[hn,zM] at hS;refine codeAny_builtin F.entry_set_update_loop ?_;rw[Around.under_plainId F.plain_set_update_loop _];show wpAny _ A.in1 (pyNext (.ref I) >>= _) _ _ s;refine yt (W.done s _ _ hst fun s' hm=>?_);obtain⟨o,es,ep,t,ho,rest⟩:=hS;exact yv (hR s' (hm.mono hsub) ⟨o,es,ep,t,hm.heap S _ hSw ho,rest⟩)
 | succ k ih=>
  intro i s hk hi hst hS hR;have hlt:i<n:=nofun
  refine codeAny_builtin F.entry_set_update_loop ?_;rw[Around.under_plainId F.plain_set_update_loop _];show wpAny _ A.in1 (pyNext (.ref I) >>= _) _ _ s;refine yt (W.item i s _ _ hlt hst fun v s' hP hst' hm=>?_);obtain⟨z,t,hz,rfl⟩:=hval i v hP;obtain⟨o,es,ep,tb,ho,rest⟩:=hS;have hS':s'.heap.SetOf (PySem.strKind prog w) S (fun x=>decide (x∈gs (zs.take i))) (gs (zs.take i)).length:=⟨o,es,ep,tb,hm.heap S _ hSw ho,rest⟩
  show wpAny _ A.in1 (holding [Value.str z t] (setAdd S (.str z t)) >>= _) _ _ s';refine yt (wpAny_holding ?_);unfold setAdd;refine wpAny_holding ?_;refine yt ((PySem.strKind prog w).pyHash (k:=z) (strKind_is _ _ _ _) ?_);have hl:=(F4 (zs.take i)).1;rw[zP] at hl;refine wpAny_setAddHashed_of (knd:=PySem.strKind prog w) (s:={s' with toks:=s'.toks+1}) (strKind_is _ _ _ _) rfl hS' nofun fun h' hsb hS2=>?_;have et:zs.take (i+1)=zs.take i++[z]:=by rw[List.take_succ,hz];rfl
  have ed:gs (zs.take (i+1))=Fb (gs (zs.take i)) z:=by rw[et];unfold gs;rw[zX];rfl
  have hSi:h'.SetOf (PySem.strKind prog w) S (fun x=>decide (x∈gs (zs.take (i+1)))) (gs (zs.take (i+1))).length:=by
   refine SetOf_congr hS2 (fun x=>?_) ?_
   ·rw[ed]
    unfold Fb
    by_cases hx:z∈gs (zs.take i)
    ·rw[if_pos hx]
     by_cases e:x=z
     ·subst e;simp[hx]
     ·simp[e]
    ·rw[if_neg hx];simp[zF]
   ·rw[ed]
    unfold Fb
    by_cases hx:z∈gs (zs.take i) <;> simp[hx]
  refine yv ⟨plainId_quiet F.plain_set_update_loop _,ih (i+1) _ nofun hlt (W.frame _ s' _ _ hst' (Nat.le_succ _) fun b hb o e=>?_) hSi fun s'' hm'' hS''=>?_⟩
  ·rw[hsb.2 b (fun h:b=S=>hSf (by rw[<-h];exact hb))];exact e
  ·refine hR s'' (Moved.trans W.gtrans ((hm.mono hsub).then_heap (Nat.le_succ _) fun b o hb e=>?_) hm'') hS''
   rw[hsb.2 b (fun h:b=S=>hb (by rw[h];exact zp))];exact e
variable {A:Around} {E:Value->Shared->Prop} {s:Shared}
def G6 {l:Addr} {items:Array Value} {zs:List Str} {Q:Value->Shared->Prop} (hh:A.handled=none) (hl:IsTup s.heap l items) (hi:∀(i:Nat) (v:Value),items[i]?=some v->∃z t,zs[i]?=some z/\v=.str z t) (hn:items.size=zs.length) (hb:items.size+1<scanBound)
  (h:∀(h':Heap) (tk:Nat),h'.SetOf (PySem.strKind prog w) ↑s (fun x=>decide (x∈gs zs)) (gs zs).length->(∀b o,b<↑s->s.heap.get? b=some o->h'.get? b=some o)->Q (.ref ↑s) {s with heap:=h',toks:=tk}) :
  wpAny (model prog w) A (call (.type "set") [.ref l]) Q E s:=by
 obtain⟨c,tl,hmro⟩:=F.called_set.mro;have hmade:=F.called_set.made;have hsub:=F.called_set.sub;refine wpAny_call (codeAny_of_tree ?_);show wpAny _ _ (callAny (.type "set") _) _ _ _;refine yv ⟨Code.quiet_builtin _ (by decide +kernel),codeAny_builtin F.entry_type_call ?_⟩;rw[Around.under_plain (weight_type_call_type "set" [.ref l] []) rfl];have h1:=F.called_set.notType;have h2:=F.called_set.canCreate;have hct:=F.typeCall_set_1 (.ref l)
 repeat (any_goals (first | assumption | wp_step))
 let fresh:Bool->Obj:=fun led=>{cls:=.type "set",dict:=none,data:=.set #[] 0 (.fresh 0 0 led)}
 refine codeAny_mono (code_set_new_1 (.ref l) (E:=E) (Q₁:=fun obj s₁=>∃led:Bool,obj=.ref ↑s/\s₁={s with heap:=s.heap.push (fresh led)}) fun led=>⟨led,rfl,rfl⟩) fun r s₁ hr=>?_;cases r with
 | error e=>exact hr
 | ok fl=>
  cases fl with
  | next=>exact hr.elim
  | brk=>exact hr.elim
  | cont=>exact hr.elim
  | ret obj=>
   obtain⟨led,rfl,rfl⟩:=hr;have hS:(s.heap.push (fresh led)).get? ↑s=some (fresh led):=yw _ rfl;have hT:Shared.TypeIs {s with heap:=s.heap.push (fresh led)} (.ref ↑s) "set":=⟨_,hS,rfl⟩
   have hli:=F.called_set.init.lookup;have hbi:=F.called_set.init.bind (.ref ↑s)
   repeat (any_goals (first | assumption | wp_step))
   refine codeAny_mono (codeAny_call_builtin (R:=wants (fun r s₂=>r=.none/\∃h' tk,s₂={s with heap:=h',toks:=tk}/\h'.SetOf (PySem.strKind prog w) ↑s (fun x=>decide (x∈gs zs)) (gs zs).length/\
     (∀b o,b<↑s->s.heap.get? b=some o->h'.get? b=some o)) E) F.called_set.init.plain F.entry_set_init (check_set_init_1 hT ?_)) fun r₂ s₂ hr₂=>?_
   ·obtain⟨⟨ocls,odict,odata,oslots⟩,hol,hcl,nl,hdl⟩:=hl
    simp only at hcl hdl;subst hcl hdl;have hol':(s.heap.push (fresh led)).get? l=some {cls:=.type "tuple",dict:=odict,data:=.seq items nl,slots:=oslots}:=yu _ hol;have hsls:=sub_tuple_set;have hslf:=sub_tuple_frozenset;have hne:(Value.type "tuple"== Value.type "dict")=false:=by decide
    have hl1:(s.heap.push (fresh led)).IsTuple l items:=⟨_,hol',rfl,nl,rfl⟩
    unfold Builtin.«set.__init__» noKeywords Builtin.Frozenset.updateFrom;generalize hPI:pyIter=PI;wp_walk;subst hPI;refine wpAny_pyIter_tuple hl1 ?_;refine yt (wpAny_runValue ?_);have hlS:l<↑s:=yx hol;have hh3:A.in1.in1.in1.handled=none:=by simp[hh]
    have hz:(s.heap.push (fresh led)).objs.size=↑s+1:=Heap.size_push ..;have hSf:↑s∉[(s.heap.push (fresh led)).objs.size,l]:=by
     rw[hz];simp only[zC,zD,or_false,not_or];exact⟨yi (Nat.lt_succ_self _),yh hlS⟩
    refine Lu ((Walks.tuple hh3 _ l (by rw[hz];exact yi (Nat.lt_succ_of_lt hlS)) items).toS) ↑s hSf zs hn hi hb (items.size-0) 0 _ nofun (yf _)
     ⟨⟨_,yw _ rfl,rfl,rfl⟩,(hl1.push _)⟩ ?hS0 ?hR
    case hS0=>
     exact SetOf_congr ((setObjOf_fresh (knd:=PySem.strKind prog w) led).setOf (yu _ hS) (by unfold scanBound;omega)) (fun _=>rfl) rfl
    case hR=>
     intro s' hm hS';obtain⟨h',g',d',tk',os'⟩:=s';have eg:g'=s.gens:=hm.gens;have ed:d'=s.drawn:=hm.drawn;have eo:os'=s.os:=hm.os;subst eg ed eo;refine yv (yv ⟨rfl,h',tk',rfl,hS',fun b o hb e=>?_⟩);refine hm.heap b o ?_ (yu _ (yu _ e));simp only[zC,zD,or_false,not_or];exact⟨yi hb,by rw[hz];exact yi (Nat.lt_succ_of_lt hb)⟩
   ·cases r₂ with
    | error e=>exact hr₂
    | ok fl₂=>
     cases fl₂ with
     | next=>exact hr₂.elim
     | brk=>exact hr₂.elim
     | cont=>exact hr₂.elim
     | ret r=>
      obtain⟨rfl,h',tk,rfl,hS',hk'⟩:=hr₂
      repeat (any_goals (first | assumption | wp_step))
      exact h _ _ hS' hk'
end
def GG (a:Addr) (n:Nat):HO:=.ext fun h=>∃o es ep t,h.get? a=some o/\o.ExactSet/\o.data=.set es ep t/\t.fits es.size=true/\es.size=n
section
variable {X:Cx}
def Kp (hc:X.calm=true):fJ X (.type "set") (fun xs H Q=>∃(a:Addr) (zs:List Str),xs=[.ref a]/\du X.K H a (zs.map V.str)/\zs.length<=1000/\∀p,H p=none->Q (.ref p) (upd H p (GG p (gs zs).length))):=by
 intro pins s σ H xs us Q I r h;obtain⟨a,zs,rfl,hq,hz,q⟩:=h;obtain⟨u,rfl,rx⟩:=vals1 r;cases rx;obtain⟨its,rv,p,_⟩:=I.tuple hq;have hl:zs.length=its.length:=by have:=rv.length;rw[za] at this;exact this
 refine G6 (zs:=zs) (I.ok.hd hc) p (fun i v hv=>?_) (by rw[ya,hl]) (by rw[ya];unfold scanBound;omega) fun h' tk hS hk=>?_
 ·have hv':its[i]?=some v:=by simpa using hv
  have hi:i<its.length:=(zw.mp hv').1;obtain⟨z,t,e1,e2⟩:=Lj rv hi;have:=(zw.mp hv').2;exact⟨z,t,e1,by rw[<-this,e2]⟩
 ·obtain⟨o,es,ep,t,ho,hex,hd,hel,hmem,hb,hf,hn⟩:=hS
  refine⟨.ref _,_,I.laid (t':=tk) (a:=↑s) (o:=GG ↑s (gs zs).length) (fun b ob e=>hk b ob (yx e) e) (zk _) ?_,rfl,q _ (I.bV.fresh (zk _))⟩;exact⟨⟨o,es,ep,t,ho,hex,hd,hf,hn⟩,⟨o,ho⟩,fun h1 h2 ⟨o,es,ep,t,e1,r⟩ kk=>⟨o,es,ep,t,kk o e1,r⟩⟩
def Kr:fJ X (.builtin "len") (fun xs H Q=>∃(p:Addr) (n:Nat),xs=[.ref p]/\H p=some (GG p n)/\n<=1000/\Q (.int n) H):=by
 intro pins s σ H xs us Q I r h;obtain⟨p,n,rfl,hp,hn,q⟩:=h;obtain⟨u,rfl,rx⟩:=vals1 r;cases rx;obtain⟨⟨o,es,ep,t,ho,hex,hd,hf,rfl⟩,_⟩:=(show cx X.prog X.w H s.heap p (GG p n) from I.bV p _ hp)
 exact call_len_set ho hex hd hf nofun ⟨.int _,H,I.tok _,⟨_,rfl⟩,q⟩
end
def OD:V->Bool
 | .bC=>true
 | .int _=>true
 | .str _=>true
 | _=>false
def Fd (h:OD x=true):mL x=true:=by cases x <;> first | rfl | cases h
def Py {x y:V} (a:OD x=true) (b:OD y=true):HI x y=decide (x=y):=by
 cases x <;> first | cases a;done | skip
 all_goals (cases y <;> first | rfl | exact DG.symm | exact DE.symm | cases b)
def Tc (K:yA) (H:Hp) (a b:Addr) (xs ys:List V):Prop:=(aI K H a xs/\aI K H b ys)\/(du K H a xs/\du K H b ys)
def SX (xs ys:List V):Prop:=xs=[]\/ys=[]\/(xs.all OD=true/\ys.all OD=true)
def Sw (K:yA):R2:=fun x y H Q=>∃a b xs ys,x=.ref a/\y=.ref b/\Tc K H a b xs ys/\SX xs ys/\Q (.bl (decide (xs=ys))) H
def Pu (K:yA):R2:=fun x y H Q=>∃a b xs ys,x=.ref a/\y=.ref b/\Tc K H a b xs ys/\SX xs ys/\Q (.bl (!decide (xs=ys))) H
def IE (r:Vals xs its) (h:j<its.length):∃x,xs[j]?=some x/\RelV x its[j]:=by
 have hl:=r.length;obtain⟨u,hu,ru⟩:=r.get (i:=j) (x:=xs[j]'nofun) (zb nofun);rw[zb h] at hu;cases hu;exact⟨_,zb nofun,ru⟩
section
variable {X:Cx}
def DC (r:Vals xs its) (r':Vals ys jts) (p:SX xs ys):∀j (h1:j<its.toArray.size) (h2:j<jts.toArray.size),SeqAt.EqAt A s its.toArray[j] jts.toArray[j] (decide (xs[j]?=ys[j]?)):=by
 intro j h1 h2;have h1':j<its.length:=by simpa using h1
 have h2':j<jts.length:=by simpa using h2
 obtain⟨x,ex,rx⟩:=IE r h1';obtain⟨y,ey,ry⟩:=IE r' h2';have l1:=r.length;have l2:=r'.length;have hp:OD x=true/\OD y=true:=by
  rcases p with e | e | ⟨q1,q2⟩
  ·rw[e] at ex;simp at ex
  ·rw[e] at ey;simp at ey
  ·exact⟨yo.mp q1 x (zB ex),yo.mp q2 y (zB ey)⟩
 have g1:its.toArray[j]=its[j]:=by simp
 have g2:jts.toArray[j]=jts[j]:=by simp
 have z:=MC (A:=A) (s:=s) rx ry (Fd hp.1) (Fd hp.2);rw[Py hp.1 hp.2] at z;have e:decide (xs[j]?=ys[j]?)=decide (x=y):=by rw[ex,ey,Bool.eq_iff_iff];simp
 rw[g1,g2,e];exact z
def all_eq {xs ys:List V} (h:xs.length=ys.length):((List.range xs.length).all fun j=>decide (xs[j]?=ys[j]?))=decide (xs=ys):=by
 rw[Bool.eq_iff_iff,yo,decide_eq_true_eq];constructor
 ·intro hh
  refine List.ext_getElem? fun j=>?_;rcases Nat.lt_or_ge j xs.length with hj | hj
  ·exact yd (hh j (List.mem_range.mpr hj))
  ·rw[List.getElem?_eq_none hj,List.getElem?_eq_none nofun]
 ·intro hh j _
  rw[hh];exact ze rfl
def Ds {xs ys:List V} (h:xs.length≠ys.length):decide (xs=ys)=false:=zd fun e=>h (by rw[e])
def Dc (hu:X.A.units+64<cLine):oO X (compareOp .Eq) (Sw X.K):=by
 intro pins s σ H x y v u Q I rx ry h;obtain⟨a,b,xs,ys,rfl,rfl,hs,pl,q⟩:=h;cases rx;cases ry;rcases hs with⟨ha,hb⟩ | ⟨ha,hb⟩
 ·obtain⟨its,r,p,_⟩:=I.list ha
  obtain⟨jts,r',p',_⟩:=I.list hb;have l1:=r.length;have l2:=r'.length
  by_cases hl:xs.length=ys.length
  ·have z:=SeqAt.RcAt.lists (A:=X.A) (s:=s) p.isList p'.isList (by rw[ya,ya];omega) nofun (DC r r' pl)
   rw[ya,<-l1,all_eq hl] at z;exact z _ _ _ _ ⟨.bl _,H,I,rfl,q⟩
  ·have z:=SeqAt.RcAt.lists_lengths (A:=X.A) (s:=s) p.isList p'.isList (by rw[ya,ya];simp;omega) nofun
   rw[Ds hl] at q;exact z _ _ _ _ ⟨.bl false,H,I,rfl,q⟩
 ·obtain⟨its,r,p,_⟩:=I.tuple ha
  obtain⟨jts,r',p',_⟩:=I.tuple hb;have l1:=r.length;have l2:=r'.length;have z:=SeqAt.RcAt.tuples (A:=X.A) (s:=s) p p' nofun (DC r r' pl);rw[ya,ya,<-l1,<-l2] at z
  by_cases hl:xs.length=ys.length
  ·have em:min xs.length ys.length=xs.length:=nofun
   rw[em,all_eq hl,hl,beq_self_eq_true,Bool.and_true] at z;exact z _ _ _ _ ⟨.bl _,H,I,rfl,q⟩
  ·rw[show(xs.length == ys.length)=false by simpa using hl,Bool.and_false] at z
   rw[Ds hl] at q;exact z _ _ _ _ ⟨.bl false,H,I,rfl,q⟩
def C9 (hu:X.A.units+64<cLine):oO X (compareOp .NotEq) (Pu X.K):=by
 intro pins s σ H x y v u Q I rx ry h;obtain⟨a,b,xs,ys,rfl,rfl,hs,pl,q⟩:=h;cases rx;cases ry;rcases hs with⟨ha,hb⟩ | ⟨ha,hb⟩
 ·obtain⟨its,r,p,_⟩:=I.list ha
  obtain⟨jts,r',p',_⟩:=I.list hb;have l1:=r.length;have l2:=r'.length
  by_cases hl:xs.length=ys.length
  ·have z:=SeqAt.RcNeAt.lists (A:=X.A) (s:=s) p.isList p'.isList (by rw[ya,ya];omega) nofun (DC r r' pl)
   rw[ya,<-l1,all_eq hl] at z;exact z _ _ _ _ ⟨.bl _,H,I,rfl,q⟩
  ·have z:=SeqAt.RcNeAt.lists_lengths (A:=X.A) (s:=s) p.isList p'.isList (by rw[ya,ya];simp;omega) nofun
   rw[Ds hl] at q;exact z _ _ _ _ ⟨.bl true,H,I,rfl,q⟩
 ·obtain⟨its,r,p,_⟩:=I.tuple ha
  obtain⟨jts,r',p',_⟩:=I.tuple hb;have l1:=r.length;have l2:=r'.length;have z:=SeqAt.RcNeAt.tuples (A:=X.A) (s:=s) p p' nofun (DC r r' pl);rw[ya,ya,<-l1,<-l2] at z
  by_cases hl:xs.length=ys.length
  ·have em:min xs.length ys.length=xs.length:=nofun
   rw[em,all_eq hl,hl,beq_self_eq_true,Bool.and_true] at z;exact z _ _ _ _ ⟨.bl _,H,I,rfl,q⟩
  ·rw[show(xs.length == ys.length)=false by simpa using hl,Bool.and_false] at z
   rw[Ds hl] at q;exact z _ _ _ _ ⟨.bl true,H,I,rfl,q⟩
def Oz (K:yA):V->Option Int->Option Int->Hp->VK->Prop:=fun x lo hi H Q=>∃a xs,x=.ref a/\du K H a xs/\(HT.fg xs.length 0 lo=0/\HT.fg xs.length xs.length hi=xs.length)/\Q (.ref a) H
def Nk:MV X (Oz X.K):=by
 intro pins s σ H x v vl vu lo hi sl Q I rx hs pl pu h;obtain⟨a,xs,rfl,hx,hw,q⟩:=h;cases rx;obtain⟨its,r,ht,hz⟩:=I.tuple hx;have hlen:its.toArray.size=xs.length:=by rw[ya];exact r.length.symm
 refine⟨"tuple",_,PyProof.Rows.slot_tuple_getitem.lookup,ht.typeIs,?_⟩;rw[<-hlen] at hw;obtain⟨os,hos,hcs,hds⟩:=id hs;have hTs:s.TypeIs (.ref sl) "slice":=⟨os,hos,hcs⟩
 unfold getItem
 try with_reducible refine wpAny_holding ?_
 first | refine yt (yv ?_) | skip
 refine yt (wpAny_sequenceKey ht.typeIs ∅ ?_);refine yt (wpAny_callSpecial?_slot (name:=Str.ofString "__getitem__") ht.typeIs PyProof.Rows.slot_tuple_getitem
  (wpAny_call_entry PyProof.Rows.slot_tuple_getitem ht.typeIs entry_tuple_getitem ?_ (args_tuple_getitem _ _)))
 show wpAny _ _ (Builtin.Tuple.tupleItemsOf (.ref a) >>= _) _ _ s;refine yt (tupleItemsOf_ ht ?_);refine yt (wpAny_typeOf hTs ?_);rw[if_pos ∅];refine yt (HT.kF hs pl pu ?_);show wpAny _ _ (if(((HT.fg its.toArray.size 0 lo:Nat):Int) == 0&&(1:Int) == 1&&(HT.fg its.toArray.size its.toArray.size hi-HT.fg its.toArray.size 0 lo) == its.toArray.size)=true then _ else _) _ _ s;rw[if_pos (by rw[hw.1,hw.2];simp)];unfold Builtin.Tuple.tupleIsExact;refine yt ?_
 repeat (any_goals (first | assumption | exact⟨_,rfl,yv ⟨.ref a,H,I,rfl,q⟩⟩ | refine yt (wpAny_typeOf ht.typeIs ?_) | wp_step))
def OA (K:yA):V->Option Int->Option Int->Hp->VK->Prop:=fun x lo hi H Q=>QT K x lo hi H Q\/Oz K x lo hi H Q
def Nl:MV X (OA X.K):=MV.or Pl Nk
def E9 (K:yA):V->List V->Hp->VK->Prop:=fun x vs H Q=>∃l b xs zs,x=.ref l/\vs=[.ref b]/\H l=some (.lst xs)/\H b=some (.tup zs)/\xs.length+zs.length<=sizeLine/\Q .bC (upd H l (.lst (xs++zs)))
def LL (K:yA):V->List V->Hp->VK->Prop:=fun x vs H Q=>IQ x vs H Q\/E9 K x vs H Q
def Ht:OQ X "list.extend" (E9 X.K):=by
 intro pins s σ H x vs v us Q I rx rv h;obtain⟨l,b,xs,zs,rfl,rfl,hH,hB,hz,q⟩:=h;cases rx;obtain⟨u,rfl,ru⟩:=rv.one;cases ru;obtain⟨z,its,n,r,hl,e⟩:=I.Mc hH;obtain⟨_,its2,r2,⟨oc,od,oda,osl⟩,ho,hoc,n2,hod⟩:=(show cx X.prog X.w H s.heap b (.tup zs) from I.bV b _ hB)
 have l1:=r.length;have l2:=r2.length;have hsz:its.toArray.size+its2.toArray.size<=sizeLine:=by rw[ya,ya];omega
 have hlong:¬(!its.toArray.isEmpty&&Builtin.List.listTooLong (its.toArray.size+its2.toArray.size))=true:=by
  rw[Fx hsz,Bool.and_false];exact zK
 dsimp only at hoc hod;subst hoc hod;refine wpAny_call_entry F.slot_list_extend ⟨_,e,rfl⟩ F.entry_list_extend ?_ (F.args_list_extend_2 _ _);show wpAny _ _ (Builtin.List.listExtendWith (.ref l) (.ref b) .none) _ _ s;unfold Builtin.List.listExtendWith;refine yt (wpAny_typeOf (T:="tuple") ⟨_,ho,rfl⟩ ?_);have ht:(Value.type "tuple"== Value.type "tuple")=true:=by rfl
 rw[if_pos (by rw[ht];simp)];refine yt (listItems_at ho rfl ?_);refine yt (listItems_at e rfl ?_);rw[if_neg hlong];refine yt (listUpdate_at e rfl ?_ (by rw[ya];omega) (by show(its.toArray++its2.toArray).size<=sizeLine+1;rw[Array.size_append];omega));refine yv ⟨_,rfl,?_⟩;refine⟨.bC,_,I.NT (its':=its++its2) hH e (by simp) (r.append r2) ?_,rfl,q⟩;rw[zg];omega
def Hu:OQ X "list.extend" (LL X.K):=by
 intro pins s σ H x vs v us Q I rx rv h;rcases h with h | h
 ·exact JY pins s σ H x vs v us Q I rx rv h
 ·exact Ht pins s σ H x vs v us Q I rx rv h
def Ic:fJ X (.builtin "len") (fun xs H Q=>∃p kvs,xs=[.ref p]/\H p=some (.dK kvs)/\Q (.int (kvs.length:Nat)) H):=by
 intro pins s σ H xs us Q I r h;obtain⟨p,kvs,rfl,hp,q⟩:=h;obtain⟨u,rfl,rx⟩:=vals1 r;cases rx;exact Rm I (.inl hp) fun t s' I'=>⟨.int _,H,I',⟨_,rfl⟩,q⟩
end
abbrev Sy (K:yA):List V->Hp->VK->Prop:=fun xs H Q=>∃p ys,xs=[.ref p]/\(aI K H p ys\/du K H p ys)/\Q (.int ys.length) H
abbrev SA (K:yA):List V->Hp->VK->Prop:=fun xs H Q=>∃(a:Addr) (bs:List Bool),xs=[.ref a]/\aI K H a (bs.map V.bl)/\Q (.bl (bs.any id)) H
abbrev QU:List V->Hp->VK->Prop:=fun xs H Q=>∃i,xs=[.int i]/\i.natAbs.log2<1920/\Q (.str (toString i)) H
abbrev Pw (K:yA):List V->Hp->VK->Prop:=fun xs H Q=>∃p ys,xs=[.ref p]/\((aI K H p ys/\∀l,H l=none->Q (.ref l) (upd H l (.tup ys)))\/(du K H p ys/\Q (.ref p) H))
abbrev QV (K:yA):List V->Hp->VK->Prop:=fun xs H Q=>∃p ys,xs=[.ref p]/\(aI K H p ys\/du K H p ys)/\∀l,H l=none->Q (.ref l) (upd H l (.lst ys))
def JN (lo:Int) (n:Nat):List Int:=(List.range n).map fun i=>lo+(i:Nat)
def Pa (ta:TA):TE:=fun σ H Q=>ta σ H fun vs H1=>∃i j:Int,vs=[.int i,.int j]/\(-(2^62)<=i/\i<2^62/\-(2^62)<=j/\j<2^62)/\(j-i).toNat<=1000000/\∀l,H1 l=none->Q (.ref l) (upd H1 l (.lst ((JN i (j-i).toNat).map V.int)))
theorem ID:∀{xs:List V} {us:List Value},xs.length=us.length->(∀(i:Nat) (x:V) (u:Value),xs[i]?=some x->us[i]?=some u->RelV x u)->Vals xs us
 | [],[],_,_=>.nil
 | x::xs,u::us,h,k=>.cons (k 0 x u rfl rfl) (ID (by simpa using h) fun i y v e e'=>k (i+1) y v (by simpa using e) (by simpa using e'))
 | [],_::_,h,_=>by simp at h
 | _::_,[],h,_=>by simp at h
section
variable {X:Cx}
def LZ (hc:X.calm=true) (hg0:Gl X "list") (hm0:X.mg "list"= none) (hg:Gl X "range") (hm:X.mg "range"= none) (ha:PA X [a,b] ta)
  (hs:starEach [a,b] X.env=[(false,eval a X.env),(false,eval b X.env)]<|>qe_) (hs2:starEach [b] X.env=[(false,eval b X.env)]<|>qe_)
  (hs1:starEach [.Call (.Name "range" p2) [a,b] [] pos2] X.env=[(false,eval (.Call (.Name "range" p2) [a,b] [] pos2) X.env)]<|>qe_) :
  PE X (.Call (.Name "list" p1) [.Call (.Name "range" p2) [a,b] [] pos2] [] pos1) (Pa ta):=by
 intro pins s σ H Q I h;refine wpAny_Call_Name_kw (ji I hg0 hm0 (by decide +kernel:bootBuiltins "list"= some (.type "list")) ?_ ∅ ∅);refine yL (Q:=_) ?_ hs1 rfl;rw[hs1];refine Calls.spliced_cons ?_;refine Call_ (ji I hg hm boot_range (yL (cQ (ha pos2 pins s σ H _ I h) fun us s1 ⟨vs,H1,I1,r1,q1⟩=>?_) (by rw[hs,hs2]) (by rw[hs2];rfl)));obtain⟨i,j,e,⟨q1,q2,q3,q4⟩,hz,q⟩:=q1;subst e;cases r1 with
 | cons r rr=>
  cases rr with
  | cons r' rr=>
   cases rr;obtain⟨t,rfl⟩:=r;obtain⟨t',rfl⟩:=r';refine call_range_2 ?_;refine Calls.spliced_nil ?_;have I2:Inv X pins σ H1 {s1 with heap:=s1.heap.push {cls:=.type "range",data:=.fields #[.int i t,.int j t',.int 1 s1.toks]},toks:=s1.toks+1}:=I1.kept fun b o e=>yu _ e;have hn:Builtin.Range.rangeSize i j 1=(((j-i).toNat:Nat):Int):=by rw[rangeSize_one];split <;> omega
   refine call_list_range (I2.ok.hd hc) (IsRange.new ..) (small_one q1 q2 q3 q4) hn (zL hz ∅) fun h' tk acc c hk hS hit=>?_;have rv:Vals ((JN i (j-i).toNat).map V.int) acc.toList:=by
    refine ID ?_ ?_
    ·have e1:acc.toList.length=(j-i).toNat:=by rw[Array.length_toList];exact hit.1
     rw[za,e1];unfold JN;simp
    ·intro k x u hx hu
     rw[Array.getElem?_toList] at hu;obtain⟨tk',rfl⟩:=hit.2 k u hu;have hk':k<(j-i).toNat:=by
      have:=(Array.getElem?_eq_some_iff.mp hu).1;rw[hit.1] at this;exact this
     unfold JN at hx;rw[zA,zJ,List.getElem?_range hk'] at hx;cases hx;exact⟨tk',by simp⟩
   have hl:H1 (s1.heap.push {cls:=.type "range",data:=.fields #[.int i t,.int j t',.int 1 s1.toks]}).objs.size=none:=I2.bV.fresh (zk _);refine⟨.ref _,_,I2.laid (t':=tk) hk (zk _) (show cx X.prog X.w _ h' _ (.lst ((JN i (j-i).toNat).map V.int)) from⟨?_,acc.toList,c,rv,?_⟩),rfl,q _ hl⟩
   ·rw[za]
    have sl:=yB;unfold JN;simp;omega
   ·simpa using hS
end
def GN:typeLookup (.type "zip") "__len__"= pure none:=by rw[typeLookup_type,builtinLookup_eq_fast];kernel_rfl
def Ez:typeLookup (.type "zip") "__length_hint__"= pure none:=by rw[typeLookup_type,builtinLookup_eq_fast];kernel_rfl
section
variable {prog:Program} {w:World} {A:Around} {E:Value->Shared->Prop} {s:Shared}
def vq (ho:s.heap.get? a=some o) (h:Q (some o) s):wpAny (model prog w) A (loadIfAlive a) Q E s:=
 fun Γ p _=>by
  unfold loadIfAlive;rw[Sem.wp_loadIfAlive,ho];exact h
abbrev Iv (h:Heap) (z TI TO T:Addr) (f1:Bool):Prop:=h.get? z=some {cls:=.type "zip",dict:=none,data:=.fields #[rawInt T,.bool f1,.bool false,.ref TI,.ref TO],slots:=#[]}
structure RH (t1 t2:Bool) (h:Heap) (z TI TO i1 i2 l1 l2:Addr) (k:Nat):Prop where
 z:∃T f1,Iv h z TI TO T f1/\(∃o,h.get? T=some o)/\T≠z/\T≠i1/\T≠i2
 ti:IsPair h TI (.ref i1) (.ref i2)
 to:∃o,h.get? TO=some o
 i1:dm t1 h i1 l1 k
 i2:dm t2 h i2 l2 k
def Fw {z TI TO T:Addr} {f1:Bool} {o:Obj} {Q:Bool->Shared->Prop} (hz:Iv s.heap z TI TO T f1) (hT:s.heap.get? T=some o)
  (hQ:∀h',Iv h' z TI TO T true->Heap.SameBut z s.heap h'->Q false {s with heap:=h'}):wpAny (model prog w) A (Builtin.SmallTypes.ownedTupleIsFree (.ref z)) Q E s:=by
 unfold Builtin.SmallTypes.ownedTupleIsFree;refine yt (wpAny_field hz rfl (x:=rawInt T) rfl ?_);show wpAny _ _ (loadIfAlive ((T:Int).toNat) >>= _) _ _ _;rw[Int.toNat_natCast];refine yt (vq hT ?_);show wpAny _ _ (field (.ref z) 1 >>= _) _ _ _;refine yt (wpAny_field hz rfl (x:=.bool f1) rfl ?_);cases f1 with
 | true=>exact yv (hQ s.heap hz ⟨rfl,fun _ _=>rfl⟩)
 | false=>
  show wpAny _ _ (setField (.ref z) 1 (.bool true) >>= _) _ _ _;exact yt (wpAny_setField_rec hz (by simp) fun g1 z1 q1=>yv (hQ g1 z1 q1))
def Jv {t1 t2:Bool} {z TI TO i1 i2 l1 l2:Addr} {k:Nat} {xs ys:Array Value} {x y:Value} {Q:Value->Shared->Prop} (D:KC z TI TO i1 i2) (L1:AR l1 z TO i1 i2) (L2:AR l2 z TO i1 i2)
  (S:RH t1 t2 s.heap z TI TO i1 i2 l1 l2 k) (hl1:fe t1 s.heap l1 xs) (hl2:fe t2 s.heap l2 ys) (hx:xs[k]?=some x) (hy:ys[k]?=some y)
  (hQ:∀h',RH t1 t2 h' z TI TO i1 i2 l1 l2 (k+1)->IsPair h' ↑s x y->sV z TO i1 i2 s.heap h'->Q (.ref ↑s) {s with heap:=h'}) :
  wpAny (model prog w) A (Builtin.«zip.__next__» ⟨[.ref z],[]⟩) (fun fin s'=>∃v,fin=.done (.ret v)/\Q v s') E s:=by
 obtain⟨⟨T,f1,hz,⟨o,hT⟩,n1,n2,n3⟩,hTI,⟨oT,hTO⟩,h1,h2⟩:=S;show wpAny _ _ (field (.ref z) 2 >>= _) _ _ _;refine yt (wpAny_field hz rfl (x:=.bool false) rfl ?_);show wpAny _ _ (field (.ref z) 3 >>= _) _ _ _;refine yt (wpAny_field hz rfl (x:=.ref TI) rfl (yt (wpAny_seqItems hTI rfl ?_)));show wpAny _ _ (Builtin.SmallTypes.ownedTupleIsFree (.ref z) >>= _) _ _ _;refine yt (Fw hz hT fun g1 z1 q1=>?_);simp only[Bool.false_eq_true,if_false];refine yt ?_;simp only[List.forIn_toArray,List.forIn_cons,List.forIn_nil];refine yt (yt (wpAny_holding ?_));show wpAny _ _ (Builtin.SmallTypes.nextOf (.ref i1) >>= _) _ _ _;refine yt (qV (h1.but q1 D.a3) (hl1.but q1 L1.a1) hx fun g2 p2 q2=>yv ?_);refine yv ?_;refine yt (yt (wpAny_holding ?_));show wpAny _ _ (Builtin.SmallTypes.nextOf (.ref i2) >>= _) _ _ _;refine yt (qV ((h2.but q1 D.a4).but q2 D.b1.symm) ((hl2.but q1 L2.a1).but q2 L2.a3) hy fun g3 p3 q3=>yv ?_);refine yv (yv ?_);have sz:g3.objs.size=↑s:=by rw[q3.1,q2.1,q1.1]
 have k3:∀c o,c≠z->c≠i1->c≠i2->s.heap.get? c=some o->g3.get? c=some o:=fun c o c1 c3 c4 e=>q3.extBut _ _ c4 (q2.extBut _ _ c3 (q1.extBut _ _ c1 e));show wpAny _ _ (newTuple [x,y] >>= _) _ _ _;refine yt (wpAny_newTuple ?_);refine yv ⟨_,rfl,?_⟩;have up:∀c o,g3.get? c=some o->(g3.push {cls:=.type "tuple",data:=.seq #[x,y]}).get? c=some o:=fun c o e=>yu _ e;have gp:(g3.push {cls:=.type "tuple",data:=.seq #[x,y]}).get? g3.objs.size=some {cls:=.type "tuple",data:=.seq #[x,y]}:=yw _ rfl;rw[sz] at gp;show Q (.ref g3.objs.size) _;rw[sz];refine hQ _ ⟨⟨T,true,up _ _ (q3.extBut _ _ D.a4.symm (q2.extBut _ _ D.a3.symm z1)),⟨o,up _ _ (k3 _ _ n1 n2 n3 hT)⟩,n1,n2,n3⟩,up _ _ (k3 _ _ D.a1 D.a6 D.a7 hTI),⟨oT,up _ _ (k3 _ _ D.a2 D.a8 D.a9 hTO)⟩,(p2.but q3 D.b1).at (up _),p3.at (up _)⟩ gp fun c o c1 c2 c3 c4 e=>up _ _ (k3 c o c1 c3 c4 e)
def Ju {t1 t2:Bool} {z TI TO i1 i2 l1 l2:Addr} {k:Nat} {xs:Array Value} {Q:Fin->Shared->Prop} (hh:A.handled=none) (D:KC z TI TO i1 i2) (L1:AR l1 z TO i1 i2)
  (S:RH t1 t2 s.heap z TI TO i1 i2 l1 l2 k) (hl1:fe t1 s.heap l1 xs) (hx:xs[k]?=none)
  (hE:∀h' e,sV z TO i1 i2 s.heap h'->(∃o,h'.get? e=some o/\o.cls=.type "StopIteration")->E (.ref e) {s with heap:=h'}) :
  wpAny (model prog w) A (Builtin.«zip.__next__» ⟨[.ref z],[]⟩) Q E s:=by
 obtain⟨⟨T,f1,hz,⟨o,hT⟩,n1,n2,n3⟩,hTI,⟨oT,hTO⟩,h1,h2⟩:=S;show wpAny _ _ (field (.ref z) 2 >>= _) _ _ _;refine yt (wpAny_field hz rfl (x:=.bool false) rfl ?_);show wpAny _ _ (field (.ref z) 3 >>= _) _ _ _;refine yt (wpAny_field hz rfl (x:=.ref TI) rfl (yt (wpAny_seqItems hTI rfl ?_)));show wpAny _ _ (Builtin.SmallTypes.ownedTupleIsFree (.ref z) >>= _) _ _ _;refine yt (Fw hz hT fun g1 z1 q1=>?_);simp only[Bool.false_eq_true,if_false];refine yt ?_;simp only[List.forIn_toArray,List.forIn_cons,List.forIn_nil];refine yt (yt (wpAny_holding ?_));show wpAny _ _ (Builtin.SmallTypes.nextOf (.ref i1) >>= _) _ _ _;refine yt (CK hh (h1.but q1 D.a3) (hl1.but q1 L1.a1) hx fun g2 e q2 he=>?_);exact hE g2 e (fun c o c1 c2 c3 c4 x=>q2 _ _ c3 (q1.extBut _ _ c1 x)) he
def KA (t1 t2:Bool) (h:Heap) (z TI TO i1 i2 l1 l2:Addr) (k:Nat):Prop:=(k=0/\M7 t1 t2 h z TI TO i1 i2 l1 l2 0 .none)\/RH t1 t2 h z TI TO i1 i2 l1 l2 k
def KA.type {t1 t2:Bool} {z TI TO i1 i2 l1 l2:Addr} {k:Nat} (S:KA t1 t2 s.heap z TI TO i1 i2 l1 l2 k):s.TypeIs (.ref z) "zip":=by
 rcases S with⟨_,S⟩ | S
 ·exact⟨_,S.z,rfl⟩
 ·obtain⟨_,_,e,_⟩:=S.z;exact⟨_,e,rfl⟩
theorem KA.at {t1 t2:Bool} {h h':Heap} {z TI TO i1 i2 l1 l2:Addr} {k:Nat} (S:KA t1 t2 h z TI TO i1 i2 l1 l2 k) {B:Addr} (hk:∀c o,c≠B->h.get? c=some o->h'.get? c=some o) (hB:∃o,h'.get? B=some o) (nB:B∉[z,TI,TO,i1,i2]):KA t1 t2 h' z TI TO i1 i2 l1 l2 k:=by
 simp only[zC,zD,or_false,not_or] at nB;obtain⟨b1,b2,b3,b4,b5⟩:=nB;rcases S with⟨e,S⟩ | S
 ·exact .inl ⟨e,hk _ _ (Ne.symm b1) S.z,hk _ _ (Ne.symm b2) S.ti,(let ⟨x,y,q⟩:=S.to;⟨x,y,hk _ _ (Ne.symm b3) q⟩),S.i1.at fun o=>hk _ o (Ne.symm b4),S.i2.at fun o=>hk _ o (Ne.symm b5)⟩
 ·obtain⟨T,f1,z1,⟨o,hT⟩,n1,n2,n3⟩:=S.z
  refine .inr ⟨⟨T,f1,hk _ _ (Ne.symm b1) z1,?_,n1,n2,n3⟩,hk _ _ (Ne.symm b2) S.ti,(let ⟨x,q⟩:=S.to;⟨x,hk _ _ (Ne.symm b3) q⟩),S.i1.at fun o=>hk _ o (Ne.symm b4),S.i2.at fun o=>hk _ o (Ne.symm b5)⟩
  by_cases e:T=B
  ·rw[e];exact hB
  ·exact⟨o,hk _ _ e hT⟩
def KA.obj {t1 t2:Bool} {h:Heap} {z TI TO i1 i2 l1 l2:Addr} {k:Nat} (S:KA t1 t2 h z TI TO i1 i2 l1 l2 k):∀b∈[z,TI,TO,i1,i2],∃o,h.get? b=some o:=by
 intro b hb;simp only[zC,zD,or_false] at hb;rcases S with⟨e,S⟩ | S
 ·rcases hb with rfl | rfl | rfl | rfl | rfl
  ·exact⟨_,S.z⟩
  ·exact⟨_,S.ti⟩
  ·exact let ⟨x,y,q⟩:=S.to;⟨_,q⟩
  ·exact let ⟨o,e,_⟩:=S.i1.get;⟨o,e⟩
  ·exact let ⟨o,e,_⟩:=S.i2.get;⟨o,e⟩
 ·rcases hb with rfl | rfl | rfl | rfl | rfl
  ·obtain⟨_,_,e,_⟩:=S.z;exact⟨_,e⟩
  ·exact⟨_,S.ti⟩
  ·exact S.to
  ·exact let ⟨o,e,_⟩:=S.i1.get;⟨o,e⟩
  ·exact let ⟨o,e,_⟩:=S.i2.get;⟨o,e⟩
def Jt {t1 t2:Bool} {z TI TO i1 i2 l1 l2:Addr} {k:Nat} {xs ys:Array Value} {x y:Value} {Q:Option Value->Shared->Prop} (D:KC z TI TO i1 i2) (L1:AR l1 z TO i1 i2) (L2:AR l2 z TO i1 i2)
  (S:KA t1 t2 s.heap z TI TO i1 i2 l1 l2 k) (hl1:fe t1 s.heap l1 xs) (hl2:fe t2 s.heap l2 ys) (hx:xs[k]?=some x) (hy:ys[k]?=some y)
  (hQ:∀h',KA t1 t2 h' z TI TO i1 i2 l1 l2 (k+1)->IsPair h' ↑s x y->sV z TO i1 i2 s.heap h'->Q (some (.ref ↑s)) {s with heap:=h'}) :
  wpAny (model prog w) A (pyNext (.ref z)) Q E s:=by
 have ob:=S.obj;have lt:∀b∈[z,TI,TO,i1,i2],↑s≠b:=fun b hb e=>by
  obtain⟨o,ho⟩:=ob b hb;rw[<-e] at ho;exact absurd (yx ho) (ye _)
 rcases S with⟨e,S⟩ | S
 ·subst e
  refine EA D L1 L2 S hl1 hl2 hx hy fun h' a1 a2 a3=>hQ h' (.inr ⟨⟨_,false,a1.z,⟨_,a2⟩,lt z (by simp),lt i1 (by simp),lt i2 (by simp)⟩,a1.ti,(let ⟨x,y,q⟩:=a1.to;⟨_,q⟩),a1.i1,a1.i2⟩) a2 a3
 ·have hT:s.TypeIs (.ref z) "zip":=by obtain⟨_,_,e,_⟩:=S.z;exact⟨_,e,rfl⟩
  unfold pyNext;exact yt (wpAny_attempt (wpAny_callSpecial?_slot (name:=Str.ofString "__next__") hT F.slot_zip_next (wpAny_call_entry F.slot_zip_next hT F.entry_zip_next (Jv D L1 L2 S hl1 hl2 hx hy fun h' a1 a2 a3=>yv (hQ h' (.inr a1) a2 a3)) (F.args_zip_next_1 _))))
def Js {t1 t2:Bool} {z TI TO i1 i2 l1 l2:Addr} {k:Nat} {xs ys:Array Value} {Q:Option Value->Shared->Prop} (hh:A.handled=none) (D:KC z TI TO i1 i2) (L1:AR l1 z TO i1 i2) (L2:AR l2 z TO i1 i2)
  (S:KA t1 t2 s.heap z TI TO i1 i2 l1 l2 k) (hl1:fe t1 s.heap l1 xs) (hl2:fe t2 s.heap l2 ys) (hx:xs[k]?=none)
  (hQ:∀h',sV z TO i1 i2 s.heap h'->Q none {s with heap:=h'}):wpAny (model prog w) A (pyNext (.ref z)) Q E s:=by
 rcases S with⟨e,S⟩ | S
 ·subst e
  exact Ey hh D L1 L2 S hl1 hl2 (.inl hx) hQ
 ·have hT:s.TypeIs (.ref z) "zip":=by obtain⟨_,_,e,_⟩:=S.z;exact⟨_,e,rfl⟩
  unfold pyNext;refine yt (wpAny_attempt (wpAny_callSpecial?_slot (name:=Str.ofString "__next__") hT F.slot_zip_next (wpAny_call_entry F.slot_zip_next hT F.entry_zip_next (Ju hh D L1 S hl1 hx fun h' e hk he=>?_) (F.args_zip_next_1 _))));obtain⟨o,ho,hc⟩:=he;exact yt (wpAny_isInstance (T:="StopIteration") (b:=true) ⟨o,ho,hc⟩ isSubtype_stop (yv (hQ _ hk)))
end
def Pairs (H:Hp) (xs ys us:List V) (k:Nat):Prop:=us.length=k/\∀(j:Nat) (x y:V),j<k->xs[j]?=some x->ys[j]?=some y->∃q,us[j]?=some (.ref q)/\H q=some (.tup [x,y])
def au.Ov {t:Bool} {K:yA} {H H':Hp} {a:Addr} {xs:List V} (e:au H H') (h:BK t K H a xs):BK t K H' a xs:=by
 cases t
 ·exact e.seq h
 ·exact e.tup h
abbrev Jp (h:Heap) (S:Addr) (acc:Array Value) (c:Nat):Prop:=h.get? S=some {cls:=.type "list",dict:=none,data:=.seq acc c,slots:=#[]}
section
variable {X:Cx} {pins:List (Addr×Obj)} {σ:St}
def K2 {A:Around} {R:Result->Shared->Prop} {t1 t2:Bool} {a b z TI TO i1 i2 S:Addr} {xs ys:List V} {res:Value} (hh:A.handled=none) (D:KC z TI TO i1 i2) (L1:AR a z TO i1 i2) (L2:AR b z TO i1 i2) (hl:xs.length=ys.length) (hz:xs.length<=sizeLine) (nS:S∉[z,TI,TO,i1,i2]) :
  ∀(n k:Nat) (s:Shared) (H:Hp) (acc:Array Value) (c:Nat) (us:List V),xs.length-k=n->k<=xs.length->Inv X pins σ H s->(∀b∈[z,TI,TO,i1,i2,S],qQ X pins H b)->KA t1 t2 s.heap z TI TO i1 i2 a b k->BK t1 X.K H a xs->BK t2 X.K H b ys->
  Jp s.heap S acc c->Vals us acc.toList->Pairs H xs ys us k->
  (∀(s':Shared) (H':Hp) (us':List V) (acc':Array Value) (c':Nat),Inv X pins σ H' s'->qQ X pins H' S->au H H'->Jp s'.heap S acc' c'->Vals us' acc'.toList->Pairs H' xs ys us' xs.length->R (.ok (.ret res)) s')->
  codeAny (model X.prog X.w) A (.builtin "list.extend.loop" ⟨[.ref S,.ref z,res],[]⟩) R s:=by
 intro n
 induction n with
 | zero=>
  intro k s H acc c us hk hi I hf S0 q1 q2 hS rv pr hR;have e:k=xs.length:=nofun
  subst e;obtain⟨its,rx,p1,_⟩:=I.sq q1;obtain⟨jts,ry,p2,_⟩:=I.sq q2;refine codeAny_builtin F.entry_extend_loop ?_;rw[Around.under_plainId F.plain_extend_loop _];show wpAny _ A.in1 (pyNext (.ref z) >>= _) _ _ s;have hl:=rx.length;refine yt (Js (A:=A.in1) hh D L1 L2 S0 p1 p2 (by simp;omega) fun h' hk'=>?_);have kk:∀b u,b∉[z,TI,TO,i1,i2,S]->s.heap.get? b=some u->h'.get? b=some u:=fun b u hb e=>hk' b u (fun z=>hb (by simp[z])) (fun z=>hb (by simp[z])) (fun z=>hb (by simp[z])) (fun z=>hb (by simp[z])) e;have kS:Jp h' S acc c:=hk' S _ (fun z=>nS (by simp[z])) (fun z=>nS (by simp[z])) (fun z=>nS (by simp[z])) (fun z=>nS (by simp[z])) hS;exact yv (hR _ H us acc c (I.turns (t':=s.toks) hf kk) (hf S (by simp)) (fun _ _ e=>e) kS rv pr)
 | succ n ih=>
  intro k s H acc c us hk hi I hf S0 q1 q2 hS rv pr hR;have hlt:k<xs.length:=nofun
  obtain⟨its,rx,p1,_⟩:=I.sq q1;obtain⟨jts,ry,p2,_⟩:=I.sq q2;obtain⟨u,hu,ru⟩:=rx.get (zb hlt);obtain⟨u',hu',ru'⟩:=ry.get (zb (show k<ys.length by omega));refine codeAny_builtin F.entry_extend_loop ?_;rw[Around.under_plainId F.plain_extend_loop _];show wpAny _ A.in1 (pyNext (.ref z) >>= _) _ _ s;have ob:=S0.obj;have lt:∀b∈[z,TI,TO,i1,i2,S],b≠↑s:=fun b hb e=>by
   obtain⟨o,ho⟩:∃o,s.heap.get? b=some o:=by
    rcases zF.mp (show b∈[z,TI,TO,i1,i2]++[S] from hb) with z' | z'
    ·exact ob b z'
    ·rw[zy.mp z'];exact⟨_,hS⟩
   rw[e] at ho;exact absurd (yx ho) (ye _)
  refine yt (Jt (A:=A.in1) D L1 L2 S0 p1 p2 (x:=u) (y:=u') (by simpa using hu) (by simpa using hu') fun h' S1 hT hk'=>?_);have kS:Jp h' S acc c:=hk' S _ (fun z=>nS (by simp[z])) (fun z=>nS (by simp[z])) (fun z=>nS (by simp[z])) (fun z=>nS (by simp[z])) hS;have az:acc.size=k:=by rw[<-Array.length_toList,<-rv.length];exact pr.1
  show wpAny _ A.in1 (updateSeq S (·.push (.ref ↑s)) >>= _) _ _ _;refine yt ?_;have oth:∀b o,b≠S->h'.get? b=some o->(h'.update S (Obj.mapSeq (·.push (.ref ↑s)))).get? b=some o:=fun b o hb e=>(yy _ _ (Ne.symm hb)).trans e;have S2:=yz (Obj.mapSeq (·.push (Value.ref ↑s))) kS rfl;have hn:H ↑s=none:=I.bV.fresh (zk _);have hT2:=oth _ _ (Ne.symm (lt S (by simp))) hT;have I2:Inv X pins σ (upd H ↑s (.tup [xs[k],ys[k]])) {s with heap:=h'.update S (Obj.mapSeq (·.push (.ref ↑s))),toks:=s.toks}:=
   I.w9 (t':=s.toks) hf (zk _) (fun b o hb e=>oth b o (fun z=>hb (by simp[z])) (hk' b o (fun z=>hb (by simp[z])) (fun z=>hb (by simp[z])) (fun z=>hb (by simp[z])) (fun z=>hb (by simp[z])) e))
    ⟨by show 2<=sizeLine;decide,[u,u'],.cons ru (.cons ru' .nil),⟨_,hT2,rfl,_,rfl⟩⟩
  have s1:au H (upd H ↑s (.tup [xs[k],ys[k]])):=aV hn;refine wpAny_updateSeq kS rfl (yv ⟨plainId_quiet F.plain_extend_loop _,ih (k+1) _ (upd H ↑s (.tup [xs[k],ys[k]])) (acc.push (.ref ↑s)) _ (us++[.ref ↑s]) nofun hlt I2 (fun b hb=>?_) ?_ (s1.Ov q1) (s1.Ov q2) S2 ?_ ?_ ?_⟩)
   (by rw[az];omega) (by show(acc.push _).size<=sizeLine+1;rw[Array.size_push,az];omega)
  ·obtain⟨f0,f1,f2,f3,f4,f5⟩:=hf b hb
   exact⟨by rw[aD (lt b hb)];exact f0,f1,f2,f3,f4,f5⟩
  ·exact S1.at (B:=S) oth ⟨_,S2⟩ nS
  ·rw[Array.toList_push]
   exact Vals.append rv (.cons rfl .nil)
  ·refine⟨by rw[zg,pr.1];rfl,fun j x y hj hx hy=>?_⟩
   rcases Nat.lt_or_ge j k with z' | z'
   ·obtain⟨q,e1,e2⟩:=pr.2 j x y z' hx hy
    exact⟨q,by rw[List.getElem?_append_left (by rw[pr.1];exact z')];exact e1,s1 _ _ e2⟩
   ·have e:j=k:=nofun
    subst e;rw[zb hlt] at hx;rw[zb (show j<ys.length by omega)] at hy;cases hx;cases hy;exact⟨↑s,by rw[zZ (by rw[pr.1];exact zk _),pr.1,Nat.sub_self];rfl,aC⟩
  ·exact fun s' H' us' acc' c' I' f' sm l' v' p'=>hR s' H' us' acc' c' I' f' (s1.trans sm) l' v' p'
def Bz {A:Around} {E:Value->Shared->Prop} {s:Shared} {H:Hp} {Q:Value->Shared->Prop} {t1 t2:Bool} {a b z TI TO i1 i2:Addr} {xs ys:List V} (hh:A.handled=none) (D:KC z TI TO i1 i2) (L1:AR a z TO i1 i2) (L2:AR b z TO i1 i2) (hl:xs.length=ys.length) (hz:xs.length<=sizeLine)
  (I:Inv X pins σ H s) (hf:∀b∈[z,TI,TO,i1,i2],qQ X pins H b) (Z0:M7 t1 t2 s.heap z TI TO i1 i2 a b 0 .none) (q1:BK t1 X.K H a xs) (q2:BK t2 X.K H b ys)
  (hQ:∀(s':Shared) (H':Hp) (us':List V) (l:Addr),Inv X pins σ H' s'->H l=none->au H H'->H' l=some (.lst us')->Pairs H' xs ys us' xs.length->Q (.ref l) s') :
  wpAny (model X.prog X.w) A (call (.type "list") [.ref z]) Q E s:=by
 have S0:KA t1 t2 s.heap z TI TO i1 i2 a b 0:=.inl ⟨rfl,Z0⟩;have nS:↑s∉[z,TI,TO,i1,i2]:=fun hb=>by
  obtain⟨o,ho⟩:=S0.obj _ hb;exact absurd (yx ho) (ye _)
 refine callType_codes (Q₁:=fun obj s₁=>obj=.ref ↑s/\s₁={s with heap:=s.heap.push {cls:=.type "list",data:=.seq #[]}}) F.called_list (F.typeCall_list_1 _) F.entry_list_init
  (code_list_new _ ⟨rfl,rfl⟩) fun obj s₁ h₁=>?_
 obtain⟨rfl,rfl⟩:=h₁;have hS:(s.heap.push {cls:=.type "list",data:=.seq #[]}).get? ↑s=some {cls:=.type "list",data:=.seq #[]}:=yw _ rfl;refine⟨⟨_,hS,rfl⟩,F.args_list_init_2 _ _,?_⟩;have kp:∀b o,s.heap.get? b=some o->(s.heap.push {cls:=.type "list",data:=.seq #[]}).get? b=some o:=fun b o e=>yu _ e;have fS:qQ X pins H ↑s:=I.vZ (zk _) (I.bV.fresh (zk _));have hf6:∀b∈[z,TI,TO,i1,i2,↑s],qQ X pins H b:=fun b hb=>by
  rcases zF.mp (show b∈[z,TI,TO,i1,i2]++[↑s] from hb) with z' | z'
  ·exact hf b z'
  ·rw[zy.mp z'];exact fS
 have S1:KA t1 t2 (s.heap.push {cls:=.type "list",data:=.seq #[]}) z TI TO i1 i2 a b 0:=S0.at (B:=↑s) (fun c o _ e=>kp c o e) ⟨_,hS⟩ nS;have I1:Inv X pins σ H {s with heap:=s.heap.push {cls:=.type "list",data:=.seq #[]}}:=I.kept (t':=s.toks) kp;have zz:IsZip (s.heap.push {cls:=.type "list",data:=.seq #[]}) z TI TO .none:=kp _ _ Z0.z;generalize hS0:↑s=S at hS nS fS hf6 ⊢;have s0S:X.s₀.heap.objs.size<=S:=by rw[<-hS0];exact I.sz
 have lo:↑s<=S:=Nat.le_of_eq hS0;clear kp;generalize (s.heap.push {cls:=.type "list",data:=.seq #[]}:Heap)=h1 at hS S1 I1 zz;show wpAny _ A.in1.in1 (do let old <-Builtin.List.listItems (.ref S);Builtin.List.listUpdate (.ref S) (fun _=>#[]);letGo old.toList.reverse;Builtin.List.listExtendWith (.ref S) (.ref z) .none) _ _ _;refine yt ?_;unfold Builtin.List.listItems;refine yt (wpAny_seqItems hS rfl (yv ?_));show wpAny _ A.in1.in1 (updateSeq S (fun _=>#[]) >>= fun _=>letGo (#[]:Array Value).toList.reverse >>= fun _=>Builtin.List.listExtendWith (.ref S) (.ref z) .none) _ _ _;refine yt (wpAny_updateSeq hS rfl ?_);have hS2:=yz (Obj.mapSeq (fun _=>(#[]:Array Value))) hS rfl;have oth:∀b o,b≠S->h1.get? b=some o->(h1.update S (Obj.mapSeq (fun _=>(#[]:Array Value)))).get? b=some o:=
  fun b o hb e=>(yy _ _ (Ne.symm hb)).trans e
 refine yt (wpAny_letGo ?_);have hSI:S≠z:=fun e=>nS (by rw[e];simp);replace zz:=oth _ _ hSI.symm zz;have S2:=S1.at (B:=S) oth ⟨_,hS2⟩ nS;have I2:=I1.turns (t':=s.toks) (ch:=[S]) (fun b hb=>by rw[zy.mp hb];exact fS) (fun b o hb e=>oth b o (fun z=>hb (by simp[z])) e);clear oth S1 I1 hS;generalize (h1.update S (Obj.mapSeq (fun _=>(#[]:Array Value))):Heap)=h2 at hS2 S2 I2 zz;dsimp only at I2 ⊢;unfold Builtin.List.listExtendWith;have hT:Shared.TypeIs {s with heap:=h2,toks:=s.toks} (.ref z) "zip":=S2.type (s:={s with heap:=h2,toks:=s.toks});refine yt (wpAny_typeOf hT ?_);have e1:Builtin.List.listSameRef (.ref S) (.ref z)=false:=by simp[Builtin.List.listSameRef,hSI]
 have e2:(Value.type "zip"== Value.type "list")=false:=by decide
 have e3:(Value.type "zip"== Value.type "tuple")=false:=by decide
 simp only[e1,e2,e3,Bool.or_false,Bool.false_eq_true,if_false];refine yt (wpAny_pyIter_zip (s:={s with heap:=h2,toks:=s.toks}) zz ?_);refine yt (wpAny_holding ?_);unfold Builtin.List.listLengthHint;refine yt (wpAny_specialOf hT GN ?_);show wpAny _ A.in1.in1 (specialOf (Value.ref z) (Str.ofString "__length_hint__") >>= _) _ _ _;refine yt (wpAny_specialOf hT Ez ?_);refine yv ?_;show wpAny _ A.in1.in1 (rule "list.extend.makes-room" >>= fun _=>Builtin.List.listTouch (.ref S) >>= fun _=>
  again (.builtin "list.extend.loop" ⟨[.ref S,.ref z,.none],[]⟩)) _ _ _
 refine yt (wpAny_rule ?_);refine yt ?_;show wpAny _ A.in1.in1 (updateSeq S (·.push .none) >>= fun _=>updateSeq S (·.pop)) _ _ _;refine yt (wpAny_updateSeq hS2 rfl ?_);have hS3:=yz (Obj.mapSeq (·.push Value.none)) hS2 rfl;refine wpAny_updateSeq (hz:=by seq_fits) hS3 rfl ?_;have hS4:=yz (Obj.mapSeq (·.pop)) hS3 rfl;have oth:∀b o,b≠S->h2.get? b=some o->((h2.update S (Obj.mapSeq (·.push Value.none))).update S (Obj.mapSeq (·.pop))).get? b=some o:=
  fun b o hb e=>(yy _ _ (Ne.symm hb)).trans ((yy _ _ (Ne.symm hb)).trans e)
 have S4:=S2.at (B:=S) oth ⟨_,hS4⟩ nS;have I4:=I2.turns (t':=s.toks) (ch:=[S]) (fun b hb=>by rw[zy.mp hb];exact fS) (fun b o hb e=>oth b o (fun z=>hb (by simp[z])) e);refine yv ⟨plainId_quiet F.plain_extend_loop _,K2 (X:=X) (pins:=pins) (σ:=σ) (A:=A.in1) hh D L1 L2 hl hz nS xs.length 0 _ H _ _ [] rfl (yf _) I4 hf6 S4 q1 q2 hS4 .nil ⟨rfl,fun j x y hj=>nofun⟩ fun s' H' us' acc' c' I' f' sm l' v' p'=>?_⟩;refine⟨rfl,?_⟩;obtain⟨f0,f1,f2,f3,f4,f5⟩:=f';have I5:Inv X pins σ (upd H' S (.lst us')) s':=I'.QF f0 (by
  cases q:X.s₀.heap.get? S with
  | none=>rfl
  | some o=>exact absurd (yx q) (Nat.not_lt.mpr s0S)) f1 f4 f5 ⟨by rw[p'.1];exact hz,acc'.toList,c',v',l'⟩
 refine hQ s' _ us' S I5 fS.1 (sm.trans (aV f0)) aC ⟨p'.1,fun j x y hj hx hy=>?_⟩;obtain⟨q,e1,e2⟩:=p'.2 j x y hj hx hy;exact⟨q,e1,aV f0 _ _ e2⟩
def O9 (K:yA) (ta:TA):TE:=fun σ H Q=>ta σ H fun vs H1=>∃t1 t2 a b xs ys,vs=[.ref a,.ref b]/\BK t1 K H1 a xs/\BK t2 K H1 b ys/\xs.length=ys.length/\∀l H2 us,au H1 H2->H1 l=none->H2 l=some (.lst us)->Pairs H2 xs ys us xs.length->Q (.ref l) H2
def LY (hc:X.calm=true) (hg0:Gl X "list") (hm0:X.mg "list"= none) (hg:Gl X "zip") (hm:X.mg "zip"= none) (ha:PA X [a,b] ta)
  (hs:starEach [a,b] X.env=[(false,eval a X.env),(false,eval b X.env)]<|>qe_) (hs2:starEach [b] X.env=[(false,eval b X.env)]<|>qe_)
  (hs1:starEach [.Call (.Name "zip" p2) [a,b] [] pos2] X.env=[(false,eval (.Call (.Name "zip" p2) [a,b] [] pos2) X.env)]<|>qe_) :
  PE X (.Call (.Name "list" p1) [.Call (.Name "zip" p2) [a,b] [] pos2] [] pos1) (O9 X.K ta):=by
 intro pins s σ H Q I h;refine wpAny_Call_Name_kw (ji I hg0 hm0 (by decide +kernel:bootBuiltins "list"= some (.type "list")) ?_ ∅ ∅);refine yL (Q:=_) ?_ hs1 rfl;rw[hs1];refine Calls.spliced_cons ?_;refine Call_ (ji I hg hm MN (yL (cQ (ha pos2 pins s σ H _ I h) fun us s1 ⟨vs,H1,I1,r1,q1⟩=>?_) (by rw[hs,hs2]) (by rw[hs2];rfl)));obtain⟨t1,t2,a,b,xs,ys,e,hq,hq',hl,q⟩:=q1;subst e;cases r1 with
 | cons r rr=>
  cases rr with
  | cons r' rr=>
   cases rr;cases r;cases r';obtain⟨its,rv,pl,hz⟩:=I1.sq hq;obtain⟨jts,rv',pl',hz'⟩:=I1.sq hq';have la:=pl.lt;have lb:=pl'.lt;refine EB pl pl' fun g S hk=>?_;refine Calls.spliced_nil ?_;have I2:Inv X pins σ H1 {s1 with heap:=g}:=I1.kept (t':=s1.toks) hk;have D:KC (↑s1+4) (↑s1+2) (↑s1+3) ↑s1 (↑s1+1):=by
    constructor <;> (show _≠(_:Nat)) <;> omega
   have L:∀c,c<↑s1->AR c (↑s1+4) (↑s1+3) ↑s1 (↑s1+1):=fun c hc=>by
    constructor <;> (show _≠(_:Nat)) <;> omega
   refine Bz (I2.ok.hd hc) D (L a la) (L b lb) hl hz I2 (fun c hc=>?_) S hq hq' fun s' H' us' l I' hn sm e pr=>⟨.ref l,H',I',rfl,q l H' us' sm hn e pr⟩
   have hb':↑s1<=c:=by
    simp only[zC,zD,or_false] at hc;rcases hc with e | e | e | e | e <;> (subst e;first | exact Nat.le_add_right _ _ | exact zk _)
   exact I1.vZ hb' (I1.bV.fresh hb')
end
end L2
namespace Sc
open PySem L2 Lm
noncomputable def mixed (c k:Int):Int:=(c%2305843009213693951+1)*(k*k+48271)*40692%2147483399
def dj (h0:0<=i) (h1:i<2^n):Sz n i:=by
 unfold Sz;have e:((2^n:Nat):Int)=(2:Int)^n:=by simp
 rw[<-e] at h1;omega
def Qa (h1:48<=c) (h2:c<=57):c∈("0123456789": Str).cps.toList:=by
 have:c=48\/c=49\/c=50\/c=51\/c=52\/c=53\/c=54\/c=55\/c=56\/c=57:=nofun
 rcases this with rfl | rfl | rfl | rfl | rfl | rfl | rfl | rfl | rfl | rfl <;> decide
noncomputable def iF (x:Int×Int):Str:=if x.2=1 then dec x.1 else dec x.1 ++"/" ++ dec x.2
abbrev Item:=Option (Int×Int)×(Int×Int)
noncomputable def qF:Item->Str
 | (none,x)=> "r:" ++ iF x
 | (some q,x)=>dec q.1 ++":" ++ dec q.2 ++":" ++ iF x
def M8 (x:Int×Int):Prop:=Rd x/\0<x.1/\x.1<10000/\x.2<10000
def MW (q:Int×Int):Prop:=-100<q.1/\q.1<100/\-100<q.2/\q.2<100/\(q.2-7*q.1)%12=0
def KL (it:Item):Prop:=M8 it.2/\∀q,it.1=some q->MW q
def fY (h1:c≠45) (h2:¬(48<=c/\c<=57)):c∉(dec n).cps.toList:=by
 intro z
 by_cases h0:0<=n
 ·obtain⟨m,rfl⟩:=yK h0
  exact h2 (kR z)
 ·obtain⟨m,em⟩:∃m:Nat,-n=(m:Int):=⟨(-n).toNat,nofun⟩
  rw[wQ nofun,em,cA] at z;rcases zF.mp z with z | z
  ·have e:("-": Str).cps.toList=[45]:=rfl
   rw[e] at z;exact h1 (zy.mp z)
  ·exact h2 (kR z)
def B8 (h:M8 x):58∉(iF x).cps.toList:=by
 unfold iF;split
 ·exact fY ∅ ∅
 ·rw[cA,cA]
  intro z;rcases zF.mp z with z | z
  ·rcases zF.mp z with z | z
   ·exact fY ∅ ∅ z
   ·have e:("/": Str).cps.toList=[47]:=rfl
    rw[e] at z;exact absurd (zy.mp z) ∅
  ·exact fY ∅ ∅ z
def F6 (h0:0<=n) (h:n<10000):(dec n).length<=4:=by
 obtain⟨m,rfl⟩:=yK h0;exact Cp ∅ nofun
abbrev lY (x:Int×Int):HO:=.tup [.int x.1,.int x.2]
inductive Iu (H:Hp):V->Option (Int×Int)->Prop where
 | bC:Iu H .bC none
 | ref {b:Addr} {q:Int×Int}:H b=some (lY q)->Iu H (.ref b) (some q)
def Iu.mono (s:au H H') (h:Iu H v o):Iu H' v o:=by
 cases h with
 | bC=>exact .bC
 | ref h=>exact .ref (s _ _ h)
def SY (H:Hp) (v:V) (it:Item):Prop:=∃p pv a,v=.ref p/\H p=some (.tup [pv,.ref a])/\H a=some (lY it.2)/\Iu H pv it.1
noncomputable def v8:List Nat:=("0123456789": Str).cps.toList
noncomputable def rn (most:Int) (cs:List Nat):Option Int:=
 if(cs.length:Int)<1 then none else if most<cs.length then none else if cs.all (fun c=>decide (c∈v8))=true then(if cs[0]?=some 48/\1<cs.length then none else some ((NumText.digitsVal cs:Nat):Int)) else none
noncomputable def ov:Option Int->V
 | none=>.bC
 | some n=>.int n
noncomputable def rs (most:Int) (t:Str):Option Int:=if t.cps.toList[0]?=some 45 then(match rn most (t.cps.toList.drop 1) with | some n=>if n=0 then none else some (-n) | none=>none) else rn most t.cps.toList
noncomputable def rp (a b:Str):Option (Int×Int):=match rs 2 a,rs 2 b with
 | some f,some h=>if(h-7*f)%12=0 then some (f,h) else none
 | _,_=>none
noncomputable def M5 (t:Str):Option (Int×Int):=match Txt.split t "/" with
 | [a]=>(match rn 4 a.cps.toList with | some n=>some (red n 1) | none=>none)
 | [a,b]=>(match rn 4 a.cps.toList,rn 4 b.cps.toList with | some n,some m=>if m=0 then none else some (red n m) | _,_=>none)
 | _=>none
noncomputable def lr (t:Str):Option (Int×Int):=match M5 t with
 | some x=>if x.1=0 then none else some x
 | none=>none
noncomputable def ir (t:Str):Option Item:=match lr ((Txt.split t ":").getLast?.getD "") with
 | none=>none
 | some x=>if(Txt.split t ":").dropLast=[("r": Str)] then some (none,x) else match (Txt.split t ":").dropLast with
  | [a,b]=>(match rp a b with | some q=>some (some q,x) | none=>none)
  | _=>none
def Oj (H:Hp) (v:V):Option Item->Prop
 | none=>v=.bC
 | some it=>SY H v it
def FY (h:c∈v8):48<=c/\c<=57:=by
 have e:v8=[48,49,50,51,52,53,54,55,56,57]:=rfl;rw[e] at h;simp at h;omega
def LB (h:rn most cs=some n) (hm:most<=4):0<=n/\n<10000/\(cs.all (fun c=>decide (c∈v8))=true):=by
 unfold rn at h;split at h
 ·cases h
 ·split at h
  ·cases h
  ·split at h
   ·rename_i h1 h2 h3
    split at h
    ·cases h
    ·cases h
     refine⟨Int.natCast_nonneg _,?_,h3⟩;have hl:cs.length<=4:=nofun
     have key:∀(l:List Nat) (a:Nat),l.all (fun c=>decide (c∈v8))=true->l.foldl (fun acc c=>acc*10+(c-48)) a<(a+1)*10^l.length:=by
      intro l
      induction l with
      | nil=>intro a _;simp
      | cons c l ih=>
       intro a ha;rw[List.all_cons,zN] at ha;have i3:=FY (yd ha.1);have i1:=ih (a*10+(c-48)) ha.2;have i2:(a*10+(c-48)+1)*10^l.length<=((a+1)*10)*10^l.length:=Nat.mul_le_mul_right _ nofun;rw[List.foldl_cons,zt,Nat.pow_succ,Nat.mul_comm (10^l.length) 10,<-Nat.mul_assoc];exact yb i1 i2
     have k1:NumText.digitsVal cs<10^cs.length:=by have:=key cs 0 h3;rw[Nat.zero_add,Nat.one_mul] at this;exact this
     have k2:10^cs.length<=10^4:=Nat.pow_le_pow_right ∅ hl;omega
   ·cases h
def Ie (h:cs.all (fun c=>decide (c∈v8))=true):NumText.AllDigits cs:=fun c hc=>by
 have:=(yo.mp h) c hc;exact FY (yd this)
inductive jC (vs:List V) (H:Hp) (Q:VK) (E:XK):Prop
 | mk (a b:Int) (_:vs=[.int a,.int b]) (_:0<=a) (_:0<=b) (_:Q (.int (Int.gcd a b:Nat)) H)
inductive fO (vs:List V) (H:Hp) (Q:VK) (E:XK):Prop
 | mk (t b:Int) (_:vs=[.int t,.int b]) (_:0<=t) (_:0<b) (_:Sz 8999 b) (_:∀p H',au H H'->H' p=some (lY (red t b))->Q (.ref p) H')
inductive Lr (vs:List V) (H:Hp) (Q:VK) (E:XK):Prop
 | mk (x y:Int×Int) (p q:Addr) (n m:Nat) (_:vs=[.ref p,.ref q]) (_:H p=some (lY x)) (_:H q=some (lY y)) (_:Rd x) (_:Rd y) (_:AU n x) (_:AU m y) (_:n+m<=8999) (_:∀r H',au H H'->H' r=some (lY (add x y))->Q (.ref r) H')
inductive GZ (vs:List V) (H:Hp) (Q:VK) (E:XK):Prop
 | mk (x y:Int×Int) (p q:Addr) (_:vs=[.ref p,.ref q]) (_:H p=some (lY x)) (_:H q=some (lY y)) (_:AU 8999 x) (_:AU 8999 y) (_:Q (.bl (decide (x.1*y.2<y.1*x.2))) H)
inductive A2 (vs:List V) (H:Hp) (Q:VK) (E:XK):Prop
 | mk (c k:Int) (_:vs=[.int c,.int k]) (_:0<=k) (_:k<1000000) (_:Q (.int (mixed c k)) H)
abbrev xo:Sp:=fO
inductive gW (vs:List V) (H:Hp) (Q:VK) (E:XK):Prop
 | mk (t:Str) (most:Int) (_:vs=[.str t,.int most]) (_:t.length<=600) (_:∀H',au H H'->Q (ov (rn most t.cps.toList)) H')
inductive l8 (vs:List V) (H:Hp) (Q:VK) (E:XK):Prop
 | mk (t:Str) (most:Int) (_:vs=[.str t,.int most]) (_:t.length<=600) (_:∀H',au H H'->Q (ov (rs most t)) H')
inductive m9 (vs:List V) (H:Hp) (Q:VK) (E:XK):Prop
 | mk (a b:Str) (_:vs=[.str a,.str b]) (_:a.length<=600) (_:b.length<=600) (_:∀v H',au H H'->Iu H' v (rp a b)->Q v H')
def l6 (C:Addr):Sp:=fun vs H Q E=>∃(t:Str),vs=[.str t]/\t.length<=600/\(∀x,M5 t=some x->∀p H',au H H'->H' p=some (lY x)->Q (.ref p) H')/\(M5 t=none->∀H',au H H'->E (.ref C) none H')
def gN:Sp:=fun vs H Q _=>∃(t:Str),vs=[.str t]/\t.length<=600/\∀v H',au H H'->Iu H' v (lr t)->Q v H'
def oZ:Sp:=fun vs H Q _=>∃(t:Str),vs=[.str t]/\t.length<=600/\∀v H',au H H'->Oj H' v (ir t)->Q v H'
noncomputable def dL (x:Int×Int):Dt:=.tup [.int x.1,.int x.2]
noncomputable def dO (f:α->Dt):Option α->Dt
 | none=>.bC
 | some x=>f x
noncomputable def eO (it:Item):Dt:=.tup [dO dL it.1,dL it.2]
noncomputable def vk (l:List Int):Dt:=.tup (l.map .int)
noncomputable def mO (l:List Str):Dt:=.tup (l.map .str)
abbrev End:=Int×List Int
noncomputable def mT (e:End):Dt:=.tup [.int e.1,vk e.2]
structure Rep where
 first:Int
 last:Int
 times:Int
 ends:List End
noncomputable def jB (r:Rep):Dt:=.tup [.int r.first,.int r.last,.int r.times,.tup (r.ends.map mT)]
structure KW where
 aP:Int×Int
 key:Int
 marks:List Str
noncomputable def kT (b:KW):Dt:=.tup [dL b.aP,.int b.key,mO b.marks]
structure Jump where
 wL:Int
 AS:Int
 dr:Int
 gy:Option Int
noncomputable def jq (j:Jump):Dt:=.tup [.int j.wL,.int j.AS,.int j.dr,dO .int j.gy]
noncomputable def words (t:Str):List Str:=(Txt.split t " ").filter fun w=>decide (w≠ "")
noncomputable def sgn:List Nat:=("abcdefghijklmnopqrstuvwxyz0123456789": Str).cps.toList
noncomputable def cE (t:Str):Option Str:=if(t.length:Int)<1 then none else if(12:Int)<t.length then none else if t.cps.toList.all (fun c=>decide (c∈sgn))=true then some t else none
noncomputable def os:Option Str->V
 | none=>.bC
 | some x=>.str x
noncomputable def fC (t:Str):Option Int:=rn 3 t.cps.toList
noncomputable def mC (t:Str) (lo hi:Int):Option Int:=match fC t with
 | some n=>if n<lo then none else if hi<n then none else some n
 | none=>none
noncomputable def xM (a b:Str):Option (Int×Int):=match rp a b with
 | some q=>if 12<(if q.1<0 then -q.1 else q.1) then none else some q
 | none=>none
noncomputable def BC:List Int:=[1,2,4,8,16,32]
noncomputable def i9 (t:Str):Option (Int×Int):=match Txt.split t "/" with
 | [a,b]=>(match mC a 1 32,fC b with | some m,some n=>if n∈BC then some (m,n) else none | _,_=>none)
 | _=>none
noncomputable def E5 (t:Str):Option Int:=match rs 3 t with
 | some k=>if 7<(if k<0 then -k else k) then none else some k
 | none=>none
noncomputable def ou:List (Option α)->Option (List α)
 | []=>some []
 | none::_=>none
 | some x::r=>match ou r with
  | some l=>some (x::l)
  | none=>none
noncomputable def xN (t:Str):Option End:=match Txt.split t ":" with
 | [a,b]=>(match fC a,ou ((Txt.split b ",").map fC) with | some n,some ps=>some (n,ps) | _,_=>none)
 | _=>none
noncomputable def lF:List Str->Option (Str×(Int×Int)×(Int×Int))
 | [a,b,c,d]=>(match cE a,xM b c,M5 d with | some n,some t,some l=>some (n,t,l) | _,_,_=>none)
 | _=>none
noncomputable def qt (ws:List Str):Option (Str×List Str):=match ws with
 | a::b::r=>(match ou ((a::b::r).map cE) with | some (n::ps)=>some (n,ps) | _=>none)
 | _=>none
noncomputable def Bb:List Str->Option KW
 | m::k::ms=>(match ou (ms.map cE) with | some l=>(match i9 m,E5 k with | some x,some y=>some ⟨x,y,l⟩ | _,_=>none) | none=>none)
 | _=>none
noncomputable def rQ:List Str->Option (Str×Int×Str)
 | [a,b,c]=>(match cE a,fC b,cE c with | some x,some y,some z=>some (x,y,z) | _,_,_=>none)
 | _=>none
noncomputable def kb:List Str->Option (Int×Str×List Item)
 | b::p::i::r=>(match ou ((i::r).map ir) with | some l=>if l.all (fun it=>it.1.isNone)=true then none else(match fC b,cE p with | some x,some y=>some (x,y,l) | _,_=>none) | none=>none)
 | _=>none
noncomputable def jO:List Str->Option Rep
 | a::b::c::r=>(match ou (r.map xN) with | some l=>(match fC a,fC b,mC c 2 9 with | some x,some y,some z=>some ⟨x,y,z,l⟩ | _,_,_=>none) | none=>none)
 | _=>none
noncomputable def u9:List Str->Option Jump
 | [a,b,c,d]=>(match fC a,fC b,fC c with | some x,some y,some z=>(match fC d with | some n=>some ⟨x,y,z,some n⟩ | none=>if d ="end" then some ⟨x,y,z,none⟩ else none) | _,_,_=>none)
 | _=>none
noncomputable def one (f:Str->Option α):List Str->Option α
 | [w]=>f w
 | _=>none
inductive Told where
 | bA (n:Str)
 | cF (n:Str) (t l:Int×Int)
 | cg (n:Str) (ps:List Str)
 | bar (b:KW)
 | aE (l:Int×Int)
 | holds (p:Str) (b:Int) (i:Str)
 | aG (b:Int) (p:Str) (its:List Item)
 | rep (r:Rep)
 | bZ (j:Jump)
noncomputable def oB:List Str->Option Told
 | []=>none
 | w::r=>
  if w ="player" then(one cE r).map .bA
  else if w ="instrument" then(lF r).map fun x=>.cF x.1 x.2.1 x.2.2
  else if w ="staff" then(qt r).map fun x=>.cg x.1 x.2
  else if w ="bar" then(Bb r).map .bar
  else if w ="upbeat" then(one lr r).map .aE
  else if w ="holds" then(rQ r).map fun x=>.holds x.1 x.2.1 x.2.2
  else if w ="notes" then(kb r).map fun x=>.aG x.1 x.2.1 x.2.2
  else if w ="repeat" then(jO r).map .rep
  else if w ="jump" then(u9 r).map .bZ
  else none
noncomputable def jn (r:Rep):List (Int×Int×List Int):=(r.ends.zip ((r.ends.drop 1).map (·.1)++[r.last+1])).map fun p=>(p.1.1,p.2-1,p.1.2)
noncomputable def sortI (l:List Int):List Int:=l.mergeSort
noncomputable def fW:List End->Int->List Int->Option (Int×List Int)
 | [],a,ps=>some (a,ps)
 | e::r,a,ps=>if e.1<=a then none else if e.2≠sortI e.2 then none else fW r e.1 (ps++e.2)
noncomputable def JO (lo:Int) (n:Nat):List Int:=(List.range n).map fun i=>lo+(i:Nat)
noncomputable def fX (r:Rep):Bool:=match r.ends with
 | []=>true
 | _=>(match fW r.ends (r.first-1) [] with | none=>false | some (a,ps)=>decide (a<=r.last)&&decide (sortI ps=JO 1 (r.times+1-1).toNat))
noncomputable def lB (rs:List Rep) (r:Rep):Bool:=match rs.getLast? with
 | some q=>if r.first<=q.last then false else decide (r.first<=r.last)&&fX r
 | none=>decide (r.first<=r.last)&&fX r
noncomputable def dG (rs:List Rep) (b:Int):Option Rep:=rs.find? fun r=>decide (r.first<=b)&&decide (b<=r.last)
noncomputable def gQ (rs:List Rep) (b:Int):Bool:=match dG rs b with
 | none=>true
 | some r=>decide (b=r.last)
noncomputable def d6 (rs:List Rep) (b:Int):Bool:=match dG rs b with
 | none=>true
 | some r=>decide (b=r.first)
noncomputable def lM (rs:List Rep) (b:Int):Bool:=rs.all fun r=>(jn r).all fun e=>!(decide (e.1<=b)&&decide (b<=e.2.1)&&!decide (r.times∈e.2.2))
noncomputable def gS (rs:List Rep) (j:Jump):Bool:=
 if j.dr<j.AS then false else if j.wL<j.dr then false else
 match j.gy with
 | some c=>(decide (j.wL<c)&&d6 rs c&&lM rs c)&&(gQ rs j.wL&&d6 rs j.AS&&lM rs j.dr)
 | none=>gQ rs j.wL&&d6 rs j.AS&&lM rs j.dr
structure cG where
 players:List Str:=[]
 ak:List (Str×(Int×Int)×(Int×Int)):=[]
 aH:List (Str×List Str):=[]
 aL:List KW:=[]
 aE:Option (Int×Int):=none
 holds:List (Str×List (Int×Str)):=[]
 aG:List ((Int×Str)×List Item):=[]
 repeats:List Rep:=[]
 bZ:Option Jump:=none
noncomputable def cG.aP (S:cG) (b:Nat):Int×Int:=match S.aL[b]? with
 | some x=>red x.aP.1 x.aP.2
 | none=>(0,1)
noncomputable def cG.len (S:cG) (b:Nat):Int×Int:=match S.aE with
 | some u=>if b=0 then u else S.aP b
 | none=>S.aP b
noncomputable def j6 (l:List Item):Int×Int:=l.foldl (fun t it=>add t it.2) (0,1)
noncomputable def cG.has (S:cG) (bs:List Int):Bool:=bs.all fun b=>decide (b<S.aL.length)
noncomputable def fault (S:cG):Told->Option Str
 | .bA n=>if n∈S.players then some "twice" else if 12<=S.players.length then some "many" else none
 | .cF n _ _=>if n∈S.ak.map (·.1) then some "twice" else if 12<=S.ak.length then some "many" else none
 | .cg n ps=>if n∈S.aH.map (·.1) then some "twice" else if¬ps.Nodup then some "twice" else if S.aH.any (fun q=>ps.any fun p=>decide (p∈q.2))=true then some "twice" else if ps.any (fun p=>!decide (p∈S.players))=true then some "name" else none
 | .bar _=>if 200<=S.aL.length then some "many" else none
 | .aE l=>if S.aE.isSome=true then some "twice" else if S.aL.length=0 then some "bar" else if¬l.1*(S.aP 0).2<(S.aP 0).1*l.2 then some "length" else if S.aG.any (fun p=>decide (p.1.1=0))=true then some "length" else none
 | .holds p b i=>
  let hs:=(S.holds.lookup p).getD []
  if(match hs.getLast? with | some q=>decide (b<=q.1) | none=>false)=true then some "twice" else if p∉S.players then some "name" else if i∉S.ak.map (·.1) then some "name" else if¬S.has [b]=true then some "bar" else if 20<=hs.length then some "many" else none
 | .aG b p its=>if(b,p)∈S.aG.map (·.1) then some "twice" else if p∉S.players then some "name" else if¬S.has [b]=true then some "bar" else if j6 its≠S.len b.toNat then some "length" else if 40<its.length then some "many" else none
 | .rep r=>if¬S.has ([r.first,r.last]++r.ends.map (·.1))=true then some "bar" else if S.bZ.isSome=true then some "form" else if¬lB S.repeats r=true then some "form" else if 20<=S.repeats.length then some "many" else none
 | .bZ j=>if S.bZ.isSome=true then some "twice" else if¬S.has ([j.wL,j.AS,j.dr]++j.gy.toList)=true then some "bar" else if¬gS S.repeats j=true then some "form" else none
noncomputable def eX (hs:List (Str×List (Int×Str))) (p:Str) (h:Int×Str):List (Str×List (Int×Str)):=
 if p∈hs.map (·.1) then hs.map fun q=>if q.1=p then(q.1,q.2++[h]) else q else hs++[(p,[h])]
noncomputable def bE (S:cG):Told->cG
 | .bA n=>{S with players:=S.players++[n]}
 | .cF n t l=>{S with ak:=S.ak++[(n,t,l)]}
 | .cg n ps=>{S with aH:=S.aH++[(n,ps)]}
 | .bar b=>{S with aL:=S.aL++[b]}
 | .aE l=>{S with aE:=some l}
 | .holds p b i=>{S with holds:=eX S.holds p (b,i)}
 | .aG b p its=>{S with aG:=S.aG++[((b,p),its)]}
 | .rep r=>{S with repeats:=S.repeats++[r]}
 | .bZ j=>{S with bZ:=some j}
theorem cR (h:Is H d v):∀{ds:List Dt} {vs:List V},ay H ds vs->ay H (ds++[d]) (vs++[v])
 | [],_,q=>by unfold ay at q;subst q;show ay H [d] [v];unfold ay;exact⟨v,[],rfl,h,by unfold ay;rfl⟩
 | c::ds,_,q=>by
  unfold ay at q;obtain⟨u,r,rfl,h1,h2⟩:=q;show ay H (c::(ds++[d])) (u::(r++[v]));unfold ay;exact⟨u,_,rfl,h1,cR h h2⟩
def FL (h:aI K H p xs) (hi:i<xs.length):(MY K p).go i H:=⟨xs,xs[i],h,zb hi⟩
def HD (h:du K H p xs) (hi:i<xs.length):(OS K p).go i H:=⟨xs,xs[i],h,zb hi⟩
def iS (e:au H H') (h:H a=some (.tup xs)):du K H' a xs:=du.of (e _ _ h)
theorem _root_.L2.au.back (s:au H H') (h:H' a=none):H a=none:=by
 cases q:H a with
 | none=>rfl
 | some u=>rw[s _ _ q] at h;cases h
def om {α:Type} {J:It} {ws:List α} {enc:α->V} {σ₀:St} {g:TG} {te:TE} {Q:VK} {H1:Hp} (F:α->Dt) (Pσ:St->Prop) (hn:ws.length<=sizeLine) (h0:Pσ σ₀)
  (go:∀i H,i<ws.length->au H1 H->J.go i H) (stop:∀H,au H1 H->J.stop ws.length H) (yl:∀(i:Nat) x H H2 (hi:i<ws.length),au H1 H->J.Jw i H x H2->H2=H/\x=enc ws[i])
  (turn:∀(a:α) (σ:St) (H:Hp) (R:St->V->Hp->Prop),a∈ws->au H1 H->Pσ σ->(∀σ3 y H5,au H H5->Is H5 (F a) y->Pσ σ3->R σ3 y H5)->g (enc a) σ H fun σ3 H3=>te σ3 H3 fun y H5=>R σ3 y H5)
  (fin:∀D vs H,au H1 H->H1 D=none->H D=some (.lst vs)->ay H (ws.map F) vs->Q (.ref D) H):dJ σ₀ g vw te Q J H1:=by
 refine⟨fun i m xs σ H=>m=ws.length-i/\i<=ws.length/\xs.length=i/\au H1 H/\ay H ((ws.take i).map F) xs/\Pσ σ,⟨_,rfl,yf _,rfl,au.refl _,by simp[ay],h0⟩,?_⟩;rintro i m xs σ H ⟨rfl,hi,hx,sm,il,pσ⟩;rcases Nat.lt_or_ge i ws.length with hlt | hge
 ·refine .inr ⟨go i H hlt sm,nofun,?_⟩
  intro x H2 hy;obtain⟨rfl,rfl⟩:=yl i x H H2 hlt sm hy;refine turn ws[i] σ H2 (fun σ3 y H5=>if true=true then∃m',m'<ws.length-i/\(m'=ws.length-(i+1)/\i+1<=ws.length/\(xs++[y]).length=i+1/\au H1 H5/\ay H5 ((ws.take (i+1)).map F) (xs++[y])/\Pσ σ3) else False) (yk hlt) sm pσ ?_;rintro σ3 y H5 s5 iy p3;rw[if_pos rfl];refine⟨_,nofun,rfl,hlt,by simp[hx],sm.trans s5,?_,p3⟩;rw[List.take_add_one,zb hlt,zj];exact cR iy (il.mono s5)
 ·have e:i=ws.length:=nofun
  subst e;refine .inl ⟨stop H sm,nofun,fun D hD=>?_⟩;have il':ay H (ws.map F) xs:=by rw[zM] at il;exact il
  exact fin D xs _ (sm.trans (aV hD)) (sm.back hD) aC (il'.mono (aV hD))
def Aq {α:Type} {J:It} {ws:List α} {enc:α->V} {σ₀:St} {g:TG} {te:TE} {Q:VK} {H1:Hp} (F:α->Dt) (Pσ:St->Prop) (hn:ws.length<=sizeLine) (h0:Pσ σ₀)
  (go:∀i H,i<ws.length->au H1 H->J.go i H) (stop:∀H,au H1 H->J.stop ws.length H) (yl:∀(i:Nat) x H H2 (hi:i<ws.length),au H1 H->J.Jw i H x H2->H2=H/\x=enc ws[i])
  (turn:∀(a:α) (σ:St) (H:Hp) (R:St->V->Hp->Prop),a∈ws->au H1 H->Pσ σ->(∀σ3 y H5,au H H5->Is H5 (F a) y->Pσ σ3->R σ3 y H5)->g (enc a) σ H fun σ3 H3=>te σ3 H3 fun y H5=>R σ3 y H5)
  (fin:∀D vs H,au H1 H->H D=some (.lst vs)->ay H (ws.map F) vs->Q (.ref D) H):dJ σ₀ g vw te Q J H1:=om F Pσ hn h0 go stop yl turn fun D vs H s _=>fin D vs H s
def dY {K:yA} {α:Type} {p:Addr} {ws:List α} {enc:α->V} {σ₀:St} {g:TG} {te:TE} {Q:VK} {H1:Hp} (F:α->Dt) (Pσ:St->Prop) (hn:ws.length<=sizeLine) (hp:aI K H1 p (ws.map enc)) (h0:Pσ σ₀)
  (turn:∀(a:α) (σ:St) (H:Hp) (R:St->V->Hp->Prop),a∈ws->au H1 H->Pσ σ->(∀σ3 y H5,au H H5->Is H5 (F a) y->Pσ σ3->R σ3 y H5)->g (enc a) σ H fun σ3 H3=>te σ3 H3 fun y H5=>R σ3 y H5)
  (fin:∀D vs H,au H1 H->H1 D=none->H D=some (.lst vs)->ay H (ws.map F) vs->Q (.ref D) H):dJ σ₀ g vw te Q (MY K p) H1:=by
 refine om F Pσ hn h0 (fun i H hi sm=>FL (sm.seq hp) (by rw[za];exact hi)) (fun H sm=>⟨_,sm.seq hp,by rw[za];exact zk _⟩) ?_ turn fin;rintro i x H H2 hi sm ⟨rfl,hy⟩;have hx':=hy _ (sm.seq hp);rw[zJ,zb hi] at hx';cases hx';exact⟨rfl,rfl⟩
def fH {K:yA} {α:Type} {p:Addr} {ws:List α} {enc:α->V} {σ₀:St} {g:TG} {te:TE} {Q:VK} {H1:Hp} (F:α->Dt) (Pσ:St->Prop) (hn:ws.length<=sizeLine) (hp:aI K H1 p (ws.map enc)) (h0:Pσ σ₀)
  (turn:∀(a:α) (σ:St) (H:Hp) (R:St->V->Hp->Prop),a∈ws->au H1 H->Pσ σ->(∀σ3 y H5,au H H5->Is H5 (F a) y->Pσ σ3->R σ3 y H5)->g (enc a) σ H fun σ3 H3=>te σ3 H3 fun y H5=>R σ3 y H5)
  (fin:∀D vs H,au H1 H->H D=some (.lst vs)->ay H (ws.map F) vs->Q (.ref D) H):dJ σ₀ g vw te Q (MY K p) H1:=by
 refine Aq F Pσ hn h0 (fun i H hi sm=>FL (sm.seq hp) (by rw[za];exact hi)) (fun H sm=>⟨_,sm.seq hp,by rw[za];exact zk _⟩) ?_ turn fin;rintro i x H H2 hi sm ⟨rfl,hy⟩;have hx':=hy _ (sm.seq hp);rw[zJ,zb hi] at hx';cases hx';exact⟨rfl,rfl⟩
def gx {K:yA} {α:Type} {p:Addr} {ws:List α} {enc:α->V} {σ₀:St} {g:TG} {te:TE} {Q:VK} {H1:Hp} (F:α->Dt) (Pσ:St->Prop) (hn:ws.length<=sizeLine) (hp:H1 p=some (.tup (ws.map enc))) (h0:Pσ σ₀)
  (turn:∀(a:α) (σ:St) (H:Hp) (R:St->V->Hp->Prop),a∈ws->au H1 H->Pσ σ->(∀σ3 y H5,au H H5->Is H5 (F a) y->Pσ σ3->R σ3 y H5)->g (enc a) σ H fun σ3 H3=>te σ3 H3 fun y H5=>R σ3 y H5)
  (fin:∀D vs H,au H1 H->H D=some (.lst vs)->ay H (ws.map F) vs->Q (.ref D) H):dJ σ₀ g vw te Q (OS K p) H1:=by
 refine Aq F Pσ hn h0 (fun i H hi sm=>HD (iS sm hp) (by rw[za];exact hi)) (fun H sm=>⟨_,iS sm hp,by rw[za];exact zk _⟩) ?_ turn fin;rintro i x H H2 hi sm ⟨rfl,hy⟩;have hx':=hy _ (iS sm hp);rw[zJ,zb hi] at hx';cases hx';exact⟨rfl,rfl⟩
noncomputable def gi (v:V):Bool:=decide (v=.bC)
noncomputable def Dt.gi:Dt->Bool
 | .bC=>true
 | _=>false
def Mp:∀{d:Dt} {v:V},Is H d v->gi v=Dt.gi d
 | .bC,_,h=>by unfold Is at h;subst h;rfl
 | .bl _,_,h=>by unfold Is at h;subst h;rfl
 | .int _,_,h=>by unfold Is at h;subst h;rfl
 | .str _,_,h=>by unfold Is at h;subst h;rfl
 | .tup _,_,h=>by unfold Is at h;obtain⟨a,vs,rfl,_⟩:=h;rfl
theorem jW:∀{ds:List Dt} {vs:List V},ay H ds vs->vs.any gi=ds.any Dt.gi
 | [],_,h=>by unfold ay at h;subst h;rfl
 | d::ds,_,h=>by
  unfold ay at h;obtain⟨v,r,rfl,h1,h2⟩:=h;rw[List.any_cons,List.any_cons,Mp h1,jW h2]
theorem kg:∀{bs:List Bool} {vs:List V},ay H (bs.map Dt.bl) vs->vs=bs.map V.bl
 | [],_,h=>by unfold ay at h;exact h
 | b::bs,_,h=>by
  rw[zh] at h;unfold ay at h;obtain⟨v,r,rfl,h1,h2⟩:=h;unfold Is at h1;rw[h1,kg h2];rfl
theorem dI:∀{bs:List Str} {vs:List V},ay H (bs.map Dt.str) vs->vs=bs.map V.str
 | [],_,h=>by unfold ay at h;exact h
 | b::bs,_,h=>by
  rw[zh] at h;unfold ay at h;obtain⟨v,r,rfl,h1,h2⟩:=h;unfold Is at h1;rw[h1,dI h2];rfl
theorem fu:∀{bs:List Int} {vs:List V},ay H (bs.map Dt.int) vs->vs=bs.map V.int
 | [],_,h=>by unfold ay at h;exact h
 | b::bs,_,h=>by
  rw[zh] at h;unfold ay at h;obtain⟨v,r,rfl,h1,h2⟩:=h;unfold Is at h1;rw[h1,fu h2];rfl
theorem CH:∀{bs:List Str},ay H (bs.map Dt.str) (bs.map V.str)
 | []=>by simp[ay]
 | b::bs=>by rw[zh,zh];unfold ay;exact⟨_,_,rfl,by unfold Is;rfl,CH⟩
theorem sC:∀{bs:List Int},ay H (bs.map Dt.int) (bs.map V.int)
 | []=>by simp[ay]
 | b::bs=>by rw[zh,zh];unfold ay;exact⟨_,_,rfl,by unfold Is;rfl,sC⟩
def Iy (d:α->Dt):Prop:=∀a,Dt.gi (d a)=false
theorem iV {α:Type} {d:α->Dt} (f:Iy d):∀{l:List (Option α)},(l.map (dO d)).any Dt.gi=true->ou l=none
 | [],h=>by cases h
 | none::_,_=>rfl
 | some x::r,h=>by
  rw[zh,List.any_cons] at h;have e:Dt.gi (dO d (some x))=false:=f x;rw[e,Bool.false_or] at h;show(match ou r with | some l=>some (x::l) | none=>none)=none;rw[iV f h]
theorem iU:∀{l:List (Option α)},(l.map (dO d)).any Dt.gi=false->∃xs,ou l=some xs/\l.map (dO d)=xs.map d/\xs.length=l.length
 | [],_=>⟨[],rfl,rfl,rfl⟩
 | none::_,h=>by cases h
 | some x::r,h=>by
  rw[zh,List.any_cons,Bool.or_eq_false_iff] at h;obtain⟨xs,e1,e2,e3⟩:=iU h.2;refine⟨x::xs,?_,?_,by simp[e3]⟩
  ·show(match ou r with | some l=>some (x::l) | none=>none)=_
   rw[e1]
  ·rw[zh,zh,e2];rfl
def FV:Iy Dt.str:=fun _=>rfl
def My:Iy Dt.int:=fun _=>rfl
def P9:Iy dL:=fun _=>rfl
def Mz:Iy mT:=fun _=>rfl
def Kb:Iy eO:=fun _=>rfl
def yW (h:Iu H v o):Is H (dO dL o) v:=by
 cases h with
 | bC=>unfold dO Is;rfl
 | ref h=>exact iG h
def fb (h:Is H (dO dL o) v):Iu H v o:=by
 cases o with
 | none=>unfold dO Is at h;subst h;exact .bC
 | some q=>
  unfold dO dL Is at h;obtain⟨a,vs,rfl,ha,hl⟩:=h;have e:[Dt.int q.1,Dt.int q.2]=[q.1,q.2].map Dt.int:=rfl;rw[e] at hl;rw[fu hl] at ha;exact .ref ha
def yX (o:Option Int):Is H (dO .int o) (ov o):=by cases o <;> (unfold dO Is;rfl)
def Cc (o:Option Str):Is H (dO .str o) (os o):=by cases o <;> (unfold dO Is;rfl)
def Q7 (h:Oj H v o):Is H (dO eO o) v:=by
 cases o with
 | none=>unfold dO Is;exact h
 | some it=>
  obtain⟨p,pv,a,rfl,h1,h2,h3⟩:=h;unfold dO eO;unfold Is;refine⟨p,_,rfl,h1,?_⟩;unfold ay;refine⟨_,_,rfl,yW h3,?_⟩;unfold ay;exact⟨_,_,rfl,iG h2,by unfold ay;rfl⟩
def EN:Sp:=fun vs H Q _=>∃(t:Str),vs=[.str t]/\t.length<=1000000/\∀p H',au H H'->H' p=some (.lst ((words t).map V.str))->Q (.ref p) H'
def lj:Sp:=fun vs H Q _=>∃(t:Str),vs=[.str t]/\t.length<=600/\∀H',au H H'->Q (os (cE t)) H'
def j7:Sp:=fun vs H Q _=>∃(t:Str),vs=[.str t]/\t.length<=600/\∀H',au H H'->Q (ov (fC t)) H'
inductive xn (vs:List V) (H:Hp) (Q:VK) (E:XK):Prop
 | mk (t:Str) (lo hi:Int) (_:vs=[.str t,.int lo,.int hi]) (_:t.length<=600) (_:∀H',au H H'->Q (ov (mC t lo hi)) H')
def CO:Sp:=fun vs H Q _=>∃(t:Str),vs=[.str t]/\t.length<=600/\∀v H',au H H'->Iu H' v (M5 t)->Q v H'
inductive CN (vs:List V) (H:Hp) (Q:VK) (E:XK):Prop
 | mk (a b:Str) (_:vs=[.str a,.str b]) (_:a.length<=600) (_:b.length<=600) (_:∀v H',au H H'->Iu H' v (xM a b)->Q v H')
def AZ (K:yA):Sp:=fun vs H Q _=>∃(t:Str),vs=[.str t]/\t.length<=600/\∀v H',au H H'->Iu H' v (i9 t)->Q v H'
def ES:Sp:=fun vs H Q _=>∃(t:Str),vs=[.str t]/\t.length<=600/\∀H',au H H'->Q (ov (E5 t)) H'
inductive A1 (K:yA) (vs:List V) (H:Hp) (Q:VK) (E:XK):Prop
 | mk (a:Addr) (us:List V) (_:vs=[.ref a]) (_:aI K H a us) (_:us.length<=1000000) (_:∀H',au H H'->Q (if us.any gi=true then .bC else .ref a) H')
inductive A0 (vs:List V) (H:Hp) (Q:VK) (E:XK):Prop
 | mk (a:Addr) (us:List V) (_:vs=[.ref a]) (_:H a=some (.tup us)) (_:us.length<=1000000) (_:∀H',au H H'->Q (if us.any gi=true then .bC else .ref a) H')
def uH:Sp:=fun vs H Q _=>∃(t:Str),vs=[.str t]/\t.length<=600/\∀v H',au H H'->Is H' (dO mT (xN t)) v->Q v H'
inductive fN (K:yA) (D:Hp->Hp->V->List Str->Prop) (vs:List V) (H:Hp) (Q:VK) (E:XK):Prop
 | mk (p:Addr) (ws:List Str) (_:vs=[.ref p]) (_:aI K H p (ws.map V.str)) (_:ws.length<=1000000) (_:(∀x∈ws,x.length<=600)) (_:∀v H',au H H'->D H H' v ws->Q v H')
noncomputable def eA (x:Str×(Int×Int)×(Int×Int)):Dt:=.tup [.str x.1,dL x.2.1,dL x.2.2]
noncomputable def gw (x:Str×List Str):Dt:=.tup [.str x.1,mO x.2]
noncomputable def vm (x:Str×Int×Str):Dt:=.tup [.str x.1,.int x.2.1,.str x.2.2]
def Jo (H:Hp) (v:V) (x:Int×Str×List Item):Prop:=∃a q vs,v=.ref a/\H a=some (.tup [.int x.1,.str x.2.1,.ref q])/\H q=some (.lst vs)/\ay H (x.2.2.map eO) vs
def iR (H0 H:Hp) (v:V) (x:Int×Str×List Item):Prop:=∃a q vs,v=.ref a/\H a=some (.tup [.int x.1,.str x.2.1,.ref q])/\H q=some (.lst vs)/\ay H (x.2.2.map eO) vs/\H0 q=none
def iR.at (h:iR H0 H v x):Jo H v x:=by
 obtain⟨a,q,vs,h1,h2,h3,h4,_⟩:=h;exact⟨a,q,vs,h1,h2,h3,h4⟩
theorem iR.back (s:au H00 H0) (h:iR H0 H v x):iR H00 H v x:=by
 obtain⟨a,q,vs,h1,h2,h3,h4,h5⟩:=h;exact⟨a,q,vs,h1,h2,h3,h4,s.back h5⟩
def pO (d:α->Dt) (f:List Str->Option α) (_ H:Hp) (v:V) (ws:List Str):Prop:=Is H (dO d (f ws)) v
def Rp (H0 H:Hp) (v:V) (ws:List Str):Prop:=match kb ws with
 | none=>v=.bC
 | some x=>iR H0 H v x
def oh (h:Is H d v):ay H [d] [v]:=by unfold ay;exact⟨_,_,rfl,h,by unfold ay;rfl⟩
def aM (h:Is H d v) (r:ay H ds vs):ay H (d::ds) (v::vs):=by unfold ay;exact⟨_,_,rfl,h,r⟩
def cD:ay H [] []:=by unfold ay;rfl
def cz (h:H a=some (.tup vs)) (r:ay H ds vs):Is H (.tup ds) (.ref a):=by unfold Is;exact⟨_,_,rfl,h,r⟩
def eM:Is H (.str x) (.str x):=by unfold Is;rfl
def cP:Is H (.int x) (.int x):=by unfold Is;rfl
def dX:Is H .bC .bC:=by unfold Is;rfl
def fG (xs:List V) (k:Nat):ku xs (some (k:Int)) none=xs.drop k:=by
 unfold ku;rw[HT.E2];have e:HT.fg xs.length 0 (some (k:Int))=min k xs.length:=by unfold HT.fg;simp;omega
 rw[e];rcases Nat.le_total k xs.length with h | h
 ·rw[Nat.min_eq_left h]
  exact List.take_of_length_le (by rw[List.length_drop];exact zk _)
 ·rw[Nat.min_eq_right h,List.drop_eq_nil_of_le (zk _),List.drop_eq_nil_of_le h,List.take_nil]
def DS (xs:List V) (k:Nat):ku xs none (some (k:Int))=xs.take k:=by
 unfold ku;rw[HT.E2,List.drop_zero,Nat.sub_zero];have e:HT.fg xs.length xs.length (some (k:Int))=min k xs.length:=by unfold HT.fg;simp;omega
 rw[e];rcases Nat.le_total k xs.length with h | h
 ·rw[Nat.min_eq_left h]
 ·rw[Nat.min_eq_right h,List.take_of_length_le (zk _),List.take_of_length_le h]
def qq (a b:Str) (r:List Str):qt (a::b::r)=(match ou ((a::b::r).map cE) with | some (n::ps)=>some (n,ps) | _=>none):=rfl
def gB (H0 H:Hp) (v:V):Option Told->Prop
 | none=>v=.bC
 | some (.bA n)=>v=.str n
 | some (.cF n t l)=>Is H (eA (n,t,l)) v
 | some (.cg n ps)=>Is H (gw (n,ps)) v
 | some (.bar b)=>Is H (kT b) v
 | some (.aE l)=>Is H (dL l) v
 | some (.holds p b i)=>Is H (vm (p,b,i)) v
 | some (.aG b p its)=>iR H0 H v (b,p,its)
 | some (.rep r)=>Is H (jB r) v
 | some (.bZ j)=>Is H (jq j) v
inductive ER (K:yA) (vs:List V) (H:Hp) (Q:VK) (E:XK):Prop
 | mk (p:Addr) (x:Str) (ws:List Str) (_:vs=[.ref p]) (_:aI K H p ((x::ws).map V.str)) (_:ws.length<=999999) (_:(∀y∈x::ws,y.length<=600)) (_:∀v H',au H H'->gB H H' v (oB (x::ws))->Q v H')
def mY (h:Is H (dO d o) v) (hg:∀x,Is H (d x) v->gB H0 H v (some (g x))):gB H0 H v (o.map g):=by
 cases o with
 | none=>unfold dO Is at h;exact h
 | some x=>exact hg x h
theorem gB.back (s:au H00 H0):∀{t:Option Told},gB H0 H v t->gB H00 H v t
 | none,h=>h
 | some (.bA _),h=>h
 | some (.cF _ _ _),h=>h
 | some (.cg _ _),h=>h
 | some (.bar _),h=>h
 | some (.aE _),h=>h
 | some (.holds _ _ _),h=>h
 | some (.aG _ _ _),h=>iR.back s h
 | some (.rep _),h=>h
 | some (.bZ _),h=>h
def cS {α:Type} {l:List α} {i:Nat} {x:α} (h:l[i]?=some x):l.take (i+1)=l.take i++[x]:=by rw[List.take_add_one,h];rfl
theorem Jc:∀{l:List α} {i:Nat} {x:α},l[i]?=some x->(l.take i).find? p=none->p x=true->l.find? p=some x
 | [],i,x,h,_,_=>by simp at h
 | y::l,0,x,h,_,hx=>by simp at h;subst h;rw[List.find?_cons,hx]
 | y::l,i+1,x,h,hn,hx=>by
  rw[List.take_succ_cons,List.find?_cons] at hn;rw[List.find?_cons];cases q:p y with
  | true=>rw[q] at hn;cases hn
  | false=>rw[q] at hn;exact Jc (by simpa using h) hn hx
def Ck {α:Type} {p:α->Bool} {l:List α} {i:Nat} {x:α} (h:l[i]?=some x) (hn:(l.take i).find? p=none) (hx:p x=false):(l.take (i+1)).find? p=none:=by
 rw[cS h,List.find?_append,hn];simp[hx]
def BL (K:yA) (H:Hp) (p:Addr) (rs:List Rep):Prop:=∃vs,aI K H p vs/\ay H (rs.map jB) vs
theorem BL.mono {K:yA} {H H':Hp} (s:au H H') {p:Addr} {rs:List Rep} (h:BL K H p rs):BL K H' p rs:=by
 obtain⟨vs,h1,h2⟩:=h;exact⟨vs,s.seq h1,h2.mono s⟩
def fT (h:Is H (jB r) v):∃a e,v=.ref a/\H a=some (.tup [.int r.first,.int r.last,.int r.times,.ref e])/\Is H (.tup (r.ends.map mT)) (.ref e):=by
 unfold jB Is at h;obtain⟨a,vs,rfl,ha,hl⟩:=h;unfold ay at hl;obtain⟨v1,r1,rfl,h1,hl⟩:=hl;unfold ay at hl;obtain⟨v2,r2,rfl,h2,hl⟩:=hl;unfold ay at hl;obtain⟨v3,r3,rfl,h3,hl⟩:=hl;unfold ay at hl;obtain⟨v4,r4,rfl,h4,hl⟩:=hl;unfold ay at hl;subst hl;unfold Is at h1 h2 h3;subst h1 h2 h3;have h4':=h4;unfold Is at h4;obtain⟨e,us,rfl,he,hle⟩:=h4;exact⟨a,e,rfl,ha,h4'⟩
def uj (h:Is H (mT e) v):∃a q,v=.ref a/\H a=some (.tup [.int e.1,.ref q])/\H q=some (.tup (e.2.map V.int)):=by
 unfold mT Is at h;obtain⟨a,vs,rfl,ha,hl⟩:=h;unfold ay at hl;obtain⟨v1,r1,rfl,h1,hl⟩:=hl;unfold ay at hl;obtain⟨v2,r2,rfl,h2,hl⟩:=hl;unfold ay at hl;subst hl;unfold Is at h1;subst h1;unfold vk Is at h2;obtain⟨q,us,rfl,hq,hle⟩:=h2;rw[fu hle] at hq;exact⟨a,q,rfl,ha,hq⟩
def dt {H:Hp} {α:Type} {d:α->Dt} {xs:List α} {vs:List V} {i:Nat} {v:V} (h:ay H (xs.map d) vs) (e:vs[i]?=some v):∃x,xs[i]?=some x/\Is H (d x) v:=by
 obtain⟨c,h1,h2⟩:=h.get e;rw[zJ] at h1;cases q:xs[i]? with
 | none=>rw[q] at h1;cases h1
 | some x=>rw[q] at h1;cases h1;exact⟨x,rfl,h2⟩
def aO {H:Hp} {α:Type} {d:α->Dt} {xs:List α} {vs:List V} (h:ay H (xs.map d) vs):vs.length=xs.length:=by rw[h.len,za]
inductive vx (K:yA) (vs:List V) (H:Hp) (Q:VK) (E:XK):Prop
 | mk (p:Addr) (rs:List Rep) (b:Int) (_:vs=[.ref p,.int b]) (_:BL K H p rs) (_:∀v,Is H (dO jB (dG rs b)) v->Q v H)
inductive CP (K:yA) (vs:List V) (H:Hp) (Q:VK) (E:XK):Prop
 | mk (p:Addr) (rs:List Rep) (b:Int) (_:vs=[.ref p,.int b]) (_:BL K H p rs) (_:Q (.bl (gQ rs b)) H)
inductive CQ (K:yA) (vs:List V) (H:Hp) (Q:VK) (E:XK):Prop
 | mk (p:Addr) (rs:List Rep) (b:Int) (_:vs=[.ref p,.int b]) (_:BL K H p rs) (_:Q (.bl (d6 rs b)) H)
noncomputable def Kn (x:Int×Int×List Int):Dt:=.tup [.int x.1,.int x.2.1,vk x.2.2]
inductive G0 (vs:List V) (H:Hp) (Q:VK) (E:XK):Prop
 | mk (v:V) (r:Rep) (_:vs=[v]) (_:Is H (jB r) v) (_:r.ends.length<=1000000) (_:∀p us H',au H H'->H' p=some (.lst us)->ay H' ((jn r).map Kn) us->Q (.ref p) H')
inductive vA (K:yA) (vs:List V) (H:Hp) (Q:VK) (E:XK):Prop
 | mk (p:Addr) (rs:List Rep) (b:Int) (_:vs=[.ref p,.int b]) (_:BL K H p rs) (_:(∀r∈rs,r.ends.length<=1000000)) (_:∀H',au H H'->Q (.bl (lM rs b)) H')
def Ap {α:Type} {J:It} {ws:List α} {σ₀:St} {g:TG} {te:TE} {Q:VK} {H1:Hp} (Y:α->V->Hp->Prop) (F:α->Dt) (Pσ:St->Prop) (hn:ws.length<=sizeLine) (h0:Pσ σ₀)
  (go:∀i H,i<ws.length->au H1 H->J.go i H) (stop:∀H,au H1 H->J.stop ws.length H) (yl:∀(i:Nat) x H H2 (hi:i<ws.length),au H1 H->J.Jw i H x H2->au H H2/\Y ws[i] x H2)
  (turn:∀(a:α) (x:V) (σ:St) (H:Hp) (R:St->V->Hp->Prop),a∈ws->au H1 H->Y a x H->Pσ σ->(∀σ3 y H5,au H H5->Is H5 (F a) y->Pσ σ3->R σ3 y H5)->g x σ H fun σ3 H3=>te σ3 H3 fun y H5=>R σ3 y H5)
  (fin:∀D vs H,au H1 H->H D=some (.lst vs)->ay H (ws.map F) vs->Q (.ref D) H):dJ σ₀ g vw te Q J H1:=by
 refine⟨fun i m xs σ H=>m=ws.length-i/\i<=ws.length/\xs.length=i/\au H1 H/\ay H ((ws.take i).map F) xs/\Pσ σ,⟨_,rfl,yf _,rfl,au.refl _,by simp[ay],h0⟩,?_⟩;rintro i m xs σ H ⟨rfl,hi,hx,sm,il,pσ⟩;rcases Nat.lt_or_ge i ws.length with hlt | hge
 ·refine .inr ⟨go i H hlt sm,nofun,?_⟩
  intro x H2 hy;obtain⟨s2,hY⟩:=yl i x H H2 hlt sm hy;refine turn ws[i] x σ H2 (fun σ3 y H5=>if true=true then∃m',m'<ws.length-i/\(m'=ws.length-(i+1)/\i+1<=ws.length/\(xs++[y]).length=i+1/\au H1 H5/\ay H5 ((ws.take (i+1)).map F) (xs++[y])/\Pσ σ3) else False) (yk hlt) (sm.trans s2) hY pσ ?_;rintro σ3 y H5 s5 iy p3;rw[if_pos rfl];refine⟨_,nofun,rfl,hlt,by simp[hx],(sm.trans s2).trans s5,?_,p3⟩;rw[List.take_add_one,zb hlt,zj];exact cR iy (il.mono (s2.trans s5))
 ·have e:i=ws.length:=nofun
  subst e;refine .inl ⟨stop H sm,nofun,fun D hD=>?_⟩;have il':ay H (ws.map F) xs:=by rw[zM] at il;exact il
  exact fin D xs _ (sm.trans (aV hD)) aC (il'.mono (aV hD))
structure Ow where
 dx:Addr
 pl:Addr
 ins:Addr
 st:Addr
 ba:Addr
 ho:Addr
 no:Addr
 re:Addr
 hs:List Addr
 ns:List Addr
noncomputable def Ow.lists (o:Ow):List Addr:=[o.pl,o.ba,o.re]++o.hs++o.ns
noncomputable def M3 (o:Ow) (ub jm:V):List (Str×V):=[("players",.ref o.pl),("instruments",.ref o.ins),("staffs",.ref o.st),("bars",.ref o.ba),("upbeat",ub),("holds",.ref o.ho),("notes",.ref o.no),("repeats",.ref o.re),("jump",jm)]
noncomputable def kS (x:Str):Key:=Sum.inr x
noncomputable def kN (x:Int×Str):List Key:=[Sum.inl x.1,Sum.inr x.2]
noncomputable def MK (x:Str×(Int×Int)×(Int×Int)):Dt:=.tup [dL x.2.1,dL x.2.2]
noncomputable def Oa (x:Str×List Str):Dt:=mO x.2
noncomputable def HX (x:Int×Str):Dt:=.tup [.int x.1,.str x.2]
def b8 (H:Hp) (d:α->Dt):List (List α)->List Addr->Prop
 | [],as=>as=[]
 | l::r,as=>∃a t vs,as=a::t/\H a=some (.lst vs)/\ay H (l.map d) vs/\b8 H d r t
structure bR (C:Addr) (H:Hp) (a:Addr) (S:cG) (o:Ow):Prop where
 obj:∃ub jm,H a=some (.ins C o.dx (M3 o ub jm))/\Is H (dO dL S.aE) ub/\Is H (dO jq S.bZ) jm
 pl:H o.pl=some (.lst (S.players.map V.str))
 ins:∃vs,H o.ins=some (.dK ((S.ak.map fun x=>kS x.1).zip vs))/\ay H (S.ak.map MK) vs
 st:∃vs,H o.st=some (.dK ((S.aH.map fun x=>kS x.1).zip vs))/\ay H (S.aH.map Oa) vs
 ba:∃vs,H o.ba=some (.lst vs)/\ay H (S.aL.map kT) vs
 ho:H o.ho=some (.dK ((S.holds.map fun x=>kS x.1).zip (o.hs.map V.ref)))/\b8 H HX (S.holds.map (·.2)) o.hs
 no:H o.no=some (.dT ((S.aG.map fun x=>kN x.1).zip (o.ns.map V.ref)))/\b8 H eO (S.aG.map (·.2)) o.ns
 re:∃vs,H o.re=some (.lst vs)/\ay H (S.repeats.map jB) vs
 nd:o.lists.Nodup
 dd:[o.ins,o.st,o.ho].Nodup
theorem b8.mono (s:au H H'):∀{ls:List (List α)} {as:List Addr},b8 H d ls as->b8 H' d ls as
 | [],_,h=>h
 | l::r,_,⟨a,t,vs,e,h1,h2,h3⟩=>⟨a,t,vs,e,s _ _ h1,h2.mono s,b8.mono s h3⟩
theorem bR.mono (s:au H H') (h:bR C H a S o):bR C H' a S o where
 obj:=by obtain⟨ub,jm,h1,h2,h3⟩:=h.obj;exact⟨ub,jm,s _ _ h1,h2.mono s,h3.mono s⟩
 pl:=s _ _ h.pl
 ins:=by obtain⟨vs,h1,h2⟩:=h.ins;exact⟨vs,s _ _ h1,h2.mono s⟩
 st:=by obtain⟨vs,h1,h2⟩:=h.st;exact⟨vs,s _ _ h1,h2.mono s⟩
 ba:=by obtain⟨vs,h1,h2⟩:=h.ba;exact⟨vs,s _ _ h1,h2.mono s⟩
 ho:=⟨s _ _ h.ho.1,h.ho.2.mono s⟩
 no:=⟨s _ _ h.no.1,h.no.2.mono s⟩
 re:=by obtain⟨vs,h1,h2⟩:=h.re;exact⟨vs,s _ _ h1,h2.mono s⟩
 nd:=h.nd
 dd:=h.dd
def cN (o:Option HO):Prop:=∀vs,o≠some (.tup vs)
mutual
theorem Is.upd (hx:cN (H x)):∀{d:Dt} {v:V},Is H d v->Is (upd H x o) d v
 | .bC,_,h=>by unfold Is at h ⊢;exact h
 | .bl _,_,h=>by unfold Is at h ⊢;exact h
 | .int _,_,h=>by unfold Is at h ⊢;exact h
 | .str _,_,h=>by unfold Is at h ⊢;exact h
 | .tup l,_,h=>by
  unfold Is at h ⊢;obtain⟨a,vs,e,ha,hl⟩:=h;have ne:a≠x:=fun z=>hx vs (by rw[<-z];exact ha);exact⟨a,vs,e,by rw[aD ne];exact ha,ay.upd hx hl⟩
theorem ay.upd (hx:cN (H x)):∀{l:List Dt} {vs:List V},ay H l vs->ay (L2.upd H x o) l vs
 | [],_,h=>by unfold ay at h ⊢;exact h
 | d::l,_,h=>by
  unfold ay at h ⊢;obtain⟨v,r,e,hv,hr⟩:=h;exact⟨v,r,e,Is.upd hx hv,ay.upd hx hr⟩
end
theorem b8.upd (hx:cN (H x)):∀{ls:List (List α)} {as:List Addr},x∉as->b8 H d ls as->b8 (L2.upd H x o) d ls as
 | [],_,_,h=>h
 | l::r,_,nx,⟨a,t,vs,e,h1,h2,h3⟩=>by
  subst e;have ne:a≠x:=fun z=>nx (by rw[z];exact zp);exact⟨a,t,vs,rfl,by rw[aD ne];exact h1,ay.upd hx h2,b8.upd hx (fun z=>nx (zm _ z)) h3⟩
structure Cf (K:yA) (C:Addr):Prop where
 cls:Om K C
 players:eP K C "players"
 ak:eP K C "instruments"
 aH:eP K C "staffs"
 aL:eP K C "bars"
 aE:eP K C "upbeat"
 holds:eP K C "holds"
 aG:eP K C "notes"
 repeats:eP K C "repeats"
 bZ:eP K C "jump"
def N6 (n:Nat):NumText.digitsVal (dec (n:Int)).cps.toList=n:=by rw[wR];exact PySem.W.KIN.val_back n
def Pp {most:Int} {n k:Nat} (hk:0<k) (hm:(k:Int)<=most) (h:n<10^k):rn most (dec (n:Int)).cps.toList=some (n:Int):=by
 have l1:=F5 (n:=n);have l2:=Cp hk h;have el:(dec (n:Int)).cps.toList.length=(dec (n:Int)).length:=Array.length_toList;have ha:((dec (n:Int)).cps.toList.all fun c=>decide (c∈v8))=true:=yo.mpr fun c hc=>ze (Qa (kR hc).1 (kR hc).2);unfold rn;rw[if_neg nofun,if_neg nofun,if_pos ha,if_neg,N6];rintro⟨z1,z2⟩;have:=Kh (n:=n) (by rw[<-Array.getElem?_toList];exact z1);omega
def oy {most n:Int} {k:Nat} (hk:0<k) (hm:(k:Int)<=most) (h0:0<=n) (h:n<10^k):rn most (dec n).cps.toList=some n:=by
 obtain⟨m,rfl⟩:=yK h0;exact Pp hk hm (by exact_mod_cast h)
def fm {n:Int} (h0:0<=n) (h:n<1000):fC (dec n)=some n:=oy (k:=3) ∅ ∅ h0 nofun
def BX (h0:0<=n) (h:n<1000) (h1:lo<=n) (h2:n<=hi):mC (dec n) lo hi=some n:=by
 unfold mC;rw[fm h0 h];dsimp only;rw[if_neg nofun,if_neg nofun]
def G9 {most n:Int} {k:Nat} (hk:0<k) (hm:(k:Int)<=most) (h1:-(10^k)<n) (h2:n<10^k):rs most (dec n)=some n:=by
 unfold rs
 by_cases h0:0<=n
 ·rw[if_neg,oy hk hm h0 h2]
  intro z;obtain⟨m,rfl⟩:=yK h0;have:=kR (zB z);omega
 ·have e:(dec n).cps.toList=45::(dec (-n)).cps.toList:=by rw[wQ nofun,cA];rfl
  rw[e,if_pos (show(45::(dec (-n)).cps.toList)[0]?=some 45 from rfl)];show(match rn most (dec (-n)).cps.toList with | some n=>if n=0 then none else some (-n) | none=>none)=_;rw[oy hk hm nofun nofun];dsimp only;rw[if_neg nofun,Int.neg_neg]
def Lz {q:Int×Int} (h:MW q):rp (dec q.1) (dec q.2)=some q:=by
 obtain⟨h1,h2,h3,h4,h5⟩:=h;unfold rp;rw[G9 (k:=2) ∅ ∅ nofun nofun,G9 (k:=2) ∅ ∅ nofun nofun];dsimp only;rw[if_pos h5]
def F7 (n:Int):47∉(dec n).cps.toList:=fY ∅ ∅
def Jf (n:Int):58∉(dec n).cps.toList:=fY ∅ ∅
def FF {x:Int×Int} (h:Rd x) (h1:x.1<10000) (h2:x.2<10000):M5 (iF x)=some x:=by
 obtain⟨p1,p2,p3⟩:=h.pos;unfold iF M5
 by_cases c:x.2=1
 ·rw[if_pos c,show Txt.split (dec x.1) "/"= [dec x.1] from split1 (c:=47) (F7 _)]
  dsimp only;rw[oy (k:=4) ∅ ∅ p1 nofun];dsimp only;rw[<-c,p3]
 ·rw[if_neg c,show Txt.split (dec x.1 ++"/" ++ dec x.2) "/"= [dec x.1,dec x.2] from CL (c:=47) (F7 _) (F7 _)]
  dsimp only;rw[oy (k:=4) ∅ ∅ p1 nofun,oy (k:=4) ∅ ∅ nofun nofun];dsimp only;rw[if_neg nofun,p3]
def Dv (h:M8 x):lr (iF x)=some x:=by
 obtain⟨h1,h2,h3,h4⟩:=h;unfold lr;rw[FF h1 h3 h4];dsimp only;rw[if_neg nofun]
def NY (h:KL it):ir (qF it)=some it:=by
 obtain⟨o,x⟩:=it;obtain⟨h1,h2⟩:=h;cases o with
 | none=>
  have e:Txt.split (qF (none,x)) ":"= [("r": Str),iF x]:=CL (c:=58) (a:="r") ∅ (B8 h1);unfold ir;rw[e];show(match lr (iF x) with | none=>none | some x=>_)=_;rw[Dv h1];exact if_pos rfl
 | some q=>
  have e:Txt.split (qF (some q,x)) ":"= [dec q.1,dec q.2,iF x]:=Pk (c:=58) (Jf _) (Jf _) (B8 h1);unfold ir;rw[e];show(match lr (iF x) with | none=>none | some x=>_)=_;rw[Dv h1];dsimp only;rw[if_neg (by simp)];show(match rp (dec q.1) (dec q.2) with | some q=>some (some q,x) | none=>none)=_;rw[Lz (h2 q rfl)]
def Hf (h1:1<=a) (h2:a<=32) (h3:b∈BC):i9 (dec a ++"/" ++ dec b)=some (a,b):=by
 have hb:0<=b/\b<1000:=by
  unfold BC at h3;simp at h3;omega
 unfold i9;rw[show Txt.split (dec a ++"/" ++ dec b) "/"= [dec a,dec b] from CL (c:=47) (F7 _) (F7 _)];dsimp only;rw[BX nofun nofun h1 h2,fm hb.1 hb.2];dsimp only;rw[if_pos h3]
def LC {k:Int} (h1:-7<=k) (h2:k<=7):E5 (dec k)=some k:=by
 unfold E5;rw[G9 (k:=3) ∅ ∅ nofun nofun];dsimp only;rw[if_neg (by split <;> omega)]
def JL (h:MW q) (h1:-12<=q.1) (h2:q.1<=12):xM (dec q.1) (dec q.2)=some q:=by
 unfold xM;rw[Lz h];dsimp only;rw[if_neg (by split <;> omega)]
theorem oq:∀{l:List α},(∀x∈l,f (g x)=some x)->ou ((l.map g).map f)=some l
 | [],_=>rfl
 | x::l,h=>by
  rw[zh,zh,h x zp];unfold ou;rw[oq fun y hy=>h y (zm _ hy)]
noncomputable def oY (e:End):Str:=dec e.1 ++":" ++ Str.join "," (e.2.map dec)
def S5 (e:End):Prop:=0<=e.1/\e.1<1000/\e.2≠[]/\∀p∈e.2,0<=p/\p<1000
theorem oJ (hs:c∉sep.cps.toList):∀{zs:List Str},(∀z∈zs,c∉z.cps.toList)->c∉(Str.join sep zs).cps.toList
 | [],_=>by show c∉("": Str).cps.toList;exact zD
 | [z],h=>h z zp
 | z::y::r,h=>by
  rw[eV,cA,cA];intro m;rcases zF.mp m with m | m
  ·rcases zF.mp m with m | m
   ·exact h z zp m
   ·exact hs m
  ·exact oJ hs (fun x hx=>h x (zm _ hx)) m
def LF (h:S5 e):xN (oY e)=some e:=by
 obtain⟨h1,h2,h3,h4⟩:=h;have f:58∉(Str.join "," (e.2.map dec)).cps.toList:=oJ ∅ fun z hz=>by
  obtain⟨y,_,rfl⟩:=zG.mp hz;exact Jf _
 unfold xN oY;rw[show Txt.split (dec e.1 ++":" ++ Str.join "," (e.2.map dec)) ":"= [dec e.1,Str.join "," (e.2.map dec)] from CL (c:=58) (Jf _) f];dsimp only;rw[show Txt.split (Str.join "," (e.2.map dec)) ","= e.2.map dec from gj (c:=44) (by simpa using h3) fun z hz=>by
  obtain⟨y,_,rfl⟩:=zG.mp hz;exact fY ∅ ∅]
 rw[fm h1 h2,oq fun x hx=>fm (h4 x hx).1 (h4 x hx).2]
def KG (w:Str):Prop:=w≠ ""/\32∉w.cps.toList/\10∉w.cps.toList
def GQ (ne:ws≠[]) (h:∀w∈ws,KG w):words (Str.join " " ws)=ws:=by
 unfold words;rw[show Txt.split (Str.join " " ws) " "= ws from gj (c:=32) ne fun w hw=>(h w hw).2.1];exact List.filter_eq_self.mpr fun w hw=>ze (h w hw).1
def fF (n:Int):KG (dec n):=by
 refine⟨fun z=>?_,fY ∅ ∅,fY ∅ ∅⟩
 by_cases h:0<=n
 ·obtain⟨m,rfl⟩:=yK h
  have:=F5 (n:=m);rw[z] at this;exact absurd this ∅
 ·have e:(dec n).cps.toList=45::(dec (-n)).cps.toList:=by rw[wQ nofun,cA];rfl
  rw[z] at e;cases e
def Gs (ha:KG a) (hb1:32∉b.cps.toList) (hb2:10∉b.cps.toList):KG (a++b):=by
 refine⟨fun z=>ha.1 (lg ?_),fun m=>?_,fun m=>?_⟩
 ·have e:(a++b).cps.toList=("": Str).cps.toList:=by rw[z]
  rw[cA] at e;exact(List.append_eq_nil_iff.mp e).1
 ·rw[cA] at m
  rcases zF.mp m with m | m
  ·exact ha.2.1 m
  ·exact hb1 m
 ·rw[cA] at m
  rcases zF.mp m with m | m
  ·exact ha.2.2 m
  ·exact hb2 m
def Eb (ha:KG a) (hb1:32∉b.cps.toList) (hb2:10∉b.cps.toList) (hc:KG c):KG (a++b++c):=Gs (Gs ha hb1 hb2) hc.2.1 hc.2.2
def yR (x:Int×Int):KG (iF x):=by
 unfold iF;split
 ·exact fF _
 ·exact Eb (fF _) ∅ ∅ (fF _)
def P5 (it:Item):KG (qF it):=by
 obtain⟨o,x⟩:=it;cases o with
 | none=>exact Gs (a:="r:") ⟨∅,∅,∅⟩ (yR x).2.1 (yR x).2.2
 | some q=>exact Eb (Eb (fF _) ∅ ∅ (fF _)) ∅ ∅ (yR x)
def Qg (e:End):KG (oY e):=by
 have f:∀c,c≠44->c≠45->¬(48<=c/\c<=57)->c∉(Str.join "," (e.2.map dec)).cps.toList:=fun c h0 h1 h2=>oJ (by show c∉[44];simpa using h0) fun z hz=>by
  obtain⟨y,_,rfl⟩:=zG.mp hz;exact fY h1 h2
 unfold oY;exact Gs (Gs (fF _) ∅ ∅) (f 32 ∅ ∅ ∅) (f 10 ∅ ∅ ∅)
def gf (n:Str):Prop:=cE n=some n
def gf.w (h:gf n):KG n:=by
 unfold gf cE at h;split at h
 ·cases h
 ·split at h
  ·cases h
  ·split at h
   ·rename_i h1 _ h3
    have hs:∀c,c∉sgn->c∉n.cps.toList:=fun c hc m=>hc (yd (yo.mp h3 c m));refine⟨fun z=>h1 (by rw[z];decide),hs 32 ∅,hs 10 ∅⟩
   ·cases h
noncomputable def ctxt:Option Int->Str
 | none=> "end"
 | some n=>dec n
noncomputable def wordsOf:Told->List Str
 | .bA n=>["player",n]
 | .cF n t l=>["instrument",n,dec t.1,dec t.2,iF l]
 | .cg n ps=> "staff":: n::ps
 | .bar b=> "bar":: (dec b.aP.1 ++"/" ++ dec b.aP.2)::dec b.key::b.marks
 | .aE l=>["upbeat",iF l]
 | .holds p b i=>["holds",p,dec b,i]
 | .aG b p its=> "notes":: dec b::p::its.map qF
 | .rep r=> "repeat":: dec r.first::dec r.last::dec r.times::r.ends.map oY
 | .bZ j=>["jump",dec j.wL,dec j.AS,dec j.dr,ctxt j.gy]
noncomputable def rowOf (t:Told):Str:=Str.join " " (wordsOf t)
def NB (n:Int):Prop:=0<=n/\n<1000
def ON:Told->Prop
 | .bA n=>gf n
 | .cF n t l=>gf n/\MW t/\-12<=t.1/\t.1<=12/\Lm.Rd l/\l.1<10000/\l.2<10000
 | .cg n ps=>gf n/\ps≠[]/\∀p∈ps,gf p
 | .bar b=>1<=b.aP.1/\b.aP.1<=32/\b.aP.2∈BC/\-7<=b.key/\b.key<=7/\∀m∈b.marks,gf m
 | .aE l=>M8 l
 | .holds p b i=>gf p/\NB b/\gf i
 | .aG b p its=>NB b/\gf p/\(∀it∈its,KL it)/\its.all (fun it=>it.1.isNone)=false
 | .rep r=>NB r.first/\NB r.last/\2<=r.times/\r.times<=9/\∀e∈r.ends,S5 e
 | .bZ j=>NB j.wL/\NB j.AS/\NB j.dr/\∀c,j.gy=some c->NB c
def Jm (h:∀p∈l,gf p):ou (l.map cE)=some l:=by
 have:=oq (f:=cE) (g:=fun x:Str=>x) (l:=l) h
 rwa [List.map_id'] at this
def Hh (h:ON t):oB (wordsOf t)=some t:=by
 cases t with
 | bA n=>
  show(cE n).map Told.bA=_;rw[show cE n=some n from h];rfl
 | cF n t l=>
  obtain⟨h1,h2,h3,h4,h5,h6,h7⟩:=h;show(lF [n,dec t.1,dec t.2,iF l]).map (fun x=>Told.cF x.1 x.2.1 x.2.2)=_;unfold lF;dsimp only;rw[show cE n=some n from h1,JL h2 h3 h4,FF h5 h6 h7];rfl
 | cg n ps=>
  obtain⟨h1,h2,h3⟩:=h;show(qt (n::ps)).map (fun x=>Told.cg x.1 x.2)=_;obtain⟨b,r,rfl⟩:=List.exists_cons_of_ne_nil h2;rw[qq,Jm (l:=n::b::r) fun p hp=>by
   rcases zC.mp hp with e | e
   ·rw[e];exact h1
   ·exact h3 p e]
  rfl
 | bar b=>
  obtain⟨h1,h2,h3,h4,h5,h6⟩:=h;show(Bb ((dec b.aP.1 ++"/" ++ dec b.aP.2)::dec b.key::b.marks)).map Told.bar=_;unfold Bb;dsimp only;rw[Jm h6,Hf h1 h2 h3,LC h4 h5];rfl
 | aE l=>
  show(lr (iF l)).map Told.aE=_;rw[Dv h];rfl
 | holds p b i=>
  obtain⟨h1,h2,h3⟩:=h;show(rQ [p,dec b,i]).map (fun x=>Told.holds x.1 x.2.1 x.2.2)=_;unfold rQ;dsimp only;rw[show cE p=some p from h1,fm h2.1 h2.2,show cE i=some i from h3];rfl
 | aG b p its=>
  obtain⟨h1,h2,h3,h4⟩:=h;show(kb (dec b::p::its.map qF)).map (fun x=>Told.aG x.1 x.2.1 x.2.2)=_;cases its with
  | nil=>cases h4
  | cons i r=>
   show(kb (dec b::p::qF i::r.map qF)).map _=_;unfold kb;have e:=oq (f:=ir) (g:=qF) (l:=i::r) fun x hx=>NY (h3 x hx);rw[zh] at e;dsimp only;rw[e];dsimp only;rw[h4,fm h1.1 h1.2,show cE p=some p from h2];rfl
 | rep r=>
  obtain⟨h1,h2,h3,h4,h5⟩:=h;show(jO (dec r.first::dec r.last::dec r.times::r.ends.map oY)).map Told.rep=_;unfold jO;dsimp only;rw[oq fun x hx=>LF (h5 x hx),fm h1.1 h1.2,fm h2.1 h2.2,BX nofun nofun h3 h4];rfl
 | bZ j=>
  obtain⟨h1,h2,h3,h4⟩:=h;show(u9 [dec j.wL,dec j.AS,dec j.dr,ctxt j.gy]).map Told.bZ=_;unfold u9;dsimp only;rw[fm h1.1 h1.2,fm h2.1 h2.2,fm h3.1 h3.2];obtain⟨a,b,c,d⟩:=j;cases d with
  | none=>rfl
  | some n=>
   dsimp only[ctxt];rw[fm (h4 n rfl).1 (h4 n rfl).2];rfl
def IC (h:ON t):∀w∈wordsOf t,KG w:=by
 have lit:∀s:Str,s≠ ""->32∉s.cps.toList->10∉s.cps.toList->KG s:=fun s a b c=>⟨a,b,c⟩
 cases t with
 | bA n=>
  intro w hw;simp only[wordsOf,zC,zD,or_false] at hw;rcases hw with rfl | rfl
  ·exact lit _ ∅ ∅ ∅
  ·exact gf.w h
 | cF n t l=>
  intro w hw;simp only[wordsOf,zC,zD,or_false] at hw;rcases hw with rfl | rfl | rfl | rfl | rfl
  ·exact lit _ ∅ ∅ ∅
  ·exact gf.w h.1
  ·exact fF _
  ·exact fF _
  ·exact yR _
 | cg n ps=>
  intro w hw;simp only[wordsOf,zC] at hw;rcases hw with rfl | rfl | hw
  ·exact lit _ ∅ ∅ ∅
  ·exact gf.w h.1
  ·exact gf.w (h.2.2 _ hw)
 | bar b=>
  intro w hw;simp only[wordsOf,zC] at hw;rcases hw with rfl | rfl | rfl | hw
  ·exact lit _ ∅ ∅ ∅
  ·exact Eb (fF _) ∅ ∅ (fF _)
  ·exact fF _
  ·exact gf.w (h.2.2.2.2.2 _ hw)
 | aE l=>
  intro w hw;simp only[wordsOf,zC,zD,or_false] at hw;rcases hw with rfl | rfl
  ·exact lit _ ∅ ∅ ∅
  ·exact yR _
 | holds p b i=>
  intro w hw;simp only[wordsOf,zC,zD,or_false] at hw;rcases hw with rfl | rfl | rfl | rfl
  ·exact lit _ ∅ ∅ ∅
  ·exact gf.w h.1
  ·exact fF _
  ·exact gf.w h.2.2
 | aG b p its=>
  intro w hw;simp only[wordsOf,zC,zG] at hw;rcases hw with rfl | rfl | rfl | ⟨x,_,rfl⟩
  ·exact lit _ ∅ ∅ ∅
  ·exact fF _
  ·exact gf.w h.2.1
  ·exact P5 _
 | rep r=>
  intro w hw;simp only[wordsOf,zC,zG] at hw;rcases hw with rfl | rfl | rfl | rfl | ⟨x,_,rfl⟩
  ·exact lit _ ∅ ∅ ∅
  ·exact fF _
  ·exact fF _
  ·exact fF _
  ·exact Qg _
 | bZ j=>
  intro w hw;simp only[wordsOf,zC,zD,or_false] at hw;rcases hw with rfl | rfl | rfl | rfl | rfl
  ·exact lit _ ∅ ∅ ∅
  ·exact fF _
  ·exact fF _
  ·exact fF _
  ·unfold ctxt
   cases j.gy with
   | none=>exact lit _ ∅ ∅ ∅
   | some n=>exact fF _
def GR (t:Told):wordsOf t≠[]:=by cases t <;> simp[wordsOf]
def JM (h:ON t):words (rowOf t)=wordsOf t:=GQ (GR t) (IC h)
def LA (h:ON t):10∉(rowOf t).cps.toList:=oJ ∅ fun w hw=>(IC h w hw).2.2
noncomputable def kindOf:HO->Nat
 | .lst _=>0
 | .tup _=>1
 | .ins _ _ _=>2
 | .dK _=>3
 | .dT _=>4
 | _=>5
def aZ {H:Hp} {a b:Addr} {u v:HO} (h1:H a=some u) (h2:H b=some v) (k:kindOf u≠kindOf v):a≠b:=fun z=>by
 rw[z,h2] at h1;cases h1;exact k rfl
noncomputable def own (a:Addr) (o:Ow):List Addr:=[a,o.pl,o.ins,o.st,o.ba,o.ho,o.no,o.re]++o.hs++o.ns
def wF (L:List Addr) (H H':Hp):Prop:=∀b u,b∉L->H b=some u->H' b=some u
def wF.of (s:au H H'):wF L H H':=fun b u _ h=>s b u h
def wF.trans (s:wF L H H') (t:wF L H' H''):wF L H H'':=fun b u n h=>t b u n (s b u n h)
theorem wF.upd (h:x∈L):wF L H (L2.upd H x o):=fun b u n e=>by
 rw[aD (fun z=>n (by rw[z];exact h))];exact e
structure Nd (o:Ow):Prop where
 pb:o.pl≠o.ba
 pr:o.pl≠o.re
 ph:o.pl∉o.hs
 pn:o.pl∉o.ns
 br:o.ba≠o.re
 bh:o.ba∉o.hs
 bn:o.ba∉o.ns
 rh:o.re∉o.hs
 rn:o.re∉o.ns
 hh:o.hs.Nodup
 nn:o.ns.Nodup
 hn:∀x∈o.hs,x∉o.ns
def Nd.of (h:o.lists.Nodup):Nd o:=by
 unfold Ow.lists at h;rw[zR] at h;obtain⟨h1,h2,h3⟩:=h;rw[zR] at h1;obtain⟨h4,h5,h6⟩:=h1;simp only[yc,zC,zD,or_false,not_or] at h4;refine⟨h4.1.1,h4.1.2,fun z=>?_,fun z=>?_,h4.2.1,fun z=>?_,fun z=>?_,fun z=>?_,fun z=>?_,h5,h2,fun x hx z=>?_⟩
 ·exact h6 o.pl (by simp) o.pl z rfl
 ·exact h3 o.pl (by simp) o.pl z rfl
 ·exact h6 o.ba (by simp) o.ba z rfl
 ·exact h3 o.ba (by simp) o.ba z rfl
 ·exact h6 o.re (by simp) o.re z rfl
 ·exact h3 o.re (by simp) o.re z rfl
 ·exact h3 x (by simp[hx]) x z rfl
def Nd.to (h:Nd o):o.lists.Nodup:=by
 unfold Ow.lists;rw[zR];refine⟨?_,h.nn,?_⟩
 ·rw[zR]
  refine⟨?_,h.hh,?_⟩
  ·simp only[yc,zC,zD,or_false,not_or]
   exact⟨⟨h.pb,h.pr⟩,h.br,fun z=>z,List.nodup_nil⟩
  ·intro x hx y hy e
   subst e;simp only[zC,zD,or_false] at hx;rcases hx with rfl | rfl | rfl
   ·exact h.ph hy
   ·exact h.bh hy
   ·exact h.rh hy
 ·intro x hx y hy e
  subst e;rw[zF] at hx;rcases hx with hx | hx
  ·simp only[zC,zD,or_false] at hx
   rcases hx with rfl | rfl | rfl
   ·exact h.pn hy
   ·exact h.bn hy
   ·exact h.rn hy
  ·exact h.hn x hx hy
section
variable {C a x:Addr} {H:Hp} {S:cG} {o:Ow} {u:HO}
def bR.B7 (h:bR C H a S o) (nx:cN (H x)) (n:a≠x):∃ub jm,L2.upd H x u a=some (.ins C o.dx (M3 o ub jm))/\Is (L2.upd H x u) (dO dL S.aE) ub/\Is (L2.upd H x u) (dO jq S.bZ) jm:=by
 obtain⟨ub,jm,h1,h2,h3⟩:=h.obj;exact⟨ub,jm,by rw[aD n];exact h1,Is.upd nx h2,Is.upd nx h3⟩
def bR.C7 (h:bR C H a S o) (n:o.pl≠x):L2.upd H x u o.pl=some (.lst (S.players.map V.str)):=by rw[aD n];exact h.pl
def bR.sD (h:bR C H a S o) (nx:cN (H x)) (n:o.ins≠x):∃vs,L2.upd H x u o.ins=some (.dK ((S.ak.map fun x=>kS x.1).zip vs))/\ay (L2.upd H x u) (S.ak.map MK) vs:=by
 obtain⟨vs,h1,h2⟩:=h.ins;exact⟨vs,by rw[aD n];exact h1,ay.upd nx h2⟩
def bR.CJ (h:bR C H a S o) (nx:cN (H x)) (n:o.st≠x):∃vs,L2.upd H x u o.st=some (.dK ((S.aH.map fun x=>kS x.1).zip vs))/\ay (L2.upd H x u) (S.aH.map Oa) vs:=by
 obtain⟨vs,h1,h2⟩:=h.st;exact⟨vs,by rw[aD n];exact h1,ay.upd nx h2⟩
def bR.D1 (h:bR C H a S o) (nx:cN (H x)) (n:o.ba≠x):∃vs,L2.upd H x u o.ba=some (.lst vs)/\ay (L2.upd H x u) (S.aL.map kT) vs:=by
 obtain⟨vs,h1,h2⟩:=h.ba;exact⟨vs,by rw[aD n];exact h1,ay.upd nx h2⟩
def bR.C4 (h:bR C H a S o) (nx:cN (H x)) (n:o.re≠x):∃vs,L2.upd H x u o.re=some (.lst vs)/\ay (L2.upd H x u) (S.repeats.map jB) vs:=by
 obtain⟨vs,h1,h2⟩:=h.re;exact⟨vs,by rw[aD n];exact h1,ay.upd nx h2⟩
def bR.FK (h:bR C H a S o) (nx:cN (H x)) (n:o.ho≠x) (nn:x∉o.hs):L2.upd H x u o.ho=some (.dK ((S.holds.map fun x=>kS x.1).zip (o.hs.map V.ref)))/\b8 (L2.upd H x u) HX (S.holds.map (·.2)) o.hs:=
 ⟨by rw[aD n];exact h.ho.1,b8.upd nx nn h.ho.2⟩
def bR.Dq (h:bR C H a S o) (nx:cN (H x)) (n:o.no≠x) (nn:x∉o.ns):L2.upd H x u o.no=some (.dT ((S.aG.map fun x=>kN x.1).zip (o.ns.map V.ref)))/\b8 (L2.upd H x u) eO (S.aG.map (·.2)) o.ns:=
 ⟨by rw[aD n];exact h.no.1,b8.upd nx nn h.no.2⟩
end
theorem cC:∀{ls:List (List α)} {as:List Addr},b8 H d ls as->x∈as->∃vs,H x=some (.lst vs)
 | [],_,h,hx=>by unfold b8 at h;subst h;simp at hx
 | l::r,_,⟨a,t,vs,e,h1,_,h3⟩,hx=>by
  subst e;rcases zC.mp hx with rfl | hx
  ·exact⟨vs,h1⟩
  ·exact cC h3 hx
theorem b8.snoc (hx:H x=some (.lst vs)) (im:ay H (m.map d) vs):∀{ls:List (List α)} {as:List Addr},b8 H d ls as->b8 H d (ls++[m]) (as++[x])
 | [],_,h=>by unfold b8 at h;subst h;exact⟨x,[],vs,rfl,hx,im,rfl⟩
 | l::r,_,⟨a,t,vs',e,h1,h2,h3⟩=>by
  subst e;exact⟨a,t++[x],vs',rfl,h1,h2,b8.snoc hx im h3⟩
def K0 (h:l.length=m.length) (x:α) (y:β):(l++[x]).zip (m++[y])=l.zip m++[(x,y)]:=by
 rw[List.zip_append h];rfl
def rR {κ:Type} [DecidableEq κ] {ks:List κ} {vs:List V} (hl:ks.length=vs.length) {k:κ} {v:V} (h:e9 (ks.zip vs) k=none):putK (ks.zip vs) k v=(ks++[k]).zip (vs++[v]):=by
 rw[K0 hl];exact LM v h
theorem Ce (p:Str):∀{hs:List (Str×List α)} {as:List Addr},b8 H d (hs.map (·.2)) as->as.Nodup->(hs.map (·.1)).Nodup->p∈hs.map (·.1)->
  ∃x vs,e9 ((hs.map fun x=>kS x.1).zip (as.map V.ref)) (kS p)=some (.ref x)/\x∈as/\H x=some (.lst vs)/\∀y e,Is (L2.upd H x (.lst (vs++[y]))) (d e) y->
   b8 (L2.upd H x (.lst (vs++[y]))) d ((hs.map fun q=>if q.1=p then(q.1,q.2++[e]) else q).map (·.2)) as
 | [],_,_,_,_,h=>by simp at h
 | (k,l)::r,_,hL,na,nk,hm=>by
  rw[zh] at hL;obtain⟨a,t,vs,rfl,h1,h2,h3⟩:=hL;rw[zh,yc] at nk;rw[yc] at na
  by_cases e:k=p
  ·subst e
   refine⟨a,vs,?_,zp,h1,fun y e iy=>?_⟩
   ·rw[zh,zh,List.zip_cons_cons]
    unfold e9;rw[List.find?_cons];simp
   ·have nx:cN (H a):=by rw[h1];exact fun _ z=>by cases z
    have er:(r.map fun q=>if q.1=k then(q.1,q.2++[e]) else q)=r:=by
     conv=>rhs;rw[<-List.map_id r]
     refine List.map_congr_left fun q hq=>?_;rw[if_neg (fun z=>nk.1 (by rw[show(k,l).1=q.1 from z.symm];exact zO (f:=fun x:Str×List α=>x.1) hq))];rfl
    rw[zh,zh,if_pos rfl,er];refine⟨a,t,vs++[y],rfl,aC,?_,b8.upd nx na.1 h3⟩;rw[zj];exact cR iy (ay.upd nx h2)
  ·have hm':p∈r.map (·.1):=by
    rcases zC.mp hm with z | z
    ·exact absurd z.symm e
    ·exact z
   obtain⟨x,vs',e1,e2,e3,e4⟩:=Ce p h3 na.2 nk.2 hm';refine⟨x,vs',?_,zm _ e2,e3,fun y e iy=>?_⟩
   ·have e':¬kS k=kS p:=fun z=>e (Sum.inr.inj z)
    rw[zh,zh,List.zip_cons_cons];unfold e9 at e1 ⊢;rw[List.find?_cons];simp only[e',decide_false];exact e1
   ·have nx:cN (H x):=by rw[e3];exact fun _ z=>by cases z
    rw[zh,zh,if_neg (by assumption)];refine⟨a,t,vs,rfl,?_,ay.upd nx h2,e4 y e iy⟩;rw[aD (fun z=>na.1 (by rw[z];exact e2))];exact h1
section
variable {C a:Addr} {H:Hp} {S:cG} {o:Ow}
def bR.Ii (h:bR C H a S o) (n:Str):bR C (L2.upd H o.pl (.lst (S.players.map V.str++[.str n]))) a (bE S (.bA n)) o:=by
 have d:=Nd.of h.nd;have hp:=h.pl;have nx:cN (H o.pl):=by rw[hp];exact fun _ z=>by cases z
 obtain⟨_,_,ha,_⟩:=h.obj;obtain⟨_,hi,_⟩:=h.ins;obtain⟨_,hs,_⟩:=h.st;exact⟨h.B7 nx (aZ ha hp (by simp[kindOf])),by rw[aC];show _=some (HO.lst ((S.players++[n]).map V.str));rw[zj];rfl,h.sD nx (aZ hi hp (by simp[kindOf])),h.CJ nx (aZ hs hp (by simp[kindOf])),h.D1 nx d.pb.symm,
  h.FK nx (aZ h.ho.1 hp (by simp[kindOf])) d.ph,h.Dq nx (aZ h.no.1 hp (by simp[kindOf])) d.pn,h.C4 nx d.pr.symm,h.nd,h.dd⟩
def bR.Oe (h:bR C H a S o) {b:KW} {v:V} {vs:List V} (hb:H o.ba=some (.lst vs)) (il:ay H (S.aL.map kT) vs) (iv:Is H (kT b) v):bR C (L2.upd H o.ba (.lst (vs++[v]))) a (bE S (.bar b)) o:=by
 have d:=Nd.of h.nd;have nx:cN (H o.ba):=by rw[hb];exact fun _ z=>by cases z
 obtain⟨_,_,ha,_⟩:=h.obj;obtain⟨_,hi,_⟩:=h.ins;obtain⟨_,hs,_⟩:=h.st;refine⟨h.B7 nx (aZ ha hb (by simp[kindOf])),h.C7 d.pb,h.sD nx (aZ hi hb (by simp[kindOf])),h.CJ nx (aZ hs hb (by simp[kindOf])),⟨_,aC,?_⟩,
  h.FK nx (aZ h.ho.1 hb (by simp[kindOf])) d.bh,h.Dq nx (aZ h.no.1 hb (by simp[kindOf])) d.bn,h.C4 nx d.br.symm,h.nd,h.dd⟩
 show ay _ ((S.aL++[b]).map kT) _;rw[zj];exact cR (Is.upd nx iv) (ay.upd nx il)
def bR.Oc (h:bR C H a S o) {r:Rep} {v:V} {vs:List V} (hb:H o.re=some (.lst vs)) (il:ay H (S.repeats.map jB) vs) (iv:Is H (jB r) v):bR C (L2.upd H o.re (.lst (vs++[v]))) a (bE S (.rep r)) o:=by
 have d:=Nd.of h.nd;have nx:cN (H o.re):=by rw[hb];exact fun _ z=>by cases z
 obtain⟨_,_,ha,_⟩:=h.obj;obtain⟨_,hi,_⟩:=h.ins;obtain⟨_,hs,_⟩:=h.st;refine⟨h.B7 nx (aZ ha hb (by simp[kindOf])),h.C7 d.pr,h.sD nx (aZ hi hb (by simp[kindOf])),h.CJ nx (aZ hs hb (by simp[kindOf])),h.D1 nx d.br,
  h.FK nx (aZ h.ho.1 hb (by simp[kindOf])) d.rh,h.Dq nx (aZ h.no.1 hb (by simp[kindOf])) d.rn,⟨_,aC,?_⟩,h.nd,h.dd⟩
 show ay _ ((S.repeats++[r]).map jB) _;rw[zj];exact cR (Is.upd nx iv) (ay.upd nx il)
def wW {n:Str} {ks:List Str} {vs:List V} (h:n∉ks):e9 ((ks.map kS).zip vs) (kS n)=none:=by
 unfold e9;rw[Option.map_eq_none_iff,List.find?_eq_none];intro x hx z;have e:=yd z;have m:=(List.of_mem_zip hx).1;obtain⟨k,hk,ek⟩:=zG.mp m;rw[<-ek] at e;exact h ((Sum.inr.inj e)▸hk)
def MI (h:[o.ins,o.st,o.ho].Nodup):o.ins≠o.st/\o.ins≠o.ho/\o.st≠o.ho:=by
 simp only[yc,zC,zD,or_false,not_or] at h;exact⟨h.1.1,h.1.2,h.2.1⟩
def bR.Kw (h:bR C H a S o) {n:Str} {t l:Int×Int} {p:Addr} {vs:List V} (hb:H o.ins=some (.dK ((S.ak.map fun x=>kS x.1).zip vs))) (il:ay H (S.ak.map MK) vs) (iv:Is H (MK (n,t,l)) (.ref p))
  (fr:n∉S.ak.map (·.1)):bR C (L2.upd H o.ins (.dK (putK ((S.ak.map fun x=>kS x.1).zip vs) (kS n) (.ref p)))) a (bE S (.cF n t l)) o:=by
 have d:=Nd.of h.nd;obtain⟨d1,d2,d3⟩:=MI h.dd;have nx:cN (H o.ins):=by rw[hb];exact fun _ z=>by cases z
 obtain⟨_,_,ha,_⟩:=h.obj;obtain⟨_,hba,_⟩:=h.ba;obtain⟨_,hre,_⟩:=h.re;have vl:=aO il;have em:(S.ak.map fun x=>kS x.1)=(S.ak.map (·.1)).map kS:=by rw[zA];rfl
 have hns:o.ins∉o.ns:=fun z=>by
  obtain⟨_,q⟩:=cC h.no.2 z;rw[hb] at q;cases q
 have hhs:o.ins∉o.hs:=fun z=>by
  obtain⟨_,q⟩:=cC h.ho.2 z;rw[hb] at q;cases q
 refine⟨h.B7 nx (aZ ha hb (by simp[kindOf])),h.C7 (aZ h.pl hb (by simp[kindOf])),⟨vs++[.ref p],?_,?_⟩,h.CJ nx d1.symm,h.D1 nx (aZ hba hb (by simp[kindOf])),
  h.FK nx d2.symm hhs,h.Dq nx (aZ h.no.1 hb (by simp[kindOf])) hns,h.C4 nx (aZ hre hb (by simp[kindOf])),h.nd,h.dd⟩
 ·rw[aC,rR (by rw[za];exact vl.symm) (by rw[em];exact wW fr)]
  show _=some (HO.dK (((S.ak++[(n,t,l)]).map fun x=>kS x.1).zip (vs++[.ref p])));rw[zj];rfl
 ·show ay _ ((S.ak++[(n,t,l)]).map MK) _
  rw[zj];exact cR (Is.upd nx iv) (ay.upd nx il)
def bR.Ku (h:bR C H a S o) {n:Str} {ps:List Str} {v:V} {vs:List V} (hb:H o.st=some (.dK ((S.aH.map fun x=>kS x.1).zip vs))) (il:ay H (S.aH.map Oa) vs) (iv:Is H (Oa (n,ps)) v)
  (fr:n∉S.aH.map (·.1)):bR C (L2.upd H o.st (.dK (putK ((S.aH.map fun x=>kS x.1).zip vs) (kS n) v))) a (bE S (.cg n ps)) o:=by
 have d:=Nd.of h.nd;obtain⟨d1,d2,d3⟩:=MI h.dd;have nx:cN (H o.st):=by rw[hb];exact fun _ z=>by cases z
 obtain⟨_,_,ha,_⟩:=h.obj;obtain⟨_,hba,_⟩:=h.ba;obtain⟨_,hre,_⟩:=h.re;have vl:=aO il;have em:(S.aH.map fun x=>kS x.1)=(S.aH.map (·.1)).map kS:=by rw[zA];rfl
 have hns:o.st∉o.ns:=fun z=>by
  obtain⟨_,q⟩:=cC h.no.2 z;rw[hb] at q;cases q
 have hhs:o.st∉o.hs:=fun z=>by
  obtain⟨_,q⟩:=cC h.ho.2 z;rw[hb] at q;cases q
 refine⟨h.B7 nx (aZ ha hb (by simp[kindOf])),h.C7 (aZ h.pl hb (by simp[kindOf])),h.sD nx d1,⟨vs++[v],?_,?_⟩,h.D1 nx (aZ hba hb (by simp[kindOf])),
  h.FK nx d3.symm hhs,h.Dq nx (aZ h.no.1 hb (by simp[kindOf])) hns,h.C4 nx (aZ hre hb (by simp[kindOf])),h.nd,h.dd⟩
 ·rw[aC,rR (by rw[za];exact vl.symm) (by rw[em];exact wW fr)]
  show _=some (HO.dK (((S.aH++[(n,ps)]).map fun x=>kS x.1).zip (vs++[v])));rw[zj];rfl
 ·show ay _ ((S.aH++[(n,ps)]).map Oa) _
  rw[zj];exact cR (Is.upd nx iv) (ay.upd nx il)
def Jy {n:Int×Str} {ks:List (Int×Str)} {vs:List V} (h:n∉ks):e9 ((ks.map kN).zip vs) (kN n)=none:=by
 unfold e9;rw[Option.map_eq_none_iff,List.find?_eq_none];intro x hx z;have e:=yd z;have m:=(List.of_mem_zip hx).1;obtain⟨k,hk,ek⟩:=zG.mp m;rw[<-ek] at e;unfold kN at e;simp at e;have:k=n:=Prod.ext e.1 e.2;exact h (this▸hk)
def bR.Kv (h:bR C H a S o) {b:Int} {pn:Str} {its:List Item} {q:Addr} {us:List V} (hq:H q=some (.lst us)) (iq:ay H (its.map eO) us) (nq:q∉o.lists) (fr:(b,pn)∉S.aG.map (·.1)) :
  bR C (L2.upd H o.no (.dT (putK ((S.aG.map fun x=>kN x.1).zip (o.ns.map V.ref)) (kN (b,pn)) (.ref q)))) a (bE S (.aG b pn its)) {o with ns:=o.ns++[q]}:=by
 have d:=Nd.of h.nd;have hb:=h.no.1;have nx:cN (H o.no):=by rw[hb];exact fun _ z=>by cases z
 obtain⟨ub,jm,ha,hub,hjm⟩:=h.obj;obtain⟨_,hi,_⟩:=h.ins;obtain⟨_,hs,_⟩:=h.st;obtain⟨_,hba,_⟩:=h.ba;obtain⟨_,hre,_⟩:=h.re;have em:(S.aG.map fun x=>kN x.1)=(S.aG.map (·.1)).map kN:=by rw[zA];rfl
 have hns:o.no∉o.ns:=fun z=>by
  obtain⟨_,q⟩:=cC h.no.2 z;rw[hb] at q;cases q
 have hhs:o.no∉o.hs:=fun z=>by
  obtain⟨_,q⟩:=cC h.ho.2 z;rw[hb] at q;cases q
 have ll:(o.ns.map V.ref).length=S.aG.length:=by
  have:∀{ls:List (List Item)} {as:List Addr},b8 H eO ls as->as.length=ls.length:=by
   intro ls
   induction ls with
   | nil=>intro as z;unfold b8 at z;rw[z];rfl
   | cons l r ih=>rintro _ ⟨a,t,vs,rfl,_,_,h3⟩;rw[zt,zt,ih h3]
  rw[za,this h.no.2,za]
 have nn:q∉[o.pl,o.ba,o.re]/\q∉o.hs/\q∉o.ns:=by
  unfold Ow.lists at nq;rw[zF,zF] at nq;exact⟨fun z=>nq (.inl (.inl z)),fun z=>nq (.inl (.inr z)),fun z=>nq (.inr z)⟩
 obtain⟨n1,n2,n3⟩:=nn;simp only[zC,zD,or_false,not_or] at n1;refine⟨⟨ub,jm,by rw[aD (aZ ha hb (by simp[kindOf]))];exact ha,Is.upd nx hub,Is.upd nx hjm⟩,h.C7 (aZ h.pl hb (by simp[kindOf])),h.sD nx (aZ hi hb (by simp[kindOf])),h.CJ nx (aZ hs hb (by simp[kindOf])),h.D1 nx (aZ hba hb (by simp[kindOf])),
  h.FK nx (aZ h.ho.1 hb (by simp[kindOf])) hhs,⟨?_,?_⟩,h.C4 nx (aZ hre hb (by simp[kindOf])),?_,h.dd⟩
 ·show L2.upd H o.no _ o.no=some (HO.dT (((S.aG++[((b,pn),its)]).map fun x=>kN x.1).zip ((o.ns++[q]).map V.ref)))
  rw[aC,rR (by rw[za];exact ll.symm) (by rw[em];exact Jy fr),zj,zj];rfl
 ·show b8 _ eO ((S.aG++[((b,pn),its)]).map (·.2)) (o.ns++[q])
  rw[zj];exact b8.snoc (by rw[aD (aZ hq hb (by simp[kindOf]))];exact hq) (ay.upd nx iq) (b8.upd nx hns h.no.2)
 ·refine Nd.to ⟨d.pb,d.pr,d.ph,?_,d.br,d.bh,?_,d.rh,?_,d.hh,?_,?_⟩
  ·show o.pl∉o.ns++[q]
   rw[zF,zy];rintro(z | z)
   ·exact d.pn z
   ·exact n1.1 z.symm
  ·show o.ba∉o.ns++[q]
   rw[zF,zy];rintro(z | z)
   ·exact d.bn z
   ·exact n1.2.1 z.symm
  ·show o.re∉o.ns++[q]
   rw[zF,zy];rintro(z | z)
   ·exact d.rn z
   ·exact n1.2.2 z.symm
  ·show(o.ns++[q]).Nodup
   rw[zR];exact⟨d.nn,by simp,fun x hx y hy e=>by rw[zy] at hy;subst hy;subst e;exact n3 hx⟩
  ·intro x hx z
   have z':x∈o.ns++[q]:=z;rw[zF,zy] at z';rcases z' with z' | z'
   ·exact d.hn x hx z'
   ·subst z';exact n2 hx
def bR.Ih (h:bR C H a S o) {l:Int×Int} {v ub jm:V} (ha:H a=some (.ins C o.dx (M3 o ub jm))) (ij:Is H (dO jq S.bZ) jm) (iv:Is H (dL l) v):bR C (L2.upd H a (.ins C o.dx (M3 o v jm))) a (bE S (.aE l)) o:=by
 have nx:cN (H a):=by rw[ha];exact fun _ z=>by cases z
 obtain⟨_,hi,_⟩:=h.ins;obtain⟨_,hs,_⟩:=h.st;obtain⟨_,hba,_⟩:=h.ba;obtain⟨_,hre,_⟩:=h.re;have hns:a∉o.ns:=fun z=>by
  obtain⟨_,q⟩:=cC h.no.2 z;rw[ha] at q;cases q
 have hhs:a∉o.hs:=fun z=>by
  obtain⟨_,q⟩:=cC h.ho.2 z;rw[ha] at q;cases q
 exact⟨⟨v,jm,aC,Is.upd nx iv,Is.upd nx ij⟩,h.C7 (aZ h.pl ha (by simp[kindOf])),h.sD nx (aZ hi ha (by simp[kindOf])),h.CJ nx (aZ hs ha (by simp[kindOf])),h.D1 nx (aZ hba ha (by simp[kindOf])),
  h.FK nx (aZ h.ho.1 ha (by simp[kindOf])) hhs,h.Dq nx (aZ h.no.1 ha (by simp[kindOf])) hns,h.C4 nx (aZ hre ha (by simp[kindOf])),h.nd,h.dd⟩
def bR.MU (h:bR C H a S o) {j:Jump} {v ub jm:V} (ha:H a=some (.ins C o.dx (M3 o ub jm))) (iu:Is H (dO dL S.aE) ub) (iv:Is H (jq j) v):bR C (L2.upd H a (.ins C o.dx (M3 o ub v))) a (bE S (.bZ j)) o:=by
 have nx:cN (H a):=by rw[ha];exact fun _ z=>by cases z
 obtain⟨_,hi,_⟩:=h.ins;obtain⟨_,hs,_⟩:=h.st;obtain⟨_,hba,_⟩:=h.ba;obtain⟨_,hre,_⟩:=h.re;have hns:a∉o.ns:=fun z=>by
  obtain⟨_,q⟩:=cC h.no.2 z;rw[ha] at q;cases q
 have hhs:a∉o.hs:=fun z=>by
  obtain⟨_,q⟩:=cC h.ho.2 z;rw[ha] at q;cases q
 exact⟨⟨ub,v,aC,Is.upd nx iu,Is.upd nx iv⟩,h.C7 (aZ h.pl ha (by simp[kindOf])),h.sD nx (aZ hi ha (by simp[kindOf])),h.CJ nx (aZ hs ha (by simp[kindOf])),h.D1 nx (aZ hba ha (by simp[kindOf])),
  h.FK nx (aZ h.ho.1 ha (by simp[kindOf])) hhs,h.Dq nx (aZ h.no.1 ha (by simp[kindOf])) hns,h.C4 nx (aZ hre ha (by simp[kindOf])),h.nd,h.dd⟩
def bR.L7 (h:bR C H a S o) {pn:Str} {q:Addr} (hq:H q=some (.lst [])) (nq:q∉o.lists) (fr:pn∉S.holds.map (·.1)) :
  bR C (L2.upd H o.ho (.dK (putK ((S.holds.map fun x=>kS x.1).zip (o.hs.map V.ref)) (kS pn) (.ref q)))) a {S with holds:=S.holds++[(pn,[])]} {o with hs:=o.hs++[q]}:=by
 have d:=Nd.of h.nd;obtain⟨d1,d2,d3⟩:=MI h.dd;have hb:=h.ho.1;have nx:cN (H o.ho):=by rw[hb];exact fun _ z=>by cases z
 obtain⟨ub,jm,ha,hub,hjm⟩:=h.obj;obtain⟨_,hba,_⟩:=h.ba;obtain⟨_,hre,_⟩:=h.re;have em:(S.holds.map fun x=>kS x.1)=(S.holds.map (·.1)).map kS:=by rw[zA];rfl
 have hns:o.ho∉o.ns:=fun z=>by
  obtain⟨_,q⟩:=cC h.no.2 z;rw[hb] at q;cases q
 have hhs:o.ho∉o.hs:=fun z=>by
  obtain⟨_,q⟩:=cC h.ho.2 z;rw[hb] at q;cases q
 have ll:(o.hs.map V.ref).length=S.holds.length:=by
  have:∀{ls:List (List (Int×Str))} {as:List Addr},b8 H HX ls as->as.length=ls.length:=by
   intro ls
   induction ls with
   | nil=>intro as z;unfold b8 at z;rw[z];rfl
   | cons l r ih=>rintro _ ⟨a,t,vs,rfl,_,_,h3⟩;rw[zt,zt,ih h3]
  rw[za,this h.ho.2,za]
 have nn:q∉[o.pl,o.ba,o.re]/\q∉o.hs/\q∉o.ns:=by
  unfold Ow.lists at nq;rw[zF,zF] at nq;exact⟨fun z=>nq (.inl (.inl z)),fun z=>nq (.inl (.inr z)),fun z=>nq (.inr z)⟩
 obtain⟨n1,n2,n3⟩:=nn;simp only[zC,zD,or_false,not_or] at n1;refine⟨⟨ub,jm,by rw[aD (aZ ha hb (by simp[kindOf]))];exact ha,Is.upd nx hub,Is.upd nx hjm⟩,h.C7 (aZ h.pl hb (by simp[kindOf])),h.sD nx d2,h.CJ nx d3,h.D1 nx (aZ hba hb (by simp[kindOf])),
  ⟨?_,?_⟩,h.Dq nx (aZ h.no.1 hb (by simp[kindOf])) hns,h.C4 nx (aZ hre hb (by simp[kindOf])),?_,h.dd⟩
 ·show L2.upd H o.ho _ o.ho=some (HO.dK (((S.holds++[((pn,[]):Str×List (Int×Str))]).map fun x:Str×List (Int×Str)=>kS x.1).zip ((o.hs++[q]).map V.ref)))
  rw[aC,rR (by rw[za];exact ll.symm) (by rw[em];exact wW fr),zj,zj];rfl
 ·show b8 _ HX ((S.holds++[((pn,[]):Str×List (Int×Str))]).map fun x:Str×List (Int×Str)=>x.2) (o.hs++[q])
  rw[zj];exact b8.snoc (vs:=[]) (by rw[aD (aZ hq hb (by simp[kindOf]))];exact hq) (by show ay _ [] [];unfold ay;rfl) (b8.upd nx hhs h.ho.2)
 ·refine Nd.to ⟨d.pb,d.pr,?_,d.pn,d.br,?_,d.bn,?_,d.rn,?_,d.nn,?_⟩
  ·show o.pl∉o.hs++[q]
   rw[zF,zy];rintro(z | z)
   ·exact d.ph z
   ·exact n1.1 z.symm
  ·show o.ba∉o.hs++[q]
   rw[zF,zy];rintro(z | z)
   ·exact d.bh z
   ·exact n1.2.1 z.symm
  ·show o.re∉o.hs++[q]
   rw[zF,zy];rintro(z | z)
   ·exact d.rh z
   ·exact n1.2.2 z.symm
  ·show(o.hs++[q]).Nodup
   rw[zR];exact⟨d.hh,by simp,fun x hx y hy e=>by rw[zy] at hy;subst hy;subst e;exact n2 hx⟩
  ·intro x hx z
   have hx':x∈o.hs++[q]:=hx;rw[zF,zy] at hx';rcases hx' with hx' | hx'
   ·exact d.hn x hx' z
   ·subst hx';exact n3 z
def bR.oF (h:bR C H a S o) {pn:Str} (nk:(S.holds.map (·.1)).Nodup) (hm:pn∈S.holds.map (·.1)) :
  ∃x vs,e9 ((S.holds.map fun x=>kS x.1).zip (o.hs.map V.ref)) (kS pn)=some (.ref x)/\x∈o.hs/\H x=some (.lst vs)/\∀y b i,Is H (HX (b,i)) y->bR C (L2.upd H x (.lst (vs++[y]))) a (bE S (.holds pn b i)) o:=by
 have d:=Nd.of h.nd;obtain⟨x,vs,e1,e2,e3,e4⟩:=Ce pn h.ho.2 d.hh nk hm;refine⟨x,vs,e1,e2,e3,fun y b i iy=>?_⟩;have nx:cN (H x):=by rw[e3];exact fun _ z=>by cases z
 obtain⟨ub,jm,ha,hub,hjm⟩:=h.obj;obtain⟨_,hi,_⟩:=h.ins;obtain⟨_,hs,_⟩:=h.st;have ea:bE S (.holds pn b i)={S with holds:=S.holds.map fun q:Str×List (Int×Str)=>if q.1=pn then(q.1,q.2++[(b,i)]) else q}:=by
  show({S with holds:=eX S.holds pn (b,i)}:cG)=_;unfold eX;rw[if_pos hm]
 rw[ea];refine⟨h.B7 nx (aZ ha e3 (by simp[kindOf])),h.C7 (fun z=>d.ph (by rw[z];exact e2)),h.sD nx (aZ hi e3 (by simp[kindOf])),h.CJ nx (aZ hs e3 (by simp[kindOf])),h.D1 nx (fun z=>d.bh (by rw[z];exact e2)),
  ⟨?_,e4 y (b,i) (Is.upd nx iy)⟩,h.Dq nx (aZ h.no.1 e3 (by simp[kindOf])) (d.hn x e2),h.C4 nx (fun z=>d.rh (by rw[z];exact e2)),h.nd,h.dd⟩
 rw[aD (aZ h.ho.1 e3 (by simp[kindOf])),h.ho.1];show _=some (HO.dK (((S.holds.map fun q:Str×List (Int×Str)=>if q.1=pn then(q.1,q.2++[(b,i)]) else q).map fun x:Str×List (Int×Str)=>kS x.1).zip _));rw[zA];have:(S.holds.map fun x:Str×List (Int×Str)=>kS x.1)=S.holds.map ((fun x:Str×List (Int×Str)=>kS x.1)∘fun q:Str×List (Int×Str)=>if q.1=pn then(q.1,q.2++[(b,i)]) else q):=by
  refine List.map_congr_left fun q _=>?_;show kS q.1=kS (if q.1=pn then((q.1,q.2++[(b,i)]):Str×List (Int×Str)) else q).1;split <;> rfl
 rw[this]
end
end Sc
namespace L2
open PySem PySem.Spec PyProof.Rows
noncomputable def noStar:Expr->Bool
 | .Starred ..=>false
 | _=>true
def ox (h:noStar e=true):starEach (e::es) env=(false,eval e env)::starEach es env:=by
 cases e <;> first | rfl | (simp[noStar] at h)
def aa (ha:PE X e te) (hr:PA X es t) (hs:noStar e=true<|>qe_):PA X (e::es) (bK te t):=ah ha hr (ox hs)
end L2
namespace Sc
open PySem L2 Lm
def lP (F:Nat->Dt) (Pσ:St->Prop) (hn:n<=sizeLine) (h0:Pσ σ₀)
  (turn:∀(i:Nat) (σ:St) (H:Hp) (R:St->V->Hp->Prop),i<n->au H1 H->Pσ σ->(∀σ3 y H5,au H H5->Is H5 (F i) y->Pσ σ3->R σ3 y H5)->g (.int (lo+i)) σ H fun σ3 H3=>te σ3 H3 fun y H5=>R σ3 y H5)
  (fin:∀D vs H,au H1 H->H1 D=none->H D=some (.lst vs)->ay H ((List.range n).map F) vs->Q (.ref D) H):dJ σ₀ g vw te Q (MX lo n) H1:=by
 refine om (ws:=List.range n) (enc:=fun i=>.int (lo+(i:Nat))) F Pσ (by rw[zQ];exact hn) h0 (fun i H hi _=>by rw[zQ] at hi;exact hi) (fun H _=>by rw[zQ];exact zk _) ?_ ?_ fin
 ·rintro i x H H2 hi _ ⟨rfl,rfl⟩
  exact⟨rfl,by rw[List.getElem_range]⟩
 ·intro i σ H R hi s p r
  exact turn i σ H R (List.mem_range.mp hi) s p r
def d8 {c:Bool} {T:(Bool->Hp->Prop)->Prop} {Z:Bool->Hp->Prop} {H:Hp} (v:Bool) (h1:c=true->∀Z,Z v H->T Z) (h2:c=false->v=false) (hz:Z v H):if c=true then T Z else Z false H:=by
 cases c with
 | true=>rw[if_pos rfl];exact h1 rfl Z hz
 | false=>rw[if_neg (by simp)];rw[<-h2 rfl];exact hz
def EI:List (Int×Int)->TA
 | []=>eI
 | p::r=>bK (EH (bK (tC (.int p.1)) (bK (tC (.int p.2)) eI))) (EI r)
theorem LR:∀{ps:List (Int×Int)} {H:Hp} {R:List V->Hp->Prop},(∀vs H',au H H'->ay H' (ps.map dL) vs->R vs H')->EI ps σ H R
 | [],H,R,h=>h [] H (au.refl _) cD
 | p::r,H,R,h=>by
  have sl:=yB;refine⟨by show 2<=sizeLine;omega,fun q hq=>?_⟩;refine LR fun vs H' s' il=>?_;have s1:=aV (o:=HO.tup [.int p.1,.int p.2]) hq;exact h _ _ (s1.trans s') (aM (iG (s' _ _ aC)) il)
def RD (ps:List (Int×Int)):TE:=fun _ H Q=>∀D vs H',au H H'->H' D=some (.lst vs)->ay H' (ps.map dL) vs->Q (.ref D) H'
def NS (hl:ps.length<=1000) (h:RD ps σ H Q):EJ (EI ps) σ H Q:=by
 have sl:=yB;refine LR fun vs H' s' il=>⟨by have:=aO il;omega,fun D hD=>?_⟩
 exact h D vs _ (s'.trans (aV hD)) aC (il.mono (aV hD))
def PJ:PA X [] (EI []):=af
def QX (h:PA X es (EI r)):PA X (.Tuple [.Constant (.int a) x1 p1,.Constant (.int b) x2 p2] k pos::es) (EI ((a,b)::r)):=
 ah (bF (ah ae (ah ae af (ox rfl)) (ox rfl))) h (ox rfl)
def PB (h:PA X es (EI ps)) (hl:ps.length<=1000<|>qb_):PE X (.List es pos) (RD ps):=by
 intro pins s σ H Q I hq;exact bx h pins s σ H Q I (NS hl hq)
def sP (h:xs[xs.length-1]?=some x):Cw xs (-1)=some x:=by
 have hp:0<xs.length:=by
  have:=(zw.mp h).1;omega
 have ne:xs≠[]:=yq.mp hp;have e:=List.dropLast_concat_getLast ne;have e2:xs.getLast ne=x:=by
  have:=(zw.mp h).2;rw[List.getLast_eq_getElem];exact this
 rw[<-e,e2];exact L2.Az _ _
theorem yV:∀l:List Str,ay H (l.map Dt.str) (l.map V.str)
 | []=>cD
 | x::r=>aM eM (yV r)
def wJ (h:Is H (kT b) v):∃a m q,v=.ref a/\H a=some (.tup [m,.int b.key,.ref q])/\Is H (dL b.aP) m/\H q=some (.tup (b.marks.map V.str)):=by
 unfold kT Is at h;obtain⟨a,vs,rfl,ha,hl⟩:=h;unfold ay at hl;obtain⟨v1,r1,rfl,h1,hl⟩:=hl;unfold ay at hl;obtain⟨v2,r2,rfl,h2,hl⟩:=hl;unfold ay at hl;obtain⟨v3,r3,rfl,h3,hl⟩:=hl;unfold ay at hl;subst hl;unfold Is at h2;subst h2;unfold mO Is at h3;obtain⟨q,us,rfl,hq,hle⟩:=h3;rw[dI hle] at hq;exact⟨a,v1,q,rfl,ha,h1,hq⟩
noncomputable def lets:Str:="abcdefghijklmnopqrstuvwxyz"
def Mh:∀j:Fin 26,lets.cps.toList[j.val]?=some (97+j.val):=by decide
def IW (h0:0<=i) (h:i<26):Cw lets.cps.toList i=some (97+i.toNat):=by
 obtain⟨j,rfl⟩:=yK h0;exact bz (Mh ⟨j,nofun⟩)
def Nm:∀j:Fin 36,(lets ++"0123456789").cps.toList[j.val]?=some (sgn.getD j.val 0)/\sgn.getD j.val 0∈sgn:=by decide
def Pn (h0:0<=i) (h:i<36):∃c,c∈sgn/\Cw (lets ++"0123456789").cps.toList i=some c:=by
 obtain⟨j,rfl⟩:=yK h0;have:=Nm ⟨j,nofun⟩;exact⟨_,this.2,bz this.1⟩
noncomputable def Np (i:Int):Nat:=(Cw (lets ++"0123456789").cps.toList i).getD 0
def Ls (h0:0<=i) (h:i<36):Cw (lets ++"0123456789").cps.toList i=some (Np i)/\Np i∈sgn:=by
 obtain⟨c,h1,h2⟩:=Pn h0 h;unfold Np;rw[h2];exact⟨rfl,h1⟩
def IX:∀j:Fin 26,97+j.val∈sgn:=by decide
def Mi {i:Int} (h0:0<=i) (h:i<26):97+i.toNat∈sgn:=IX ⟨i.toNat,nofun⟩
def OE (h1:1<=n.length) (h2:n.length<=12) (h3:∀c∈n.cps.toList,c∈sgn):gf n:=by
 unfold gf cE;rw[if_neg nofun,if_neg nofun,if_pos (yo.mpr fun c hc=>ze (h3 c hc))]
def AQ (ns:List Str):Prop:=(∀n∈ns,gf n)/\ns.Nodup
theorem ua:∀{l:List α},l.Nodup->(∀x∈l,∀y∈l,f x=f y->x=y)->(l.map f).Nodup
 | [],_,_=>List.nodup_nil
 | x::r,h,k=>by
  rw[yc] at h;rw[zh,yc];refine⟨fun z=>?_,ua h.2 fun a ha b hb e=>k a (zm _ ha) b (zm _ hb) e⟩;obtain⟨y,hy,e⟩:=zG.mp z;have:=k y (zm _ hy) x zp e;subst this;exact h.1 hy
def JX (hm:m<=12) (hc:c∈sgn):AQ ((List.range m).map fun k=>qk ⟨#[c]⟩ (m-k)):=by
 have el:∀k,(qk ⟨#[c]⟩ k).length=k:=fun k=>by rw[E7];exact Nat.mul_one k
 refine⟨fun n hn=>?_,ua List.nodup_range fun x hx y hy e=>?_⟩
 ·obtain⟨k,hk,rfl⟩:=zG.mp hn
  have:=List.mem_range.mp hk;refine OE (by rw[el];omega) (by rw[el];omega) fun d hd=>?_;rw[rM] at hd;obtain⟨l,hl,hd⟩:=List.mem_flatten.mp hd;rw[List.mem_replicate] at hl;rw[hl.2] at hd;have:d=c:=by simpa using hd
  rw[this];exact hc
 ·have:=congrArg Str.length e
  rw[el,el] at this;have:=List.mem_range.mp hx;have:=List.mem_range.mp hy;omega
def Hr {stem:Str} {pl first m:Nat} (hs:stem.length<=11) (hp:pl<=stem.length) (hc:∀c∈stem.cps.toList,c∈sgn) (hm:m<=26) :
  AQ ((List.range m).map fun k=>Txt.slice stem none (some (pl:Int))++⟨#[97+(first+5*k)%26]⟩++Txt.slice stem (some (pl:Int)) none):=by
 have sl:stem.cps.toList.length=stem.length:=Array.length_toList;have cp:∀k,(Txt.slice stem none (some (pl:Int))++⟨#[97+(first+5*k)%26]⟩++Txt.slice stem (some (pl:Int)) none).cps.toList=stem.cps.toList.take pl++[97+(first+5*k)%26]++stem.cps.toList.drop pl:=fun k=>by
  rw[cA,cA,EW stem hp,pW stem hp]
 refine⟨fun n hn=>?_,ua List.nodup_range fun x hx y hy e=>?_⟩
 ·obtain⟨k,hk,rfl⟩:=zG.mp hn
  have el:(Txt.slice stem none (some (pl:Int))++⟨#[97+(first+5*k)%26]⟩++Txt.slice stem (some (pl:Int)) none).length=stem.length+1:=by
   rw[<-show _=(Txt.slice stem none (some (pl:Int))++⟨#[97+(first+5*k)%26]⟩++Txt.slice stem (some (pl:Int)) none).length from Array.length_toList,cp,zg,zg,zP,List.length_drop,List.length_singleton];omega
  refine OE nofun nofun fun d hd=>?_;rw[cp,zF,zF,zy] at hd;rcases hd with(hd | hd) | hd
  ·exact hc d (List.mem_of_mem_take hd)
  ·rw[hd];exact IX ⟨(first+5*k)%26,Nat.mod_lt _ ∅⟩
  ·exact hc d (List.mem_of_mem_drop hd)
 ·have q:(Txt.slice stem none (some (pl:Int))++⟨#[97+(first+5*x)%26]⟩++Txt.slice stem (some (pl:Int)) none).cps.toList=(Txt.slice stem none (some (pl:Int))++⟨#[97+(first+5*y)%26]⟩++Txt.slice stem (some (pl:Int)) none).cps.toList:=by rw[e]
  rw[cp,cp,zE,zE] at q;have q2:=List.append_cancel_left q;simp at q2;have:=List.mem_range.mp hx;have:=List.mem_range.mp hy;omega
theorem su:∀zs:List Str,(Str.join "" zs).cps.toList=(zs.map fun z:Str=>z.cps.toList).flatten
 | []=>rfl
 | [z]=>by rw[join_one];simp
 | z::y::r=>by
  rw[eV,cA,cA,su (y::r)];show z.cps.toList++[]++_=_;rw[zU];rfl
noncomputable def m8 (c:Int) (n:Nat):List Str:=(List.range n).map fun k=>⟨#[Np ((c/16224+7*(0+(k:Nat)))%36)]⟩
theorem FU (f:α->β):∀l:List α,((l.map f).map fun x=>[x]).flatten=l.map f
 | []=>rfl
 | x::r=>by rw[zh,zh,z9,FU f r];rfl
def EL (c:Int) (n:Nat):(Str.join "" (m8 c n)).cps.toList=(List.range n).map fun k:Nat=>Np ((c/16224+7*(0+(k:Nat)))%36):=by
 rw[su];unfold m8;rw[zA];have:=FU (fun k:Nat=>Np ((c/16224+7*(0+(k:Nat)))%36)) (List.range n);rw[zA] at this;exact this
def Ln (c:Int) (n:Nat):(Str.join "" (m8 c n)).length=n:=by
 rw[<-show _=(Str.join "" (m8 c n)).length from Array.length_toList,EL,za,zQ]
def Ll:∀d∈(Str.join "" (m8 c n)).cps.toList,d∈sgn:=fun d hd=>by
 rw[EL] at hd;obtain⟨k,_,rfl⟩:=zG.mp hd;exact(Ls (zv _ ∅) (zr _ ∅)).2
def Lk (c:Int) (n:Nat):((m8 c n).map (fun z:Str=>z.length+("": Str).length)).sum=n:=by
 unfold m8;rw[zA];have:((fun z:Str=>z.length+("": Str).length)∘fun k:Nat=>(⟨#[Np ((c/16224+7*(0+(k:Nat)))%36)]⟩:Str))=fun _=>1:=rfl;rw[this,List.map_const',List.sum_replicate_nat,zQ,Nat.mul_one]
end Sc
namespace Sc
open PySem L2 Lm
def cJ (n:H D=none) (s:au H H2):au H (L2.upd H2 D u):=fun b v hb=>by
 rw[aD (fun z=>by rw[z,n] at hb;cases hb)];exact s b v hb
def Ep (its:List Item) (x:Int×Int):Prop:=its.length<=40/\(∀it∈its,KL it)/\j6 its=x/\its.all (fun it=>it.1.isNone)=false
def KJ (x:Int×Int):Prop:=Lm.Rd x/\0<x.1/\x.1<=32/\x.2<=160
def GY (l:List Item) (it:Item):j6 (l++[it])=add (j6 l) it.2:=by unfold j6;rw[zX];rfl
def Lg {x:Int×Int} (hx:0<x.2) {W:Int} (hW:0<W) {l:List Item} {t w:Int} {it:Item} (h:j6 l=red (x.1*t) (x.2*W)) (e:it.2=red (x.1*w) (x.2*W)):j6 (l++[it])=red (x.1*(t+w)) (x.2*W):=by
 have hb:0<x.2*W:=Int.mul_pos hx hW;rw[GY,h,e,Od hb hb,<-rN hb hb (t:=x.1*(t+w))]
 congr 1
 rw[<-Int.add_mul,<-Int.mul_add,Int.mul_comm]
def Lh {x:Int×Int} (hx:0<x.2) {W:Int} (hW:0<W):j6 []=red (x.1*0) (x.2*W):=by
 have hb:0<x.2*W:=Int.mul_pos hx hW;show((0,1):Int×Int)=_;rw[Int.mul_zero];have:=rN (t:=0) (b:=1) (k:=x.2*W) hb ∅;rw[Int.mul_zero,Int.mul_one] at this;rw[this];decide
def JF (hx:Lm.Rd x) (hW:0<W):red (x.1*W) (x.2*W)=x:=by
 obtain⟨_,p2,p3⟩:=hx.pos;rw[Int.mul_comm x.1,Int.mul_comm x.2,rN hW p2,p3]
def Me (h:KJ x) (w1:1<=w) (w2:w<=4) (W1:1<=W) (W2:W<=24):M8 (red (x.1*w) (x.2*W)):=by
 obtain⟨hr,h1,h2,h3⟩:=h;obtain⟨_,p2,_⟩:=hr.pos;have a1:0<x.1*w:=Int.mul_pos h1 nofun;have a2:x.1*w<=32*4:=Int.mul_le_mul h2 w2 nofun ∅;have b1:0<x.2*W:=Int.mul_pos p2 nofun;have b2:x.2*W<=160*24:=Int.mul_le_mul h3 W2 nofun ∅;obtain⟨g,g1,g2,g3,g4,g5⟩:=lC (t:=x.1*w) b1;have r1:=xP (t:=x.1*w) (b:=x.2*W) (Int.le_of_lt a1);refine⟨Lm.Rd.of (Int.le_of_lt a1) b1,?_,nofun,nofun⟩;have r0:=xO (t:=x.1*w) (b:=x.2*W) (Int.le_of_lt a1);rcases Int.lt_or_eq_of_le r0 with z | z
 ·exact z
 ·rw[<-z,Int.mul_zero] at g2;omega
noncomputable def sX (m:Int) (n:Nat):List Int:=(List.range n).map fun j=>1+m/(7+5*(0+(j:Nat)))%4
def Na (m:Int) (n:Nat):(sX m n).length=n:=by unfold sX;rw[za,zQ]
def GP (h:w∈sX m n):1<=w/\w<=4:=by
 unfold sX at h;obtain⟨j,_,rfl⟩:=zG.mp h;have a:=zv (m/(7+5*(0+(j:Int)))) (b:=4) ∅;have b:=zr (m/(7+5*(0+(j:Int)))) (b:=4) ∅;omega
theorem Li:∀{l:List Int},(∀w∈l,1<=w/\w<=4)->(l.length:Int)<=l.sum/\l.sum<=4*l.length
 | [],_=>by simp
 | w::r,h=>by
  have ih:=Li (l:=r) fun z hz=>h z (zm _ hz);have:=h w zp;rw[List.sum_cons,zt];omega
def JS (m:Int):MW (m%41-20,7*(m%41-20)%12+(m/41%14-7)*12):=by
 have a:=zv m (b:=41) ∅;have b:=zr m (b:=41) ∅;have c:=zv (m/41) (b:=14) ∅;have d:=zr (m/41) (b:=14) ∅;unfold MW;dsimp only;omega
def join {c:Bool} {t1 t2:TS} {D:Ends} {σ:St} {H:Hp} (P:St->Hp->Prop) (ha:∀N:St->Hp->Prop,(∀σ H,P σ H->N σ H)->c=true->t1 {D with nx:=N} σ H)
  (hb:∀N:St->Hp->Prop,(∀σ H,P σ H->N σ H)->c=false->t2 {D with nx:=N} σ H) (hN:∀σ H,P σ H->D.nx σ H):if c=true then t1 D σ H else t2 D σ H:=by
 cases c with
 | true=>rw[if_pos rfl];exact ha D.nx hN rfl
 | false=>rw[if_neg (by simp)];exact hb D.nx hN rfl
def RL (R:α->V->Prop):List α->List V->Prop
 | [],vs=>vs=[]
 | x::xs,vs=>∃v r,vs=v::r/\R x v/\RL R xs r
theorem RL.imp {α:Type} {R R':α->V->Prop} (h:∀x v,R x v->R' x v):∀{xs:List α} {vs:List V},RL R xs vs->RL R' xs vs
 | [],_,e=>e
 | _::_,_,⟨v,r,e,h1,h2⟩=>⟨v,r,e,h _ _ h1,RL.imp h h2⟩
theorem RL.snoc {α:Type} {R:α->V->Prop} {x:α} {v:V} (h:R x v):∀{xs:List α} {vs:List V},RL R xs vs->RL R (xs++[x]) (vs++[v])
 | [],_,e=>by unfold RL at e;subst e;exact⟨v,[],rfl,h,rfl⟩
 | _::_,_,⟨u,r,e,h1,h2⟩=>by subst e;exact⟨u,r++[v],rfl,h1,RL.snoc h h2⟩
theorem RL.len:∀{xs:List α} {vs:List V},RL R xs vs->vs.length=xs.length
 | [],_,e=>by unfold RL at e;rw[e];rfl
 | _::_,_,⟨u,r,e,_,h2⟩=>by rw[e,zt,zt,RL.len h2]
theorem RL.at:∀{xs:List α} {vs:List V} {i:Nat} {v:V},RL R xs vs->vs[i]?=some v->∃x,xs[i]?=some x/\R x v
 | [],_,_,_,e,h=>by unfold RL at e;subst e;simp at h
 | x::_,_,0,_,⟨u,r,e,h1,_⟩,h=>by subst e;simp at h;subst h;exact⟨x,rfl,h1⟩
 | _::_,_,i+1,_,⟨u,r,e,_,h2⟩,h=>by subst e;simpa using RL.at (i:=i) h2 (by simpa using h)
def jA (D:Addr) (H:Hp) (x:Str×List (Int×Str)) (v:V):Prop:=∃a r us,v=.ref a/\H a=some (.tup [.str x.1,.ref r])/\H r=some (.lst us)/\ay H (x.2.map HX) us/\r≠D
theorem jA.mono (s:au H H') (h:jA D H x v):jA D H' x v:=by
 obtain⟨a,r,us,h1,h2,h3,h4,h5⟩:=h;exact⟨a,r,us,h1,s _ _ h2,s _ _ h3,h4.mono s,h5⟩
theorem jA.upd (hD:H D=some (.lst vs)) (h:jA D H x v):jA D (L2.upd H D o) x v:=by
 obtain⟨a,r,us,h1,h2,h3,h4,h5⟩:=h;have nt:cN (H D):=by rw[hD];exact fun _ z=>by cases z
 exact⟨a,r,us,h1,by rw[aD (Sc.aZ h2 hD (by simp[kindOf]))];exact h2,by rw[aD h5];exact h3,ay.upd nt h4,h5⟩
def hZ (D:Addr) (H:Hp) (x:(Int×Str)×List Item) (v:V):Prop:=∃a q us,v=.ref a/\H a=some (.tup [.int x.1.1,.str x.1.2,.ref q])/\H q=some (.lst us)/\ay H (x.2.map eO) us/\q≠D
theorem hZ.mono (s:au H H') (h:hZ D H x v):hZ D H' x v:=by
 obtain⟨a,r,us,h1,h2,h3,h4,h5⟩:=h;exact⟨a,r,us,h1,s _ _ h2,s _ _ h3,h4.mono s,h5⟩
theorem hZ.upd (hD:H D=some (.lst vs)) (h:hZ D H x v):hZ D (L2.upd H D o) x v:=by
 obtain⟨a,r,us,h1,h2,h3,h4,h5⟩:=h;have nt:cN (H D):=by rw[hD];exact fun _ z=>by cases z
 exact⟨a,r,us,h1,by rw[aD (Sc.aZ h2 hD (by simp[kindOf]))];exact h2,by rw[aD h5];exact h3,ay.upd nt h4,h5⟩
def Jn (ins:List Str) (many:Int) (row:List (Int×Str)):Prop:=row≠[]/\row.length<=4/\(row.map (·.1)).Pairwise (·<·)/\∀h∈row,0<=h.1/\h.1<many/\h.2∈ins
noncomputable def eG (S:cG):List Told:=
 S.players.map .bA++(S.ak.map fun x=>.cF x.1 x.2.1 x.2.2)++(S.aH.map fun x=>.cg x.1 x.2)++S.aL.map .bar++S.aE.toList.map .aE ++
 (S.holds.map fun x=>x.2.map fun h=>Told.holds x.1 h.1 h.2).flatten++(S.aG.map fun x=>.aG x.1.1 x.1.2 x.2)++(S.repeats.map .rep++S.bZ.toList.map .bZ)
structure vo (H:Hp) (p:Addr) (S:cG):Prop where
 at':∃pl il sl bl hl nl rl:Addr,∃ub jm:V,∃iv sv bv hv nv rv:List V,H p=some (.tup [.ref pl,.ref il,.ref sl,.ref bl,ub,.ref hl,.ref nl,.ref rl,jm])/\H pl=some (.lst (S.players.map V.str))/\
  (H il=some (.lst iv)/\ay H (S.ak.map eA) iv)/\(H sl=some (.lst sv)/\ay H (S.aH.map gw) sv)/\(H bl=some (.lst bv)/\ay H (S.aL.map kT) bv)/\Is H (dO dL S.aE) ub/\
  (H hl=some (.lst hv)/\RL (jA hl H) S.holds hv)/\(H nl=some (.lst nv)/\RL (hZ nl H) S.aG nv)/\(H rl=some (.lst rv)/\ay H (S.repeats.map jB) rv)/\Is H (dO jq S.bZ) jm
theorem vo.mono (s:au H H') (h:vo H p S):vo H' p S:=by
 obtain⟨pl,il,sl,bl,hl,nl,rl,ub,jm,iv,sv,bv,hv,nv,rv,h1,h2,h3,h4,h5,h6,h7,h8,h9,ha⟩:=h.at';exact⟨⟨pl,il,sl,bl,hl,nl,rl,ub,jm,iv,sv,bv,hv,nv,rv,s _ _ h1,s _ _ h2,⟨s _ _ h3.1,h3.2.mono s⟩,⟨s _ _ h4.1,h4.2.mono s⟩,⟨s _ _ h5.1,h5.2.mono s⟩,h6.mono s,⟨s _ _ h7.1,h7.2.imp fun x v z=>z.mono s⟩,⟨s _ _ h8.1,h8.2.imp fun x v z=>z.mono s⟩,⟨s _ _ h9.1,h9.2.mono s⟩,ha.mono s⟩⟩
def bg (h1:-10000<n) (h2:n<10000):(dec n).length<=5:=by
 by_cases h:0<=n
 ·have:=F6 h h2;omega
 ·rw[wQ nofun,len_app]
  have:=F6 (n:=-n) nofun nofun;have:("-": Str).length=1:=rfl;omega
def bH (h1:-10000<n) (h2:n<10000):n.natAbs.log2<1920:=by
 by_cases z:n.natAbs=0
 ·rw[z];decide
 ·exact yb ((Nat.log2_lt z).mpr (show n.natAbs<2^14 by omega)) ∅
def kM (h1:-10000<x.1) (h2:x.1<10000) (h3:-10000<x.2) (h4:x.2<10000):(iF x).length<=11:=by
 unfold iF;have a:=bg h1 h2;have b:=bg h3 h4;split
 ·omega
 ·rw[len_app,len_app]
  have:("/": Str).length=1:=rfl;omega
def J5 (h:KL it):(qF it).length<=30:=by
 obtain⟨o,x⟩:=it;obtain⟨⟨hr,h1,h2,h3⟩,hq⟩:=h;obtain⟨_,p2,_⟩:=hr.pos;dsimp only at h1 h2 h3 p2 hq;have lx:=kM (x:=x) nofun h2 nofun h3;cases o with
 | none=>
  show("r:" ++ iF x).length<=30;rw[len_app];have:("r:": Str).length=2:=rfl;omega
 | some q=>
  obtain⟨q1,q2,q3,q4,_⟩:=hq q rfl;have a:=bg (n:=q.1) nofun nofun;have b:=bg (n:=q.2) nofun nofun;show(dec q.1 ++":" ++ dec q.2 ++":" ++ iF x).length<=30;rw[len_app,len_app,len_app,len_app];have:(":": Str).length=1:=rfl;omega
theorem pQ {sep:Str} {k:Nat}:∀{zs:List Str},(∀z∈zs,z.length<=k)->(zs.map (fun z:Str=>z.length+sep.length)).sum<=zs.length*(k+sep.length)
 | [],_=>by simp
 | z::r,h=>by
  have ih:=pQ (sep:=sep) (zs:=r) fun y hy=>h y (zm _ hy);have:=h z zp;rw[zh,List.sum_cons,zt,Nat.succ_mul];omega
theorem join_le (sep:Str):∀zs:List Str,(Str.join sep zs).length<=(zs.map (fun z:Str=>z.length+sep.length)).sum
 | []=>zk _
 | [z]=>by rw[join_one];simp
 | z::y::r=>by
  have ih:=join_le sep (y::r);rw[eV,len_app,len_app,zh,List.sum_cons];omega
def yU (h:∀z∈zs,z.length<=k):(Str.join sep zs).length<=zs.length*(k+sep.length):=zL (join_le sep zs) (pQ h)
def KH (r:Rep):Prop:=ON (.rep r)/\r.ends.length<=9/\∀e∈r.ends,e.2.length<=9
def FZ (h:S5 e) (hl:e.2.length<=9):(oY e).length<=60:=by
 obtain⟨h1,h2,h3,h4⟩:=h;have a:=bg (n:=e.1) nofun nofun;have b:(Str.join "," (e.2.map dec)).length<=(e.2.map dec).length*(5+(",": Str).length):=yU fun z hz=>by
  obtain⟨p,hp,rfl⟩:=zG.mp hz;have:=h4 p hp;exact bg nofun nofun
 have l1:(":": Str).length=1:=rfl;have l2:(",": Str).length=1:=rfl;rw[za,l2] at b;unfold oY;rw[len_app,len_app];omega
def IK (h1:ns.Perm l) (h2:ns.Pairwise (·<=·)):sortI l=ns:=by
 unfold sortI;refine(List.Perm.eq_of_pairwise (le:=fun a b:Int=>a<=b) (fun a b _ _ x y=>Int.le_antisymm x y) h2 ?_ (h1.trans (List.mergeSort_perm _ _).symm)).symm;have:=List.pairwise_mergeSort (le:=fun a b:Int=>decide (a<=b)) (fun a b c x y=>by simp at x y ⊢;omega) (fun a b=>by simp;omega) l;exact this.imp fun h=>yd h
theorem y8:∀{es:List End} {a:Int} {ps:List Int},(es.map (·.1)).Pairwise (·<·)->(∀e∈es,a<e.1)->(∀e∈es,e.2.Pairwise (·<=·))->fW es a ps=some (((es.map (·.1)).getLast?).getD a,ps++(es.map (·.2)).flatten)
 | [],a,ps,_,_,_=>by simp[fW]
 | e::r,a,ps,h1,h2,h3=>by
  rw[zh,List.pairwise_cons] at h1;have ih:=y8 (es:=r) (a:=e.1) (ps:=ps++e.2) h1.2 (fun x hx=>h1.1 _ (zO (f:=fun y:End=>y.1) hx)) (fun x hx=>h3 x (zm _ hx));show(if e.1<=a then none else if e.2≠sortI e.2 then none else fW r e.1 (ps++e.2))=_;have c1:=h2 e zp;rw[if_neg nofun,if_neg (fun z=>z (IK (List.Perm.refl _) (h3 e zp)).symm),ih,zh,zh,z9,zE]
  congr 2
  cases r with
  | nil=>rfl
  | cons x t=>rw[zh,List.getLast?_cons_cons,List.getLast?_cons];rfl
theorem FT:∀{n:Nat},k<n->((List.range n).map fun i=>if i=k then g i++[x] else g i).flatten.Perm (((List.range n).map g).flatten++[x])
 | 0,h=>nofun
 | n+1,h=>by
  rw[List.range_succ,zj,zj,List.flatten_append,List.flatten_append];simp only[zh,ym,z9,List.flatten_nil,zU]
  by_cases e:n=k
  ·rw[if_pos e,<-zE]
   have:((List.range n).map fun i=>if i=k then g i++[x] else g i)=(List.range n).map g:=List.map_congr_left fun i hi=>by
    have:=List.mem_range.mp hi;rw[if_neg nofun]
   rw[this]
  ·rw[if_neg e]
   have ih:=FT (g:=g) (x:=x) (k:=k) (n:=n) nofun;refine(ih.append_right _).trans ?_;rw[zE,zE];exact List.Perm.append_left _ (List.perm_append_comm)
noncomputable def cK (sp:Nat->Nat):Nat->Nat->List Int
 | 0,_=>[]
 | k+1,i=>if i=sp k then cK sp k i++[(k:Int)+1] else cK sp k i
theorem rV:∀{k:Nat},p∈cK sp k i->∃j,j<k/\p=(j:Int)+1/\i=sp j
 | 0,h=>by cases h
 | k+1,h=>by
  unfold cK at h;split at h
  ·rename_i e
   rcases zF.mp h with h | h
   ·obtain⟨j,h1,h2⟩:=rV h
    exact⟨j,nofun,h2⟩
   ·exact⟨k,nofun,by simpa using h,e⟩
  ·obtain⟨j,h1,h2⟩:=rV h
   exact⟨j,nofun,h2⟩
theorem xZ:∀{k:Nat},(cK sp k i).Pairwise (·<=·)
 | 0=>List.Pairwise.nil
 | k+1=>by
  unfold cK;split
  ·rw[zT]
   refine⟨xZ,by simp,fun a ha b hb=>?_⟩;obtain⟨j,h1,h2,_⟩:=rV ha;have:b=(k:Int)+1:=by simpa using hb
   omega
  ·exact xZ
theorem Fl (e:i=sp j):∀{k:Nat},j<k->((j:Int)+1)∈cK sp k i
 | 0,h=>nofun
 | k+1,h=>by
  unfold cK
  by_cases c:j=k
  ·subst c
   rw[if_pos e];exact zH _ (zy.mpr rfl)
  ·have ih:=Fl e (k:=k) nofun
   split
   ·exact zI _ ih
   ·exact ih
theorem xY:∀{k:Nat},(cK sp k i).length<=k
 | 0=>zk _
 | k+1=>by
  have ih:=xY (sp:=sp) (i:=i) (k:=k);unfold cK;split
  ·rw[zg];simp;omega
  ·omega
theorem B3:∀{k:Nat},(∀j,j<k->sp j<n)->((List.range n).map (cK sp k)).flatten.Perm (JO 1 k)
 | 0,_=>by
  have:((List.range n).map (cK sp 0)).flatten=[]:=by
   rw[List.flatten_eq_nil_iff];intro l hl;obtain⟨i,_,rfl⟩:=zG.mp hl;rfl
  rw[this];exact List.Perm.refl _
 | k+1,h=>by
  have ih:=B3 (sp:=sp) (n:=n) (k:=k) fun j hj=>h j nofun;have e:(List.range n).map (cK sp (k+1))=(List.range n).map fun i=>if i=sp k then cK sp k i++[(k:Int)+1] else cK sp k i:=List.map_congr_left fun i _=>by rw[cK]
  rw[e];refine(FT (h k nofun)).trans ?_;unfold JO at ih ⊢;rw[List.range_succ,zj];refine(ih.append_right _).trans ?_;rw[List.map_singleton,Int.add_comm]
def Nu (k:Nat):(JO 1 k).Pairwise (·<=·):=by
 unfold JO;rw[List.pairwise_map];exact(List.pairwise_lt_range).imp fun h=>nofun
noncomputable def sG (bs:List Int) (sp:Nat->Nat) (t:Nat):List End:=bs.zip ((List.range bs.length).map (cK sp t))
theorem Ex:∀{a:List α} {b:List β},a.length=b.length->(a.zip b).map (·.1)=a
 | [],[],_=>rfl
 | x::xs,y::ys,h=>by rw[List.zip_cons_cons,zh,Ex (by simpa using h)]
 | [],_::_,h=>by simp at h
 | _::_,[],h=>by simp at h
theorem Ew:∀{a:List α} {b:List β},a.length=b.length->(a.zip b).map (·.2)=b
 | [],[],_=>rfl
 | x::xs,y::ys,h=>by rw[List.zip_cons_cons,zh,Ew (by simpa using h)]
 | [],_::_,h=>by simp at h
 | _::_,[],h=>by simp at h
def kQ:(sG bs sp t).map (·.1)=bs:=Ex (by simp)
def uh:(sG bs sp t).map (·.2)=(List.range bs.length).map (cK sp t):=Ew (by simp)
def Kf:(sG bs sp t).length=bs.length:=by
 have:=congrArg List.length (kQ (bs:=bs) (sp:=sp) (t:=t))
 rwa [za] at this
def ui (h:e∈sG bs sp t):e.1∈bs/\∃i,i<bs.length/\e.2=cK sp t i:=by
 have h1:=zO (f:=fun x:End=>x.1) h;have h2:=zO (f:=fun x:End=>x.2) h;rw[kQ] at h1;rw[uh] at h2;obtain⟨i,hi,e2⟩:=zG.mp h2;exact⟨h1,i,List.mem_range.mp hi,e2.symm⟩
def Jq (first last times:Int) (es:List End):Prop:=fX ⟨first,last,times,es⟩=true/\es.length<=9/\(∀e∈es,first<=e.1/\e.1<=last/\e.2≠[]/\e.2.length<=9/\∀p∈e.2,0<=p/\p<1000)/\((es.map (·.2)).flatten).length<=9/\(es.map (·.1)).Pairwise (·<·)
def Kd:Jq first last times []:=⟨rfl,∅,by simp,by simp,by simp⟩
def HK (t9:t<=9) (ne:bs≠[]) (asc:bs.Pairwise (·<·)) (hin:∀b∈bs,first<=b/\b<=last) (hsp:∀j,j<t->sp j<bs.length) (hon:∀i,i<bs.length->∃j,j<t/\sp j=i) (bt:bs.length<=t):Jq first last t (sG bs sp t):=by
 have pm:=B3 (k:=t) hsp;have pl:((List.range bs.length).map (cK sp t)).flatten.length=t:=by rw[pm.length_eq];unfold JO;simp
 refine⟨?_,by rw[Kf];omega,fun e he=>?_,by rw[uh,pl];exact t9,by rw[kQ];exact asc⟩
 ·have e1:=y8 (es:=sG bs sp t) (a:=first-1) (ps:=[]) (by rw[kQ];exact asc) (fun e he=>by have:=hin _ (ui he).1;omega) (fun e he=>by obtain⟨_,i,_,e2⟩:=ui he;rw[e2];exact xZ)
  have e2:sortI (([]:List Int)++((sG bs sp t).map (·.2)).flatten)=JO 1 t:=by rw[List.nil_append,uh];exact IK pm.symm (Nu t)
  unfold fX;dsimp only;cases q:sG bs sp t with
  | nil=>rfl
  | cons x r=>
   rw[q] at e1 e2;dsimp only;rw[e1];dsimp only;rw[e2,show((t:Int)+1-1).toNat=t by omega,ze rfl,Bool.and_true,decide_eq_true_eq,<-q,kQ];cases q2:bs.getLast? with
   | none=>exact absurd (List.getLast?_eq_none_iff.mp q2) ne
   | some b=>exact(hin b (List.mem_of_getLast? q2)).2
 ·obtain⟨hb,i,hi,e2⟩:=ui he
  obtain⟨j,hj,ej⟩:=hon i hi;refine⟨(hin _ hb).1,(hin _ hb).2,?_,?_,fun p hp=>?_⟩
  ·rw[e2];exact List.ne_nil_of_mem (Fl ej.symm hj)
  ·rw[e2];have:=xY (sp:=sp) (i:=i) (k:=t);omega
  ·rw[e2] at hp
   obtain⟨j,h1,h2,_⟩:=rV hp;omega
def Nj {n c:Nat} {i:Nat} (hi:i<n):∃j,j<n/\(j+c)%n=i:=by
 refine⟨(i+(n-c%n))%n,Nat.mod_lt _ nofun,?_⟩;have hc:c%n<n:=Nat.mod_lt _ nofun;rw[Nat.add_mod,Nat.mod_mod,<-Nat.add_mod];have e:i+(n-c%n)+c=i+n+n*(c/n):=by
  have:=Nat.div_add_mod c n;omega
 rw[e,Nat.add_mul_mod_self_left,Nat.add_mod_right,Nat.mod_eq_of_lt hi]
def Jx (Pv:Nat->St->Hp->Prop) (Pe:St->Hp->Prop) (h0:∃m,Pv m σ H)
  (turn:∀m σ H,Pv m σ H->∀N:St->Hp->Prop,(∀σ H,Pe σ H->N σ H)->c σ H fun b H1=>if b=true then∃N':St->Hp->Prop,(∀σ' H',N' σ' H'->∃m',m'<m/\Pv m' σ' H')/\tb {D with nx:=N',ct:=N',bk:=N} σ H1 else N σ H1)
  (hd:∀σ H,Pe σ H->D.nx σ H):Lc c tb D σ H:=⟨Pv,h0,fun m σ H p=>turn m σ H p D.nx hd⟩
def IU {c:Bool} {T:(Bool->Hp->Prop)->Prop} {Z:Bool->Hp->Prop} {H:Hp} (v:Bool) (h1:c=false->∀Z,Z v H->T Z) (h2:c=true->v=true) (hz:Z v H):if c=true then Z true H else T Z:=by
 cases c with
 | false=>rw[if_neg (by simp)];exact h1 rfl Z hz
 | true=>rw[if_pos rfl];rw[<-h2 rfl];exact hz
def HZ {K:yA} {α:Type} {t1 t2:Bool} {a b:Addr} {ws:List α} {e1 e2:α->V} {σ₀:St} {g:TG} {te:TE} {Q:VK} {H1:Hp} (F:α->Dt) (Pσ:St->Prop) (hn:ws.length<=sizeLine) (ha:BK t1 K H1 a (ws.map e1)) (hb:BK t2 K H1 b (ws.map e2)) (h0:Pσ σ₀)
  (turn:∀(x:α) (σ:St) (H:Hp) (p:Addr) (R:St->V->Hp->Prop),x∈ws->au H1 H->H p=some (.tup [e1 x,e2 x])->Pσ σ->(∀σ3 y H5,au H H5->Is H5 (F x) y->Pσ σ3->R σ3 y H5)->g (.ref p) σ H fun σ3 H3=>te σ3 H3 fun y H5=>R σ3 y H5)
  (fin:∀D vs H,au H1 H->H1 D=none->H D=some (.lst vs)->ay H (ws.map F) vs->Q (.ref D) H):dJ σ₀ g vw te Q (RN t1 t2 K a b) H1:=by
 refine⟨fun i m xs σ H=>m=ws.length-i/\i<=ws.length/\xs.length=i/\au H1 H/\ay H ((ws.take i).map F) xs/\Pσ σ,⟨_,rfl,yf _,rfl,au.refl _,by simp[ay],h0⟩,?_⟩;rintro i m xs σ H ⟨rfl,hi,hx,sm,il,pσ⟩;rcases Nat.lt_or_ge i ws.length with hlt | hge
 ·have g1:(ws.map e1)[i]?=some (e1 ws[i]):=by rw[zJ,zb hlt];rfl
  have g2:(ws.map e2)[i]?=some (e2 ws[i]):=by rw[zJ,zb hlt];rfl
  refine .inr ⟨⟨_,_,_,_,sm.Ov ha,sm.Ov hb,g1,g2⟩,nofun,?_⟩;rintro x H2 ⟨p,u,v,np,rfl,rfl,hu,hv⟩;have eu:=hu _ (sm.Ov ha);have ev:=hv _ (sm.Ov hb);rw[g1] at eu;rw[g2] at ev;cases eu;cases ev;have s2:au H (upd H p (.tup [e1 ws[i],e2 ws[i]])):=aV np;refine turn ws[i] σ _ p (fun σ3 y H5=>if true=true then∃m',m'<ws.length-i/\(m'=ws.length-(i+1)/\i+1<=ws.length/\(xs++[y]).length=i+1/\au H1 H5/\ay H5 ((ws.take (i+1)).map F) (xs++[y])/\Pσ σ3) else False) (yk hlt) (sm.trans s2) aC pσ ?_;rintro σ3 y H5 s5 iy p3;rw[if_pos rfl];refine⟨_,nofun,rfl,hlt,by simp[hx],(sm.trans s2).trans s5,?_,p3⟩;rw[List.take_add_one,zb hlt,zj];exact cR iy ((il.mono s2).mono s5)
 ·have e:i=ws.length:=nofun
  subst e;refine .inl ⟨⟨_,_,sm.Ov ha,sm.Ov hb,.inl (by rw[za];exact zk _)⟩,nofun,fun D hD=>?_⟩;have il':ay H (ws.map F) xs:=by rw[zM] at il;exact il
  exact fin D xs _ (sm.trans (aV hD)) (sm.back hD) aC (il'.mono (aV hD))
def DT (hn:xs.length<=sizeLine) (hp:aI K H1 p xs) (h0:∃v,σ₀=[v])
  (fin:∀(D:Addr) (qs:List Addr) (H:Hp),au H1 H->H1 D=none->H D=some (.lst (qs.map V.ref))->qs.Nodup->D∉qs->qs.length=xs.length->(∀q∈qs,H1 q=none/\H q=some (.lst []))->Q (.ref D) H):dJ σ₀ (b7 0) vw (EJ eI) Q (MY K p) H1:=by
 refine⟨fun i m ys σ H=>m=xs.length-i/\i<=xs.length/\ys.length=i/\(∃v,σ=[v])/\au H1 H/\∃qs:List Addr,ys=qs.map V.ref/\qs.Nodup/\∀q∈qs,H1 q=none/\H q=some (.lst []),⟨_,rfl,yf _,rfl,h0,au.refl _,[],rfl,List.nodup_nil,by simp⟩,?_⟩;rintro i m ys σ H ⟨rfl,hi,hx,⟨v,rfl⟩,sm,qs,rfl,nd,hq⟩;rw[za] at hx;rcases Nat.lt_or_ge i xs.length with hlt | hge
 ·refine .inr ⟨FL (sm.seq hp) hlt,by rw[za];omega,?_⟩
  rintro x H2 ⟨rfl,_⟩;refine⟨yf _,fun q n=>?_⟩;refine⟨_,nofun,rfl,hlt,by rw[zg,za,hx];rfl,⟨_,rfl⟩,sm.trans (aV n),qs++[q],by rw[zj];rfl,?_,fun r hr=>?_⟩
  ·rw[zR]
   refine⟨nd,by simp,fun a ha b hb e=>?_⟩;have:b=q:=by simpa using hb
   subst this;subst e;rw[(hq a ha).2] at n;cases n
  ·rcases zF.mp hr with z | z
   ·exact⟨(hq r z).1,aV n _ _ (hq r z).2⟩
   ·rw[zy.mp z]
    exact⟨sm.back n,aC⟩
 ·have e:i=xs.length:=nofun
  subst e;refine .inl ⟨⟨_,sm.seq hp,zk _⟩,by rw[za];omega,fun D hD=>?_⟩;exact fin D qs _ (sm.trans (aV hD)) (sm.back hD) aC nd (fun z=>by rw[(hq D z).2] at hD;cases hD) hx fun q z=>⟨(hq q z).1,aV hD _ _ (hq q z).2⟩
theorem tN (f:α->β) (d:α):∀l:List α,(List.range l.length).map (fun i=>f (l.getD i d))=l.map f
 | []=>rfl
 | x::r=>by
  rw[zt,List.range_succ_eq_map,zh,zA,zh]
  congr 1
  exact tN f d r
theorem BM (F:α->β->γ) (g:Nat->β) (d:α):∀(l:List α) (k:Nat),(List.range l.length).map (fun i=>F (l.getD i d) (g (k+i)))=(l.zip ((List.range l.length).map fun i=>g (k+i))).map fun p=>F p.1 p.2
 | [],_=>rfl
 | x::r,k=>by
  rw[zt,List.range_succ_eq_map,zh,zA,zh,zA,List.zip_cons_cons,zh]
  congr 1
  have:=BM F g d r (k+1);have e:∀i,k+1+i=k+(i+1):=fun i=>nofun
  simp only[e] at this;exact this
theorem FA:∀{l:List α} {i j:Nat},l.Nodup->l[i]?=some x->l[j]?=some x->i=j
 | [],_,_,_,h,_=>by simp at h
 | y::r,0,0,_,_,_=>rfl
 | y::r,0,j+1,n,h,k=>by
  simp at h k;subst h;exact absurd (zB k) (yc.mp n).1
 | y::r,i+1,0,n,h,k=>by
  simp at h k;subst k;exact absurd (zB h) (yc.mp n).1
 | y::r,i+1,j+1,n,h,k=>by
  simp at h k;rw[FA (yc.mp n).2 h k]
def Ke (bs:List Int) (sp:Nat->Nat) (t:Nat):(List.range bs.length).map (fun i=>mT (bs.getD i 0,cK sp t i))=(sG bs sp t).map mT:=by
 have:=BM (fun b p=>mT (b,p)) (cK sp t) 0 bs 0;simp only[Nat.zero_add] at this;rw[this];rfl
theorem wN (n:Int):∀ns:List Int,Et (.int n) (ns.map V.int)=decide (n∈ns)
 | []=>rfl
 | m::ns=>by
  have ih:=wN n ns;unfold Et at ih ⊢;rw[zh,List.any_cons,ih]
  by_cases e:n=m
  ·subst e
   simp[HI]
  ·simp[HI,e,Ne.symm (a:=m) (b:=n) (fun z=>e z.symm)]
   try omega
def Ao {α:Type} {J:It} {ws:List α} {enc:α->V} {σ₀:St} {g:TG} {tc:TT} {te:TE} {Q:VK} {H1:Hp} (f:α->Bool) (F:α->Dt) (Pσ:St->Prop) (hn:ws.length<=sizeLine) (h0:Pσ σ₀)
  (go:∀i H,i<ws.length->au H1 H->J.go i H) (stop:∀H,au H1 H->J.stop ws.length H) (yl:∀(i:Nat) x H H2 (hi:i<ws.length),au H1 H->J.Jw i H x H2->H2=H/\x=enc ws[i])
  (turn:∀(a:α) (σ:St) (H:Hp) (R:St->V->Hp->Prop) (N:St->Hp->Prop),a∈ws->au H1 H->Pσ σ->(f a=true->∀σ3 y H5,au H H5->Is H5 (F a) y->Pσ σ3->R σ3 y H5)->(f a=false->∀σ3 H5,au H H5->Pσ σ3->N σ3 H5)->g (enc a) σ H fun σ3 H3=>tc σ3 H3 fun b H4=>if b=true then te σ3 H4 fun y H5=>R σ3 y H5 else N σ3 H4)
  (fin:∀D vs H,au H1 H->H1 D=none->H D=some (.lst vs)->ay H ((ws.filter f).map F) vs->Q (.ref D) H):dJ σ₀ g tc te Q J H1:=by
 refine⟨fun i m xs σ H=>m=ws.length-i/\i<=ws.length/\xs.length<=i/\au H1 H/\ay H (((ws.take i).filter f).map F) xs/\Pσ σ,⟨_,rfl,yf _,zk _,au.refl _,by simp[ay],h0⟩,?_⟩;rintro i m xs σ H ⟨rfl,hi,hx,sm,il,pσ⟩;rcases Nat.lt_or_ge i ws.length with hlt | hge
 ·refine .inr ⟨go i H hlt sm,nofun,?_⟩
  intro x H2 hy;obtain⟨rfl,rfl⟩:=yl i x H H2 hlt sm hy;have tk:ws.take (i+1)=ws.take i++[ws[i]]:=by rw[List.take_add_one,zb hlt];rfl
  refine turn ws[i] σ H2 _ _ (yk hlt) sm pσ ?_ ?_
  ·intro ff σ3 y H5 s5 iy p3
   refine⟨_,nofun,rfl,hlt,by rw[zg];show xs.length+1<=i+1;omega,sm.trans s5,?_,p3⟩;rw[tk,List.filter_append,zj];have:[ws[i]].filter f=[ws[i]]:=by simp[ff]
   rw[this];exact cR iy (il.mono s5)
  ·intro ff σ3 H5 s5 p3
   refine⟨_,nofun,rfl,hlt,nofun,sm.trans s5,?_,p3⟩;rw[tk,List.filter_append,zj];have:[ws[i]].filter f=[]:=by simp[ff]
   rw[this,ym,zU];exact il.mono s5
 ·have e:i=ws.length:=nofun
  subst e;refine .inl ⟨stop H sm,nofun,fun D hD=>?_⟩;have il':ay H ((ws.filter f).map F) xs:=by rw[zM] at il;exact il
  exact fin D xs _ (sm.trans (aV hD)) (sm.back hD) aC (il'.mono (aV hD))
noncomputable def mM (f:Int->Bool) (lo:Int) (n:Nat):List Int:=((List.range n).map fun i=>lo+(i:Nat)).filter f
def oK (h:x∈mM f lo n):lo<=x/\x<lo+n/\f x=true:=by
 unfold mM at h;rw[List.mem_filter] at h;obtain⟨i,hi,rfl⟩:=zG.mp h.1;have:=List.mem_range.mp hi;exact⟨nofun,nofun,h.2⟩
def Kc:(mM f lo n).length<=n:=by
 unfold mM;refine zL (List.length_filter_le _ _) ?_;simp
def FX {f:Int->Bool} {lo x:Int} {n:Nat} (h1:lo<=x) (h2:x<lo+n) (h3:f x=true):x∈mM f lo n:=by
 unfold mM;rw[List.mem_filter];exact⟨zG.mpr ⟨(x-lo).toNat,List.mem_range.mpr nofun,nofun⟩,h3⟩
def jr {lo:Int} {n:Nat} {σ₀ rest:St} {tc:TT} {Q:VK} {H1:Hp} (f:Int->Bool) (hn:n<=sizeLine) (h0:∃v,σ₀=v::rest)
  (turn:∀(i:Int) (H:Hp) (R:Bool->Hp->Prop),lo<=i->i<lo+n->au H1 H->(∀H',au H H'->R (f i) H')->tc (some (.int i)::rest) H R)
  (fin:∀D H,au H1 H->H1 D=none->H D=some (.lst ((mM f lo n).map V.int))->Q (.ref D) H):dJ σ₀ (b7 0) tc (aY 0) Q (MX lo n) H1:=by
 refine Ao (ws:=(List.range n).map fun i=>lo+(i:Nat)) (enc:=V.int) f Dt.int (fun σ=>∃v,σ=v::rest) (by simp;exact hn) h0 (fun i H hi _=>by rw[za,zQ] at hi;exact hi) (fun H _=>by rw[za,zQ];exact zk n) ?_ ?_ ?_
 ·rintro i x H H2 hi _ ⟨rfl,rfl⟩
  exact⟨rfl,by simp⟩
 ·rintro a σ H R N ha s1 ⟨v,rfl⟩ hR hN
  obtain⟨i,hi,rfl⟩:=zG.mp ha;have:=List.mem_range.mp hi;refine turn (lo+(i:Nat)) H _ nofun nofun s1 fun H' s'=>?_;cases q:f (lo+(i:Nat)) with
  | true=>exact b9 rfl ⟨_,rfl,hR q _ _ _ s' cP ⟨_,rfl⟩⟩
  | false=>exact cm rfl (hN q _ _ s' ⟨_,rfl⟩)
 ·intro D vs H s1 nD hD il
  rw[fu il] at hD;exact fin D H s1 nD hD
noncomputable def jV (rs:List Rep) (b:Int):Bool:=match dG rs b with
 | none=>true
 | some r=>match (r.ends.filter fun e=>decide (e.1<=b)).getLast? with
  | none=>true
  | some e=>decide (r.times∈e.2)
noncomputable def eN (rs:List Rep) (b:Int):Bool:=rs.any fun r=>decide (r.first<b)&&decide (b<=r.last)
noncomputable def Eu (r:Rep) (b:Int):Bool:=decide (r.first<=b)&&decide (b<=r.last)
theorem y4:∀{l:List α} {i:Nat} {x:α},l[i]?=some x->p x=true->(∀y∈l.take i,p y=false)->l.find? p=some x
 | [],_,_,h,_,_=>by simp at h
 | y::r,0,x,h,hx,_=>by simp at h;subst h;rw[List.find?_cons,hx]
 | y::r,i+1,x,h,hx,hn=>by
  rw[List.find?_cons,hn y (by rw[List.take_succ_cons];exact zp)];exact y4 (i:=i) (by simpa using h) hx fun z hz=>hn z (by rw[List.take_succ_cons];exact zm _ hz)
theorem Cm:∀{es:List End},(es.map (·.1)).Pairwise (·<·)->x∈(es.zip ((es.drop 1).map (·.1)++[hi])).map (fun p=>(p.1.1,p.2-1,p.1.2))->x.1<=b->b<=x.2.1->∃e,(es.filter fun e=>decide (e.1<=b)).getLast?=some e/\e.2=x.2.2
 | [],_,h,_,_=>by simp at h
 | [e],_,h,h1,h2=>by
  simp at h;subst h;exact⟨e,by simp at h1 ⊢;exact h1,rfl⟩
 | e::e'::r,asc,h,h1,h2=>by
  rw[zh,List.pairwise_cons] at asc;rw[List.drop_one,List.tail_cons,zh,List.cons_append,List.zip_cons_cons,zh,zC] at h;rcases h with h | h
  ·subst h
   dsimp only at h1 h2;have no:(e'::r).filter (fun e=>decide (e.1<=b))=[]:=by
    rw[List.filter_eq_nil_iff];intro y hy;have hm:y.1∈(e'::r).map (·.1):=zO (f:=fun z:End=>z.1) hy;have a2:=asc.2;rw[zh,List.pairwise_cons] at a2;rw[zh,zC] at hm;rcases hm with z | z
    ·simp;omega
    ·have:=a2.1 _ z
     simp;omega
   refine⟨e,?_,rfl⟩;rw[List.filter_cons,if_pos (ze h1),no];rfl
  ·obtain⟨e2,f1,f2⟩:=Cm (es:=e'::r) asc.2 (by rw[List.drop_one,List.tail_cons];exact h) h1 h2
   refine⟨e2,?_,f2⟩;rw[List.filter_cons];split
   ·cases q:(e'::r).filter (fun e=>decide (e.1<=b)) with
    | nil=>rw[q] at f1;cases f1
    | cons y t=>rw[q] at f1;rw[List.getLast?_cons_cons];exact f1
   ·exact f1
theorem Jd:∀{es:List End},(∀e∈es,lo<=e.1/\e.1<hi)->x∈(es.zip ((es.drop 1).map (·.1)++[hi])).map (fun p=>(p.1.1,p.2-1,p.1.2))->lo<=x.1/\x.2.1<hi
 | [],_,h=>by simp at h
 | [e],hx,h=>by
  simp at h;subst h;have:=hx e (by simp);exact⟨this.1,by show hi-1<hi;omega⟩
 | e::e'::r,hx,h=>by
  rw[List.drop_one,List.tail_cons,zh,List.cons_append,List.zip_cons_cons,zh,zC] at h;rcases h with h | h
  ·subst h
   have a:=hx e (by simp);have c:=hx e' (by simp);exact⟨a.1,by show e'.1-1<hi;omega⟩
  ·exact Jd (es:=e'::r) (fun y hy=>hx y (zm _ hy)) (by rw[List.drop_one,List.tail_cons];exact h)
def Apart (rs:List Rep):Prop:=(∀r∈rs,r.first<=r.last/\(r.ends.map (·.1)).Pairwise (·<·)/\∀e∈r.ends,r.first<=e.1/\e.1<=r.last)/\rs.Pairwise fun a b=>a.last<b.first
theorem uz:∀{rs:List Rep} {r r':Rep} {b:Int},(∀r∈rs,r.first<=r.last)->rs.Pairwise (fun a b=>a.last<b.first)->r∈rs->r'∈rs->r.first<=b->b<=r.last->r'.first<=b->b<=r'.last->r=r'
 | [],_,_,_,_,_,h,_,_,_,_,_=>by cases h
 | x::l,r,r',b,hf,hp,h,h',h1,h2,h3,h4=>by
  rw[List.pairwise_cons] at hp;rcases zC.mp h with e | e <;> rcases zC.mp h' with e' | e'
  ·rw[e,e']
  ·subst e
   have:=hp.1 r' e';omega
  ·subst e'
   have:=hp.1 r e;omega
  ·exact uz (fun y hy=>hf y (zm _ hy)) hp.2 e e' h1 h2 h3 h4
def qi {rs:List Rep} {b:Int} {r:Rep} (h:dG rs b=some r):r∈rs/\r.first<=b/\b<=r.last:=by
 unfold dG at h;have h1:=List.mem_of_find?_eq_some h;have h2:=List.find?_some h;simp at h2;exact⟨h1,h2⟩
def IY {rs:List Rep} {b:Int} (ap:Apart rs) (h:jV rs b=true):lM rs b=true:=by
 unfold lM;rw[yo];intro r hr;rw[yo];intro x hx;obtain⟨a1,a2,a3⟩:=ap.1 r hr
 by_cases c1:x.1<=b
 ·by_cases c2:b<=x.2.1
  ·unfold jn at hx
   have ein:=Jd (lo:=r.first) (fun e he=>⟨(a3 e he).1,by have:=(a3 e he).2;omega⟩) hx;obtain⟨e,f1,f2⟩:=Cm a2 hx c1 c2;unfold jV at h;have hro:dG rs b=some r:=by
    cases q:dG rs b with
    | none=>
     unfold dG at q;have:=List.find?_eq_none.mp q r hr;simp at this;omega
    | some r'=>
     obtain⟨g1,g2,g3⟩:=qi q;rw[uz (fun y hy=>(ap.1 y hy).1) ap.2 g1 hr g2 g3 nofun nofun]
   rw[hro] at h;dsimp only at h;rw[f1] at h;dsimp only at h;rw[f2] at h;rw[h];simp
  ·rw[zd c2];simp
 ·rw[zd c1];simp
def vi {rs:List Rep} {b:Int} (h:eN rs b=false):d6 rs b=true:=by
 unfold d6;cases q:dG rs b with
 | none=>rfl
 | some r=>
  obtain⟨g1,g2,g3⟩:=qi q;dsimp only;unfold eN at h;rw[List.any_eq_false] at h;have:=h r g1;simp at this;exact ze nofun
def Mj {rs:List Rep} {b:Int} (ap:Apart rs) (h:(∃r∈rs,r.last=b)\/(rs.any fun r=>Eu r b)=false):gQ rs b=true:=by
 unfold gQ;cases q:dG rs b with
 | none=>rfl
 | some r=>
  obtain⟨g1,g2,g3⟩:=qi q;dsimp only;rcases h with⟨r',hr',e⟩ | h
  ·have:=uz (b:=b) (fun y hy=>(ap.1 y hy).1) ap.2 g1 hr' g2 g3 (by have:=(ap.1 r' hr').1;omega) nofun
   rw[this,e];exact ze rfl
  ·rw[List.any_eq_false] at h
   have:=h r g1;unfold Eu at this;simp at this;omega
def Oi (many:Int) (rs:List Rep) (j:Jump):Prop:=gS rs j=true/\(0<=j.wL/\j.wL<many)/\(0<=j.AS/\j.AS<many)/\(0<=j.dr/\j.dr<many)/\∀c,j.gy=some c->0<=c/\c<many
def P2 {many:Int} {rs:List Rep} (ap:Apart rs) {a t u:Int} {c:Option Int} (ha:0<=a) (ha2:a<many) (hl:(∃r∈rs,r.last=a)\/(rs.any fun r=>Eu r a)=false) (ht:0<=t) (ht2:t<=a) (hti:eN rs t=false)
  (hu:t<=u) (hu2:u<=a) (hul:jV rs u=true) (hc:∀x,c=some x->a<x/\x<many/\eN rs x=false/\jV rs x=true):Oi many rs ⟨a,t,u,c⟩:=by
 refine⟨?_,⟨ha,ha2⟩,⟨ht,by show t<many;omega⟩,⟨by show 0<=u;omega,by show u<many;omega⟩,fun x hx=>?_⟩
 ·unfold gS
  dsimp only;rw[if_neg nofun,if_neg nofun,Mj ap hl,vi hti,IY ap hul];cases c with
  | none=>rfl
  | some x=>
   obtain⟨h1,h2,h3,h4⟩:=hc x rfl;dsimp only;rw[ze h1,vi h3,IY ap h4];rfl
 ·obtain⟨h1,h2,_⟩:=hc x hx
  exact⟨nofun,h2⟩
def HA (t1:0<t) (t2:t<=32) (b1:0<b) (b2:b<=160):KJ (red t b):=by
 obtain⟨g,g1,g2,g3,g4,g5⟩:=lC (t:=t) b1;have r1:=xP (t:=t) (b:=b) (Int.le_of_lt t1);have r0:=xO (t:=t) (b:=b) (Int.le_of_lt t1);refine⟨Lm.Rd.of (Int.le_of_lt t1) b1,?_,nofun,nofun⟩;rcases Int.lt_or_eq_of_le r0 with z | z
 ·exact z
 ·rw[<-z,Int.mul_zero] at g2;omega
inductive J2:List Expr->List (Int×Int)->Prop
 | n:J2 [] []
 | c {a b:Int} {x y u v m k r ps} (h:J2 r ps):J2 (.Tuple [.Constant (.int a) x y,.Constant (.int b) u v] m k::r) ((a,b)::ps)
def PK {X:Cx} {es:List Expr} {ps:List (Int×Int)} (h:J2 es ps):PA X es (EI ps):=by
 induction h with
 | n=>exact PJ
 | c _ q=>exact QX q
def PD {X:Cx} {es:List Expr} {p1 pos:Pos} {b:Expr} {tb:TE} (ps:List (Int×Int)) (hb:PE X b tb) (hs:sW b) (h:J2 es ps<|>qh_) (hl:ps.length<=1000<|>qb_):PE X (.Subscript (.List es p1) b pos) (fA (NA X.K) (RD ps) tb):=xW IZ (PB (PK h) hl) hb hs
@[irreducible] def OP (X:Cx) (s:Stmt) (t:TS):Prop:=PS X s t
@[irreducible] def RK (X:Cx) (e:Expr) (t:TE):Prop:=PE X e t
def SD {X:Cx} {x:Str} {e:Expr} {te:TE} {pos pos':Pos} (i:Nat) (hN:X.N.Nodup) (he:RK X e te) (hi:X.N[i]?=some x<|>qe_) (hx:Loc X.env.scope x<|>qi_) (hs:swapsWith e (some (.Name x pos')) pos.line X.env=pure false<|>qe_) (hf:X.fn x=true\/X.env.scope.names.lookup x=some .local<|>qa_) :
  OP X (.Assign [.Name x pos'] e pos) (EK te (b7 i)):=by
 unfold OP;unfold RK at he;exact LO hN hi hx he hs hf
def NH {X:Cx} {es:List Expr} {p1 pos:Pos} {b:Expr} {tb:TE} (ps:List (Int×Int)) (hb:PE X b tb) (hs:sW b) (h:J2 es ps<|>qh_) (hl:ps.length<=1000<|>qb_):RK X (.Subscript (.List es p1) b pos) (fA (NA X.K) (RD ps) tb):=by
 unfold RK;exact PD ps hb hs h hl
@[irreducible] def Ir (X:Cx) (s:List Stmt) (t:TS):Prop:=Cz X s t
def zS {X:Cx} {s:Stmt} {t:TS} (h:PS X s t):OP X s t:=by unfold OP;exact h
def zo {X:Cx} {s:Stmt} {t:TS} (h:OP X s t):Ir X [s] t:=by unfold Ir;unfold OP at h;exact aj h
def zc {X:Cx} {s:Stmt} {r:List Stmt} {t u:TS} (h:OP X s t) (h2:Ir X r u):Ir X (s::r) (O5 t u):=by unfold Ir at h2 ⊢;unfold OP at h;exact ag h h2
def zf {X:Cx} {s:List Stmt} {t:TS} (h:Ir X s t):Cz X s t:=by unfold Ir at h;exact h
end Sc
namespace K22
open PySem L2 Lm Sc
def top (i:Nat):Stmt:=PySem.Challenge.pw_partsmith_k22_instruments.main.body.getD i (.Pass ⟨0,0,0,0⟩)
abbrev pF:=top 8
abbrev pB:=top 9
abbrev kG:=top 12
abbrev pI:=top 13
abbrev IL:=top 14
abbrev BU:=top 15
abbrev pG:=top 16
abbrev rC:=top 22
abbrev iZ:=top 23
abbrev uS:=top 24
abbrev xA:=top 34
abbrev xG:=top 35
abbrev uQ:=top 36
abbrev rB:=top 37
abbrev pz:=top 38
abbrev uP:=top 39
abbrev uO:=top 40
abbrev rE:=top 41
abbrev xB:=top 42
abbrev xC:=top 43
abbrev pE:=top 44
abbrev jF:=top 45
abbrev rm:=top 46
abbrev xD:=top 47
abbrev pA:=top 48
abbrev uT:=top 49
abbrev rD:=top 50
abbrev pC:=top 51
abbrev uR:=top 52
abbrev mj:=top 54
abbrev qg:=top 55
abbrev BV:=top 56
abbrev xF:=top 57
abbrev pw:=top 58
abbrev nG:=top 59
abbrev uU:=top 60
abbrev uV:=top 61
abbrev nL:=top 62
abbrev uX:=top 63
abbrev uW:=top 64
abbrev nJ:=top 73
abbrev pj:=top 74
abbrev nK:=top 75
abbrev xE:=top 76
abbrev nI:=top 77
abbrev i4:=top 78
abbrev pk:=top 79
abbrev uZ:=top 80
abbrev nF:=top 81
abbrev rG:=top 82
abbrev pH:=top 83
abbrev nH:=top 84
abbrev rF:=top 85
abbrev qh:=top 87
abbrev xH:=top 88
abbrev BW:=top 89
abbrev rA:=top 90
abbrev nM:=top 92
abbrev uY:=top 93
abbrev mm:=top 94
abbrev nQ:=top 96
abbrev rH:=top 97
abbrev mw:=top 98
abbrev pJ:=top 99
abbrev mq:=top 100
abbrev mz:=top 101
abbrev nT:=top 102
abbrev kJ:=top 103
abbrev mB:=top 104
abbrev mr:=top 105
abbrev nP:=top 106
abbrev jI:=top 107
abbrev nN:=top 108
abbrev rJ:=top 109
abbrev nO:=top 110
abbrev gg:=top 111
abbrev kI:=top 112
abbrev mn:=top 113
abbrev i7:=top 114
abbrev kK:=top 115
abbrev i6:=top 116
abbrev kL:=top 117
abbrev jH:=top 118
abbrev jG:=top 119
abbrev jJ:=top 120
abbrev Ox:=top 121
abbrev rK:=inClass (top 72) 0
structure Df (K:yA) (mg:Str->Option Value) (x:Str) (st:Stmt) (a:Addr) (d:FuncData) (ps:List Str):Prop where
 F:M0 K x x st a d
 g:mg x=some (.ref a)
 b:Binds K d ps []
structure Th (K:yA) (x y:Str) (st:Stmt) (a:Addr) (d:FuncData) (ps:List Str):Prop where
 F:M0 K x y st a d
 b:Binds K d ps []
set_option genInjectivity false in
set_option genSizeOf false in
structure Txt (K:yA) (mg:Str->Option Value) where
 (BH BG uA BI Of Kx kz Eg qL Gz Ij Ip Gy Ef BF Gx Gw Eh Ik Il gJ eF iK lS gH jZ iM gI jY wu AD Ky Io BE AB GA GB AG GD GC AE BD AF Im gd dZ gG j0 gb iP gK gc iO AH Iq Kz Ee AI GF wx AM Ei wB BJ wz wC AN uC wD wA AL sT AJ Ej AK mU uB wy qN uD qM uE sS sR sU Rn lT lR jt d5 iT rP:Addr)
 (Bu Br uk Bw N9 Ki ko DK qG Ge HL HV Gb DJ Bp Ga F9 DM HN HP Bt sH DH HQ Bq Gf DL Bs Gd wa HM Kl HU Bo Ac Gg Gh Ah Gj Gi Af Bl Ag HR Ae qH Bm Gm Ab DO Bv Ad DN HS HW Km DI Ai Gk wc Am DP wk Bx wg wm An uo wo wj Al sL Aj DQ Ak mS um wd qJ uq qI uw sJ sI sM MJ sN:FuncData)
 (JD tf AW xb AX vt CB xg sZ xh vv xi CC xf pP EG CF CD xc:Tok)
 dy:Df K mg "read_number" pF BH Bu ["text","most"]
 fE:Df K mg "read_signed" pB BG Br ["text","most"]
 fZ:Df K mg "common_divisor" kG uA uk ["one","other"]
 eL:Df K mg "made_length" pI BI Bw ["top","bottom"]
 added:Df K mg "added" IL Of N9 ["one","other"]
 CW:Df K mg "shorter" BU Kx Ki ["one","other"]
 eK:Df K mg "read_length" pG kz ko ["text"]
 jd:Df K mg "read_pitch" rC Eg DK ["fifths_text","steps_text"]
 dN:Df K mg "read_item_length" iZ qL qG ["text"]
 tM:Df K mg "read_item" uS Gz Ge ["text"]
 words_of:Df K mg "words_of" xA Ij HL ["row"]
 dk:Df K mg "all_read" xG Ip HV ["values"]
 eT:Df K mg "read_name" uQ Gy Gb ["word"]
 cO:Df K mg "read_plain" rB Ef DJ ["word"]
 jK:Df K mg "read_within" pz BF Bp ["word","lowest","highest"]
 tL:Df K mg "read_time" uP Gx Ga ["word"]
 tK:Df K mg "read_turn" uO Gw F9 ["fifths_word","steps_word"]
 qp:Df K mg "read_metre" rE Eh DM ["word"]
 xR:Df K mg "read_key" xB Ik HN ["word"]
 xS:Df K mg "read_end" xC Il HP ["word"]
 jN:Df K mg "read_player" pE gJ Bt ["words"]
 fo:Df K mg "read_instrument" jF eF sH ["words"]
 lD:Df K mg "read_staff" rm iK DH ["words"]
 rO:Df K mg "read_bar" xD lS HQ ["words"]
 jL:Df K mg "read_upbeat" pA gH Bq ["words"]
 oA:Df K mg "read_hold" uT jZ Gf ["words"]
 lE:Df K mg "read_notes" rD iM DL ["words"]
 jM:Df K mg "read_repeat" pC gI Bs ["words"]
 oz:Df K mg "read_jump" uR jY Gd ["words"]
 kh:Df K mg "is_score_word" mj wu wa ["word"]
 xQ:Df K mg "read_row" qg AD HM ["words"]
 DD:Df K mg "ends_of" BV Ky Kl ["repeat"]
 y7:Df K mg "ends_fit" xF Io HU ["repeat"]
 nU:Df K mg "repeat_fits" pw BE Bo ["repeats","repeat"]
 iw:Df K mg "repeat_round" nG AB Ac ["repeats","bar"]
 tZ:Df K mg "may_leave" uU GA Gg ["repeats","bar"]
 oG:Df K mg "may_enter" uV GB Gh ["repeats","bar"]
 iH:Df K mg "in_last_pass" nL AG Ah ["repeats","bar"]
 ux:Df K mg "coda_fits" uX GD Gj ["repeats","at","coda"]
 uf:Df K mg "jump_fits" uW GC Gi ["repeats","jump"]
 iE:Df K mg "metre_length" nJ AE Af ["score","bar"]
 mX:Df K mg "told_length" pj BD Bl ["score","bar"]
 lL:Df K mg "items_length" nK AF Ag ["items"]
 kP:Df K mg "has_bars" xE Im HR ["score","bars"]
 iB:Df K mg "player_fault" nI gd Ae ["score","player"]
 eW:Df K mg "instrument_fault" i4 dZ qH ["score","told"]
 gM:Df K mg "staff_fault" pk gG Bm ["score","told"]
 oN:Df K mg "bar_fault" uZ j0 Gm ["score","told"]
 fM:Df K mg "upbeat_fault" nF gb Ab ["score","length"]
 lN:Df K mg "hold_fault" rG iP DO ["score","told"]
 jS:Df K mg "notes_fault" pH gK Bv ["score","told"]
 iz:Df K mg "repeat_fault" nH gc Ad ["score","repeat"]
 lK:Df K mg "jump_fault" rF iO DN ["score","jump"]
 y6:Df K mg "fault_of" qh AH HS ["score","sort","told"]
 AA:Df K mg "add_hold" xH Iq HW ["score","told"]
 Ed:Df K mg "add_row" BW Kz Km ["score","sort","told"]
 qo:Df K mg "read_score" rA Ee DI ["text"]
 lQ:Df K mg "check_player" nM AI Ai ["score","player"]
 uy:Df K mg "check_bar" uY GF Gk ["score","bar"]
 ki:Df K mg "instrument_at" mm wx wc ["score","player","bar"]
 cw:Df K mg "_law_cell_at" nQ AM Am ["_law_script","_law_k"]
 cu:Df K mg "_law_mixed" rH Ei DP ["_law_cell","_law_k"]
 d9:Df K mg "_law_names_by" mw wB wk ["_law_cell","_law_many"]
 fI:Df K mg "_law_lowest" pJ BJ Bx ["_law_top","_law_bottom"]
 kB:Df K mg "_law_pitch_by" mq wz wg ["_law_m"]
 kD:Df K mg "_law_items_by" mz wC wm ["_law_m","_law_length"]
 lX:Df K mg "_law_bars_by" nT AN An ["_law_cell","_law_many"]
 jx:Df K mg "_law_length_of" kJ uC uo ["_law_bars","_law_upbeat","_law_bar"]
 kE:Df K mg "_law_holds_by" mB wD wo ["_law_cell","_law_players","_law_instruments","_law_many"]
 kC:Df K mg "_law_notes_by" mr wA wj ["_law_cell","_law_players","_law_bars","_law_upbeat"]
 lW:Df K mg "_law_ends_by" nP AL Al ["_law_m","_law_first","_law_last","_law_times"]
 hV:Df K mg "_law_repeats_by" jI sT sL ["_law_cell","_law_many"]
 iQ:Df K mg "_law_lasting" nN AJ Aj ["_law_repeats","_law_bar"]
 lV:Df K mg "_law_inner" rJ Ej DQ ["_law_repeats","_law_bar"]
 lU:Df K mg "_law_jump_by" nO AK Ak ["_law_cell","_law_many","_law_repeats"]
 fc:Df K mg "_law_instruments_by" gg mU mS ["_law_cell"]
 jw:Df K mg "_law_staffs_by" kI uB um ["_law_cell","_law_players"]
 kA:Df K mg "_law_score_by" mn wy wd ["_law_script","_law_most"]
 dh:Df K mg "_law_length_text" i7 qN qJ ["_law_length"]
 jy:Df K mg "_law_item_text" kK uD uq ["_law_item"]
 gA:Df K mg "_law_repeat_text" i6 qM qI ["_law_repeat"]
 jz:Df K mg "_law_form_rows" kL uE uw ["_law_s"]
 hJ:Df K mg "_law_score_rows" jH sS sJ ["_law_s"]
 g9:Df K mg "_law_score_text" jG sR sI ["_law_s"]
 hX:Df K mg "_law_instrument" jJ sU sM ["_law_s","_law_player","_law_bar"]
 SF:Df K mg "law" Ox Rn MJ ["_law_script"]
 Nc:mg "Score"= some (.ref lR)
 Oh:Mk K lR lT
 AO:Th K "__init__" "Score.__init__" rK lT sN ["self"]
 Ks:mg "FIGURES"= some (.str "0123456789" JD)
 kW:mg "LENGTH_FIGURES"= some (.int (4) tf)
 BA:mg "HIGHEST_KEY"= some (.int (7) AW)
 As:mg "OCTAVE_STEPS"= some (.int (12) xb)
 BB:mg "FIFTH_STEPS"= some (.int (7) AX)
 mP:mg "PITCH_FIGURES"= some (.int (2) vt)
 DV:mg "NAME_SIGNS"= some (.str "abcdefghijklmnopqrstuvwxyz0123456789" CB)
 Aw:mg "LONGEST_NAME"= some (.int (12) xg)
 kU:mg "NUMBER_FIGURES"= some (.int (3) sZ)
 Ax:mg "HIGHEST_TURN"= some (.int (12) xh)
 wt:mg "HIGHEST_METRE"= some (.int (32) vv)
 wq:mg "METRE_BOTTOMS"= some (.ref d5)
 mJ:∀H,du K H d5 [.int 1,.int 2,.int 4,.int 8,.int 16,.int 32]
 Ay:mg "FEWEST_TIMES"= some (.int (2) xi)
 DW:mg "MOST_TIMES"= some (.int (9) CC)
 Cr:mg "READERS"= some (.ref iT)
 Av:mg "MOST_PLAYERS"= some (.int (12) xf)
 qK:mg "MOST_INSTRUMENTS"= some (.int (12) pP)
 Gq:mg "MOST_BARS"= some (.int (200) EG)
 DY:mg "MOST_HOLDS"= some (.int (20) CF)
 DX:mg "MOST_ITEMS"= some (.int (40) CD)
 Au:mg "MOST_REPEATS"= some (.int (20) xc)
 MM:mg "FAULTS"= some (.ref rP)
 OF:mg "abs"= none
 IV:mg "all"= none
 yQ:mg "any"= none
 jT:mg "enumerate"= none
 Q2:mg "int"= none
 Du:mg "isinstance"= none
 bu:mg "len"= none
 tY:mg "list"= none
 Q1:mg "min"= none
 dA:mg "range"= none
 Q0:mg "set"= none
 FD:mg "sorted"= none
 eZ:mg "str"= none
 QZ:mg "sum"= none
 iD:mg "tuple"= none
 L9:mg "zip"= none
 lO:PySem.W.nsIn K mainGlobals "NoLength"= some (some (.ref jt))
 lG:PySem.W.excIn K jt [.type "ValueError",.type "Exception",.type "BaseException",.type "object"] "ValueError.__new__"= true
 OZ:mg "NoLength"= some (.ref jt)
 cf:Cf K lR
def bM {X:Cx} {x:Str} {st:Stmt} {k n:Nat} {f:Addr} {fd:FuncData} {ps:List Str} {sp:Sp} {e:Expr} {es:List Expr} {t:TA} {p pos:Pos} (F:dE X.prog X.w X.K X.mg X.base GJ k f fd ps sp) (hr:fK n X.A) (D:Df X.K X.mg x st f fd ps)
  (ha:PA X (e::es) t) (hk:k<=n<|>qb_) (hg:Gl X x<|>qe_) (hdb:(x == ("__debug__": Str))=false<|>qb_) (he:starEach (e::es) X.env=(false,eval e X.env)::starEach es X.env<|>qe_) (hpl:(backTo pos (starEach es X.env)).any (·.1)=false<|>qe_) :
  PE X (.Call (.Name x p) (e::es) [] pos) (gL sp [] E0 t):=NJ F (hr.mono hk) hg D.g D.F.kp D.b .nil IT ha hdb he hpl
def fL {X:Cx} {a b:Expr} {ta tb:TE} {pos:Pos} (ha:PE X a ta) (hb:PE X b tb) (hs:sW b<|>qj_):PE X (.Subscript a b pos) (fA (NA X.K) ta tb):=xW IZ ha hb hs
def bN {X:Cx} {a b:Expr} {ta tb:TE} {pos:Pos} (ha:PE X a ta) (hb:PE X b tb) (hs:sW b<|>qj_):PE X (.Subscript a b pos) (fA (qx X.K) ta tb):=xW P4 ha hb hs
def ptr {X:Cx} {a b:Expr} {ta tb:TE} {pos:Pos} {op:CmpOp} {r:R2} (ho:oO X (compareOp op) r) (ha:PE X a ta) (hb:PE X b tb) (h:op≠.In<|>qb_) (h2:op≠.NotIn<|>qb_):PT X (.Compare a [op] [b] pos) (mZ (fA r ta tb)):=iA ho ha hb (jg b h h2)
def Lo (p:St) (n:Nat) (σ:St):Prop:=∃e:Nat->Option V,σ=p++(List.range n).map e
def Lo.of {p:St} {n:Nat} {σ:St} (h:σ.take p.length=p) (l:σ.length=p.length+n):Lo p n σ:=by
 refine⟨fun i=>σ[p.length+i]?.join,List.ext_getElem? fun i=>?_⟩
 by_cases c:i<p.length
 ·rw[List.getElem?_append_left c]
  conv=>rhs;rw[<-h]
  rw[List.getElem?_take_of_lt c]
 ·rw[zZ nofun,zJ]
  by_cases d:i-p.length<n
  ·rw[List.getElem?_range d]
   have:p.length+(i-p.length)=i:=nofun
   simp only[Option.map_some,this];rw[zb nofun];rfl
  ·rw[List.getElem?_eq_none nofun,List.getElem?_eq_none (by simp;omega)]
   rfl
abbrev At (b:yA->TS) (K:yA):TS:=b K
abbrev Sq (b:yA->TS) (K:yA) (D:Ends):Ends:={D with nx:=b K D}
abbrev Dz (Q:VK):Ends:={nx:=fun _ H'=>Q .bC H',rt:=Q}
def Ev (t:TE) (σ:St) (H:Hp) (v:V):Prop:=∀Q:VK,Q v H->t σ H Q
def M9 (t:TA) (σ:St) (H:Hp) (vs:List V):Prop:=∀R:List V->Hp->Prop,R vs H->t σ H R
def Ol (t:TT) (σ:St) (H:Hp) (b:Bool):Prop:=∀R:Bool->Hp->Prop,R b H->t σ H R
def SM (K:yA) (f:Str) (x:V) (H:Hp) (Q:VK):Prop:=∃a C dx fs v,x=.ref a/\H a=some (.ins C dx fs)/\Om K C/\eP K C f/\fs.lookup f=some v/\Q v H
section
variable {t u:TE} {ta:TA} {c:TT} {wi:TI} {a b:TS} {gt:TG} {D:Ends} {σ:St} {H:Hp} {v x y:V} {vs:List V} {g:Int->Int->V} {i j:Int} {r:R2} {Q:VK} {R:List V->Hp->Prop} {S:Bool->Hp->Prop} {k:Bool} {K:yA} {p:Addr} {xs:List V}
def Qc {n:Nat} (e:σ[n]?=some (some v)):Ev (aY n) σ H v:=fun _ q=>⟨v,e,q⟩
def SQ:Ev (tC v) σ H v:=fun _ q=>q
def Rh (a:Ev t σ H (.int i)) (b:Ev u σ H (.int j)):Ev (fA (vM g) t u) σ H (g i j):=fun _ q=>a _ (b _ ⟨_,_,rfl,rfl,q⟩)
def Rg {C:Int->Int->Prop} (a:Ev t σ H (.int i)) (b:Ev u σ H (.int j)) (c:C i j):Ev (fA (rI C g) t u) σ H (g i j):=fun _ q=>a _ (b _ ⟨_,_,rfl,rfl,c,q⟩)
def Rf (a:Ev t σ H (.ref p)) (b:Ev u σ H (.int j)) (h:H p=some (.tup xs)) (e:Cw xs j=some v):Ev (fA (qx K) t u) σ H v:=fun _ q=>a _ (b _ ⟨_,_,_,_,rfl,rfl,du.of h,e,q⟩)
def Qe:M9 eI σ H []:=fun _ q=>q
def N2 (a:Ev t σ H v) (b:M9 ta σ H vs):M9 (bK t ta) σ H (v::vs):=fun _ q=>a _ (b _ q)
def Qf (a:Ev t σ H v):Ev (Lf t) σ H (.bl (decide (v=.bC))):=fun _ q=>a _ q
def N1 (a:Ev t σ H v):Ev (Le t) σ H (.bl (!decide (v=.bC))):=fun _ q=>a _ q
def Qd (a:Ev t σ H (.bl k)):Ev (QK t) σ H (.bl (!k)):=fun _ q=>a _ ⟨_,rfl,q⟩
def Ri (a:Ev t σ H x) (b:Ev u σ H y) (s:Nr x y=true):Ev (fA Sx t u) σ H (.bl (decide (x=y))):=fun _ q=>a _ (b _ ⟨s,q⟩)
def Rc (a:Ev t σ H x) (b:Ev u σ H y) (s:Nr x y=true):Ev (fA Sv t u) σ H (.bl (!decide (x=y))):=fun _ q=>a _ (b _ ⟨s,q⟩)
def SN (a:Ev t σ H (.bl k)):Ol (mZ t) σ H k:=fun _ q=>a _ ⟨_,rfl,q⟩
def SR (a:Ev t σ H (.bl k)):Ol (tB t) σ H k:=fun _ q=>a _ ⟨_,rfl,q⟩
def SO (a:Ol c σ H k):Ol (Nf c) σ H (!k):=fun _ q=>a _ q
def QQ (e:Ev t σ H v) (q:gt v σ H D.nx):EK t gt D σ H:=e _ q
def QP (e:Ev t σ H v) (q:D.rt v H):O6 t D σ H:=e _ q
def So {a b:yA->TS} (e:Ol c σ H k) (q:if k=true then At a K D σ H else At b K D σ H):Ng c (a K) (b K) D σ H:=e _ q
def RO {b:yA->TS} (q:a (Sq b K D) σ H):O5 a (b K) D σ H:=q
def RW {n:Nat} {S:St->Hp->Prop} (q:S (σ.set n (some v)) H):b7 n v σ H S:=q
def RS {b:yA->TS} (q:b K D σ H):(Sq b K D).nx σ H:=q
def RQ (q:D.nx σ H):Oo D σ H:=q
def QB (q:t σ H fun x H1=>gt x σ H1 D.nx):EK t gt D σ H:=q
def Qy (q:t σ H D.rt):O6 t D σ H:=q
def OU (q:t σ H fun _ H1=>D.nx σ H1):Oq t D σ H:=q
def RV (q:c σ H fun z H1=>if z=true then a D σ H1 else b D σ H1):Ng c a b D σ H:=q
def RX {a b:yA->TS} (q:c σ H fun z H1=>if z=true then At a K D σ H1 else At b K D σ H1):Ng c (a K) (b K) D σ H:=q
def QO (e:Ol c σ H k) (q:S k H):c σ H S:=e S q
def Tj (q:t σ H fun x H'=>∃k,x=.bl k/\S k H'):mZ t σ H S:=q
def Tn (q:t σ H fun x H'=>∃k,x=.bl k/\S k H'):tB t σ H S:=q
def R1 (e:Ev t σ H v) (q:Q v H):t σ H Q:=e Q q
def w_arg (e:M9 ta σ H vs) (q:R vs H):ta σ H R:=e R q
def x_call {sp:Sp} {dv:List V} {E:XK} (q:ta σ H fun vs H1=>sp (vs++dv) H1 Q E):gL sp dv E ta σ H Q:=q
def RY {q':List V->Hp->VK->Prop} (q:ta σ H fun vs H1=>q' vs H1 Q):JE q' ta σ H Q:=q
def Qx (q:ta σ H fun xs H1=>xs.length<=sizeLine/\∀p,H1 p=none->Q (.ref p) (upd H1 p (.tup xs))):EH ta σ H Q:=q
def Qz (q:ta σ H fun xs H1=>xs.length<=sizeLine/\∀p,H1 p=none->Q (.ref p) (upd H1 p (.lst xs))):EJ ta σ H Q:=q
def OV {fr:List (Option Nat)} (q:wi σ H fun J H1=>dJ (fr.map fun o=>o.bind fun j=>(σ[j]?).join) gt c t Q J H1):m6 fr wi gt c t σ H Q:=q
def Sn {R:It->Hp->Prop} (e:Ev t σ H (.ref p)) (q:(∃xs,aI K H p xs)/\R (MY K p) H):I0 K t σ H R:=e _ ⟨_,rfl,q⟩
def RP {R:It->Hp->Prop} (q:ta σ H fun vs H1=>∃j:Int,vs=[.int j]/\-(2^62)<=j/\j<2^62/\R (MX 0 j.toNat) H1):Mq ta σ H R:=q
abbrev iJ (J:It):TI:=fun _ H R=>R J H
def Fr (g:TG) (b:TS) (D:Ends) (σ:St) (J:It) (H:Hp):Prop:=Pb (iJ J) g b D σ H
def QA {b:yA->TS} (q:wi σ H (Fr gt (At b K) D σ)):Pb wi gt (b K) D σ H:=q
def x_at {b:yA->TS} (q:b K D σ H):At b K D σ H:=q
def RU {R:It->Hp->Prop} (q:t σ H fun x H1=>∃a,x=.ref a/\(∃xs,aI K H1 a xs)/\R (MY K a) H1):I0 K t σ H R:=q
def Sb {R:It->Hp->Prop} (e:M9 ta σ H vs) (q:∃a xs,vs=[.ref a]/\aI K H a xs/\R (Qq K a) H):OI K ta σ H R:=e _ q
def R7 {R:It->Hp->Prop} (e:M9 ta σ H vs) (q:∃j:Int,vs=[.int j]/\-(2^62)<=j/\j<2^62/\R (MX 0 j.toNat) H):Mq ta σ H R:=e _ q
def OY {sp:Sp} {dv:List V} {E:XK} (e:M9 ta σ H vs) (q:sp (vs++dv) H Q E):gL sp dv E ta σ H Q:=e _ q
def Sd {q':List V->Hp->VK->Prop} (e:M9 ta σ H vs) (q:q' vs H Q):JE q' ta σ H Q:=e _ q
def R6 (e:M9 ta σ H vs) (q:vs.length<=sizeLine/\∀p,H p=none->Q (.ref p) (upd H p (.tup vs))):EH ta σ H Q:=e _ q
def Sa (e:M9 ta σ H vs) (q:vs.length<=sizeLine/\∀p,H p=none->Q (.ref p) (upd H p (.lst vs))):EJ ta σ H Q:=e _ q
def QR {d:TT} (e:Ol c σ H k) (q:if k=true then d σ H S else S false H):Pj c d σ H S:=e _ q
def Sm {d:TT} (e:Ol c σ H k) (q:if k=true then S true H else d σ H S):Si c d σ H S:=e _ q
def Sr (e:Ol c σ H k) (q:if k=true then t σ H Q else u σ H Q):S6 c t u σ H Q:=e _ q
def QD {f:Str} (e:Ev t σ H x) (q:SM K f x H Q):Nh K t f σ H Q:=e _ q
def Se {T:String} {q':V->List V->Hp->VK->Prop} (e:Ev t σ H x) (q:RB K T x H/\ta σ H fun xs H2=>q' x xs H2 Q):RE K T q' t ta σ H Q:=e _ q
def QE (e:Ev t σ H (.bl k)) (q:if k=true then u σ H Q else Q (.bl false) H):Ot t u σ H Q:=e _ ⟨_,rfl,q⟩
def R8 (e:Ev t σ H (.bl k)) (q:if k=true then Q (.bl true) H else u σ H Q):QJ t u σ H Q:=e _ ⟨_,rfl,q⟩
def R9 (q:t σ H fun x H1=>u σ H1 fun y H2=>r x y H2 Q):fA r t u σ H Q:=q
def OX (q:t σ H fun x H1=>ta σ H1 fun xs H2=>R (x::xs) H2):bK t ta σ H R:=q
def RZ (e:Ev t σ H x) (q:u σ H fun y H2=>r x y H2 Q):fA r t u σ H Q:=e _ q
def OW (e:Ev t σ H v) (q:ta σ H fun xs H2=>R (v::xs) H2):bK t ta σ H R:=e _ q
def R0 (q:Q (g i j) H):vM g (.int i) (.int j) H Q:=⟨i,j,rfl,rfl,q⟩
def QC (h:H p=some (.tup xs)) (e:Cw xs j=some v) (q:Q v H):qx K (.ref p) (.int j) H Q:=⟨_,_,_,_,rfl,rfl,du.of h,e,q⟩
end
def dM {g:TG} {tb:TS} {x:V} {σ:St} {H:Hp} {A C:St->Hp->Prop} {B:VK} (h:∀N:Ends,(∀σ H,A σ H->N.nx σ H)->(∀v H,B v H->N.rt v H)->(∀σ H,A σ H->N.ct σ H)->(∀σ H,C σ H->N.bk σ H)->g x σ H fun σ2 H2=>tb N σ2 H2):g x σ H fun σ2 H2=>tb {nx:=A,rt:=B,bk:=C,ct:=A} σ2 H2:=h _ (fun _ _ z=>z) (fun _ _ z=>z) (fun _ _ z=>z) fun _ _ z=>z
def R4 {r:Sp} {vs:List V} {H:Hp} {Q:VK} {E:XK} (h:∀Q':VK,(∀v H',Q v H'->Q' v H')->r vs H Q' E):r vs H Q E:=h Q fun _ _ z=>z
def R5 {r:R2} {x y:V} {H:Hp} {Q:VK} (h:∀Q':VK,(∀v H',Q v H'->Q' v H')->r x y H Q'):r x y H Q:=h Q fun _ _ z=>z
def R3 {r:V->Hp->VK->Prop} {x:V} {H:Hp} {Q:VK} (h:∀Q':VK,(∀v H',Q v H'->Q' v H')->r x H Q'):r x H Q:=h Q fun _ _ z=>z
abbrev di (P:Program) (w:World) (base:Heap) (n:Nat) {K:yA} {mg:Str->Option Value} {x:Str} {st:Stmt} {a:Addr} {d:FuncData} {ps:List Str} (_:Df K mg x st a d ps) (sp:Sp):Prop:=dE P w K mg base GJ n a d ps sp
theorem _root_.L2.M0.RF {P:Program} {w:World} {K:yA} {mg:Str->Option Value} {base:Heap} {x qual:Str} {st:Stmt} {f:Addr} {fd:FuncData} {N ps:List Str} {k:Nat} {sp:Sp} (F:M0 K x qual st f fd) (S:aA N ps (ao st))
  (hbody:∀(cdv:Value) (A:Around) (outer:List Env) (s:Shared) (H:Hp) (vs:List V) (Q:VK) (E:XK),fK k (A.deeper (PyProof.Rows.envOfC qual (ao st) ↑s f cdv))->sp vs H Q E->
   ∃t,Cz (kr GJ P w K mg base N qual (ao st) f cdv A outer s H E).Ho (cq st) t/\t (Dz Q) (start N vs) H)
  (len:(∀vs H Q E,sp vs H Q E->vs.length=ps.length)<|>qk_):dE P w K mg base GJ (k+1) f fd ps sp:=F.ok S len hbody
def S7 {P:Program} {w:World} {K:yA} {mg:Str->Option Value} {base:Heap} {x:Str} {st:Stmt} {f:Addr} {fd:FuncData} {N ps:List Str} {k:Nat} {sp:Sp} (D:Df K mg x st f fd ps) (S:aA N ps (ao st))
  (hbody:∀(cdv:Value) (A:Around) (outer:List Env) (s:Shared) (H:Hp) (vs:List V) (Q:VK) (E:XK),fK k (A.deeper (PyProof.Rows.envOfC x (ao st) ↑s f cdv))->sp vs H Q E->
   ∃t,Cz (kr GJ P w K mg base N x (ao st) f cdv A outer s H E).Ho (cq st) t/\t (Dz Q) (start N vs) H)
  (len:(∀vs H Q E,sp vs H Q E->vs.length=ps.length)<|>qk_):dE P w K mg base GJ (k+1) f fd ps sp:=D.F.ok S len hbody
def dC {N P:List Str} {sc:Scope} (h1:sc.kind=.function<|>qe_) (h2:sc.isCoroutine=false<|>qe_) (h3:sc.isGenerator=false<|>qe_) (h4:N.Nodup<|>ql_) (h5:N.take P.length=P<|>qe_) (h6:(∀x∈P,sc.names.lookup x=some .local\/sc.names.lookup x=some .cell)<|>ql_) (h7:(∀y∈sc.names,y.2≠.free)<|>ql_):aA N P sc:=⟨h1,h2,h3,h4,h5,h6,h7⟩
def eQ {X:Cx} {x:Str} {id:String} {r:List V->Hp->VK->Prop} {e:Expr} {es:List Expr} {t:TA} {p pos:Pos} (hc:fJ X (.builtin id) r) (hm:X.mg x=none) (ha:PA X (e::es) t) (hg:Gl X x<|>qe_) (hv:bootBuiltins x=some (.builtin id)<|>ql_) (hn:x≠ "__name__"<|>qb_) (hdb:(x == ("__debug__": Str))=false<|>qb_)
  (he:starEach (e::es) X.env=(false,eval e X.env)::starEach es X.env<|>qe_) (hpl:(backTo pos (starEach es X.env)).any (·.1)=false<|>qe_):PE X (.Call (.Name x p) (e::es) [] pos) (JE r t):=Fj hc hg hm hv ha hn hdb he hpl
def mV {X:Cx} {x:Str} {id:String} {r:List V->Hp->VK->Prop} {e:Expr} {es:List Expr} {t:TA} {p pos:Pos} (hc:fJ X (.type id) r) (hm:X.mg x=none) (ha:PA X (e::es) t) (hg:Gl X x<|>qe_) (hv:bootBuiltins x=some (.type id)<|>ql_) (hn:x≠ "__name__"<|>qb_) (hdb:(x == ("__debug__": Str))=false<|>qb_)
  (he:starEach (e::es) X.env=(false,eval e X.env)::starEach es X.env<|>qe_) (hpl:(backTo pos (starEach es X.env)).any (·.1)=false<|>qe_):PE X (.Call (.Name x p) (e::es) [] pos) (JE r t):=JV hc hg hm hv ha hn hdb he hpl
def bS {X:Cx} {x:Str} {e:Expr} {te:TE} {pos pos':Pos} (i:Nat) (hN:X.N.Nodup) (he:PE X e te) (hi:X.N[i]?=some x<|>qe_) (hx:Loc X.env.scope x<|>qi_) (hs:swapsWith e (some (.Name x pos')) pos.line X.env=pure false<|>qe_) (hf:X.fn x=true\/X.env.scope.names.lookup x=some .local<|>qa_) :
  PS X (.Assign [.Name x pos'] e pos) (EK te (b7 i)):=LO hN hi hx he hs hf
def jP {X:Cx} {x:Str} {pos:Pos} (i:Nat) (hN:X.N.Nodup) (hi:X.N[i]?=some x<|>qe_) (hx:Loc X.env.scope x<|>qi_) (hf:X.fn x=true\/X.env.scope.names.lookup x=some .local<|>qa_):PG X (.Name x pos) (b7 i):=IS hN hi hx hf
def gO {X:Cx} {ts ys:List Str} {scope:Scope} {cl:List (Str×Addr)} {C:Addr} {s₀:Shared} {H₀:Hp} {ex:List Addr} {x:Str} {pos:Pos} (i:Nat) (hN:(ts++ys).Nodup<|>ql_) (hi:(ts++ys)[i]?=some x<|>qe_) (hx:Loc (cL X (ts++ys) scope cl C s₀ H₀ ex).env.scope x<|>qi_) (hf:(cL X (ts++ys) scope cl C s₀ H₀ ex).fn x=true\/(cL X (ts++ys) scope cl C s₀ H₀ ex).env.scope.names.lookup x=some .local<|>qa_):PG (cL X (ts++ys) scope cl C s₀ H₀ ex) (.Name x pos) (b7 i):=IS hN hi hx hf
section
variable {X:Cx} {pos:Pos} {elt target iter:Expr} {ifs:List Expr} {scope:Scope} {ts ys:List Str} {js:List Nat} {cl:List (Str×Addr)} {wi:TI} {g:TG} {tc:TT} {te:TE}
def pK (hi:PI X target iter wi) (hg:∀{C s₀ H₀ ex},PG (cL X (ts++ys) scope cl C s₀ H₀ ex) target g) (hif:∀{C s₀ H₀ ex},Og (cL X (ts++ys) scope cl C s₀ H₀ ex) ifs tc) (he:∀{C s₀ H₀ ex},PE (cL X (ts++ys) scope cl C s₀ H₀ ex) elt te)
  (hclos:closureFor scope X.env=pure cl<|>qe_) (hc:X.calm=true<|>qe_) (hcl:Ek X.env.cells cl<|>qm_)
  (hLo:((relabel scope X.env).names.all fun p=>(p.2 != .cell&&p.2 != .free)||ys.contains p.1||scope.names.contains (p.1,.cell))=true<|>qe_) (hno:(∀p∈scope.names,p.2=.cell->p.1∉ys)<|>ql_)
  (hfr:KN X scope cl ys js<|>qm_)
  (hkind:scope.kind=.function<|>qe_) (hnames:(∀y∈scope.names,y.2=.local->scope.names.lookup y.1=some .local)<|>ql_) (hs:(∀x,foldedSetIterable iter X.env x=pure x)<|>qd_) :
  PE X (.ListComp elt [⟨target,iter,ifs,0⟩] scope pos) (m6 (ts.map (fun _=>none)++js.map some) wi g tc te):=L3 hc hclos hcl hLo hno hfr hkind hnames hi (fun _ _ _ _=>hg) (fun _ _ _ _=>hif) (fun _ _ _ _=>he) hs
def M4 {i:Nat} {x:Str} {ps pa:Pos} (hi:PI X target iter wi) (hg:∀{C s₀ H₀ ex},PG (cL X (ts++ys) scope cl C s₀ H₀ ex) target g) (hif:∀{C s₀ H₀ ex},Og (cL X (ts++ys) scope cl C s₀ H₀ ex) ifs tc) (he:∀{C s₀ H₀ ex},PE (cL X (ts++ys) scope cl C s₀ H₀ ex) elt te) (hN:X.N.Nodup)
  (hclos:closureFor scope X.env=pure cl<|>qe_) (hc:X.calm=true<|>qe_) (hcl:Ek X.env.cells cl<|>qm_)
  (hLo:((relabel scope X.env).names.all fun p=>(p.2 != .cell&&p.2 != .free)||ys.contains p.1||scope.names.contains (p.1,.cell))=true<|>qe_) (hno:(∀p∈scope.names,p.2=.cell->p.1∉ys)<|>ql_)
  (hfr:KN X scope cl ys js<|>qm_)
  (hkind:scope.kind=.function<|>qe_) (hnames:(∀y∈scope.names,y.2=.local->scope.names.lookup y.1=some .local)<|>ql_) (hx1:X.N[i]?=some x<|>qe_) (hx2:Loc X.env.scope x<|>qi_) (hs:(∀x,foldedSetIterable iter X.env x=pure x)<|>qd_) (hsw:swapsWith (.ListComp elt [⟨target,iter,ifs,0⟩] scope pos) (some (.Name x ps)) pa.line X.env=pure true<|>qe_)
  (hf:X.fn x=true\/X.env.scope.names.lookup x=some .local<|>qa_) :
  PS X (.Assign [.Name x ps] (.ListComp elt [⟨target,iter,ifs,0⟩] scope pos) pa) (EK (m6 (ts.map (fun _=>none)++js.map some) wi g tc te) (b7 i)):=LQ hc hclos hcl hLo hno hfr hkind hnames hi (fun _ _ _ _=>hg) (fun _ _ _ _=>hif) (fun _ _ _ _=>he) hN hx1 hx2 hs hsw hf
end
section
variable {P:Program} {w:World} {K:yA} {mg:Str->Option Value} {base:Heap} (T:Txt K mg)
local macro_rules | `(tactic|right) => `(tactic| (intro pp hn; generalize hG : upd _ pp _ = HH; have sm := au.kf hG hn; have hh := ky hG; clear hG hn))
local macro_rules|`(tactic|ac_rfl)=>`(tactic|try dsimp only[kr,Cx.Ho])
local macro_rules|`(tactic|intros $p:ident $H:ident $s:ident $h:ident)=>`(tactic|(intro $p hn;generalize hG:upd _ $p _=$H;have $s:ident:=au.kf hG hn;have $h:ident:=ky hG;clear hG hn))
local macro_rules|`(tactic|change $e:term)=>`(tactic|(left ;exact $e))
set_option hygiene false
local macro_rules|`(tactic|fail "h")=>`(tactic|(refine au.on (by assumption) ?_; fail "h"))
local macro_rules|`(tactic|fail "h")=>`(tactic|assumption)
local macro_rules|`(tactic|fail "e")=>`(tactic|((with_reducible apply Rg); fail "e"; fail "e"; (first | (show (0 : Int) < _; decide) | exact And.intro ∅ ∅ | exact Or.inl ⟨∅, by decide⟩ | exact Or.inr ⟨∅, by decide⟩)))
local macro_rules|`(tactic|fail "e")=>`(tactic|((with_reducible (first | apply Ri | apply Rc)); fail "e"; fail "e"; exact rfl))
local macro_rules|`(tactic|fail "e")=>`(tactic|((with_reducible (first | apply SN | apply SR | apply SO | apply Qf | apply N1 | apply Qd)); fail "e"))
local macro_rules|`(tactic|fail "e")=>`(tactic|((with_reducible apply Rf); fail "e"; fail "e"; fail "h"; exact rfl))
local macro_rules|`(tactic|fail "e")=>`(tactic|((with_reducible (first | apply Rh | apply N2)); fail "e"; fail "e"))
local macro_rules|`(tactic|fail "e")=>`(tactic|with_reducible (first | exact SQ | exact Qe))
local macro_rules|`(tactic|fail "e")=>`(tactic|((with_reducible apply Qc); exact rfl))
local macro_rules | `(tactic| exists $es,*) => `(tactic| (left; first | ((with_reducible (first | refine R4 fun _ kq => ?_ | refine R5 fun _ kq => ?_ | refine R3 fun _ kq => ?_)); refine ⟨$es,*⟩; refine kq _ _ ?_) | refine ⟨$es,*⟩))
local macro_rules|`(tactic|fail "s")=>`(tactic|refine Or.inr ⟨_, rfl, ?_⟩)
local macro_rules|`(tactic|fail "s")=>`(tactic|refine ⟨Or.inr ⟨∅, by decide⟩, ?_⟩)
local macro_rules|`(tactic|fail "s")=>`(tactic|refine ⟨Or.inl ⟨∅, by decide⟩, ?_⟩)
local macro_rules|`(tactic|fail "s")=>`(tactic|refine ⟨(And.intro ∅ ∅), ?_⟩)
local macro_rules|`(tactic|fail "s")=>`(tactic|refine ⟨(by show (0 : Int) < _; decide), ?_⟩)
local macro_rules|`(tactic|fail "s")=>`(tactic|refine ⟨_, tag_tup (by fail "h"), ?_⟩)
local macro_rules|`(tactic|fail "s")=>`(tactic|refine ⟨_, _, _, _, rfl, rfl, du.of (by fail "h"), rfl, ?_⟩)
local macro_rules|`(tactic|fail "s")=>`(tactic|refine SH ?_)
local macro_rules|`(tactic|fail "s")=>`(tactic|refine Q6 ?_)
local macro_rules|`(tactic|fail "s")=>`(tactic|refine ⟨rfl, ?_⟩)
local macro_rules|`(tactic|fail "s")=>`(tactic|refine ⟨_, _, rfl, rfl, ?_⟩)
local macro_rules|`(tactic|fail "s")=>`(tactic|refine ⟨_, rfl, ?_⟩)
local macro_rules|`(tactic|fail "s")=>`(tactic|with_reducible (first | apply R0 | apply Tj | apply Tn | apply x_call | apply RY | apply Qx | apply Qz | apply OV | apply RP | apply RU | apply R9 | apply OX))
local macro_rules|`(tactic|fail "s")=>`(tactic|((with_reducible apply QC); fail "h"; exact rfl))
local macro_rules|`(tactic|fail "s")=>`(tactic|((with_reducible (first | apply OY | apply Sd | apply Sn | apply QD | apply Se | apply QE | apply R8 | apply RZ | apply OW | apply R6 | apply Sa | apply Sb | apply R7 | apply QR | apply Sm | apply Sr)); fail "e"))
local macro_rules|`(tactic|fail "s")=>`(tactic|((with_reducible apply QO); fail "e"))
local macro_rules|`(tactic|fail "s")=>`(tactic|((with_reducible apply w_arg); fail "e"))
local macro_rules|`(tactic|fail "s")=>`(tactic|((with_reducible apply R1); fail "e"))
local macro_rules|`(tactic|fail "s")=>`(tactic|with_reducible (first | apply RO (K := K) | apply RW | apply RS | apply RQ | apply x_at | apply QB | apply Qy | apply OU | apply RX (K := K) | apply RV | apply QA (K := K)))
local macro_rules|`(tactic|fail "s")=>`(tactic|((with_reducible (first | apply QQ | apply QP | apply So (K := K))); fail "e"))
local macro_rules | `(tactic|left) => `(tactic| ((repeat fail "s"); (first | (first | apply kN4 | apply kN3 | apply kN2 | apply kN1 | apply kN0 | apply kR4 | apply kR3 | apply kR2 | apply kR1 | apply kR0); left | skip)))
local macro_rules | `(tactic| nomatch $a:term, $b:term) => `(tactic| refine S7 $a $b fun _ _ _ _ H vs Q E hr h => ?_)
set_option hygiene true
def eB:aA ["one","other","rest"] ["one","other"] (ao kG):=dC
def rZ:di P w base 1 T.fZ jC:=by
 nomatch T.fZ,eB
 obtain⟨a,b,rfl,h1,h2,kk⟩:=h;refine⟨_,(ag (xU PassesOwn.never (ptr jQ (pv 1) ae)
  (ag (bS 2 eB.nd (ar aR (pv 0) (pv 1)))
   (ag (bS 0 eB.nd (pv 1))
   (aj (bS 1 eB.nd (pv 2))))))
  (aj (aq (pv 0)))),?_⟩
 refine⟨fun m σ H'=>H'=H/\∃(x y:Int) (r:Option V),σ=[some (.int x),some (.int y),r]/\0<=x/\0<=y/\Int.gcd x y=Int.gcd a b/\m=y.toNat,⟨_,rfl,a,b,none,rfl,h1,h2,rfl,rfl⟩,?_⟩;rintro m σ H' ⟨rfl,x,y,r,rfl,hx,hy,hg,rfl⟩;left
 by_cases e:y=0
 ·subst e
  refine OH rfl ?_;refine⟨_,rfl,?_⟩;have e2:Int.gcd a b=x.natAbs:=by rw[<-hg];simp
  have e3:((Int.gcd a b:Nat):Int)=x:=by rw[e2];omega
  rw[e3] at kk;exact kk
 ·refine b9 (by simp[e]) ?_
  refine⟨fun σ' H''=>∃m',m'<y.toNat/\H''=H'/\∃(x y:Int) (r:Option V),σ'=[some (.int x),some (.int y),r]/\0<=x/\0<=y/\Int.gcd x y=Int.gcd a b/\m'=y.toNat,fun _ _ h=>h,?_⟩;exists(by show(0:Int)<y;omega),?_;left;have hp:(0:Int)<y:=nofun
  have l1:=zv x (by omega:y≠0);have l2:=zr x hp;exact⟨(x%y).toNat,nofun,rfl,y,x%y,_,rfl,hy,l1,(FN hx hp).trans hg,rfl⟩
def nA:aA ["top","bottom","divisor"] ["top","bottom"] (ao pI):=dC
def jf:di P w base 2 T.eL fO:=by
 have G_common_divisor:di P w base 1 T.fZ jC:=rZ T
 nomatch T.eL,nA
 obtain⟨t,b,rfl,h1,h2,h3,kk⟩:=h;refine⟨_,(ag (bS 2 nA.nd (bM G_common_divisor hr T.fZ (ah (pv 0) (ah (pv 1) af))))
  (aj (aq (bF (ah (ar rX (pv 0) (pv 2)) (ah (ar rX (pv 1) (pv 2)) af)))))),?_⟩
 exists t,b,rfl,h1,Int.le_of_lt h2,?_;have g0:=wO (t:=t) h2;have g1:Sz 8999 ((Int.gcd t b:Nat):Int):=h3.le (Int.le_of_lt g0) (Mu h2);exists⟨g0,g1⟩,?_;exists⟨g0,g1⟩,?_;refine⟨dn,laid fun p H' sm hp=>kk p H' sm ?_⟩;exact hp
def Lv:aA ["one","other"] ["one","other"] (ao IL):=dC
def L6:di P w base 3 T.added Lr:=by
 have G_made_length:di P w base 2 T.eL fO:=jf T
 nomatch T.added,Lv
 obtain⟨x,y,p,q,n,m,rfl,hp,hq,rx,ry,sx,sy,hnm,kk⟩:=h;obtain⟨x1,x2,_⟩:=rx.pos;obtain⟨y1,y2,_⟩:=ry.pos;have bx1:Sz 20000 x.1:=sx.1.mono nofun;have bx2:Sz 20000 x.2:=sx.2.mono nofun;have by1:Sz 20000 y.1:=sy.1.mono nofun;have by2:Sz 20000 y.2:=sy.2.mono nofun;refine⟨_,(aj (aq (bM G_made_length hr T.eL (ah (ar aX (ar rW (bN (pv 0) ae) (bN (pv 1) ae)) (ar rW (bN (pv 1) ae) (bN (pv 0) ae))) (ah (ar rW (bN (pv 0) ae) (bN (pv 1) ae)) af))))),?_⟩;exists⟨bx1,by2⟩,?_;exists⟨by1,bx2⟩,?_;exists⟨bx2,by2⟩,?_;refine⟨_,_,rfl,Int.add_nonneg (Int.mul_nonneg x1 (Int.le_of_lt y2)) (Int.mul_nonneg y1 (Int.le_of_lt x2)),Int.mul_pos x2 y2,(sx.2.mul sy.2).mono hnm,fun r H' sm hr'=>kk r H' sm hr'⟩
def G7:aA ["one","other"] ["one","other"] (ao BU):=dC
def Hl:di P w base 1 T.CW GZ:=by
 nomatch T.CW,G7
 obtain⟨x,y,p,q,rfl,hp,hq,sx,sy,kk⟩:=h;have bx1:Sz 20000 x.1:=sx.1.mono nofun;have bx2:Sz 20000 x.2:=sx.2.mono nofun;have by1:Sz 20000 y.1:=sy.1.mono nofun;have by2:Sz 20000 y.2:=sy.2.mono nofun;refine⟨_,(aj (aq (dR eY (ar rW (bN (pv 0) ae) (bN (pv 1) ae)) (ar rW (bN (pv 1) ae) (bN (pv 0) ae)) (jg _)))),?_⟩;exists⟨bx1,by2⟩,?_;exists⟨by1,bx2⟩,?_;change kk
def A8:aA ["_law_cell","_law_k"] ["_law_cell","_law_k"] (ao rH):=dC
def bJ:di P w base 1 T.cu A2:=by
 nomatch T.cu,A8
 obtain⟨c,k,rfl,h1,h2,kk⟩:=h;refine⟨_,(aj (aq (ar aR (ar dU (ar dU (ar aX (ar aR (pv 0) ae) ae) (ar aX (ar dU (pv 1) (pv 1)) ae)) ae) ae))),?_⟩;exists Or.inl ⟨nofun,nofun⟩,?_;left;have e1:0<=c%2305843009213693951:=zv _ ∅;have e2:c%2305843009213693951<2305843009213693951:=zr _ ∅;refine⟨Or.inl ⟨nofun,nofun⟩,?_⟩;change kk
def iY:aA ["_law_top","_law_bottom","_law_one","_law_other"] ["_law_top","_law_bottom"] (ao pJ):=dC
def fU:di P w base 1 T.fI xo:=by
 nomatch T.fI,iY
 obtain⟨t,b,rfl,h1,h2,h3,kk⟩:=h;have g0:=wO (t:=t) h2;have g1:Sz 8999 ((Int.gcd t b:Nat):Int):=h3.le (Int.le_of_lt g0) (Mu h2);refine⟨_,(ag (LP (i:=2) (j:=3) rfl iY.nd rfl rfl ∅ rfl rfl (ah (pv 0) (ah (pv 1) af)) rfl)
  (ag (xU PassesOwn.never (ptr fi (pv 3) ae)
  (aj (LP (i:=2) (j:=3) rfl iY.nd rfl rfl ∅ rfl rfl (ah (pv 3) (ah (ar aR (pv 2) (pv 3)) af)) rfl)))
  (aj (aq (bF (ah (ar rX (pv 0) (pv 2)) (ah (ar rX (pv 1) (pv 2)) af))))))),?_⟩
 exists _,_,rfl,?_;refine⟨fun m σ H'=>H'=H/\∃(x y:Int),σ=[some (.int t),some (.int b),some (.int x),some (.int y)]/\0<=x/\0<=y/\Int.gcd x y=Int.gcd t b/\m=y.toNat,⟨_,rfl,t,b,rfl,h1,Int.le_of_lt h2,rfl,rfl⟩,?_⟩;rintro m σ H' ⟨rfl,x,y,rfl,hx,hy,hg,rfl⟩;left
 by_cases e:y=0
 ·subst e
  refine cm (by simp) ?_;have e2:Int.gcd t b=x.natAbs:=by rw[<-hg];simp
  have e3:x=((Int.gcd t b:Nat):Int):=by rw[e2];omega
  subst e3;exists⟨g0,g1⟩,?_;exists⟨g0,g1⟩,?_;refine⟨dn,laid fun p H' sm hp=>kk p H' sm ?_⟩;exact hp
 ·have hp:(0:Int)<y:=nofun
  refine b9 (ze hp) ?_;refine⟨fun σ' H''=>∃m',m'<y.toNat/\H''=H'/\∃(x y:Int),σ'=[some (.int t),some (.int b),some (.int x),some (.int y)]/\0<=x/\0<=y/\Int.gcd x y=Int.gcd t b/\m'=y.toNat,fun _ _ h=>h,?_⟩;exists(by show(0:Int)<y;omega),?_;refine⟨_,_,rfl,?_⟩;have l1:=zv x (by omega:y≠0);have l2:=zr x hp;exact⟨(x%y).toNat,nofun,rfl,y,x%y,rfl,hy,l1,(FN hx hp).trans hg,rfl⟩
def xy:aA ["text","most"] ["text","most"] (ao pF):=dC
def nu:aA ["text","most","number"] ["text","most"] (ao pB):=dC
def j9:aA ["fifths_text","steps_text","fifths","steps"] ["fifths_text","steps_text"] (ao rC):=dC
def eJ:aA ["text","parts","top","bottom"] ["text"] (ao pG):=dC
def ig:aA ["text","length"] ["text"] (ao iZ):=dC
def ik:aA ["text","parts","length","pitch"] ["text"] (ao uS):=dC
def gZ:di P w base 1 T.dy gW:=by
 nomatch T.dy,xy
 obtain⟨t,most,rfl,hl,kk⟩:=h;have sl:=yB;have hz:t.length<=sizeLine:=nofun
 have el:t.cps.toList.length=t.length:=Array.length_toList;unfold rn at kk;rw[el] at kk;refine⟨_,(ag (aF (PW.pt (eC (ptr eY (eQ f9 T.bu (ah (pv 0) af)) ae) (dq (ptr fi (eQ f9 T.bu (ah (pv 0) af)) (pv 1)))))
  (aj (aq aQ))
  ax)
  (ag (aF (fw (cU (eQ (oM rfl) T.IV (ah (pK (ts:=["sign"]) (ys:=[]) (js:=[]) (te:=(fA (fun x y H Q=>∃i j,x=.str i/\y=.str j/\Q (.bl (!(Builtin.Str.occurrences j i 0 j.length 1).isEmpty)) H) (aY 0) (tC (.str "0123456789")))) (LV (pv 0)) (gO 0) bj (dR B5 (pv 0) (bQ (v:=.str "0123456789") (by rfl) T.Ks ⟨_,rfl⟩) (by with_unfolding_all rfl))) af))))
  (aj (aq aQ))
  ax)
  (ag (aF (PW.pt (cT (ptr cY (xW Dw (pv 0) ae (fun _ _=>rfl)) aJ) (cH (ptr fi (eQ f9 T.bu (ah (pv 0) af)) ae))))
  (aj (aq aQ))
  ax)
  (aj (aq (mV DU T.Q2 (ah (pv 0) af))))))),?_⟩
 exists hz,?_;left;refine vX (fun c1=>?_) (fun c1=>?_)
 ·left
  have z:=kk H (au.refl H);rw[if_pos (yd c1)] at z;exact z
 have c1':¬(t.length:Int)<1:=fun z=>c1 (ze z);rw[if_neg c1'] at kk;exists hz,?_;left;refine vX (fun c2=>?_) (fun c2=>?_)
 ·left
  have z:=kk H (au.refl H);rw[if_pos (yd c2)] at z;exact z
 have c2':¬most<(t.length:Int):=fun z=>c2 (ze z);rw[if_neg c2'] at kk;left;refine oo t.length (fun i=>(t.cps.toList.take i).map fun c=>V.bl (decide (c∈v8))) (fun i σ H'=>H'=H/\∃v,σ=[v]) (fun i hi=>by rw[za,zP];omega) nofun rfl ⟨rfl,none,rfl⟩ (fun i σ H' hi _=>hi) (fun σ H' _=>zk _) ?_ ?_
 ·rintro i x σ H1 H2 hi ⟨rfl,v,rfl⟩ ⟨rfl,c,hc,rfl⟩
  left;refine GK.push hi ?_ ⟨rfl,_,rfl⟩;rw[PySem.StrLaws.found_one];rw[<-Array.getElem?_toList] at hc;show List.map _ (List.take (i+1) t.cps.toList)=_;rw[List.take_add_one,hc,zj];rfl
 ·rintro σ H1 ⟨rfl,_⟩
  rw[<-el,zM];intros D H2 sm h2;refine⟨D,t.cps.toList.map (fun c=>decide (c∈v8)),rfl,aI.of (by rw[h2,zA];rfl),?_⟩;have ea:(t.cps.toList.map (fun c=>decide (c∈v8))).all id=t.cps.toList.all (fun c=>decide (c∈v8)):=by rw[List.all_map];rfl
  rw[ea]
  by_cases ha:t.cps.toList.all (fun c=>decide (c∈v8))=true
  ·rw[ha]
   rw[if_pos ha] at kk;left;have h1:0<t.cps.size:=by show 0<t.length;omega
   obtain⟨c,hc⟩:∃c,t.cps[0]?=some c:=⟨t.cps[0]'h1,Array.getElem?_eq_getElem h1⟩
   have hc':t.cps.toList[0]?=some c:=by rw[Array.getElem?_toList];exact hc
   rw[hc'] at kk;refine⟨_,0,c,rfl,rfl,hz,bz (j:=0) hc',?_⟩;left;have rd:PySem.intText? t=some ((NumText.digitsVal t.cps.toList:Nat):Int):=PySem.intText_digits (Ie ha) (fun z=>by rw[z] at el;simp at el;omega) nofun
   by_cases e0:c=48
   ·subst e0
    refine b9 ∅ ?_;exists hz,?_;left;refine vX (fun c3=>?_) (fun c3=>?_)
    ·left
     have c3':1<t.length:=by have:=yd c3;omega
     have z:=kk H2 sm;rw[if_pos ⟨rfl,c3'⟩] at z;exact z
    ·have c3':¬1<t.length:=fun z=>c3 (ze nofun)
     have z:=kk H2 sm;rw[if_neg (fun q=>c3' q.2)] at z;change⟨_,_,rfl,rd,nofun,z⟩
   ·refine cm (zd fun z=>e0 ?_) ?_
    ·have z':=V.str.inj z
     exact(List.cons.inj (show [c]=[48] from congrArg (fun y:Str=>y.cps.toList) z')).1
    have z:=kk H2 sm;rw[if_neg (fun q=>e0 (yj q.1))] at z;change⟨_,_,rfl,rd,nofun,z⟩
  ·rw[if_neg ha] at kk
   rw[Bool.eq_false_iff.mpr ha];change kk H2 sm
def mE:di P w base 2 T.fE l8:=by
 have G_read_number:di P w base 1 T.dy gW:=gZ T
 nomatch T.fE,nu
 obtain⟨t,most,rfl,hl,kk⟩:=h;have sl:=yB;unfold rs at kk;refine⟨_,(ag (aF (fw (cU (ck yF PySem.F.slot_str_startswith PySem.F.type_str_startswith Bk (pv 0) (ah aJ af))))
  (aj (aq (bM G_read_number hr T.dy (ah (pv 0) (ah (pv 1) af)))))
  ax)
  (ag (bS 2 nu.nd (bM G_read_number hr T.dy (ah (dz G4 (pv 0) (eD ae) eE) (ah (pv 1) af))))
  (ag (aF (PW.pt (eC (bq (cy (pv 2))) (dq (ptr cY (pv 2) ae))))
  (aj (aq aQ))
  ax)
  (aj (aq (rT kZ (pv 2))))))),?_⟩
 left
 by_cases hn:t.cps.toList[0]?=some 45
 ·rw[if_pos hn] at kk
  have q:=(PySem.StrLaws.subAt_one t 45 0).mpr hn;have es:(decide (0+("-": Str).length<=t.length)&&Builtin.Str.subAt t "-" 0)=true:=by
   rw[zN];exact⟨ze q.1,q.2⟩
  rw[es];exists by omega,?_
  have h1:1<=t.length:=by have:=q.1;have e:(⟨#[45]⟩:Str).length=1:=rfl;omega
  have e1:(PySem.Txt.slice t (some 1) none).cps.toList=t.cps.toList.drop 1:=pW t h1;exists _,most,rfl,zL (PySem.Txt.slice_le t _ _) hl,fun H1 s1=>?_;rw[e1];have z:=kk H1 s1;cases hr':rn most (t.cps.toList.drop 1) with
  | none=>
   rw[hr'] at z;change z
  | some n=>
   rw[hr'] at z;left
   by_cases e0:n=0
   ·subst e0
    refine b9 ∅ ?_;change z
   ·refine cm (zd fun y=>e0 (V.int.inj y)) ?_
    left;have z':Q (ov (if n=0 then none else some (-n))) H1:=z;rw[if_neg e0] at z';exact z'
 ·rw[if_neg hn] at kk
  have es:(decide (0+("-": Str).length<=t.length)&&Builtin.Str.subAt t "-" 0)=false:=by
   rw[Bool.eq_false_iff];intro z;rw[zN] at z;exact hn ((PySem.StrLaws.subAt_one t 45 0).mp ⟨yd z.1,z.2⟩)
  rw[es];change⟨t,most,rfl,hl,fun H1 s1=>kk H1 s1⟩
def nX:di P w base 3 T.jd m9:=by
 have G_read_signed:di P w base 2 T.fE l8:=mE T
 nomatch T.jd,j9
 obtain⟨a,b,rfl,la,lb,kk⟩:=h;unfold rp at kk;refine⟨_,(ag (bS 2 j9.nd (bM G_read_signed hr T.fE (ah (pv 0) (ah (bQ (v:=.int 2) (by rfl) T.mP ⟨_,rfl⟩) af))))
  (ag (bS 3 j9.nd (bM G_read_signed hr T.fE (ah (pv 1) (ah (bQ (v:=.int 2) (by rfl) T.mP ⟨_,rfl⟩) af))))
  (ag (aF (PW.pt (eC (bq (cy (pv 2))) (dq (bq (cy (pv 3))))))
  (aj (aq aQ))
  ax)
  (ag (aF (ptr jQ (ar aR (ar ke (pv 3) (ar dU (bQ (v:=.int 7) (by rfl) T.BB ⟨_,rfl⟩) (pv 2))) (bQ (v:=.int 12) (by rfl) T.As ⟨_,rfl⟩)) ae)
  (aj (aq aQ))
  ax)
  (aj (aq (bF (ah (pv 2) (ah (pv 3) af))))))))),?_⟩
 exists a,2,rfl,la,fun H1 s1=>?_;exists b,2,rfl,lb,fun H2 s2=>?_;have S2:=s1.trans s2;cases ea:rs 2 a with
 | none=>
  rw[ea] at kk;change kk .bC H2 S2 .bC
 | some f=>
  cases eb:rs 2 b with
  | none=>
   rw[ea,eb] at kk;change kk .bC H2 S2 .bC
  | some g=>
   rw[ea,eb] at kk;left
   by_cases hm:(g-7*f)%12=0
   ·refine OH (congrArg V.int hm) ?_
    left;refine⟨dn,laid fun p H3 s3 hp=>kk (.ref p) H3 (S2.trans s3) ?_⟩;show Iu H3 (.ref p) (if(g-7*f)%12=0 then some (f,g) else none);rw[if_pos hm];exact .ref hp
   ·refine b9 (by simp[hm]) ?_
    left;refine kk .bC H2 S2 ?_;show Iu H2 .bC (if(g-7*f)%12=0 then some (f,g) else none);rw[if_neg hm];exact .bC
def mD:dE P w K mg base (GI P w) 3 T.kz T.ko ["text"] (l6 T.jt):=by
 have G_read_number:di P w base 1 T.dy gW:=gZ T;have G_made_length:di P w base 2 T.eL fO:=jf T;refine T.eK.F.Tq eJ (fun vs H Q E h=>?_) (fun cdv A' outer s H vs Q E hr h=>?_)
 ·obtain⟨_,rfl,_⟩:=h;rfl
 ·obtain⟨t,rfl,lt,k1,k2⟩:=h
  have sl:=yB;have pl:=PyProof.Rows.split_pos t "/";have sh:∀z∈Txt.split t "/",z.length<=600:=fun z hz=>zL (PyProof.Rows.part_short hz) lt;unfold M5 at k1 k2;refine⟨_,(ag (bS 1 eJ.nd (ck yF yJ yI jh (pv 0) (ah aJ af)))
   (ag (aF (ptr fi (eQ aB T.bu (ah (pv 1) af)) ae)
   (aj (Fc T.lO T.lG PySem.F.excBase_ValueError rfl (ah aJ af)))
   ax)
   (ag (bS 2 eJ.nd (bM G_read_number hr T.dy (ah (fL (pv 1) ae) (ah (bQ (v:=.int 4) (by rfl) T.kW ⟨_,rfl⟩) af))))
   (ag (bS 3 eJ.nd ae)
   (ag (aF (ptr cY (eQ aB T.bu (ah (pv 1) af)) ae)
   (aj (bS 3 eJ.nd (bM G_read_number hr T.dy (ah (fL (pv 1) ae) (ah (bQ (v:=.int 4) (by rfl) T.kW ⟨_,rfl⟩) af)))))
   ax)
   (ag (aF (PW.pt (eC (bq (cy (pv 2))) (eC (bq (cy (pv 3))) (dq (ptr cY (pv 3) ae)))))
   (aj (Fc T.lO T.lG PySem.F.excBase_ValueError rfl (ah aJ af)))
   ax)
   (aj (aq (bM G_made_length hr T.eL (ah (pv 2) (ah (pv 3) af))))))))))),?_⟩
  exists by omega,?_
  generalize Txt.split t "/"= ws at k1 k2 pl sh;intros p1 H1 s1 h1;exists p1,_,rfl,.inl (aI.of h1),?_
  match ws,pl,sh,k1,k2,h1 with
  | [a],_,sh,k1,k2,h1=>
   exists p1,_,0,_,rfl,rfl,aI.of h1,rfl,?_;exists a,4,rfl,sh a (by simp),fun H2 s2=>?_;replace h1:=s2 _ _ h1;exists p1,_,rfl,.inl (aI.of h1),?_;cases ea:rn 4 a.cps.toList with
   | none=>
    simp only[ea] at k1 k2;left;refine⟨by show 1<=sizeLine;decide,k2 trivial H2 (s1.trans s2)⟩
   | some n=>
    simp only[ea] at k1 k2;obtain⟨n0,n1,_⟩:=LB ea ∅;change⟨_,_,rfl,n0,∅,(dj (n:=1) ∅ ∅).mono ∅,fun p3 H3 s3 h3=>k1 _ rfl p3 H3 ((s1.trans s2).trans s3) h3⟩
  | [a,b],_,sh,k1,k2,h1=>
   exists p1,_,0,_,rfl,rfl,aI.of h1,rfl,?_;exists a,4,rfl,sh a (by simp),fun H2 s2=>?_;replace h1:=s2 _ _ h1;exists p1,_,rfl,.inl (aI.of h1),?_;exists p1,_,1,_,rfl,rfl,aI.of h1,rfl,?_;exists b,4,rfl,sh b (by simp),fun H3 s3=>?_;have S3:=(s1.trans s2).trans s3;cases ea:rn 4 a.cps.toList with
   | none=>
    simp only[ea] at k1 k2;change⟨by show 1<=sizeLine;decide,k2 trivial H3 S3⟩
   | some n=>
    cases eb:rn 4 b.cps.toList with
    | none=>
     simp only[ea,eb] at k1 k2;change⟨by show 1<=sizeLine;decide,k2 trivial H3 S3⟩
    | some m=>
     simp only[ea,eb] at k1 k2;obtain⟨n0,n1,_⟩:=LB ea ∅;obtain⟨m0,m1,_⟩:=LB eb ∅;left
     by_cases e0:m=0
     ·subst e0
      refine b9 ∅ ?_;change⟨by show 1<=sizeLine;decide,k2 rfl H3 S3⟩
     ·rw[if_neg e0] at k1
      refine cm (zd fun y=>e0 (V.int.inj y)) ?_;change⟨_,_,rfl,n0,nofun,(dj (n:=14) nofun nofun).mono ∅,fun p4 H4 s4 h4=>k1 _ rfl p4 H4 (S3.trans s4) h4⟩
  | a::b::c::r,_,sh,k1,k2,h1=>
   left;refine b9 (ze (show(2:Int)<(((a::b::c::r).map V.str).length:Int) by rw[za];simp only[zt];omega)) ?_;change⟨by show 1<=sizeLine;decide,k2 rfl H1 s1⟩
def gP:di P w base 4 T.dN gN:=by
 have G_read_length:dE P w K mg base (GI P w) 3 T.kz T.ko ["text"] (l6 T.jt):=mD T
 nomatch T.dN,ig
 obtain⟨t,rfl,lt,kk⟩:=h;unfold lr at kk;refine⟨_,(ag (NF G_read_length (hr.mono ∅) rfl T.eK.g T.eK.F.kp T.eK.b (ah (pv 0) af) rfl ig.nd (i:=1) rfl (Or.inl rfl) rfl T.lO T.lG rfl rfl rfl (fun e=>(aj (aq aQ))))
  (ag (aF (ptr cY (bN (pv 1) ae) ae)
  (aj (aq aQ))
  ax)
  (aj (aq (pv 1))))),?_⟩
 left;refine⟨lt,fun x ex p1 H1 s1 h1=>?_,fun en H1 s1=>⟨rfl,?_⟩⟩
 ·simp only[ex] at kk
  left
  by_cases e0:x.1=0
  ·refine b9 (by rw[e0];rfl) ?_
   left;rw[if_pos e0] at kk;exact kk .bC H1 s1 .bC
  ·refine cm (zd fun y=>e0 (V.int.inj y)) ?_
   left;rw[if_neg e0] at kk;exact kk (.ref p1) H1 s1 (.ref h1)
 ·simp only[en] at kk
  change kk .bC H1 s1 .bC
def NV {ws:List Str} (h:1<=ws.length):Cw (ws.map V.str) (-1)=some (.str (ws.getLast?.getD "")):=by
 have ne:ws≠[]:=fun z=>by rw[z] at h;simp at h
 have e:=List.dropLast_concat_getLast ne;have e2:ws.getLast?.getD ""= ws.getLast ne:=by rw[List.getLast?_eq_some_getLast ne];rfl
 rw[e2];have e3:ws.map V.str=ws.dropLast.map V.str++[V.str (ws.getLast ne)]:=by rw[<-List.map_singleton (f:=V.str),<-zj,e]
 rw[e3];exact Az _ _
def Mn {ws:List Str} (h:1<=ws.length):ws.getLast?.getD "" ∈ws:=by
 have ne:ws≠[]:=fun z=>by rw[z] at h;simp at h
 rw[List.getLast?_eq_some_getLast ne];exact List.getLast_mem ne
def Bc:di P w base 5 T.tM oZ:=by
 have G_read_item_length:di P w base 4 T.dN gN:=gP T;have G_read_pitch:di P w base 3 T.jd m9:=nX T
 nomatch T.tM,ik
 obtain⟨t,rfl,lt,kk⟩:=h;have sl:=yB;have pl:=PyProof.Rows.split_pos t ":";have sh:∀z∈Txt.split t ":",z.length<=600:=fun z hz=>zL (PyProof.Rows.part_short hz) lt;unfold ir at kk;refine⟨_,(ag (bS 1 ik.nd (ck yF yJ yI jh (pv 0) (ah aJ af)))
  (ag (bS 2 ik.nd (bM G_read_item_length hr T.dN (ah (fL (pv 1) (rT kZ ae)) af)))
  (ag (aF (bq (cy (pv 2)))
  (aj (aq aQ))
  ax)
  (ag (aF (PW.pt (cT (ptr cY (eQ aB T.bu (ah (pv 1) af)) ae) (cH (ptr cY (fL (pv 1) ae) aJ))))
  (aj (aq (bF (ah aQ (ah (pv 2) af)))))
  ax)
  (ag (aF (ptr jQ (eQ aB T.bu (ah (pv 1) af)) ae)
  (aj (aq aQ))
  ax)
  (ag (bS 3 ik.nd (bM G_read_pitch hr T.jd (ah (fL (pv 1) ae) (ah (fL (pv 1) ae) af))))
  (ag (aF (bq (cy (pv 3)))
  (aj (aq aQ))
  ax)
  (aj (aq (bF (ah (pv 3) (ah (pv 2) af)))))))))))),?_⟩
 exists by omega,?_
 generalize Txt.split t ":"= ws at kk pl sh;intros p1 H1 s1 h1;exists p1,_,-1,_,rfl,rfl,aI.of h1,NV pl,?_;refine⟨_,rfl,sh _ (Mn pl),fun v H2 s2 hv=>?_⟩;have h2:=s2 _ _ h1;have S2:=s1.trans s2;generalize lr (ws.getLast?.getD "")=o at kk hv;cases hv with
 | bC=>
  change kk .bC H2 S2 rfl
 | @ref p2 x hx=>
  have kk':∀v H',au H H'->Oj H' v (if ws.dropLast=[("r": Str)] then some (none,x) else match ws.dropLast with
   | [a,b]=>(match rp a b with | some q=>some (some q,x) | none=>none)
   | _=>none)->Q v H':=kk
  clear kk;exists p1,_,rfl,.inl (aI.of h2),?_
  match ws,pl,sh,kk',h2 with
  | [a],_,sh,kk,h2=>
   exists p1,_,rfl,.inl (aI.of h2),?_;change kk .bC H2 S2 rfl
  | [a,b],_,sh,kk,h2=>
   exists p1,_,0,_,rfl,rfl,aI.of h2,rfl,?_;left
   by_cases ea:a ="r"
   ·subst ea
    refine b9 ∅ ?_;change⟨dn,laid fun p3 H3 s3 h3=>kk (.ref p3) H3 (S2.trans s3) ⟨p3,_,p2,rfl,h3,s3 _ _ hx,.bC⟩⟩
   ·refine cm (zd fun z=>ea (V.str.inj z)) ?_
    exists p1,_,rfl,.inl (aI.of h2),?_;left;refine kk .bC H2 S2 ?_;rw[if_neg (by intro z;exact ea (List.cons.inj z).1)];rfl
  | [a,b,c],_,sh,kk,h2=>
   exists p1,_,rfl,.inl (aI.of h2),?_;exists p1,_,0,_,rfl,rfl,aI.of h2,rfl,?_;exists p1,_,1,_,rfl,rfl,aI.of h2,rfl,?_;refine⟨a,b,rfl,sh a (by simp),sh b (by simp),fun v H3 s3 hv=>?_⟩;have kk2:∀v H',au H H'->Oj H' v (match rp a b with | some q=>some (some q,x) | none=>none)->Q v H':=fun v H' s' z=>kk v H' s' (by
    rw[if_neg (by intro y;simp at y)];exact z)
   generalize rp a b=o at kk2 hv;cases hv with
   | bC=>
    change kk2 .bC H3 (S2.trans s3) rfl
   | @ref p4 q hq=>
    change⟨dn,laid fun p5 H5 s5 h5=>kk2 (.ref p5) H5 ((S2.trans s3).trans s5) ⟨p5,_,p2,rfl,h5,s5 _ _ (s3 _ _ hx),.ref (s5 _ _ hq)⟩⟩
  | a::b::c::d::r,_,sh,kk,h2=>
   exists p1,_,rfl,.inl (aI.of h2),?_;left;refine kk .bC H2 S2 ?_;rw[if_neg (by intro y;simp at y)];rfl
def EX:aA ["row"] ["row"] (ao xA):=dC
def Fm:di P w base 1 T.words_of EN:=by
 nomatch T.words_of,EX
 obtain⟨t,rfl,hl,kk⟩:=h;have sl:=yB;have ple:=PyProof.Rows.split_le t " ";refine⟨_,(aj (aq (pK (ts:=["word"]) (ys:=[]) (js:=[]) (g:=(b7 0)) (tc:=(mZ (fA Sv (aY 0) (tC (.str ""))))) (te:=(aY 0)) (bo (ck yF yJ yI jh (pv 0) (ah aJ af))) (gO 0) (iC (ptr jQ (pv 0) aJ)) (pv 0)))),?_⟩;ac_rfl;exists by omega,?_
 unfold words at kk;generalize Txt.split t " "= ws at kk ple;intros p1 H1 s1 h1;refine⟨p1,rfl,⟨_,aI.of h1⟩,?_⟩;refine oo ws.length (fun i=>((ws.take i).filter fun w=>decide (w≠("": Str))).map V.str) (fun i σ H'=>H'=H1/\∃v,σ=[v]) ?_ nofun rfl ⟨rfl,none,rfl⟩ ?_ ?_ ?_ ?_
 ·intro i hi
  rw[za];exact zL (List.length_filter_le _ _) (by rw[zP];omega)
 ·rintro i σ H' hi ⟨rfl,_⟩
  exact FL (aI.of h1) (by rw[za];exact hi)
 ·rintro σ H' ⟨rfl,_⟩
  exact⟨_,aI.of h1,by rw[za];exact zk _⟩
 ·rintro i x σ H' H2 hi ⟨rfl,v,rfl⟩ ⟨rfl,hy⟩
  have hx:=hy _ (aI.of h1);rw[zJ,zb hi] at hx;cases hx;left
  by_cases e:ws[i] =""
  ·refine cm (by rw[e];rfl) ?_
   refine GK.skip hi ?_ ⟨rfl,_,rfl⟩;show List.map V.str (List.filter _ (List.take (i+1) ws))=List.map V.str (List.filter _ (List.take i ws));rw[List.take_add_one,zb hi,e,List.filter_append];simp
  ·refine b9 (by rw[zd fun z=>e (V.str.inj z)];rfl) ?_
   left;refine GK.push hi ?_ ⟨rfl,_,rfl⟩;show List.map V.str (List.filter _ (List.take (i+1) ws))=List.map V.str (List.filter _ (List.take i ws))++[V.str ws[i]];rw[List.take_add_one,zb hi,List.filter_append,zj];have:List.filter (fun w=>decide (w≠("": Str))) (Option.toList (some ws[i]))=[ws[i]]:=by simp[e]
   rw[this];rfl
 ·rintro σ H' ⟨rfl,_⟩
  rw[zM];exact laid fun p H' sm h=>kk p H' (s1.trans sm) h
def A6:aA ["word"] ["word"] (ao rB):=dC
def cb:di P w base 2 T.cO j7:=by
 nomatch T.cO,A6
 obtain⟨t,rfl,hl,kk⟩:=h;refine⟨_,(aj (aq (bM (gZ T) hr T.dy (ah (pv 0) (ah (bQ (v:=.int (3)) (by rfl) T.kU ⟨_,rfl⟩) af))))),?_⟩;ac_rfl;change⟨_,_,rfl,hl,kk⟩
def CZ:aA ["word"] ["word"] (ao uQ):=dC
def dW:di P w base 1 T.eT lj:=by
 nomatch T.eT,CZ
 obtain⟨t,rfl,hl,kk⟩:=h;have sl:=yB;have hz:t.length<=sizeLine:=nofun
 have el:t.cps.toList.length=t.length:=Array.length_toList;unfold cE at kk;refine⟨_,(ag (aF (PW.pt (eC (ptr eY (eQ f9 T.bu (ah (pv 0) af)) ae) (dq (ptr fi (eQ f9 T.bu (ah (pv 0) af)) (bQ (v:=.int (12)) (by rfl) T.Aw ⟨_,rfl⟩)))))
  (aj (aq aQ))
  ax)
  (ag (aF (fw (cU (eQ (oM rfl) T.IV (ah (pK (ts:=["sign"]) (ys:=[]) (js:=[]) (te:=(fA (fun x y H Q=>∃i j,x=.str i/\y=.str j/\Q (.bl (!(Builtin.Str.occurrences j i 0 j.length 1).isEmpty)) H) (aY 0) (tC (.str "abcdefghijklmnopqrstuvwxyz0123456789")))) (LV (pv 0)) (gO 0) bj (dR B5 (pv 0) (bQ (v:=.str "abcdefghijklmnopqrstuvwxyz0123456789") (by rfl) T.DV ⟨_,rfl⟩) (by with_unfolding_all rfl))) af))))
  (aj (aq aQ))
  ax)
  (aj (aq (pv 0))))),?_⟩
 ac_rfl;exists hz,?_;left;refine vX (fun c1=>?_) (fun c1=>?_)
 ·left
  have z:=kk H (au.refl H);rw[if_pos (yd c1)] at z;exact z
 have c1':¬(t.length:Int)<1:=fun z=>c1 (ze z);rw[if_neg c1'] at kk;exists hz,?_;left;refine vX (fun c2=>?_) (fun c2=>?_)
 ·left
  have z:=kk H (au.refl H);rw[if_pos (yd c2)] at z;exact z
 have c2':¬(12:Int)<(t.length:Int):=fun z=>c2 (ze z);rw[if_neg c2'] at kk;left;refine oo t.length (fun i=>(t.cps.toList.take i).map fun c=>V.bl (decide (c∈sgn))) (fun i σ H'=>H'=H/\∃v,σ=[v]) (fun i hi=>by rw[za,zP];omega) nofun rfl ⟨rfl,none,rfl⟩ (fun i σ H' hi _=>hi) (fun σ H' _=>zk _) ?_ ?_
 ·rintro i x σ H1 H2 hi ⟨rfl,v,rfl⟩ ⟨rfl,c,hc,rfl⟩
  left;refine GK.push hi ?_ ⟨rfl,_,rfl⟩;rw[PySem.StrLaws.found_one];rw[<-Array.getElem?_toList] at hc;show List.map _ (List.take (i+1) t.cps.toList)=_;rw[List.take_add_one,hc,zj];rfl
 ·rintro σ H1 ⟨rfl,_⟩
  rw[<-el,zM];intros D H2 s2 h2;refine⟨D,t.cps.toList.map (fun c=>decide (c∈sgn)),rfl,aI.of (by rw[h2,zA];rfl),?_⟩;have ea:(t.cps.toList.map (fun c=>decide (c∈sgn))).all id=t.cps.toList.all (fun c=>decide (c∈sgn)):=by rw[List.all_map];rfl
  rw[ea]
  by_cases ha:t.cps.toList.all (fun c=>decide (c∈sgn))=true
  ·rw[ha]
   rw[if_pos ha] at kk;change kk _ s2
  ·rw[if_neg ha] at kk
   rw[show t.cps.toList.all (fun c=>decide (c∈sgn))=false from by simpa using ha];change kk _ s2
def nr:aA ["word","lowest","highest","number"] ["word","lowest","highest"] (ao pz):=dC
def nY:di P w base 3 T.jK xn:=by
 nomatch T.jK,nr
 obtain⟨t,lo,hi,rfl,hl,kk⟩:=h;unfold mC at kk;refine⟨_,(ag (bS 3 nr.nd (bM (cb T) hr T.cO (ah (pv 0) af)))
  (ag (aF (PW.pt (eC (bq (cy (pv 3))) (eC (ptr eY (pv 3) (pv 1)) (dq (ptr fi (pv 3) (pv 2))))))
  (aj (aq aQ))
  ax)
  (aj (aq (pv 3))))),?_⟩
 ac_rfl;exists hl,fun H1 s1=>?_;cases e:fC t with
 | none=>
  rw[e] at kk;change kk _ s1
 | some n=>
  rw[e] at kk;left
  by_cases c1:n<lo
  ·refine b9 (ze c1) ?_
   simp only[if_pos c1] at kk;change kk _ s1
  ·refine cm (zd c1) ?_
   simp only[if_neg c1] at kk;left
   by_cases c2:hi<n
   ·refine b9 (ze c2) ?_
    simp only[if_pos c2] at kk;change kk _ s1
   ·refine cm (zd c2) ?_
    simp only[if_neg c2] at kk;change kk _ s1
def CY:aA ["word"] ["word"] (ao uP):=dC
def Dg:di P w base 4 T.tL CO:=by
 nomatch T.tL,CY
 obtain⟨t,rfl,hl,kk⟩:=h;refine⟨_,(aj (ND (mD T) (hr.mono ∅) rfl T.eK.g T.eK.F.kp T.eK.b (ah (pv 0) af) rfl rfl T.lO T.lG rfl rfl rfl (fun e=>(aj (aq aQ))))),?_⟩;ac_rfl;left;refine⟨hl,fun x e p H1 s1 h1=>?_,fun e H1 s1=>⟨rfl,?_⟩⟩
 ·rw[e] at kk
  exact kk _ H1 s1 (.ref h1)
 ·rw[e] at kk
  change kk _ H1 s1 .bC
def q9:aA ["fifths_word","steps_word","turn"] ["fifths_word","steps_word"] (ao uO):=dC
def De:di P w base 4 T.tK CN:=by
 nomatch T.tK,q9
 obtain⟨a,b,rfl,la,lb,kk⟩:=h;unfold xM at kk;refine⟨_,(ag (bS 2 q9.nd (bM (nX T) hr T.jd (ah (pv 0) (ah (pv 1) af))))
  (ag (aF (PW.pt (eC (bq (cy (pv 2))) (dq (ptr fi (eQ Gp T.OF (ah (bN (pv 2) ae) af)) (bQ (v:=.int (12)) (by rfl) T.Ax ⟨_,rfl⟩)))))
  (aj (aq aQ))
  ax)
  (aj (aq (pv 2))))),?_⟩
 ac_rfl;exists _,_,rfl,la,lb,fun v H1 s1 h1=>?_;cases e:rp a b with
 | none=>
  rw[e] at kk h1;cases h1;change kk _ _ s1 .bC
 | some q=>
  rw[e] at kk h1;cases h1 with
  | ref h1=>
   left;refine vX (fun c=>?_) (fun c=>?_)
   ·simp only[if_pos (yd c)] at kk
    change kk _ _ s1 .bC
   ·simp only[if_neg (fun z=>c (ze z))] at kk
    change kk _ _ s1 (.ref h1)
def uK:aA ["word","key"] ["word"] (ao xB):=dC
def Fp:di P w base 3 T.xR ES:=by
 nomatch T.xR,uK
 obtain⟨t,rfl,hl,kk⟩:=h;unfold E5 at kk;refine⟨_,(ag (bS 1 uK.nd (bM (mE T) hr T.fE (ah (pv 0) (ah (bQ (v:=.int (3)) (by rfl) T.kU ⟨_,rfl⟩) af))))
  (ag (aF (PW.pt (eC (bq (cy (pv 1))) (dq (ptr fi (eQ Gp T.OF (ah (pv 1) af)) (bQ (v:=.int (7)) (by rfl) T.BA ⟨_,rfl⟩)))))
  (aj (aq aQ))
  ax)
  (aj (aq (pv 1))))),?_⟩
 ac_rfl;exists _,_,rfl,hl,fun H1 s1=>?_;cases e:rs 3 t with
 | none=>
  rw[e] at kk;change kk _ s1
 | some n=>
  rw[e] at kk;left;refine vX (fun c=>?_) (fun c=>?_)
  ·simp only[if_pos (yd c)] at kk
   change kk _ s1
  ·simp only[if_neg (fun z=>c (ze z))] at kk
   change kk _ s1
def uN:aA ["values"] ["values"] (ao xG):=dC
def d7:di P w base 1 T.dk (A1 K):=by
 nomatch T.dk,uN
 obtain⟨a,us,rfl,ha,hl,kk⟩:=h;have sl:=yB;refine⟨_,(ag (aF (cU (eQ (gz rfl) T.yQ (ah (pK (ts:=["value"]) (ys:=[]) (js:=[]) (te:=(Lf (aY 0))) (bo (pv 0)) (gO 0) bj (tP (cy (pv 0)))) af)))
  (aj (aq aQ))
  ax)
  (aj (aq (pv 0)))),?_⟩
 ac_rfl;exists⟨_,ha⟩,?_;refine fH (enc:=fun v=>v) (ws:=us) (fun v=>.bl (gi v)) (fun σ=>∃v,σ=[v]) nofun (by rw[List.map_id'];exact ha) ⟨none,rfl⟩ ?_ ?_
 ·rintro v σ H1 R hv s1 ⟨_,rfl⟩ r
  change r _ _ _ (au.refl _) (by unfold Is;rfl) ⟨_,rfl⟩
 ·intro D vs H1 s1 hD il
  have e:us.map (fun v=>Dt.bl (gi v))=(us.map gi).map Dt.bl:=by rw[zA];rfl
  rw[e] at il;rw[kg il] at hD;refine⟨D,us.map gi,rfl,aI.of hD,?_⟩;have e2:(us.map gi).any id=us.any gi:=by rw[List.any_map];rfl
  rw[e2];cases q:us.any gi with
  | true=>
   rw[q] at kk;change kk _ s1
  | false=>
   rw[q] at kk;change kk _ s1
def fj:di P w base 1 T.dk A0:=by
 nomatch T.dk,uN
 obtain⟨a,us,rfl,ha,hl,kk⟩:=h;have sl:=yB;refine⟨_,(ag (aF (cU (eQ (gz rfl) T.yQ (ah (pK (ts:=["value"]) (ys:=[]) (js:=[]) (te:=(Lf (aY 0))) (kc (pv 0)) (gO 0) bj (tP (cy (pv 0)))) af)))
  (aj (aq aQ))
  ax)
  (aj (aq (pv 0)))),?_⟩
 ac_rfl;exists⟨_,du.of ha⟩,?_;refine gx (enc:=fun v=>v) (ws:=us) (fun v=>.bl (gi v)) (fun σ=>∃v,σ=[v]) nofun (by rw[List.map_id'];exact ha) ⟨none,rfl⟩ ?_ ?_
 ·rintro v σ H1 R hv s1 ⟨_,rfl⟩ r
  change r _ _ _ (au.refl _) (by unfold Is;rfl) ⟨_,rfl⟩
 ·intro D vs H1 s1 hD il
  have e:us.map (fun v=>Dt.bl (gi v))=(us.map gi).map Dt.bl:=by rw[zA];rfl
  rw[e] at il;rw[kg il] at hD;refine⟨D,us.map gi,rfl,aI.of hD,?_⟩;have e2:(us.map gi).any id=us.any gi:=by rw[List.any_map];rfl
  rw[e2];cases q:us.any gi with
  | true=>
   rw[q] at kk;change kk _ s1
  | false=>
   rw[q] at kk;change kk _ s1
theorem yZ (n:Int):∀ns:List Int,Et (.int n) (ns.map V.int)=decide (n∈ns)
 | []=>rfl
 | m::ns=>by
  have ih:=yZ n ns;unfold Et at ih ⊢;rw[zh,List.any_cons,ih]
  by_cases e:n=m
  ·subst e
   simp[HI]
  ·simp[HI,e,Ne.symm (a:=m) (b:=n) (fun z=>e z.symm)]
   try omega
def Hg {t a b:Str} (h:Txt.split t "/"= [a,b]):i9 t=(match mC a 1 32,fC b with | some m,some n=>if n∈BC then some (m,n) else none | _,_=>none):=by unfold i9;rw[h];try rfl
def JP {t:Str} (h:(Txt.split t "/").length≠2):i9 t=none:=by
 unfold i9;split
 ·rename_i e;rw[e] at h;exact absurd rfl h
 ·rfl
def LG {t a b:Str} (h:Txt.split t ":"= [a,b]):xN t=(match fC a,ou ((Txt.split b ",").map fC) with | some n,some ps=>some (n,ps) | _,_=>none):=by unfold xN;rw[h];try rfl
def Nv {t:Str} (h:(Txt.split t ":").length≠2):xN t=none:=by
 unfold xN;split
 ·rename_i e;rw[e] at h;exact absurd rfl h
 ·rfl
def gD:aA ["word","parts","top","bottom"] ["word"] (ao rE):=dC
def Bg:di P w base 4 T.qp (AZ K):=by
 nomatch T.qp,gD
 obtain⟨t,rfl,hl,kk⟩:=h;have sl:=yB;have sh:∀z∈Txt.split t "/",z.length<=600:=fun z hz=>zL (PyProof.Rows.part_short hz) hl;refine⟨_,(ag (bS 1 gD.nd (ck yF yJ yI jh (pv 0) (ah aJ af)))
  (ag (aF (ptr jQ (eQ aB T.bu (ah (pv 1) af)) ae)
  (aj (aq aQ))
  ax)
  (ag (bS 2 gD.nd (bM (nY T) hr T.jK (ah (fL (pv 1) ae) (ah ae (ah (bQ (v:=.int (32)) (by rfl) T.wt ⟨_,rfl⟩) af)))))
  (ag (bS 3 gD.nd (bM (cb T) hr T.cO (ah (fL (pv 1) ae) af)))
  (ag (aF (PW.pt (eC (bq (cy (pv 2))) (dq (iA dS (pv 3) (bQ (v:=.ref T.d5) (by rfl) T.wq rfl) (by with_unfolding_all rfl)))))
  (aj (aq aQ))
  ax)
  (aj (aq (bF (ah (pv 2) (ah (pv 3) af)))))))))),?_⟩
 ac_rfl;exists by omega,?_
 generalize ew:Txt.split t "/"= ws at sh;intros p1 H1 s1 h1;exists p1,_,rfl,.inl (aI.of h1),?_;rw[za];left
 by_cases hw:ws.length=2
 ·obtain⟨a,b,rfl⟩:∃a b,ws=[a,b]:=by
   match ws,hw with
   | [a,b],_=>exact⟨a,b,rfl⟩
  refine cm rfl ?_;exists p1,_,0,_,rfl,rfl,aI.of h1,rfl,?_;refine⟨_,_,_,rfl,sh a (by simp),fun H2 s2=>?_⟩;exists p1,_,1,_,rfl,rfl,aI.of (s2 _ _ h1),rfl,?_;refine⟨_,rfl,sh b (by simp),fun H3 s3=>?_⟩;have s03:=(s1.trans s2).trans s3;rw[Hg ew] at kk;cases ea:mC a 1 32 with
  | none=>
   rw[ea] at kk;change kk _ _ s03 .bC
  | some m=>
   rw[ea] at kk;left;cases eb:fC b with
   | none=>
    rw[eb] at kk;refine⟨T.d5,_,rfl,.inr (T.mJ H3),rfl,rfl,?_⟩;change kk _ _ s03 .bC
   | some n=>
    rw[eb] at kk;refine⟨T.d5,BC.map V.int,rfl,.inr (T.mJ H3),rfl,rfl,?_⟩;show∃k,V.bl (!Et (.int n) (BC.map V.int))=.bl k/\_;rw[yZ]
    by_cases c:n∈BC
    ·rw[ze c]
     simp only[if_pos c] at kk;left;refine⟨dn,laid fun p4 H4 s4 h4=>kk _ _ (s03.trans s4) (.ref h4)⟩
    ·rw[zd c]
     simp only[if_neg c] at kk;change kk _ _ s03 .bC
 ·refine b9 (by rw[zd fun z=>hw (by have:=V.int.inj z;omega)];rfl) ?_
  left;rw[JP (by rw[ew];exact hw)] at kk;exact kk _ _ s1 .bC
def jE:aA ["word","parts","bar","passes"] ["word"] (ao xC):=dC
def Fq:di P w base 4 T.xS uH:=by
 nomatch T.xS,jE
 obtain⟨t,rfl,hl,kk⟩:=h;have sl:=yB;have sh:∀z∈Txt.split t ":",z.length<=600:=fun z hz=>zL (PyProof.Rows.part_short hz) hl;refine⟨_,(ag (bS 1 jE.nd (ck yF yJ yI jh (pv 0) (ah aJ af)))
  (ag (aF (ptr jQ (eQ aB T.bu (ah (pv 1) af)) ae)
  (aj (aq aQ))
  ax)
  (ag (bS 2 jE.nd (bM (cb T) hr T.cO (ah (fL (pv 1) ae) af)))
  (ag (bS 3 jE.nd (bM (d7 T) hr T.dk (ah (pK (ts:=["part"]) (ys:=[]) (js:=[]) (te:=(gL j7 [] E0 (bK (aY 0) eI))) (bo (ck yF yJ yI jh (fL (pv 1) ae) (ah aJ af))) (gO 0) bj (bM (cb T) hr T.cO (ah (pv 0) af))) af)))
  (ag (aF (PW.pt (eC (bq (cy (pv 2))) (dq (bq (cy (pv 3))))))
  (aj (aq aQ))
  ax)
  (aj (aq (bF (ah (pv 2) (ah (mV cI T.iD (ah (pv 3) af)) af)))))))))),?_⟩
 ac_rfl;exists by omega,?_
 generalize ew:Txt.split t ":"= ws at sh;intros p1 H1 s1 h1;exists p1,_,rfl,.inl (aI.of h1),?_;rw[za];left
 by_cases hw:ws.length=2
 ·obtain⟨a,b,rfl⟩:∃a b,ws=[a,b]:=by
   match ws,hw with
   | [a,b],_=>exact⟨a,b,rfl⟩
  refine cm rfl ?_;exists p1,_,0,_,rfl,rfl,aI.of h1,rfl,?_;refine⟨_,rfl,sh a (by simp),fun H2 s2=>?_⟩;exists p1,_,1,_,rfl,rfl,aI.of (s2 _ _ h1),rfl,?_;left;have lb:=sh b (by simp);have bl:=PyProof.Rows.split_le b ",";have bsh:∀z∈Txt.split b ",",z.length<=600:=fun z hz=>zL (PyProof.Rows.part_short hz) lb;refine⟨nofun,?_⟩;rw[LG ew] at kk;generalize Txt.split b ","= bs at kk bl bsh;intros p3 H3 s3 h3;exists⟨_,aI.of h3⟩,?_;refine fH (enc:=V.str) (ws:=bs) (fun z=>dO .int (fC z)) (fun σ=>∃v,σ=[v]) nofun (aI.of h3) ⟨none,rfl⟩ ?_ ?_
  ·rintro z σ H4 R hz s4 ⟨_,rfl⟩ r
   change⟨bsh z hz,fun H5 s5=>r _ _ _ s5 (yX _) ⟨_,rfl⟩⟩
  ·intro D vs H4 s4 hD il
   have s04:=((s1.trans s2).trans s3).trans s4;refine⟨D,vs,rfl,aI.of hD,by rw[il.len,za];omega,fun H5 s5=>?_⟩;have e1:bs.map (fun z=>dO Dt.int (fC z))=(bs.map fC).map (dO Dt.int):=by rw[zA];rfl
   rw[e1] at il;rw[jW il];cases q:((bs.map fC).map (dO Dt.int)).any Dt.gi with
   | true=>
    rw[iV My q] at kk;have kn:=kk .bC H5 (s04.trans s5) (by cases fC a <;> (unfold dO Is;rfl));cases ea:fC a with
    | none=>change kn
    | some n=>change kn
   | false=>
    obtain⟨xs,e2,e3,e4⟩:=iU q;rw[e2] at kk;rw[e3] at il;have ev:=fu il;subst ev;cases ea:fC a with
    | none=>
     rw[ea] at kk;change kk .bC H5 (s04.trans s5) (by unfold dO Is;rfl)
    | some n=>
     rw[ea] at kk;left;refine⟨D,_,rfl,.inl ⟨aI.of (s5 _ _ hD),?_⟩⟩;intros p6 H6 s6 h6;left;refine⟨dn,laid fun p7 H7 s7 h7=>kk _ _ (((s04.trans s5).trans s6).trans s7) ?_⟩;show Is H7 (.tup [.int n,.tup (xs.map .int)]) _;unfold Is;refine⟨p7,_,rfl,h7,?_⟩;unfold ay;refine⟨_,_,rfl,by unfold Is;rfl,?_⟩;unfold ay;refine⟨_,_,rfl,?_,by unfold ay;rfl⟩;unfold Is;exact⟨p6,_,rfl,s7 _ _ h6,sC⟩
 ·refine b9 (by rw[zd fun z=>hw (by have:=V.int.inj z;omega)];rfl) ?_
  left;rw[Nv (by rw[ew];exact hw)] at kk;exact kk _ _ s1 (by unfold dO Is;rfl)
def L5 {α:Type} {f:Str->Option α} {ws:List Str} (h:ws.length≠1):one f ws=none:=by
 match ws,h with
 | [],_=>rfl
 | [_],h=>exact absurd rfl h
 | _::_::_,_=>rfl
def xx:aA ["words"] ["words"] (ao pE):=dC
def yO:di P w base 2 T.jN (fN K (pO .str (one cE))):=by
 nomatch T.jN,xx
 obtain⟨p,ws,rfl,hp,hl,sh,kk⟩:=h;refine⟨_,(ag (aF (ptr jQ (eQ aB T.bu (ah (pv 0) af)) ae)
  (aj (aq aQ))
  ax)
  (aj (aq (bM (dW T) hr T.eT (ah (fL (pv 0) ae) af))))),?_⟩
 ac_rfl;exists p,_,rfl,.inl hp,?_;rw[za];left
 by_cases hw:ws.length=1
 ·obtain⟨a,rfl⟩:∃a,ws=[a]:=by
   match ws,hw with
   | [a],_=>exact⟨a,rfl⟩
  refine cm rfl ?_;exists p,_,0,_,rfl,rfl,hp,rfl,?_;exact⟨_,rfl,sh a (by simp),fun H1 s1=>kk _ _ s1 (Cc _)⟩
 ·refine b9 (by rw[zd fun z=>hw (by have:=V.int.inj z;omega)];rfl) ?_
  left;refine kk _ _ (au.refl _) ?_;unfold pO;rw[L5 hw];exact dX
def xw:aA ["words"] ["words"] (ao pA):=dC
def yM:di P w base 5 T.jL (fN K (pO dL (one lr))):=by
 nomatch T.jL,xw
 obtain⟨p,ws,rfl,hp,hl,sh,kk⟩:=h;refine⟨_,(ag (aF (ptr jQ (eQ aB T.bu (ah (pv 0) af)) ae)
  (aj (aq aQ))
  ax)
  (aj (aq (bM (gP T) hr T.dN (ah (fL (pv 0) ae) af))))),?_⟩
 ac_rfl;exists p,_,rfl,.inl hp,?_;rw[za];left
 by_cases hw:ws.length=1
 ·obtain⟨a,rfl⟩:∃a,ws=[a]:=by
   match ws,hw with
   | [a],_=>exact⟨a,rfl⟩
  refine cm rfl ?_;exists p,_,0,_,rfl,rfl,hp,rfl,?_;exact⟨_,rfl,sh a (by simp),fun v H1 s1 h1=>kk _ _ s1 (yW h1)⟩
 ·refine b9 (by rw[zd fun z=>hw (by have:=V.int.inj z;omega)];rfl) ?_
  left;refine kk _ _ (au.refl _) ?_;unfold pO;rw[L5 hw];exact dX
def DR {α:Type} (d:α->Dt) (o:Option α):dO d o=(o.map d).getD .bC:=by cases o <;> rfl
def Ec {H:Hp} {ds:List Dt} {us:List V} {a:Addr} {d:Option Dt} (ha:H a=some (.tup us)) (il:ay H ds us) (h1:ds.any Dt.gi=true->d=none) (h2:ds.any Dt.gi=false->d=some (.tup ds)):Is H (d.getD .bC) (if us.any gi=true then .bC else .ref a):=by
 rw[jW il];cases q:ds.any Dt.gi with
 | true=>rw[h1 q];exact dX
 | false=>rw[h2 q];exact cz ha il
def pX:aA ["words"] ["words"] (ao jF):=dC
def qA:di P w base 5 T.fo (fN K (pO eA lF)):=by
 nomatch T.fo,pX
 obtain⟨p,ws,rfl,hp,hl,sh,kk⟩:=h;refine⟨_,(ag (aF (ptr jQ (eQ aB T.bu (ah (pv 0) af)) ae)
  (aj (aq aQ))
  ax)
  (aj (aq (bM (fj T) hr T.dk (ah (bF (ah (bM (dW T) hr T.eT (ah (fL (pv 0) ae) af)) (ah (bM (De T) hr T.tK (ah (fL (pv 0) ae) (ah (fL (pv 0) ae) af))) (ah (bM (Dg T) hr T.tL (ah (fL (pv 0) ae) af)) af)))) af))))),?_⟩
 ac_rfl;exists p,_,rfl,.inl hp,?_;rw[za];left
 by_cases hw:ws.length=4
 ·obtain⟨a,b,c,d,rfl⟩:∃a b c d,ws=[a,b,c,d]:=by
   match ws,hw with
   | [a,b,c,d],_=>exact⟨a,b,c,d,rfl⟩
  refine cm rfl ?_;exists p,_,0,_,rfl,rfl,hp,rfl,?_;refine⟨_,rfl,sh a (by simp),fun H1 s1=>?_⟩;exists p,_,1,_,rfl,rfl,s1.seq hp,rfl,?_;exists p,_,2,_,rfl,rfl,s1.seq hp,rfl,?_;refine⟨_,_,rfl,sh b (by simp),sh c (by simp),fun v2 H2 s2 h2=>?_⟩;exists p,_,3,_,rfl,rfl,(s1.trans s2).seq hp,rfl,?_;refine⟨_,rfl,sh d (by simp),fun v3 H3 s3 h3=>?_⟩;exists nh,?_;intros p4 H4 s4 h4;have s24:=s3.trans s4;refine⟨p4,_,rfl,h4,(by show 3<=1000000;decide),fun H5 s5=>kk _ _ (((s1.trans s2).trans s24).trans s5) ?_⟩;unfold pO;rw[DR];refine Ec (s5 _ _ h4) (aM (Cc _) (aM (yW (h2.mono (s24.trans s5))) (oh (yW (h3.mono (s4.trans s5)))))) ?_ ?_
  ·simp only[lF]
   cases cE a <;> cases xM b c <;> cases M5 d <;> first | (intro _;rfl) | (intro q;exact absurd q (by simp[dO,dL,Dt.gi]))
  ·simp only[lF]
   cases cE a <;> cases xM b c <;> cases M5 d <;> first | (intro _;rfl) | (intro q;exact absurd q (by simp[dO,dL,Dt.gi]))
 ·refine b9 (by rw[zd fun z=>hw (by have:=V.int.inj z;omega)];rfl) ?_
  left;refine kk _ _ (au.refl _) ?_;have e:lF ws=none:=by
   unfold lF;split
   ·exact absurd rfl hw
   ·rfl
  unfold pO;rw[e];exact dX
def C0:aA ["words"] ["words"] (ao uT):=dC
def Di:di P w base 3 T.oA (fN K (pO vm rQ)):=by
 nomatch T.oA,C0
 obtain⟨p,ws,rfl,hp,hl,sh,kk⟩:=h;refine⟨_,(ag (aF (ptr jQ (eQ aB T.bu (ah (pv 0) af)) ae)
  (aj (aq aQ))
  ax)
  (aj (aq (bM (fj T) hr T.dk (ah (bF (ah (bM (dW T) hr T.eT (ah (fL (pv 0) ae) af)) (ah (bM (cb T) hr T.cO (ah (fL (pv 0) ae) af)) (ah (bM (dW T) hr T.eT (ah (fL (pv 0) ae) af)) af)))) af))))),?_⟩
 ac_rfl;exists p,_,rfl,.inl hp,?_;rw[za];left
 by_cases hw:ws.length=3
 ·obtain⟨a,b,c,rfl⟩:∃a b c,ws=[a,b,c]:=by
   match ws,hw with
   | [a,b,c],_=>exact⟨a,b,c,rfl⟩
  refine cm rfl ?_;exists p,_,0,_,rfl,rfl,hp,rfl,?_;refine⟨_,rfl,sh a (by simp),fun H1 s1=>?_⟩;exists p,_,1,_,rfl,rfl,s1.seq hp,rfl,?_;refine⟨_,rfl,sh b (by simp),fun H2 s2=>?_⟩;exists p,_,2,_,rfl,rfl,(s1.trans s2).seq hp,rfl,?_;refine⟨_,rfl,sh c (by simp),fun H3 s3=>?_⟩;exists nh,?_;intros p4 H4 s4 h4;refine⟨p4,_,rfl,h4,(by show 3<=1000000;decide),fun H5 s5=>kk _ _ (((s1.trans s2).trans (s3.trans s4)).trans s5) ?_⟩;unfold pO;rw[DR];refine Ec (s5 _ _ h4) (aM (Cc _) (aM (yX _) (oh (Cc _)))) ?_ ?_
  ·simp only[rQ]
   cases cE a <;> cases fC b <;> cases cE c <;> first | (intro _;rfl) | (intro q;exact absurd q (by simp[dO,dL,Dt.gi]))
  ·simp only[rQ]
   cases cE a <;> cases fC b <;> cases cE c <;> first | (intro _;rfl) | (intro q;exact absurd q (by simp[dO,dL,Dt.gi]))
 ·refine b9 (by rw[zd fun z=>hw (by have:=V.int.inj z;omega)];rfl) ?_
  left;refine kk _ _ (au.refl _) ?_;have e:rQ ws=none:=by
   unfold rQ;split
   ·exact absurd rfl hw
   ·rfl
  unfold pO;rw[e];exact dX
def oa {H:Hp} {ws:List Str} {vs:List V} {α:Type} {d:α->Dt} {f:Str->Option α} (il:ay H (ws.map fun z=>dO d (f z)) vs):ay H ((ws.map f).map (dO d)) vs:=by
 have e:ws.map (fun z=>dO d (f z))=(ws.map f).map (dO d):=by rw[zA];rfl
 rw[<-e];exact il
def o9:aA ["words","names"] ["words"] (ao rm):=dC
def Bd:di P w base 2 T.lD (fN K (pO gw qt)):=by
 nomatch T.lD,o9
 obtain⟨p,ws,rfl,hp,hl,sh,kk⟩:=h;have sl:=yB;refine⟨_,(ag (aF (ptr eY (eQ aB T.bu (ah (pv 0) af)) ae)
  (aj (aq aQ))
  ax)
  (ag (bS 1 o9.nd (bM (d7 T) hr T.dk (ah (pK (ts:=["word"]) (ys:=[]) (js:=[]) (te:=(gL lj [] E0 (bK (aY 0) eI))) (bo (pv 0)) (gO 0) bj (bM (dW T) hr T.eT (ah (pv 0) af))) af)))
  (ag (aF (bq (cy (pv 1)))
  (aj (aq aQ))
  ax)
  (aj (aq (bF (ah (fL (pv 1) ae) (ah (mV cI T.iD (ah (dz gC (pv 1) (eD ae) eE) af)) af)))))))),?_⟩
 ac_rfl;exists p,_,rfl,.inl hp,?_;rw[za];left;refine vX (fun c=>?_) (fun c=>?_)
 ·left
  refine kk _ _ (au.refl _) ?_;have hw:=yd c;have e:qt ws=none:=by
   unfold qt;split
   ·simp at hw;omega
   ·rfl
  unfold pO;rw[e];exact dX
 ·have hw:¬(ws.length:Int)<2:=fun z=>c (ze z)
  obtain⟨a,b,r,rfl⟩:∃a b r,ws=a::b::r:=by
   match ws,hw with
   | [],h=>exact absurd (by simp) h
   | [_],h=>exact absurd (by simp) h
   | a::b::r,_=>exact⟨a,b,r,rfl⟩
  exists⟨_,hp⟩,?_;refine fH (enc:=V.str) (ws:=a::b::r) (fun z=>dO .str (cE z)) (fun σ=>∃v,σ=[v]) nofun hp ⟨none,rfl⟩ ?_ ?_
  ·rintro z σ H4 R hz s4 ⟨_,rfl⟩ r
   change⟨sh z hz,fun H5 s5=>r _ _ _ s5 (Cc _) ⟨_,rfl⟩⟩
  ·intro D vs H4 s4 hD il
   refine⟨D,vs,rfl,aI.of hD,by rw[il.len,za];omega,fun H5 s5=>?_⟩;have il:=oa il;rw[jW il];cases q:(((a::b::r).map cE).map (dO Dt.str)).any Dt.gi with
   | true=>
    left;refine kk _ _ (s4.trans s5) ?_;unfold pO;rw[qq,iV FV q];exact dX
   | false=>
    obtain⟨xs,e2,e3,e4⟩:=iU q;rw[e3] at il;have ev:=dI il;subst ev;obtain⟨n,ps,rfl⟩:∃n ps,xs=n::ps:=by
     match xs,e4 with
     | n::ps,_=>exact⟨n,ps,rfl⟩
    have hD5:=s5 _ _ hD;exists D,_,0,_,rfl,rfl,aI.of hD5,bz (j:=0) rfl,?_;exists D,_,rfl,aI.of hD5,?_;rw[show ku (List.map V.str (n::ps)) (some 1) none=ps.map V.str from(fG _ 1).trans rfl];intros p6 H6 s6 h6;left;refine⟨p6,_,rfl,.inl ⟨aI.of h6,?_⟩⟩;intros p7 H7 s7 h7;left;refine⟨dn,laid fun p8 H8 s8 h8=>kk _ _ (((((s4.trans s5).trans s6).trans s7)).trans s8) ?_⟩;unfold pO;rw[qq,e2];exact cz h8 (aM eM (oh (cz (s8 _ _ h7) CH)))
def uL:aA ["words","marks"] ["words"] (ao xD):=dC
def Fs:di P w base 5 T.rO (fN K (pO kT Bb)):=by
 nomatch T.rO,uL
 obtain⟨p,ws,rfl,hp,hl,sh,kk⟩:=h;have sl:=yB;refine⟨_,(ag (aF (ptr eY (eQ aB T.bu (ah (pv 0) af)) ae)
  (aj (aq aQ))
  ax)
  (ag (bS 1 uL.nd (bM (d7 T) hr T.dk (ah (pK (ts:=["word"]) (ys:=[]) (js:=[]) (te:=(gL lj [] E0 (bK (aY 0) eI))) (bo (dz gC (pv 0) (eD ae) eE)) (gO 0) bj (bM (dW T) hr T.eT (ah (pv 0) af))) af)))
  (ag (aF (bq (cy (pv 1)))
  (aj (aq aQ))
  ax)
  (aj (aq (bM (fj T) hr T.dk (ah (bF (ah (bM (Bg T) hr T.qp (ah (fL (pv 0) ae) af)) (ah (bM (Fp T) hr T.xR (ah (fL (pv 0) ae) af)) (ah (mV cI T.iD (ah (pv 1) af)) af)))) af))))))),?_⟩
 ac_rfl;exists p,_,rfl,.inl hp,?_;rw[za];left;refine vX (fun c=>?_) (fun c=>?_)
 ·left
  refine kk _ _ (au.refl _) ?_;have hw:=yd c;have e:Bb ws=none:=by
   unfold Bb;split
   ·simp at hw;omega
   ·rfl
  unfold pO;rw[e];exact dX
 ·have hw:¬(ws.length:Int)<2:=fun z=>c (ze z)
  obtain⟨a,b,r,rfl⟩:∃a b r,ws=a::b::r:=by
   match ws,hw with
   | [],h=>exact absurd (by simp) h
   | [_],h=>exact absurd (by simp) h
   | a::b::r,_=>exact⟨a,b,r,rfl⟩
  rw[zt,zt] at hl;exists p,_,rfl,hp,?_;rw[show ku (List.map V.str (a::b::r)) (some 2) none=r.map V.str from(fG _ 2).trans rfl];intros p1 H1 s1 h1;exists⟨_,aI.of h1⟩,?_;refine fH (enc:=V.str) (ws:=r) (fun z=>dO .str (cE z)) (fun σ=>∃v,σ=[v]) nofun (aI.of h1) ⟨none,rfl⟩ ?_ ?_
  ·rintro z σ H4 R hz s4 ⟨_,rfl⟩ r
   change⟨sh z (by simp[hz]),fun H5 s5=>r _ _ _ s5 (Cc _) ⟨_,rfl⟩⟩
  ·intro D vs H4 s4 hD il
   refine⟨D,vs,rfl,aI.of hD,by rw[il.len,za];omega,fun H5 s5=>?_⟩;have il:=oa il;rw[jW il];have s05:=(s1.trans s4).trans s5;cases q:((r.map cE).map (dO Dt.str)).any Dt.gi with
   | true=>
    left;refine kk _ _ s05 ?_;unfold pO;simp only[Bb];rw[iV FV q];exact dX
   | false=>
    obtain⟨xs,e2,e3,e4⟩:=iU q;rw[e3] at il;have ev:=dI il;subst ev;have hD5:=s5 _ _ hD;exists p,_,0,_,rfl,rfl,s05.seq hp,bz (j:=0) rfl,?_;refine⟨_,rfl,sh a (by simp),fun v6 H6 s6 h6=>?_⟩;exists p,_,1,_,rfl,rfl,(s05.trans s6).seq hp,bz (j:=1) rfl,?_;refine⟨_,rfl,sh b (by simp),fun H7 s7=>?_⟩;left;refine⟨D,_,rfl,.inl ⟨aI.of (s7 _ _ (s6 _ _ hD5)),?_⟩⟩;intros p8 H8 s8 h8;exists nh,?_;intros p9 H9 s9 h9;refine⟨p9,_,rfl,h9,(by show 3<=1000000;decide),fun Hx sx=>kk _ _ (((((s05.trans s6).trans s7).trans s8).trans s9).trans sx) ?_⟩;unfold pO;rw[DR];refine Ec (ds:=[dO dL (i9 a),dO .int (E5 b),mO xs]) (sx _ _ h9) (aM (yW (h6.mono (((s7.trans s8).trans s9).trans sx))) (aM (yX _) (oh (cz (sx _ _ (s9 _ _ h8)) CH)))) ?_ ?_
    ·simp only[Bb]
     rw[e2];cases i9 a <;> cases E5 b <;> first | (intro _;rfl) | (intro q;exact absurd q (by simp[dO,dL,Dt.gi,mO]))
    ·simp only[Bb]
     rw[e2];cases i9 a <;> cases E5 b <;> first | (intro _;rfl) | (intro q;exact absurd q (by simp[dO,dL,Dt.gi,mO]))
theorem wM {H:Hp} {α:Type} {d:α->Dt}:∀{xs:List α} {vs:List V},ay H (xs.map d) vs->∃ps:List (α×V),ps.map (·.1)=xs/\ps.map (·.2)=vs/\∀q∈ps,Is H (d q.1) q.2
 | [],_,h=>by unfold ay at h;exact⟨[],rfl,h.symm,fun _ z=>nomatch z⟩
 | x::xs,_,h=>by
  rw[zh] at h;unfold ay at h;obtain⟨u,r,rfl,h1,h2⟩:=h;obtain⟨ps,e1,e2,hh⟩:=wM h2;refine⟨(x,u)::ps,by simp[e1],by simp[e2],fun q m=>?_⟩;rcases zC.mp m with e | m
  ·subst e;exact h1
  ·exact hh q m
def item_at {H:Hp} {it:Item} {v:V} (h:Is H (eO it) v):∃a pv lv,v=.ref a/\H a=some (.tup [pv,lv])/\Is H (dO dL it.1) pv/\Is H (dL it.2) lv:=by
 unfold eO Is at h;obtain⟨a,vs,rfl,ha,hl⟩:=h;unfold ay at hl;obtain⟨pv,r,rfl,h1,hl⟩:=hl;unfold ay at hl;obtain⟨lv,r,rfl,h2,hl⟩:=hl;unfold ay at hl;subst hl;exact⟨a,pv,lv,rfl,ha,h1,h2⟩
def Q8 {H:Hp} {α:Type} {d:α->Dt} (f:Iy d) {o:Option α} {v:V} (h:Is H (dO d o) v):gi v=o.isNone:=by
 rw[Mp h];cases o with
 | none=>rfl
 | some x=>exact f x
def pf:aA ["words","items"] ["words"] (ao rD):=dC
def Bf:di P w base 6 T.lE (fN K Rp):=by
 nomatch T.lE,pf
 obtain⟨p,ws,rfl,hp,hl,sh,kk⟩:=h;have sl:=yB;refine⟨_,(ag (aF (ptr eY (eQ aB T.bu (ah (pv 0) af)) ae)
  (aj (aq aQ))
  ax)
  (ag (bS 1 pf.nd (bM (d7 T) hr T.dk (ah (pK (ts:=["word"]) (ys:=[]) (js:=[]) (te:=(gL oZ [] E0 (bK (aY 0) eI))) (bo (dz gC (pv 0) (eD ae) eE)) (gO 0) bj (bM (Bc T) hr T.tM (ah (pv 0) af))) af)))
  (ag (aF (PW.pt (eC (bq (cy (pv 1))) (dq (cU (eQ (oM rfl) T.IV (ah (pK (ts:=["item"]) (ys:=[]) (js:=[]) (te:=(Lf (fA (qx K) (aY 0) (tC (.int (0)))))) (bo (pv 1)) (gO 0) bj (tP (cy (bN (pv 0) ae)))) af))))))
  (aj (aq aQ))
  ax)
  (aj (aq (bM (fj T) hr T.dk (ah (bF (ah (bM (cb T) hr T.cO (ah (fL (pv 0) ae) af)) (ah (bM (dW T) hr T.eT (ah (fL (pv 0) ae) af)) (ah (pv 1) af)))) af))))))),?_⟩
 ac_rfl;exists p,_,rfl,.inl hp,?_;rw[za];left;refine vX (fun c=>?_) (fun c=>?_)
 ·left
  refine kk _ _ (au.refl _) ?_;have hw:=yd c;have e:kb ws=none:=by
   unfold kb;split
   ·simp at hw;omega
   ·rfl
  unfold Rp;rw[e]
 ·have hw:¬(ws.length:Int)<3:=fun z=>c (ze z)
  obtain⟨a,b,i,r,rfl⟩:∃a b i r,ws=a::b::i::r:=by
   match ws,hw with
   | [],h=>exact absurd (by simp) h
   | [_],h=>exact absurd (by simp) h
   | [_,_],h=>exact absurd (by simp) h
   | a::b::i::r,_=>exact⟨a,b,i,r,rfl⟩
  have en:kb (a::b::i::r)=(match ou ((i::r).map ir) with | some l=>if l.all (fun it=>it.1.isNone)=true then none else(match fC a,cE b with | some x,some y=>some (x,y,l) | _,_=>none) | none=>none):=rfl;unfold Rp at kk;rw[en] at kk;have sh':∀z∈i::r,z.length<=600:=fun z hz=>sh z (by simp at hz ⊢;rcases hz with h | h <;> simp[h]);have hl':(i::r).length<=1000000:=by simp at hl ⊢;omega
  exists p,_,rfl,hp,?_;rw[show ku (List.map V.str (a::b::i::r)) (some 2) none=(i::r).map V.str from(fG _ 2).trans rfl];clear en;generalize i::r=its at kk sh' hl';intros p1 H1 s1 h1;exists⟨_,aI.of h1⟩,?_;refine dY (enc:=V.str) (ws:=its) (fun z=>dO eO (ir z)) (fun σ=>∃v,σ=[v]) nofun (aI.of h1) ⟨none,rfl⟩ ?_ ?_
  ·rintro z σ H4 R hz s4 ⟨_,rfl⟩ r
   change⟨sh' z hz,fun v H5 s5 h5=>r _ _ _ s5 (Q7 h5) ⟨_,rfl⟩⟩
  ·intro D vs H4 s4 nD hD il
   refine⟨D,vs,rfl,aI.of hD,by rw[il.len,za];omega,fun H5 s5=>?_⟩;have il:=oa il;rw[jW il];have s05:=(s1.trans s4).trans s5;cases q:((its.map ir).map (dO eO)).any Dt.gi with
   | true=>
    left;refine kk _ _ s05 ?_;rw[iV Kb q]
   | false=>
    obtain⟨xs,e2,e3,e4⟩:=iU q;rw[e3] at il;rw[e2] at kk;have il5:=il.mono s5;have hD5:=s5 _ _ hD;obtain⟨ps,f1,f2,f3⟩:=wM il5;have pl:ps.length<=1000000:=by
     have:ps.length=xs.length:=by rw[<-f1,za]
     rw[this,e4,za];exact hl'
    exists⟨_,aI.of hD5⟩,?_;refine fH (enc:=fun q:Item×V=>q.2) (ws:=ps) (fun q=>.bl q.1.1.isNone) (fun σ=>∃v,σ=[v]) nofun (by rw[f2];exact aI.of hD5) ⟨none,rfl⟩ ?_ ?_
    ·rintro z σ H6 R hz s6 ⟨_,rfl⟩ r
     obtain⟨a6,pv,lv,ev,h6,h7,h8⟩:=item_at (f3 z hz);rw[ev];have h66:=s6 _ _ h6;left;refine r _ _ _ (au.refl _) ?_ ⟨_,rfl⟩;rw[<-Q8 P9 h7];unfold Is;rfl
    ·intro D2 vs2 H6 s6 hD2 il2
     have e5:ps.map (fun q=>Dt.bl q.1.1.isNone)=(ps.map fun q=>q.1.1.isNone).map Dt.bl:=by rw[zA];rfl
     rw[e5] at il2;rw[kg il2] at hD2;refine⟨D2,_,rfl,aI.of hD2,?_⟩;have e6:(ps.map fun q=>q.1.1.isNone).all id=xs.all fun it=>it.1.isNone:=by rw[<-f1,List.all_map,List.all_map];rfl
     rw[e6];cases qa:xs.all fun it=>it.1.isNone with
     | true=>
      dsimp only at kk;rw[qa] at kk;change kk _ _ (s05.trans s6) rfl
     | false=>
      dsimp only at kk;rw[qa] at kk;have s06:=s05.trans s6;exists p,_,0,_,rfl,rfl,s06.seq hp,bz (j:=0) rfl,?_;refine⟨_,rfl,sh a (by simp),fun H7 s7=>?_⟩;exists p,_,1,_,rfl,rfl,(s06.trans s7).seq hp,bz (j:=1) rfl,?_;refine⟨_,rfl,sh b (by simp),fun H8 s8=>?_⟩;exists nh,?_;intros p9 H9 s9 h9;have s59:=((s6.trans s7).trans s8).trans s9;refine⟨p9,_,rfl,h9,(by show 3<=1000000;decide),fun Hx sx=>kk _ _ ((s05.trans s59).trans sx) ?_⟩;have s5x:=s59.trans sx;have h9x:=sx _ _ h9;clear h9
      revert h9x
      cases fC a <;> cases cE b <;> intro h9x <;> first | rfl | exact⟨p9,D,vs,rfl,h9x,s5x _ _ hD5,il5.mono s5x,s1.back nD⟩
def iX:aA ["words","times","ends"] ["words"] (ao pC):=dC
def yN:di P w base 5 T.jM (fN K (pO jB jO)):=by
 nomatch T.jM,iX
 obtain⟨p,ws,rfl,hp,hl,sh,kk⟩:=h;have sl:=yB;refine⟨_,(ag (aF (ptr eY (eQ aB T.bu (ah (pv 0) af)) ae)
  (aj (aq aQ))
  ax)
  (ag (bS 1 iX.nd (bM (nY T) hr T.jK (ah (fL (pv 0) ae) (ah (bQ (v:=.int (2)) (by rfl) T.Ay ⟨_,rfl⟩) (ah (bQ (v:=.int (9)) (by rfl) T.DW ⟨_,rfl⟩) af)))))
  (ag (bS 2 iX.nd (bM (d7 T) hr T.dk (ah (pK (ts:=["word"]) (ys:=[]) (js:=[]) (te:=(gL uH [] E0 (bK (aY 0) eI))) (bo (dz gC (pv 0) (eD ae) eE)) (gO 0) bj (bM (Fq T) hr T.xS (ah (pv 0) af))) af)))
  (ag (aF (bq (cy (pv 2)))
  (aj (aq aQ))
  ax)
  (aj (aq (bM (fj T) hr T.dk (ah (bF (ah (bM (cb T) hr T.cO (ah (fL (pv 0) ae) af)) (ah (bM (cb T) hr T.cO (ah (fL (pv 0) ae) af)) (ah (pv 1) (ah (mV cI T.iD (ah (pv 2) af)) af))))) af)))))))),?_⟩
 ac_rfl;exists p,_,rfl,.inl hp,?_;rw[za];left;refine vX (fun c=>?_) (fun c=>?_)
 ·left
  refine kk _ _ (au.refl _) ?_;have hw:=yd c;have e:jO ws=none:=by
   unfold jO;split
   ·simp at hw;omega
   ·rfl
  unfold pO;rw[e];exact dX
 ·have hw:¬(ws.length:Int)<3:=fun z=>c (ze z)
  obtain⟨a,b,c',r,rfl⟩:∃a b i r,ws=a::b::i::r:=by
   match ws,hw with
   | [],h=>exact absurd (by simp) h
   | [_],h=>exact absurd (by simp) h
   | [_,_],h=>exact absurd (by simp) h
   | a::b::i::r,_=>exact⟨a,b,i,r,rfl⟩
  have en:jO (a::b::c'::r)=(match ou (r.map xN) with | some l=>(match fC a,fC b,mC c' 2 9 with | some x,some y,some z=>some ⟨x,y,z,l⟩ | _,_,_=>none) | none=>none):=rfl;unfold pO at kk;rw[en] at kk;have sh':∀z∈r,z.length<=600:=fun z hz=>sh z (by simp[hz]);have hl':r.length<=1000000:=by simp at hl ⊢;omega
  exists p,_,2,_,rfl,rfl,hp,bz (j:=2) rfl,?_;refine⟨_,_,_,rfl,sh c' (by simp),fun H0 s0=>?_⟩;exists p,_,rfl,s0.seq hp,?_;rw[show ku (List.map V.str (a::b::c'::r)) (some 3) none=r.map V.str from(fG _ 3).trans rfl];intros p1 H1 s1 h1;exists⟨_,aI.of h1⟩,?_;refine fH (enc:=V.str) (ws:=r) (fun z=>dO mT (xN z)) (fun σ=>∃v,σ=[v]) nofun (aI.of h1) ⟨none,rfl⟩ ?_ ?_
  ·rintro z σ H4 R hz s4 ⟨_,rfl⟩ r
   change⟨sh' z hz,fun v H5 s5 h5=>r _ _ _ s5 h5 ⟨_,rfl⟩⟩
  ·intro D vs H4 s4 hD il
   refine⟨D,vs,rfl,aI.of hD,by rw[il.len,za];omega,fun H5 s5=>?_⟩;have il:=oa il;rw[jW il];have s05:=((s0.trans s1).trans s4).trans s5;cases q:((r.map xN).map (dO mT)).any Dt.gi with
   | true=>
    left;refine kk _ _ s05 ?_;rw[iV Mz q];exact dX
   | false=>
    obtain⟨xs,e2,e3,e4⟩:=iU q;rw[e3] at il;rw[e2] at kk;have il5:=il.mono s5;have hD5:=s5 _ _ hD;exists p,_,0,_,rfl,rfl,s05.seq hp,bz (j:=0) rfl,?_;refine⟨_,rfl,sh a (by simp),fun H6 s6=>?_⟩;exists p,_,1,_,rfl,rfl,(s05.trans s6).seq hp,bz (j:=1) rfl,?_;refine⟨_,rfl,sh b (by simp),fun H7 s7=>?_⟩;left;refine⟨D,_,rfl,.inl ⟨aI.of (s7 _ _ (s6 _ _ hD5)),?_⟩⟩;intros p8 H8 s8 h8;exists by show 4<=sizeLine;omega,?_
    intros p9 H9 s9 h9;have s59:=((s6.trans s7).trans s8).trans s9;refine⟨p9,_,rfl,h9,(by show 4<=1000000;decide),fun Hx sx=>kk _ _ ((s05.trans s59).trans sx) ?_⟩;rw[DR];refine Ec (ds:=[dO .int (fC a),dO .int (fC b),dO .int (mC c' 2 9),.tup (xs.map mT)]) (sx _ _ h9) (aM (yX _) (aM (yX _) (aM (yX _) (oh (cz (sx _ _ (s9 _ _ h8)) (il5.mono (s59.trans sx))))))) ?_ ?_
    ·cases fC a <;> cases fC b <;> cases mC c' 2 9 <;> first | (intro _;rfl) | (intro q;exact absurd q (by simp[dO,dL,Dt.gi]))
    ·cases fC a <;> cases fC b <;> cases mC c' 2 9 <;> first | (intro _;rfl) | (intro q;exact absurd q (by simp[dO,dL,Dt.gi]))
def ly:aA ["words","stops","coda"] ["words"] (ao uR):=dC
def Dh:di P w base 3 T.oz (fN K (pO jq u9)):=by
 nomatch T.oz,ly
 obtain⟨p,ws,rfl,hp,hl,sh,kk⟩:=h;have sl:=yB;refine⟨_,(ag (aF (ptr jQ (eQ aB T.bu (ah (pv 0) af)) ae)
  (aj (aq aQ))
  ax)
  (ag (bS 1 ly.nd (bM (d7 T) hr T.dk (ah (pK (ts:=["word"]) (ys:=[]) (js:=[]) (te:=(gL j7 [] E0 (bK (aY 0) eI))) (bo (dz gC (pv 0) eE (eD ae))) (gO 0) bj (bM (cb T) hr T.cO (ah (pv 0) af))) af)))
  (ag (bS 2 ly.nd (bM (cb T) hr T.cO (ah (fL (pv 0) ae) af)))
  (ag (aF (PW.pt (eC (bq (cy (pv 1))) (dq (PW.pt (cT (bq (cy (pv 2))) (cH (ptr jQ (fL (pv 0) ae) aJ)))))))
  (aj (aq aQ))
  ax)
  (aj (aq (bF (ah (fL (pv 1) ae) (ah (fL (pv 1) ae) (ah (fL (pv 1) ae) (ah (pv 2) af))))))))))),?_⟩
 ac_rfl;exists p,_,rfl,.inl hp,?_;rw[za];left
 by_cases hw:ws.length=4
 ·obtain⟨a,b,c,d,rfl⟩:∃a b c d,ws=[a,b,c,d]:=by
   match ws,hw with
   | [a,b,c,d],_=>exact⟨a,b,c,d,rfl⟩
  have en:u9 [a,b,c,d]=(match fC a,fC b,fC c with | some x,some y,some z=>(match fC d with | some n=>some ⟨x,y,z,some n⟩ | none=>if d ="end" then some ⟨x,y,z,none⟩ else none) | _,_,_=>none):=rfl;unfold pO at kk;rw[en] at kk;refine cm rfl ?_;exists p,_,rfl,hp,?_;rw[show ku (List.map V.str [a,b,c,d]) none (some 3)=[a,b,c].map V.str from(DS _ 3).trans rfl];intros p1 H1 s1 h1;exists⟨_,aI.of h1⟩,?_;refine fH (enc:=V.str) (ws:=[a,b,c]) (fun z=>dO .int (fC z)) (fun σ=>∃v,σ=[v]) (by show 3<=sizeLine;omega) (aI.of h1) ⟨none,rfl⟩ ?_ ?_
  ·rintro z σ H4 R hz s4 ⟨_,rfl⟩ r
   change⟨sh z (by simp at hz ⊢;rcases hz with h | h | h <;> simp[h]),fun H5 s5=>r _ _ _ s5 (yX _) ⟨_,rfl⟩⟩
  ·intro D vs H4 s4 hD il
   refine⟨D,vs,rfl,aI.of hD,by rw[il.len];show 3<=1000000;decide,fun H5 s5=>?_⟩;have il:=oa il;rw[jW il];have s05:=(s1.trans s4).trans s5;cases q:(([a,b,c].map fC).map (dO Dt.int)).any Dt.gi with
   | true=>
    exists p,_,3,_,rfl,rfl,s05.seq hp,rfl,?_;refine⟨_,rfl,sh d (by simp),fun H6 s6=>?_⟩;left;refine kk _ _ (s05.trans s6) ?_;have q':([fC a,fC b,fC c].map (dO Dt.int)).any Dt.gi=true:=q;clear q en kk
    revert q'
    cases fC a <;> cases fC b <;> cases fC c <;> intro q' <;> first | exact dX | exact absurd q' (by simp[dO,Dt.gi])
   | false=>
    obtain⟨x,y,z,ea,eb,ec⟩:∃x y z,fC a=some x/\fC b=some y/\fC c=some z:=by
     have q':([fC a,fC b,fC c].map (dO Dt.int)).any Dt.gi=false:=q;clear q en kk il
     revert q'
     cases fC a <;> cases fC b <;> cases fC c <;> intro q' <;> first | exact⟨_,_,_,rfl,rfl,rfl⟩ | exact absurd q' (by simp[dO,Dt.gi])
    rw[ea,eb,ec] at kk;have il':ay H4 ([x,y,z].map Dt.int) vs:=by
     have:([a,b,c].map fC).map (dO Dt.int)=[x,y,z].map Dt.int:=by simp[ea,eb,ec,dO]
     rw[this] at il;exact il
    have ev:=fu il';subst ev;have hD5:=s5 _ _ hD;exists p,_,3,_,rfl,rfl,s05.seq hp,rfl,?_;refine⟨_,rfl,sh d (by simp),fun H6 s6=>?_⟩;have hD6:=s6 _ _ hD5;have s06:=s05.trans s6;have fin:∀(o:Option Int) (v:V),Is H6 (dO .int o) v->fC d=o->(o=none->d ="end")->∀p7 H7,au H6 H7->H7 p7=some (.tup [.int x,.int y,.int z,v])->Q (.ref p7) H7:=fun o v iv eo hend p7 H7 s7 h7=>by
     refine kk _ _ (s06.trans s7) ?_;rw[eo];cases o with
     | none=>
      simp only[hend rfl,if_pos];exact cz h7 (aM cP (aM cP (aM cP (oh (iv.mono s7)))))
     | some n=>exact cz h7 (aM cP (aM cP (aM cP (oh (iv.mono s7)))))
    cases ed:fC d with
    | none=>
     exists p,_,3,_,rfl,rfl,s06.seq hp,rfl,?_;left
     by_cases he:d ="end"
     ·refine cm (by rw[he];rfl) ?_
      exists D,_,0,_,rfl,rfl,aI.of hD6,rfl,?_;exists D,_,1,_,rfl,rfl,aI.of hD6,rfl,?_;exists D,_,2,_,rfl,rfl,aI.of hD6,rfl,?_;left;refine⟨by show 4<=sizeLine;omega,laid ?_⟩;exact fin none .bC dX ed fun _=>he
     ·refine b9 (by rw[zd fun z=>he (V.str.inj z)];rfl) ?_
      left;refine kk _ _ s06 ?_;rw[ed];simp only[if_neg he];exact dX
    | some n=>
     exists D,_,0,_,rfl,rfl,aI.of hD6,rfl,?_;exists D,_,1,_,rfl,rfl,aI.of hD6,rfl,?_;exists D,_,2,_,rfl,rfl,aI.of hD6,rfl,?_;left;refine⟨by show 4<=sizeLine;omega,laid ?_⟩;exact fin (some n) (.int n) cP ed fun z=>nomatch z
 ·refine b9 (by rw[zd fun z=>hw (by have:=V.int.inj z;omega)];rfl) ?_
  left;refine kk _ _ (au.refl _) ?_;have e:u9 ws=none:=by
   unfold u9;split
   ·exact absurd rfl hw
   ·rfl
  unfold pO;rw[e];exact dX
structure Dk (P:Program) (w:World) (K:yA) {mg:Str->Option Value} (T:Txt K mg):Prop where
 IP:KD P w K T.iT [("player",.ref T.gJ),("instrument",.ref T.eF),("staff",.ref T.iK),("bar",.ref T.lS),("upbeat",.ref T.gH),("holds",.ref T.jZ),("notes",.ref T.iM),("repeat",.ref T.gI),("jump",.ref T.jY)]
 Qb:KD P w K T.rP [("player",.ref T.gd),("instrument",.ref T.dZ),("staff",.ref T.gG),("bar",.ref T.j0),("upbeat",.ref T.gb),("holds",.ref T.iP),("notes",.ref T.gK),("repeat",.ref T.gc),("jump",.ref T.iO)]
inductive KR (K:yA) {mg:Str->Option Value} (T:Txt K mg):Addr->Sp->Prop where
 | bA:KR K T T.gJ (fN K (pO .str (one cE)))
 | cF:KR K T T.eF (fN K (pO eA lF))
 | cg:KR K T T.iK (fN K (pO gw qt))
 | bar:KR K T T.lS (fN K (pO kT Bb))
 | aE:KR K T T.gH (fN K (pO dL (one lr)))
 | holds:KR K T T.jZ (fN K (pO vm rQ))
 | aG:KR K T T.iM (fN K Rp)
 | rep:KR K T T.gI (fN K (pO jB jO))
 | bZ:KR K T T.jY (fN K (pO jq u9))
noncomputable def xT {K:yA} {mg:Str->Option Value} (T:Txt K mg):List (Str×V):=[("player",V.ref T.gJ),("instrument",.ref T.eF),("staff",.ref T.iK),("bar",.ref T.lS),("upbeat",.ref T.gH),("holds",.ref T.jZ),("notes",.ref T.iM),("repeat",.ref T.gI),("jump",.ref T.jY)]
def LH (K:yA) {mg:Str->Option Value} (T:Txt K mg) (x:Str):(sY (xT T) x=none/\∀ws,oB (x::ws)=none)\/∃f D,sY (xT T) x=some (.ref f)/\KR K T f (fN K D)/\∀H0 H v ws,D H0 H v ws->gB H0 H v (oB (x::ws)):=by
 by_cases e0:x ="player"
 ·subst e0
  refine .inr ⟨_,_,rfl,.bA,fun H0 H v ws h=>?_⟩;exact mY (g:=Told.bA) h fun x z=>by unfold Is at z;exact z
 by_cases e1:x ="instrument"
 ·subst e1
  refine .inr ⟨_,_,rfl,.cF,fun H0 H v ws h=>?_⟩;exact mY (g:=fun(x:Str×(Int×Int)×(Int×Int))=>Told.cF x.1 x.2.1 x.2.2) h fun x z=>(show Is H (eA x) v from z)
 by_cases e2:x ="staff"
 ·subst e2
  refine .inr ⟨_,_,rfl,.cg,fun H0 H v ws h=>?_⟩;exact mY (g:=fun(x:Str×List Str)=>Told.cg x.1 x.2) h fun x z=>(show Is H (gw x) v from z)
 by_cases e3:x ="bar"
 ·subst e3
  refine .inr ⟨_,_,rfl,.bar,fun H0 H v ws h=>?_⟩;exact mY (g:=Told.bar) h fun x z=>z
 by_cases e4:x ="upbeat"
 ·subst e4
  refine .inr ⟨_,_,rfl,.aE,fun H0 H v ws h=>?_⟩;exact mY (g:=Told.aE) h fun x z=>z
 by_cases e5:x ="holds"
 ·subst e5
  refine .inr ⟨_,_,rfl,.holds,fun H0 H v ws h=>?_⟩;exact mY (g:=fun(x:Str×Int×Str)=>Told.holds x.1 x.2.1 x.2.2) h fun x z=>(show Is H (vm x) v from z)
 by_cases e6:x ="notes"
 ·subst e6
  refine .inr ⟨_,_,rfl,.aG,fun H0 H v ws h=>?_⟩;have e:oB ("notes":: ws)=(kb ws).map fun x=>Told.aG x.1 x.2.1 x.2.2:=rfl;rw[e];unfold Rp at h;cases q:kb ws with
  | none=>rw[q] at h;exact h
  | some y=>rw[q] at h;exact h
 by_cases e7:x ="repeat"
 ·subst e7
  refine .inr ⟨_,_,rfl,.rep,fun H0 H v ws h=>?_⟩;exact mY (g:=Told.rep) h fun x z=>z
 by_cases e8:x ="jump"
 ·subst e8
  refine .inr ⟨_,_,rfl,.bZ,fun H0 H v ws h=>?_⟩;exact mY (g:=Told.bZ) h fun x z=>z
 refine .inl ⟨?_,fun ws=>?_⟩
 ·have f0:∀(k:Str) (v:V) (r:List (Str×V)),x≠k->sY ((k,v)::r) x=sY r x:=fun k v r h=>by
   unfold sY;rw[List.find?_cons];rw[show decide ((k,v).1=x)=false from zd fun z=>h z.symm]
  unfold xT;rw[f0 _ _ _ e0,f0 _ _ _ e1,f0 _ _ _ e2,f0 _ _ _ e3,f0 _ _ _ e4,f0 _ _ _ e5,f0 _ _ _ e6,f0 _ _ _ e7,f0 _ _ _ e8];rfl
 ·unfold oB
  dsimp only;rw[if_neg e0,if_neg e1,if_neg e2,if_neg e3,if_neg e4,if_neg e5,if_neg e6,if_neg e7,if_neg e8]
def tq {K:yA} {mg:Str->Option Value} (T:Txt K mg):Sp:=fun vs H Q _=>∃x:Str,vs=[.str x]/\Q (.bl (sY (xT T) x).isSome) H
def tJ:aA ["word"] ["word"] (ao mj):=dC
def tR (B:Dk P w K T):di P w base 1 T.kh (tq T):=by
 nomatch T.kh,tJ
 obtain⟨x,rfl,kk⟩:=h;refine⟨_,(aj (aq (tP (NL (pv 0) (bQ (v:=.ref T.iT) (by rfl) T.Cr rfl))))),?_⟩;ac_rfl;exists T.iT,xT T,x,rfl,B.IP,rfl,?_;left;show Q (V.bl (false ^^ (sY (xT T) x).isSome)) H;rw[Bool.false_xor];exact kk
def uJ:aA ["words","reader"] ["words"] (ao qg):=dC
def Fo (B:Dk P w K T):di P w base 7 T.xQ (ER K):=by
 refine T.xQ.F.RF uJ fun cdv A' outer s H vs Q E hr h=>?_
 ·obtain⟨p,x,ws,rfl,hp,hl,sh,kk⟩:=h
  have sl:=yB;have hTbV:∀f sp,KR K T f sp->Qr (kr GJ P w K mg base ["words","reader"] "read_row" (ao qg) T.AD cdv A' outer s H E).Ho GJ 6 f sp:=by
   intro f sp h;cases h with
   | bA=>exact⟨_,_,L2.dE.mono (yO T) ∅,T.jN.F.kp,T.jN.b⟩
   | cF=>exact⟨_,_,L2.dE.mono (qA T) ∅,T.fo.F.kp,T.fo.b⟩
   | cg=>exact⟨_,_,L2.dE.mono (Bd T) ∅,T.lD.F.kp,T.lD.b⟩
   | bar=>exact⟨_,_,L2.dE.mono (Fs T) ∅,T.rO.F.kp,T.rO.b⟩
   | aE=>exact⟨_,_,L2.dE.mono (yM T) ∅,T.jL.F.kp,T.jL.b⟩
   | holds=>exact⟨_,_,L2.dE.mono (Di T) ∅,T.oA.F.kp,T.oA.b⟩
   | aG=>exact⟨_,_,L2.dE.mono (Bf T) ∅,T.lE.F.kp,T.lE.b⟩
   | rep=>exact⟨_,_,L2.dE.mono (yN T) ∅,T.jM.F.kp,T.jM.b⟩
   | bZ=>exact⟨_,_,L2.dE.mono (Dh T) ∅,T.oz.F.kp,T.oz.b⟩
  refine⟨_,(ag (aF (fw (cU (bM (tR T B) hr T.kh (ah (fL (pv 0) ae) af))))
   (aj (aq aQ))
   ax)
   (ag (bS 1 uJ.nd (Ff (bQ (v:=.ref T.iT) (by rfl) T.Cr rfl) (fL (pv 0) ae) (fun _ _=>rfl)))
   (aj (aq (Fi (KR K T) hTbV (hr.mono ∅) (pv 1) IT (ah (dz gC (pv 0) (eD ae) eE) af)))))),?_⟩
  ac_rfl;exists p,_,0,_,rfl,rfl,hp,bz (j:=0) rfl,?_;refine⟨x,rfl,?_⟩;rcases LH K T x with⟨ev,er⟩ | ⟨f,D,ev,htb,hd⟩
  ·rw[ev]
   left;refine kk _ _ (au.refl _) ?_;rw[er];rfl
  ·rw[ev]
   exists p,_,0,_,rfl,rfl,hp,bz (j:=0) rfl,?_;refine⟨T.iT,xT T,x,_,rfl,B.IP,rfl,ev,?_⟩;exists f,_,rfl,htb,?_;exists p,_,rfl,hp,?_;rw[show ku (List.map V.str (x::ws)) (some 1) none=ws.map V.str from(fG _ 1).trans rfl];intros p1 H1 s1 h1;refine⟨p1,ws,rfl,aI.of h1,nofun,fun y hy=>sh y (by simp[hy]),fun v H2 s2 h2=>kk _ _ (s1.trans s2) ((hd _ _ _ _ h2).back s1)⟩
def mh:aA ["repeats","bar","repeat"] ["repeats","bar"] (ao nG):=dC
def mF:di P w base 1 T.iw (vx K):=by
 nomatch T.iw,mh
 obtain⟨p,rs,b,rfl,⟨vs,hp,il⟩,kk⟩:=h;unfold dG at kk;refine⟨_,(ag (cB PassesOwn.never rfl (bo (pv 0)) (jP 2 mh.nd)
  (aj (aF (PW.pt (cT (ptr gh (bN (pv 2) ae) (pv 1)) (cH (ptr gh (pv 1) (bN (pv 2) ae)))))
   (aj (aq (pv 2)))
   ax)))
  (aj (aq aQ))),?_⟩
 ac_rfl;exists⟨_,hp⟩,?_;refine dP (K:=K) (a:=p) (xs:=vs) (fun i σ H'=>H'=H/\(rs.take i).find? (fun r=>decide (r.first<=b)&&decide (b<=r.last))=none/\∃v,σ=[some (.ref p),some (.int b),v]) ⟨rfl,rfl,none,rfl⟩ (fun i σ H' _ h=>by rw[h.1];exact hp) ?_ ?_
 ·intro i x σ H' hx hh
  refine dM fun N kN0 kR0 _ _=>?_;obtain⟨rfl,hn,v,rfl⟩:=hh;obtain⟨r,hr',hi⟩:=dt il hx;obtain⟨a,e,rfl,ha,he⟩:=fT hi;left
  by_cases c1:r.first<=b
  ·refine b9 (ze c1) ?_
   left
   by_cases c2:b<=r.last
   ·refine b9 (ze c2) ?_
    left;refine kk _ ?_;rw[Jc hr' hn (by rw[ze c1,ze c2];rfl)];exact hi
   ·refine cm (zd c2) ?_
    change⟨Ck hr' hn (by rw[zd c2,Bool.and_false]),_,rfl⟩
  ·refine cm (zd c1) ?_
   change⟨Ck hr' hn (by rw[zd c1,Bool.false_and]),_,rfl⟩
 ·rintro σ H' ⟨rfl,hn,v,rfl⟩
  rw[aO il,zM] at hn;left;refine kk _ ?_;rw[hn];exact dX
def ra:aA ["repeats","bar","repeat"] ["repeats","bar"] (ao uU):=dC
def Dj:di P w base 2 T.tZ (CP K):=by
 nomatch T.tZ,ra
 obtain⟨p,rs,b,rfl,hp,kk⟩:=h;unfold gQ at kk;refine⟨_,(ag (bS 2 ra.nd (bM (mF T) hr T.iw (ah (pv 0) (ah (pv 1) af))))
  (aj (aq (LW (tP (cy (pv 2))) (qy (dR cY (pv 1) (bN (pv 2) ae) (jg _))))))),?_⟩
 ac_rfl;exists p,rs,b,rfl,hp,fun v iv=>?_;cases q:dG rs b with
 | none=>
  rw[q] at iv kk;unfold dO Is at iv;subst iv;change kk
 | some r=>
  rw[q] at iv kk;obtain⟨a,e,rfl,ha,he⟩:=fT iv;left;have e1:decide (V.int b=V.int r.last)=decide (b=r.last):=by simp
  show Q (.bl (decide (V.int b=V.int r.last))) H;rw[e1];exact kk
def rg:aA ["repeats","bar","repeat"] ["repeats","bar"] (ao uV):=dC
def rY:di P w base 2 T.oG (CQ K):=by
 nomatch T.oG,rg
 obtain⟨p,rs,b,rfl,hp,kk⟩:=h;unfold d6 at kk;refine⟨_,(ag (bS 2 rg.nd (bM (mF T) hr T.iw (ah (pv 0) (ah (pv 1) af))))
  (aj (aq (LW (tP (cy (pv 2))) (qy (dR cY (pv 1) (bN (pv 2) ae) (jg _))))))),?_⟩
 ac_rfl;exists p,rs,b,rfl,hp,fun v iv=>?_;cases q:dG rs b with
 | none=>
  rw[q] at iv kk;unfold dO Is at iv;subst iv;change kk
 | some r=>
  rw[q] at iv kk;obtain⟨a,e,rfl,ha,he⟩:=fT iv;left;have e1:decide (V.int b=V.int r.first)=decide (b=r.first):=by simp
  show Q (.bl (decide (V.int b=V.int r.first))) H;rw[e1];exact kk
def MD (us:List V) (h:us≠[]):¬(HT.fg us.length 0 (some 1)=0/\HT.fg us.length us.length none=us.length):=by
 rintro⟨h1,_⟩;have hp:0<us.length:=yq.mpr h;have e:HT.fg us.length 0 (some ((1:Nat):Int))=min 1 us.length:=by unfold HT.fg;simp
 have e':HT.fg us.length 0 (some (1:Int))=min 1 us.length:=e;rw[e'] at h1;omega
def JI {K:yA} {H:Hp} {e:Addr} {us:List V} {Q:VK} (hu:H e=some (.tup us)) (k:∀q H1,au H H1->H1 q=some (.tup (us.drop 1))->Q (.ref q) H1):OA K (.ref e) (some 1) none H Q:=by
 by_cases h:us=[]
 ·subst h
  exact .inr ⟨e,[],rfl,du.of hu,⟨rfl,rfl⟩,k e H (au.refl H) hu⟩
 ·refine .inl ⟨e,us,rfl,du.of hu,MD us h,?_⟩
  rw[show ku us (some 1) none=us.drop 1 from fG us 1];exact laid k
def pZ:aA ["repeat","ends","behind"] ["repeat"] (ao BV):=dC
def Hm:di P w base 1 T.DD G0:=by
 nomatch T.DD,pZ
 obtain⟨v,r,rfl,iv,hl,kk⟩:=h;have sl:=yB;obtain⟨a,e,rfl,ha,he⟩:=fT iv;unfold Is at he;obtain⟨e',us,ee,hu,ilu⟩:=he;cases ee;refine⟨_,(ag (bS 1 pZ.nd (bN (pv 0) ae))
  (ag (bS 2 pZ.nd (ar gE (pK (ts:=["end"]) (ys:=[]) (js:=[]) (te:=(fA (qx K) (aY 0) (tC (.int (0))))) (kc (dz Nl (pv 1) (eD ae) eE)) (gO 0) bj (bN (pv 0) ae)) (bx (ah (ar aX (bN (pv 0) ae) ae) af))))
  (aj (aq (pK (ts:=["end","after"]) (ys:=[]) (js:=[]) (g:=(FO K 2 (fV (b7 0) (fV (b7 1) FP)))) (te:=(EH (bK (fA (qx K) (aY 0) (tC (.int (0)))) (bK (fA (vM fun i j=>.int (i-j)) (aY 1) (tC (.int (1)))) (bK (fA (qx K) (aY 0) (tC (.int (1)))) eI))))) (LU (by rfl) T.L9 (ah (pv 1) (ah (pv 2) af))) (dQ (n:=2) rfl (aK (gO 0) (aK (gO 1) cV))) bj (bF (ah (bN (pv 0) ae) (ah (ar ke (pv 1) ae) (ah (bN (pv 0) ae) af))))))))),?_⟩
 ac_rfl;left;have main:∀(q:Addr) (H1:Hp),au H H1->H1 q=some (.tup (us.drop 1))->∀(R:VK),(∀D H2,au H1 H2->H2 D=some (.lst ((r.ends.drop 1).map fun x=>V.int x.1))->R (.ref D) H2)->
   dJ [none] (b7 0) vw (fA (qx K) (aY 0) (tC (.int 0))) R (OS K q) H1:=by
  intro q H1 s1 h1 R hR;have il1:ay H ((r.ends.drop 1).map mT) (us.drop 1):=by
   cases re:r.ends with
   | nil=>
    rw[re] at ilu;unfold ay at ilu;subst ilu;unfold ay;rfl
   | cons x xs=>
    rw[re,zh] at ilu;unfold ay at ilu;obtain⟨u,ur,rfl,_,h2⟩:=ilu;exact h2
  obtain⟨ps,f1,f2,f3⟩:=wM il1;have pl:ps.length<=1000000:=by
   have:ps.length=(r.ends.drop 1).length:=by rw[<-f1,za]
   rw[this,List.length_drop];omega
  refine gx (enc:=fun z:Sc.End×V=>z.2) (ws:=ps) (fun z=>.int z.1.1) (fun σ=>∃v,σ=[v]) nofun (by rw[f2];exact h1) ⟨none,rfl⟩ ?_ ?_
  ·rintro z σ H6 R' hz s6 ⟨_,rfl⟩ r'
   obtain⟨a6,q6,ev,h6,h7⟩:=uj (f3 z hz);rw[ev];have h66:=s6 _ _ (s1 _ _ h6);change r' _ _ _ (au.refl _) cP ⟨_,rfl⟩
  ·intro D vs H6 s6 hD il
   have e5:ps.map (fun z=>Dt.int z.1.1)=((r.ends.drop 1).map (·.1)).map Dt.int:=by rw[<-f1,zA,zA];rfl
   rw[e5] at il;rw[fu il,zA] at hD;exact hR D H6 s6 hD
 refine JI hu fun q H1 s1 h1=>⟨q,rfl,⟨_,du.of h1⟩,main q H1 s1 h1 _ fun D H2 s2 h2=>?_⟩
 have ha2:=s2 _ _ (s1 _ _ ha);exists by show 1<=sizeLine;omega,?_
 intros p3 H3 s3 h3;refine⟨D,p3,_,_,rfl,rfl,aI.of (s3 _ _ h2),aI.of h3,by rw[za,List.length_drop];show _+1<=_;omega,?_⟩;intros p4 H4 s4 h4;have s04:=(s1.trans s2).trans (s3.trans s4);have hu4:=s04 _ _ hu;have eb:(List.map (fun x=>V.int x.1) (r.ends.drop 1)++[V.int (r.last+1)])=((r.ends.drop 1).map (·.1)++[r.last+1]).map V.int:=by rw[zj,zA];rfl
 rw[eb] at h4;left;have ilu4:=ilu.mono s04;have ul:=aO ilu;refine⟨true,false,e,p4,us,_,rfl,du.of hu4,aI.of h4,?_⟩;generalize hbs:(r.ends.drop 1).map (·.1)++[r.last+1]=bs at h4;have zl:(r.ends.zip bs).length=min r.ends.length bs.length:=List.length_zip;refine Ap (ws:=r.ends.zip bs) (fun z x H'=>∃p u,x=.ref p/\H' p=some (.tup [u,.int z.2])/\Is H' (mT z.1) u) (fun z=>Kn (z.1.1,z.2-1,z.1.2)) (fun σ=>∃u v,σ=[u,v]) nofun ⟨none,none,rfl⟩ ?_ ?_ ?_ ?_ ?_
 ·intro i H5 hi s5
  have i1:i<us.length:=nofun
  have i2:i<(bs.map V.int).length:=by rw[za];omega
  exact⟨us,bs.map V.int,us[i],(bs.map V.int)[i],du.of (s5 _ _ hu4),aI.of (s5 _ _ h4),zb i1,zb i2⟩
 ·intro H5 s5
  refine⟨us,bs.map V.int,du.of (s5 _ _ hu4),aI.of (s5 _ _ h4),?_⟩;rw[za];rcases Nat.le_total r.ends.length bs.length with h | h
  ·exact Or.inl nofun
  ·right;omega
 ·rintro i x H5 H6 hi s5 ⟨p,u,v,hp,rfl,rfl,hu',hv'⟩
  have i1:i<r.ends.length:=nofun
  have i2:i<bs.length:=nofun
  have gu:=hu' us (du.of (s5 _ _ hu4));have gv:=hv' (bs.map V.int) (aI.of (s5 _ _ h4));rw[zJ,zb i2] at gv;cases gv;obtain⟨x0,hx0,ix0⟩:=dt (ilu4.mono s5) gu;rw[zb i1] at hx0;cases hx0;refine⟨aV hp,p,u,rfl,?_,?_⟩
  ·rw[aC,List.getElem_zip]
  ·rw[List.getElem_zip];exact ix0.mono (aV hp)
 ·rintro z x σ H5 R hz s5 ⟨p,u,rfl,hp,iu⟩ ⟨_,_,rfl⟩ rr
  obtain⟨a6,q6,rfl,h6,h7⟩:=uj iu;refine⟨p,_,rfl,du.of hp,rfl,?_⟩;refine⟨_,_,rfl,_,_,rfl,rfl,?_⟩;left;refine⟨nh,laid fun p7 H7 s7 h7'=>rr _ _ _ s7 ?_ ⟨_,_,rfl⟩⟩;exact cz h7' (aM cP (aM cP (oh (cz (s7 _ _ h7) sC))))
 ·intro D5 vs5 H5 s5 hD5 il5
  refine kk _ _ _ (s04.trans s5) hD5 ?_;have ee:(jn r).map Kn=(r.ends.zip bs).map fun z=>Kn (z.1.1,z.2-1,z.1.2):=by
   unfold jn;rw[hbs,zA];rfl
  rw[ee];exact il5
def O2 {H:Hp} {e:Int×Int×List Int} {v:V} (h:Is H (Kn e) v):∃a q,v=.ref a/\H a=some (.tup [.int e.1,.int e.2.1,.ref q])/\H q=some (.tup (e.2.2.map V.int)):=by
 unfold Kn Is at h;obtain⟨a,vs,rfl,ha,hl⟩:=h;unfold ay at hl;obtain⟨v1,r1,rfl,h1,hl⟩:=hl;unfold ay at hl;obtain⟨v2,r2,rfl,h2,hl⟩:=hl;unfold ay at hl;obtain⟨v3,r3,rfl,h3,hl⟩:=hl;unfold ay at hl;subst hl;unfold Is at h1 h2;subst h1 h2;unfold vk Is at h3;obtain⟨q,us,rfl,hq,hle⟩:=h3;rw[fu hle] at hq;exact⟨a,q,rfl,ha,hq⟩
noncomputable def y9 (r:Rep) (b:Int) (e:Int×Int×List Int):Bool:=decide (e.1<=b)&&decide (b<=e.2.1)&&!decide (r.times∈e.2.2)
def J8 (rs:List Rep) (b:Int):lM rs b=rs.all fun r=>(jn r).all fun e=>!y9 r b e:=rfl
theorem Cj:∀ns:List Int,(ns.map V.int).all mL=true
 | []=>rfl
 | n::ns=>by rw[zh,List.all_cons,Cj ns];rfl
def gY:aA ["repeats","bar","repeat","end"] ["repeats","bar"] (ao nL):=dC
def mH:di P w base 2 T.iH (vA K):=by
 nomatch T.iH,gY
 obtain⟨p,rs,b,rfl,⟨vs,hp,il⟩,hl,kk⟩:=h;rw[J8] at kk;refine⟨_,(ag (cB PassesOwn.never rfl (bo (pv 0)) (jP 2 gY.nd)
  (aj (cB PassesOwn.never rfl (bo (bM (Hm T) hr T.DD (ah (pv 2) af))) (jP 3 gY.nd)
   (aj (aF (PW.pt (cT (ptr gh (bN (pv 3) ae) (pv 1)) (cT (ptr gh (pv 1) (bN (pv 3) ae)) (cH (iA dS (bN (pv 2) ae) (bN (pv 3) ae) (by with_unfolding_all rfl))))))
    (aj (aq nV))
    ax)))))
  (aj (aq nV))),?_⟩
 ac_rfl;exists⟨_,hp⟩,?_;refine dP (K:=K) (a:=p) (xs:=vs) (fun i σ H'=>au H H'/\(rs.take i).all (fun r=>(jn r).all fun e=>!y9 r b e)=true/\∃v u,σ=[some (.ref p),some (.int b),v,u]) ⟨au.refl H,rfl,none,none,rfl⟩ (fun i σ H' _ h=>h.1.seq hp) ?_ ?_
 ·intro i x σ H' hx hh
  refine dM fun N kN0 kR0 _ _=>?_;obtain⟨s1,hn,v,u,rfl⟩:=hh;obtain⟨r,hr',hi⟩:=dt il hx;have hm:=zB hr';exists _,r,rfl,hi.mono s1,hl r hm,fun D us H2 s2 hD ilD=>?_;refine⟨D,rfl,⟨_,aI.of hD⟩,?_⟩;obtain⟨a,e,rfl,ha,he⟩:=fT (hi.mono (s1.trans s2));refine dP (K:=K) (a:=D) (xs:=us) (fun j σ H'=>H'=H2/\((jn r).take j).all (fun e=>!y9 r b e)=true/\∃u,σ=[some (.ref p),some (.int b),some (.ref a),u]) ⟨rfl,rfl,_,rfl⟩ (fun j σ H' _ h=>by rw[h.1];exact aI.of hD) ?_ ?_
  ·intro j y σ H3 hy hh
   refine dM fun N kN1 kR1 _ _=>?_;obtain⟨rfl,hnj,u',rfl⟩:=hh;obtain⟨t,ht,it⟩:=dt ilD hy;obtain⟨a6,q6,rfl,h6,h7⟩:=O2 it;have good:y9 r b t=false->((jn r).take (j+1)).all (fun e=>!y9 r b e)=true:=fun z=>by
    rw[cS ht,List.all_append,hnj,Bool.true_and];simp[z]
   left
   by_cases c1:t.1<=b
   ·refine b9 (ze c1) ?_
    left
    by_cases c2:b<=t.2.1
    ·refine b9 (ze c2) ?_
     exists q6,t.2.2.map V.int,rfl,.inr (du.of h7),rfl,Cj _,?_;show∃k,V.bl (!Et (.int r.times) (t.2.2.map V.int))=.bl k/\_;rw[yZ]
     by_cases c3:r.times∈t.2.2
     ·rw[ze c3]
      change⟨good (by unfold y9;rw[ze c3];simp),_,rfl⟩
     ·rw[zd c3]
      left;have z:=kk H3 (s1.trans s2);have e0:(rs.all fun r=>(jn r).all fun e=>!y9 r b e)=false:=by
       rw[List.all_eq_false];refine⟨r,hm,?_⟩;have:((jn r).all fun e=>!y9 r b e)=false:=by
        rw[List.all_eq_false];exact⟨t,zB ht,by unfold y9;simp[c1,c2,c3]⟩
       rw[this];decide
      rw[e0] at z;exact z
    ·refine cm (zd c2) ?_
     change⟨good (by unfold y9;rw[zd c2];simp),_,rfl⟩
   ·refine cm (zd c1) ?_
    change⟨good (by unfold y9;rw[zd c1];simp),_,rfl⟩
  ·rintro σ H3 ⟨rfl,hnj,u',rfl⟩
   rw[aO ilD,zM] at hnj;left;refine⟨s1.trans s2,?_,_,_,rfl⟩;rw[cS hr',List.all_append,hn,Bool.true_and];simp[hnj]
 ·rintro σ H' ⟨s1,hn,v,u,rfl⟩
  rw[aO il,zM] at hn;left;have z:=kk H' s1;rw[hn] at z;exact z
inductive CT (K:yA) (vs:List V) (H:Hp) (Q:VK) (E:XK):Prop
 | mk (p:Addr) (rs:List Rep) (a c:Int) (_:vs=[.ref p,.int a,.int c]) (_:BL K H p rs) (_:(∀r∈rs,r.ends.length<=1000000)) (_:∀H',au H H'->Q (.bl (decide (a<c)&&d6 rs c&&lM rs c)) H')
inductive CS (K:yA) (vs:List V) (H:Hp) (Q:VK) (E:XK):Prop
 | mk (p:Addr) (rs:List Rep) (v:V) (j:Jump) (_:vs=[.ref p,v]) (_:BL K H p rs) (_:(∀r∈rs,r.ends.length<=1000000)) (_:Is H (jq j) v) (_:∀H',au H H'->Q (.bl (gS rs j)) H')
def wK {H:Hp} {j:Jump} {v:V} (h:Is H (jq j) v):∃a,v=.ref a/\H a=some (.tup [.int j.wL,.int j.AS,.int j.dr,ov j.gy]):=by
 unfold jq Is at h;obtain⟨a,vs,rfl,ha,hl⟩:=h;unfold ay at hl;obtain⟨v1,r1,rfl,h1,hl⟩:=hl;unfold ay at hl;obtain⟨v2,r2,rfl,h2,hl⟩:=hl;unfold ay at hl;obtain⟨v3,r3,rfl,h3,hl⟩:=hl;unfold ay at hl;obtain⟨v4,r4,rfl,h4,hl⟩:=hl;unfold ay at hl;subst hl;unfold Is at h1 h2 h3;subst h1 h2 h3;refine⟨a,rfl,?_⟩;cases q:j.gy with
 | none=>rw[q] at h4;unfold dO Is at h4;subst h4;exact ha
 | some n=>rw[q] at h4;unfold dO Is at h4;subst h4;exact ha
def C1:aA ["repeats","at","coda"] ["repeats","at","coda"] (ao uX):=dC
def Dm:di P w base 3 T.ux (CT K):=by
 nomatch T.ux,C1
 obtain⟨p,rs,a,c,rfl,hp,hl,kk⟩:=h;refine⟨_,(aj (aq (tQ (dR eY (pv 1) (pv 2) (jg _)) (tQ (bM (rY T) hr T.oG (ah (pv 0) (ah (pv 2) af))) (qy (bM (mH T) hr T.iH (ah (pv 0) (ah (pv 2) af)))))))),?_⟩;ac_rfl;left
 by_cases c1:a<c
 ·rw[ze c1,Bool.true_and] at kk
  refine b9 (ze c1) ?_;exists p,rs,c,rfl,hp,?_;cases q:d6 rs c with
  | true=>
   rw[q,Bool.true_and] at kk;change⟨p,rs,c,rfl,hp,hl,kk⟩
  | false=>
   rw[q,Bool.false_and] at kk;change kk _ (au.refl _)
 ·rw[zd c1,Bool.false_and,Bool.false_and] at kk
  refine cm (zd c1) ?_;change kk _ (au.refl _)
def fQ:aA ["repeats","jump","at","to","until","coda"] ["repeats","jump"] (ao uW):=dC
def Dl:di P w base 4 T.uf (CS K):=by
 nomatch T.uf,fQ
 obtain⟨p,rs,v,j,rfl,hp,hl,iv,kk⟩:=h;obtain⟨a,rfl,ha⟩:=wK iv;unfold gS at kk;refine⟨_,(ag (bS 2 fQ.nd (bN (pv 1) ae))
  (ag (bS 3 fQ.nd (bN (pv 1) ae))
  (ag (bS 4 fQ.nd (bN (pv 1) ae))
  (ag (bS 5 fQ.nd (bN (pv 1) ae))
  (ag (aF (PW.pt (eC (ptr eY (pv 4) (pv 3)) (dq (ptr eY (pv 2) (pv 4)))))
  (aj (aq nV))
  ax)
  (ag (aF (PW.pt (cT (bq (fq (pv 5))) (cH (fw (cU (bM (Dm T) hr T.ux (ah (pv 0) (ah (pv 2) (ah (pv 5) af)))))))))
  (aj (aq nV))
  ax)
  (aj (aq (tQ (bM (Dj T) hr T.tZ (ah (pv 0) (ah (pv 2) af))) (tQ (bM (rY T) hr T.oG (ah (pv 0) (ah (pv 3) af))) (qy (bM (mH T) hr T.iH (ah (pv 0) (ah (pv 4) af)))))))))))))),?_⟩
 ac_rfl;left
 by_cases c1:j.dr<j.AS
 ·refine b9 (ze c1) ?_
  simp only[if_pos c1] at kk;change kk _ (au.refl _)
 ·refine cm (zd c1) ?_
  simp only[if_neg c1] at kk;left
  by_cases c2:j.wL<j.dr
  ·refine b9 (ze c2) ?_
   simp only[if_pos c2] at kk;change kk _ (au.refl _)
  ·refine cm (zd c2) ?_
   simp only[if_neg c2] at kk;left;cases q:j.gy with
   | none=>
    rw[q] at kk;exists p,rs,_,rfl,hp,?_;cases q1:gQ rs j.wL with
    | false=>
     rw[q1] at kk;change kk _ (au.refl _)
    | true=>
     rw[q1] at kk;exists p,rs,_,rfl,hp,?_;cases q2:d6 rs j.AS with
     | false=>
      rw[q2] at kk;change kk _ (au.refl _)
     | true=>
      rw[q2] at kk;change⟨p,rs,_,rfl,hp,hl,kk⟩
   | some n=>
    rw[q] at kk;exists p,rs,_,_,rfl,hp,hl,fun H1 s1=>?_;cases q0:(decide (j.wL<n)&&d6 rs n&&lM rs n) with
    | false=>
     simp only[q0] at kk;change kk _ s1
    | true=>
     simp only[q0,Bool.true_and] at kk;exists p,rs,_,rfl,hp.mono s1,?_;cases q1:gQ rs j.wL with
     | false=>
      rw[q1] at kk;change kk _ s1
     | true=>
      rw[q1] at kk;exists p,rs,_,rfl,hp.mono s1,?_;cases q2:d6 rs j.AS with
      | false=>
       rw[q2] at kk;change kk _ s1
      | true=>
       rw[q2] at kk;change⟨p,rs,_,rfl,hp.mono s1,hl,fun H2 s2=>kk _ (s1.trans s2)⟩
def BR {l ns:List Int} (h1:ns.Perm l) (h2:ns.Pairwise (·<=·)):ns=sortI l:=by
 unfold sortI;refine List.Perm.eq_of_pairwise (le:=fun a b:Int=>a<=b) (fun a b _ _ x y=>Int.le_antisymm x y) h2 ?_ (h1.trans (List.mergeSort_perm _ _).symm);have:=List.pairwise_mergeSort (le:=fun a b:Int=>decide (a<=b)) (fun a b c x y=>by simp at x y ⊢;omega) (fun a b=>by simp;omega) l;exact this.imp fun h=>by simpa using h
noncomputable def GX:List Sc.End->Nat
 | []=>0
 | e::r=>e.2.length+GX r
def O3 {es:List Sc.End} {e:Sc.End} (h:e∈es):e.2.length<=GX es:=by
 induction es with
 | nil=>cases h
 | cons x r ih=>
  rcases zC.mp h with rfl | h
  ·unfold GX;omega
  ·have:=ih h;unfold GX;omega
def K3 {a b:List Int}:(decide (a.map V.int=b.map V.int))=decide (a=b):=by
 by_cases h:a=b
 ·subst h;simp
 ·rw[zd h,zd]
  intro z;have:∀{a b:List Int},a.map V.int=b.map V.int->a=b:=by
   intro a
   induction a with
   | nil=>intro b z;cases b with | nil=>rfl | cons _ _=>cases z
   | cons x r ih=>intro b z;cases b with | nil=>cases z | cons y s=>simp at z;rw[z.1,ih (by simpa using z.2)]
  exact h (this z)
theorem rS:∀ns:List Int,(ns.map V.int).all OD=true
 | []=>rfl
 | n::ns=>by rw[zh,List.all_cons,rS ns];rfl
def F1 {e:Sc.End} {r:List Sc.End} {a:Int} {ps:List Int} (h1:¬e.1<=a) (h2:e.2=sortI e.2):fW (e::r) a ps=fW r e.1 (ps++e.2):=by
 show(if e.1<=a then none else if e.2≠sortI e.2 then none else fW r e.1 (ps++e.2))=_;rw[if_neg h1,if_neg (fun z=>z h2)]
def Cn {e:Sc.End} {r:List Sc.End} {a:Int} {ps:List Int} (h:e.1<=a\/e.2≠sortI e.2):fW (e::r) a ps=none:=by
 show(if e.1<=a then none else if e.2≠sortI e.2 then none else fW r e.1 (ps++e.2))=_;rcases h with h | h
 ·rw[if_pos h]
 ·rw[if_pos h];split <;> rfl
def N4 {α:Type} {l:List α} {i:Nat} {x:α} (h:l[i]?=some x):l.drop i=x::l.drop (i+1):=by
 obtain⟨hi,rfl⟩:=zw.mp h;exact List.drop_eq_getElem_cons hi
inductive uI (vs:List V) (H:Hp) (Q:VK) (E:XK):Prop
 | mk (v:V) (r:Rep) (_:vs=[v]) (_:Is H (jB r) v) (_:GX r.ends<64) (_:-1000000<=r.times) (_:r.times<=1000000) (_:∀H',au H H'->Q (.bl (fX r)) H')
def fB:aA ["repeat","ends","ahead","passes","end"] ["repeat"] (ao xF):=dC
def Fu:di P w base 1 T.y7 uI:=by
 nomatch T.y7,fB
 obtain⟨v,r,rfl,iv,ht,t0,t1,kk⟩:=h;have sl:=yB;obtain⟨a,e,rfl,ha,he⟩:=fT iv;unfold Is at he;obtain⟨e',us,ee,hu,ilu⟩:=he;cases ee;have ul:=aO ilu;refine⟨_,(ag (bS 1 fB.nd (bN (pv 0) ae))
  (ag (aF (ptr cY (eQ aB T.bu (ah (pv 1) af)) ae)
  (aj (aq nV))
  ax)
  (ag (bS 2 fB.nd (ar ke (bN (pv 0) ae) ae))
  (ag (bS 3 fB.nd (bx af))
  (ag (cB PassesOwn.never rfl (kc (pv 1)) (jP 4 fB.nd)
  (ag (aF (PW.pt (eC (ptr gh (bN (pv 4) ae) (pv 2)) (dq (ptr (C9 hr.units) (mV iI T.tY (ah (bN (pv 4) ae) af)) (eQ sO T.FD (ah (bN (pv 4) ae) af))))))
   (aj (aq nV))
   ax)
   (ag (bS 2 fB.nd (bN (pv 4) ae))
   (aj (bP (ck yC PySem.F.slot_list_extend PySem.F.type_list_extend Hu (pv 3) (ah (bN (pv 4) ae) af)))))))
  (aj (aq (tQ (dR gh (pv 2) (bN (pv 0) ae) (jg _)) (qy (dR (Dc hr.units) (eQ sO T.FD (ah (pv 3) af)) (LZ rfl (by rfl) T.tY (by rfl) T.dA (ah ae (ah (ar aX (bN (pv 0) ae) ae) af))) (jg _))))))))))),?_⟩
 ac_rfl;exists e,_,rfl,.inr (du.of hu),?_;rw[ul];left
 by_cases h0:r.ends.length=0
 ·refine b9 (by rw[h0];rfl) ?_
  left;have e0:fX r=true:=by
   unfold fX;rw[yr.mp h0]
  rw[e0] at kk;exact kk _ (au.refl _)
 ·refine cm (zd fun z=>h0 (by have:=V.int.inj z;omega)) ?_
  have ef:fX r=(match fW r.ends (r.first-1) [] with | none=>false | some (a,ps)=>decide (a<=r.last)&&decide (sortI ps=JO 1 (r.times+1-1).toNat)):=by
   unfold fX;cases q:r.ends with
   | nil=>rw[q] at h0;exact absurd rfl h0
   | cons x xs=>rfl
  rw[ef] at kk;exists by show 0<=sizeLine;omega,?_
  intro pp hn;generalize hG:upd _ pp _=H1;have s1:=au.kf hG hn;have h1:=ky hG;clear hG;exists⟨_,du.of (s1 _ _ hu)⟩,?_;refine Ja (K:=K) (a:=e) (xs:=us) (fun i σ H'=>au H H'/\∃(z:Int) (ps:List Int) (u:Option V),σ=[some (.ref a),some (.ref e),some (.int z),some (.ref pp),u]/\H' pp=some (.lst (ps.map V.int))/\ps.length+GX (r.ends.drop i)=GX r.ends/\fW r.ends (r.first-1) []=fW (r.ends.drop i) z ps) ⟨s1,_,[],none,rfl,h1,by simp,rfl⟩ (fun i σ H' _ h=>du.of (h.1 _ _ hu)) ?_ ?_
  ·intro i x σ H2 hx hh
   refine dM fun N kN0 kR0 _ _=>?_;obtain⟨s2,z,ps,u,rfl,h2,hc,hgo⟩:=hh;obtain⟨en,hen,ien⟩:=dt ilu hx;obtain⟨a6,q6,rfl,h6,h7⟩:=uj (ien.mono s2);have hle:=O3 (zB hen);rw[N4 hen] at hgo hc;rw[show GX (en::List.drop (i+1) r.ends)=en.2.length+GX (List.drop (i+1) r.ends) from rfl] at hc;left
   by_cases c1:en.1<=z
   ·refine b9 (ze c1) ?_
    rw[hgo,Cn (.inl c1)] at kk;change kk _ s2
   ·refine cm (zd c1) ?_
    exists q6,_,rfl,.inr (du.of h7),?_;intros p8 H8 s8 h8;have h68:=s8 _ _ h6;have h78:=s8 _ _ h7;exists q6,en.2,rfl,.inr (du.of h78),nofun,fun ns np ns'=>?_;intros p9 H9 s9 h9;have h69:=s9 _ _ h68;have h79:=s9 _ _ h78;have h29:=s9 _ _ (s8 _ _ h2);rw[BR np ns'] at h9;refine⟨p8,p9,_,_,rfl,rfl,.inl ⟨aI.of (s9 _ _ h8),aI.of h9⟩,.inr (.inr ⟨rS _,rS _⟩),?_⟩;rw[K3]
    by_cases c2:en.2=sortI en.2
    ·rw[ze c2]
     rw[F1 c1 c2] at hgo;exists .inl ⟨rfl,_,aI.of h29⟩,?_;left;refine .inr ⟨pp,q6,_,_,rfl,rfl,h29,h79,by rw[za,za];omega,?_⟩;left;have s29:=(s2.trans s8).trans s9;refine⟨fun b o hb=>?_,en.1,ps++en.2,_,rfl,by rw[aC,zj],by rw[zg];omega,hgo⟩;have ne:b≠pp:=fun z=>by rw[z,hn] at hb;cases hb
     rw[aD ne];exact s29 b o hb
    ·rw[zd c2]
     rw[hgo,Cn (.inr c2)] at kk;change kk _ ((s2.trans s8).trans s9)
  ·rintro σ H2 ⟨s2,z,ps,u,rfl,h2,hc,hgo⟩
   rw[ul,List.drop_length] at hgo hc;rw[hgo] at kk;have ha2:=s2 _ _ ha;unfold fW at kk;simp only at kk;rw[show GX []=0 from rfl] at hc;left
   by_cases c1:z<=r.last
   ·rw[ze c1,Bool.true_and] at kk
    refine b9 (ze c1) ?_;exists pp,ps,rfl,.inl (aI.of h2),nofun,fun ns np ns'=>?_;intros p9 H9 s9 h9;rw[BR np ns'] at h9;have ha9:=s9 _ _ ha2;exists 1,r.times+1,rfl,⟨∅,(by decide),nofun,nofun⟩,nofun,?_;intros p10 H10 s10 h10;refine⟨p9,p10,_,_,rfl,rfl,.inl ⟨aI.of (s10 _ _ h9),aI.of h10⟩,.inr (.inr ⟨rS _,rS _⟩),?_⟩;rw[K3];exact kk _ ((s2.trans s9).trans s10)
   ·rw[zd c1,Bool.false_and] at kk
    refine cm (zd c1) ?_;exact kk _ s2
def Jl {xs:List V} {x:V} (h:xs[xs.length-1]?=some x):Cw xs (-1)=some x:=by
 have hp:0<xs.length:=by
  have:=(zw.mp h).1;omega
 have ne:xs≠[]:=yq.mp hp;have e:=List.dropLast_concat_getLast ne;have e2:xs.getLast ne=x:=by
  have:=(zw.mp h).2;rw[List.getLast_eq_getElem];exact this
 rw[<-e,e2];exact L2.Az _ _
inductive xm (K:yA) (vs:List V) (H:Hp) (Q:VK) (E:XK):Prop
 | mk (p:Addr) (rs:List Rep) (v:V) (r:Rep) (_:vs=[.ref p,v]) (_:BL K H p rs) (_:Is H (jB r) v) (_:GX r.ends<64) (_:-1000000<=r.times) (_:r.times<=1000000) (_:∀H',au H H'->Q (.bl (lB rs r)) H')
def xu:aA ["repeats","repeat"] ["repeats","repeat"] (ao pw):=dC
def x9:di P w base 2 T.nU (xm K):=by
 nomatch T.nU,xu
 obtain⟨p,rs,v,r,rfl,⟨vs,hp,il⟩,iv,ht,t0,t1,kk⟩:=h;obtain⟨a,e,rfl,ha,he⟩:=fT iv;have vl:=aO il;have tail:(∀H',au H H'->Q (.bl (decide (r.first<=r.last)&&fX r)) H')->(if decide (r.first<=r.last)=true then gL uI [] E0 (bK (aY 1) eI) [some (.ref p),some (.ref a)] H Q else Q (.bl false) H):=by
  intro k
  by_cases c:r.first<=r.last
  ·rw[ze c,Bool.true_and] at k
   refine b9 (ze c) ?_;exact⟨_,rfl,_,r,rfl,iv,ht,t0,t1,k⟩
  ·rw[zd c,Bool.false_and] at k
   refine cm (zd c) ?_;exact k _ (au.refl _)
 refine⟨_,(ag (aF (PW.pt (cT (ptr fi (eQ aB T.bu (ah (pv 0) af)) ae) (cH (ptr gh (bN (pv 1) ae) (bN (fL (pv 0) (rT kZ ae)) ae)))))
  (aj (aq nV))
  ax)
  (aj (aq (tQ (dR gh (bN (pv 1) ae) (bN (pv 1) ae) (jg _)) (qy (bM (Fu T) hr T.y7 (ah (pv 1) af))))))),?_⟩
 ac_rfl;exists p,_,rfl,.inl hp,?_;rw[vl];left
 by_cases h0:0<rs.length
 ·refine b9 (ze nofun) ?_
  have hi:rs.length-1<vs.length:=nofun
  obtain⟨q,hq,iq⟩:=dt il (zb hi);obtain⟨b,eb,evb,hb,_⟩:=fT iq;have eg:rs.getLast?=some q:=by rw[List.getLast?_eq_getElem?];exact hq
  unfold lB at kk;rw[eg] at kk;left;refine⟨p,vs,-1,_,rfl,rfl,hp,Jl (by rw[vl];exact zb hi),?_⟩;rw[evb];left
  by_cases c:r.first<=q.last
  ·refine b9 (ze c) ?_
   simp only[if_pos c] at kk;change kk _ (au.refl _)
  ·refine cm (zd c) ?_
   simp only[if_neg c] at kk;change tail kk
 ·refine cm (zd nofun) ?_
  have e0:rs=[]:=yr.mp nofun;unfold lB at kk;rw[e0] at kk;change tail kk
def Jr (x:Sc.KW):Prop:=0<=x.aP.1/\x.aP.1<=1000/\0<x.aP.2/\x.aP.2<=1000
structure RI (C:Addr) (H:Hp) (a:Addr) (S:cG) (o:Ow):Prop where
 obj:∃ub jm,H a=some (.ins C o.dx (M3 o ub jm))
 ba:∃vs,H o.ba=some (.lst vs)/\ay H (S.aL.map kT) vs
def RI.of {C a:Addr} {H:Hp} {S:cG} {o:Ow} (h:bR C H a S o):RI C H a S o:=⟨by obtain⟨ub,jm,h1,_⟩:=h.obj;exact⟨ub,jm,h1⟩,h.ba⟩
inductive vy (C:Addr) (vs:List V) (H:Hp) (Q:VK) (E:XK):Prop
 | mk (a:Addr) (S:cG) (o:Ow) (b:Nat) (_:vs=[.ref a,.int b]) (_:RI C H a S o) (_:b<S.aL.length) (_:(∀x∈S.aL,Jr x)) (_:∀p H',au H H'->H' p=some (lY (S.aP b))->Q (.ref p) H')
def Ql {H:Hp} {b:Sc.KW} {v:V} (h:Is H (kT b) v):∃a m q,v=.ref a/\H a=some (.tup [.ref m,.int b.key,.ref q])/\H m=some (lY b.aP):=by
 unfold kT Is at h;obtain⟨a,vs,rfl,ha,hl⟩:=h;unfold ay at hl;obtain⟨v1,r1,rfl,h1,hl⟩:=hl;unfold ay at hl;obtain⟨v2,r2,rfl,h2,hl⟩:=hl;unfold ay at hl;obtain⟨v3,r3,rfl,h3,hl⟩:=hl;unfold ay at hl;subst hl;unfold Is at h2;subst h2;unfold mO Is at h3;obtain⟨q,us,rfl,hq,hle⟩:=h3;have:=fb (o:=some b.aP) h1;cases this with
 | ref hm=>exact⟨a,_,q,rfl,ha,hm⟩
def mi:aA ["score","bar","metre"] ["score","bar"] (ao nJ):=dC
def mG {C:Addr} (F:Cf K C):di P w base 3 T.iE (vy C):=by
 nomatch T.iE,mi
 obtain⟨a,S,o,b,rfl,sc,hb,bV,kk⟩:=h;obtain⟨ub,jm,ho⟩:=sc.obj;obtain⟨vs,hv,il⟩:=sc.ba;have hi:b<vs.length:=by rw[aO il];exact hb
 obtain⟨x,hx,ix⟩:=dt il (zb hi);obtain⟨a1,m,q,ev,h1,hm⟩:=Ql ix;obtain⟨k1,k2,k3,k4⟩:=bV x (zB hx);unfold cG.aP at kk;rw[hx] at kk;refine⟨_,(ag (bS 2 mi.nd (bN (fL (bD (pv 0) rfl) (pv 1)) ae))
  (aj (aq (bM (jf T) hr T.eL (ah (bN (pv 2) ae) (ah (bN (pv 2) ae) af)))))),?_⟩
 ac_rfl;exists a,C,o.dx,_,_,rfl,ho,F.cls,F.aL,rfl,?_;left;refine⟨o.ba,vs,b,_,rfl,rfl,aI.of hv,bz (zb hi),?_⟩;rw[ev];change⟨_,_,rfl,k1,k3,(dj (n:=10) nofun nofun).mono ∅,fun p H' s' h'=>kk p H' s' h'⟩
inductive xk (C:Addr) (vs:List V) (H:Hp) (Q:VK) (E:XK):Prop
 | mk (a:Addr) (S:cG) (o:Ow) (b:Nat) (_:vs=[.ref a,.int b]) (_:bR C H a S o) (_:b<S.aL.length) (_:(∀x∈S.aL,Jr x)) (_:∀p H',au H H'->H' p=some (lY (S.len b))->Q (.ref p) H')
def xt:aA ["score","bar"] ["score","bar"] (ao pj):=dC
def x6 {C:Addr} (F:Cf K C):di P w base 4 T.mX (xk C):=by
 nomatch T.mX,xt
 obtain⟨a,S,o,b,rfl,sc,hb,bV,kk⟩:=h;obtain⟨ub,jm,ho,hub,hjm⟩:=sc.obj;unfold cG.len at kk;refine⟨_,(ag (aF (PW.pt (cT (ptr cY (pv 1) ae) (cH (bq (fq (bD (pv 0) rfl))))))
  (aj (aq (bD (pv 0) rfl)))
  ax)
  (aj (aq (bM (mG T F) hr T.iE (ah (pv 0) (ah (pv 1) af)))))),?_⟩
 ac_rfl;left
 by_cases c:b=0
 ·refine b9 (by rw[c];rfl) ?_
  exists a,C,o.dx,_,_,rfl,ho,F.cls,F.aE,rfl,?_;cases q:S.aE with
  | none=>
   rw[q] at kk hub;unfold dO Is at hub;subst hub;change⟨a,S,o,b,rfl,.of sc,hb,bV,kk⟩
  | some u=>
   rw[q] at kk hub;cases fb (o:=some u) hub with
   | ref hu=>
    exists a,C,o.dx,_,_,rfl,ho,F.cls,F.aE,rfl,?_;refine kk _ _ (au.refl _) ?_;simp only[if_pos c];exact hu
 ·refine cm (zd fun z=>c (by have:=V.int.inj z;omega)) ?_
  left;refine⟨a,S,o,b,rfl,.of sc,hb,bV,fun p H' s' h'=>kk p H' s' ?_⟩;cases q:S.aE with
  | none=>exact h'
  | some u=>simp only[if_neg c];exact h'
theorem jk (n:Str):∀ns:List Str,Et (.str n) (ns.map V.str)=decide (n∈ns)
 | []=>rfl
 | m::ns=>by
  have ih:=jk n ns;unfold Et at ih ⊢;rw[zh,List.any_cons,ih]
  by_cases e:n=m
  ·subst e
   simp[HI]
  ·have e':¬m=n:=fun z=>e z.symm
   simp[HI,e,e']
theorem gr:∀ns:List Str,(ns.map V.str).all mL=true
 | []=>rfl
 | n::ns=>by rw[zh,List.all_cons,gr ns];rfl
inductive fh (C:Addr) (D:Hp->V->cG->Option Str->Prop) (vs:List V) (H:Hp) (Q:VK) (E:XK):Prop
 | mk (a:Addr) (S:cG) (o:Ow) (v:V) (f:Option Str) (_:vs=[.ref a,v]) (_:bR C H a S o) (_:D H v S f) (_:∀H',au H H'->Q (os f) H')
def mf (C:Addr):Sp:=fh C fun _ v S f=>∃n,v=.str n/\f=fault S (.bA n)
def vJ:aA ["score","player"] ["score","player"] (ao nI):=dC
def vP {C:Addr} (F:Cf K C):di P w base 1 T.iB (mf C):=by
 nomatch T.iB,vJ
 obtain⟨a,S,o,v,f,rfl,sc,⟨n,rfl,rfl⟩,kk⟩:=h;obtain⟨ub,jm,ho,hub,hjm⟩:=sc.obj;have k:=kk H (au.refl H);unfold fault at k;dsimp only at k;refine⟨_,(ag (aF (iA oE (pv 1) (bD (pv 0) rfl) (by with_unfolding_all rfl))
  (aj (aq aJ))
  ax)
  (ag (aF (ptr B6 (eQ aB T.bu (ah (bD (pv 0) rfl) af)) (bQ (v:=.int (12)) (by rfl) T.Av ⟨_,rfl⟩))
  (aj (aq aJ))
  ax)
  (aj (aq aQ)))),?_⟩
 ac_rfl;exists a,C,o.dx,_,_,rfl,ho,F.cls,F.players,rfl,?_;refine⟨o.pl,_,rfl,.inl (aI.of sc.pl),rfl,gr _,?_⟩;show∃k,V.bl (Et (.str n) (S.players.map V.str))=.bl k/\_;rw[jk]
 by_cases c1:n∈S.players
 ·rw[ze c1]
  rw[if_pos c1] at k;change k
 ·rw[zd c1]
  rw[if_neg c1] at k;exists a,C,o.dx,_,_,rfl,ho,F.cls,F.players,rfl,?_;exists o.pl,_,rfl,.inl (aI.of sc.pl),?_;rw[za];left
  by_cases c2:12<=S.players.length
  ·refine b9 (ze nofun) ?_
   rw[if_pos c2] at k;change k
  ·refine cm (zd nofun) ?_
   rw[if_neg c2] at k;change k
def qW (C:Addr):Sp:=fh C fun _ _ S f=>∃b,f=fault S (.bar b)
def C3:aA ["score","told"] ["score","told"] (ao uZ):=dC
def Dp {C:Addr} (F:Cf K C):di P w base 1 T.oN (qW C):=by
 nomatch T.oN,C3
 obtain⟨a,S,o,v,f,rfl,sc,⟨b,rfl⟩,kk⟩:=h;obtain⟨ub,jm,ho,hub,hjm⟩:=sc.obj;obtain⟨vs,hv,il⟩:=sc.ba;have vl:=aO il;have k:=kk H (au.refl H);unfold fault at k;dsimp only at k;refine⟨_,(ag (aF (ptr B6 (eQ aB T.bu (ah (bD (pv 0) rfl) af)) (bQ (v:=.int (200)) (by rfl) T.Gq ⟨_,rfl⟩))
  (aj (aq aJ))
  ax)
  (aj (aq aQ))),?_⟩
 ac_rfl;exists a,C,o.dx,_,_,rfl,ho,F.cls,F.aL,rfl,?_;exists o.ba,_,rfl,.inl (aI.of hv),?_;rw[vl];left
 by_cases c2:200<=S.aL.length
 ·refine b9 (ze nofun) ?_
  rw[if_pos c2] at k;change k
 ·refine cm (zd nofun) ?_
  rw[if_neg c2] at k;change k
theorem qT (n:Str):∀{ks:List Str} {vs:List V},vs.length=ks.length->(e9 ((ks.map kS).zip vs) (kS n)).isSome=decide (n∈ks)
 | [],_,_=>by simp[e9]
 | k::ks,[],h=>by simp at h
 | k::ks,v::vs,h=>by
  have ih:=qT n (ks:=ks) (vs:=vs) (by simpa using h);rw[zh,List.zip_cons_cons];unfold e9 at ih ⊢;rw[List.find?_cons]
  by_cases e:k=n
  ·subst e
   simp
  ·have e1:¬kS k=kS n:=fun z=>e (Sum.inr.inj z)
   have e2:¬n=k:=fun z=>e z.symm;simp only[e1,decide_false] at ih ⊢;rw[ih];simp[e2]
def ia (C:Addr):Sp:=fh C fun H v S f=>∃x,Is H (eA x) v/\f=fault S (.cF x.1 x.2.1 x.2.2)
def FJ {H:Hp} {x:Str×(Int×Int)×(Int×Int)} {v:V} (h:Is H (eA x) v):∃a t l,v=.ref a/\H a=some (.tup [.str x.1,t,l])/\Is H (dL x.2.1) t/\Is H (dL x.2.2) l:=by
 unfold eA Is at h;obtain⟨a,vs,rfl,ha,hl⟩:=h;unfold ay at hl;obtain⟨v1,r1,rfl,h1,hl⟩:=hl;unfold ay at hl;obtain⟨v2,r2,rfl,h2,hl⟩:=hl;unfold ay at hl;obtain⟨v3,r3,rfl,h3,hl⟩:=hl;unfold ay at hl;subst hl;unfold Is at h1;subst h1;exact⟨a,v2,v3,rfl,ha,h2,h3⟩
def oS:aA ["score","told"] ["score","told"] (ao i4):=dC
def oV {C:Addr} (F:Cf K C):di P w base 1 T.eW (ia C):=by
 nomatch T.eW,oS
 obtain⟨a,S,o,v,f,rfl,sc,⟨x,iv,rfl⟩,kk⟩:=h;obtain⟨ub,jm,ho,hub,hjm⟩:=sc.obj;obtain⟨vs,hv,il⟩:=sc.ins;obtain⟨a1,t,l,rfl,h1,_,_⟩:=FJ iv;have vl:=aO il;have em:(S.ak.map fun x=>kS x.1)=(S.ak.map (·.1)).map kS:=by rw[zA];rfl
 have k:=kk H (au.refl H);unfold fault at k;dsimp only at k;refine⟨_,(ag (aF (bq (Hk (mK hr) (bN (pv 1) ae) (bD (pv 0) rfl)))
  (aj (aq aJ))
  ax)
  (ag (aF (ptr B6 (eQ Ic T.bu (ah (bD (pv 0) rfl) af)) (bQ (v:=.int (12)) (by rfl) T.qK ⟨_,rfl⟩))
  (aj (aq aJ))
  ax)
  (aj (aq aQ)))),?_⟩
 ac_rfl;exists a,C,o.dx,_,_,rfl,ho,F.cls,F.ak,rfl,?_;refine⟨o.ins,_,rfl,.inl ⟨_,kS x.1,.inl hv,rfl,rfl⟩,?_⟩;rw[em,qT x.1 (by rw[za];exact vl)];left
 by_cases c1:x.1∈S.ak.map (·.1)
 ·rw[ze c1]
  rw[if_pos c1] at k;change k
 ·rw[zd c1]
  rw[if_neg c1] at k;exists a,C,o.dx,_,_,rfl,ho,F.cls,F.ak,rfl,?_;exists o.ins,_,rfl,hv,?_;rw[List.length_zip,za,vl,Nat.min_self];left
  by_cases c2:12<=S.ak.length
  ·refine b9 (ze nofun) ?_
   rw[if_pos c2] at k;change k
  ·refine cm (zd nofun) ?_
   rw[if_neg c2] at k;change k
inductive ET (K:yA) (C:Addr) (vs:List V) (H:Hp) (Q:VK) (E:XK):Prop
 | mk (a p:Addr) (S:cG) (o:Ow) (bs:List Int) (_:vs=[.ref a,.ref p]) (_:bR C H a S o) (_:aI K H p (bs.map V.int)) (_:bs.length<=1000000) (_:∀H',au H H'->Q (.bl (S.has bs)) H')
def EY:aA ["score","bars"] ["score","bars"] (ao xE):=dC
def jR {C:Addr} (F:Cf K C):di P w base 1 T.kP (ET K C):=by
 nomatch T.kP,EY
 obtain⟨a,p,S,o,bs,rfl,sc,hp,hl,kk⟩:=h;have sl:=yB;refine⟨_,(aj (aq (eQ (oM rfl) T.IV (ah (pK (ts:=["bar"]) (ys:=["score"]) (js:=[0]) (te:=(fA (vM fun i j=>.bl (decide (i<j))) (aY 0) (JE (Sy K) (bK (Nh K (aY 1) "bars") eI)))) (bo (pv 1)) (gO 0) bj (dR eY (pv 0) (eQ aB T.bu (ah (bD (pv 1) rfl) af)) (jg _))) af)))),?_⟩;ac_rfl;exists⟨_,hp⟩,?_;refine fH (enc:=V.int) (ws:=bs) (fun z=>.bl (decide (z<(S.aL.length:Int)))) (fun σ=>∃v,σ=[v,some (.ref a)]) nofun hp ⟨none,rfl⟩ ?_ ?_
 ·rintro z σ H1 R hz s1 ⟨_,rfl⟩ r
  have sc1:=sc.mono s1;obtain⟨ub,jm,ho,hub,hjm⟩:=sc1.obj;obtain⟨vs,hv,il⟩:=sc1.ba;have vl:=aO il;exists a,C,o.dx,_,_,rfl,ho,F.cls,F.aL,rfl,?_;exists o.ba,vs,rfl,.inl (aI.of hv),?_;rw[vl];change r _ _ _ (au.refl _) (by unfold Is;rfl) ⟨_,rfl⟩
 ·intro D vs H1 s1 hD il
  have e:bs.map (fun z=>Dt.bl (decide (z<(S.aL.length:Int))))=(bs.map fun z=>decide (z<(S.aL.length:Int))).map Dt.bl:=by rw[zA];rfl
  rw[e] at il;rw[kg il] at hD;refine⟨D,_,rfl,aI.of hD,?_⟩;have e2:(bs.map fun z=>decide (z<(S.aL.length:Int))).all id=S.has bs:=by rw[List.all_map];rfl
  rw[e2];exact kk _ s1
inductive vz (K:yA) (vs:List V) (H:Hp) (Q:VK) (E:XK):Prop
 | mk (p:Addr) (us:List V) (its:List Item) (_:vs=[.ref p]) (_:aI K H p us) (_:ay H (its.map eO) us) (_:its.length<=500) (_:(∀it∈its,M8 it.2)) (_:∀r H',au H H'->H' r=some (lY (j6 its))->Q (.ref r) H')
def tm (l:List Item) (it:Item):j6 (l++[it])=add (j6 l) it.2:=by unfold j6;rw[zX];rfl
def fk:aA ["items","length","item"] ["items"] (ao nK):=dC
def vQ:di P w base 4 T.lL (vz K):=by
 nomatch T.lL,fk
 obtain⟨p,us,its,rfl,hp,il,hl,bV,kk⟩:=h;have sl:=yB;have ul:=aO il;refine⟨_,(ag (bS 1 fk.nd (bF (ah ae (ah ae af))))
  (ag (cB PassesOwn.never rfl (bo (pv 0)) (jP 2 fk.nd)
  (aj (bS 1 fk.nd (bM (L6 T) hr T.added (ah (pv 1) (ah (bN (pv 2) ae) af))))))
  (aj (aq (pv 1))))),?_⟩
 ac_rfl;exists dn,?_;intros p1 H1 s1 h1;exists⟨_,s1.seq hp⟩,?_;refine dP (K:=K) (a:=p) (xs:=us) (fun i σ H'=>au H H'/\∃q v,σ=[some (.ref p),some (.ref q),v]/\H' q=some (lY (j6 (its.take i)))/\Lm.Rd (j6 (its.take i))/\AU (15*i+1) (j6 (its.take i))) ⟨s1,p1,none,rfl,h1,?_,?_⟩ (fun i σ H' _ h=>h.1.seq hp) ?_ ?_
 ·exact Lm.Rd.zero
 ·show AU 1 (0,1)
  exact⟨dj ∅ ∅,dj ∅ ∅⟩
 ·rintro i x σ H2 hx ⟨s2,q,v,rfl,hq,rq,zq⟩
  obtain⟨it,hit,iit⟩:=dt il hx;obtain⟨a6,pv,lv,rfl,h6,_,i8⟩:=item_at (iit.mono s2);have hi:i<its.length:=(zw.mp hit).1;obtain⟨ok1,RF,S7,ok4⟩:=bV it (zB hit);cases fb (o:=some it.2) i8 with
  | ref h8=>
   have zi:AU 14 it.2:=⟨dj nofun nofun,dj (by have:=ok1.pos;omega) nofun⟩
   exists _,_,_,_,_,_,rfl,hq,h8,rq,ok1,zq,zi,nofun,fun r H3 s3 h3=>?_;have e:=cS hit;refine⟨s2.trans s3,r,_,rfl,?_,?_,?_⟩
   ·rw[e,tm];exact h3
   ·rw[e,tm];exact rq.add ok1
   ·rw[e,tm];exact⟨(AU.add rq ok1 zq zi).1.mono nofun,(AU.add rq ok1 zq zi).2.mono nofun⟩
 ·rintro σ H2 ⟨s2,q,v,rfl,hq,_,_⟩
  rw[ul,zM] at hq;change kk _ _ s2 hq
def Em (S:cG):Prop:=∀r∈S.repeats,r.ends.length<=1000000
def o6 (C:Addr):Sp:=fh C fun H v S f=>∃j,Is H (jq j) v/\Em S/\f=fault S (.bZ j)
def FW {l:List V} {i:Nat} {x:V} (h:l[i]?=some x):(l.take (i+1)).filter (fun v=>!gi v)=(l.take i).filter (fun v=>!gi v)++(if gi x=true then [] else [x]):=by
 rw[cS h,List.filter_append];cases q:gi x with
 | true=>simp[q]
 | false=>simp[q]
def A7:aA ["score","jump"] ["score","jump"] (ao rF):=dC
def Bh {C:Addr} (F:Cf K C):di P w base 5 T.lK (o6 C):=by
 nomatch T.lK,A7
 obtain⟨a,S,o,v,f,rfl,sc,⟨j,iv,rok,rfl⟩,kk⟩:=h;have sl:=yB;obtain⟨ub,jm,ho,hub,hjm⟩:=sc.obj;obtain⟨vs,hv,il⟩:=sc.re;obtain⟨a1,rfl,h1⟩:=wK iv;unfold fault at kk;dsimp only at kk;refine⟨_,(ag (aF (bq (fq (bD (pv 0) rfl)))
  (aj (aq aJ))
  ax)
  (ag (aF (fw (cU (bM (jR T F) hr T.kP (ah (pv 0) (ah (pK (ts:=["bar"]) (ys:=[]) (js:=[]) (g:=(b7 0)) (tc:=(tB (Le (aY 0)))) (te:=(aY 0)) (kc (pv 1)) (gO 0) (iC (bq (fq (pv 0)))) (pv 0)) af)))))
  (aj (aq aJ))
  ax)
  (ag (aF (fw (cU (bM (Dl T) hr T.uf (ah (bD (pv 0) rfl) (ah (pv 1) af)))))
  (aj (aq aJ))
  ax)
  (aj (aq aQ))))),?_⟩
 ac_rfl;exists a,C,o.dx,_,_,rfl,ho,F.cls,F.bZ,rfl,?_;cases q:S.bZ with
 | some j'=>
  rw[q] at hjm kk;obtain⟨a2,rfl,_⟩:=wK hjm;change kk _ (au.refl _)
 | none=>
  rw[q] at hjm kk;unfold dO Is at hjm;subst hjm;rw[if_neg ∅] at kk;exists⟨_,du.of h1⟩,?_;generalize hw:[V.int j.wL,V.int j.AS,V.int j.dr,ov j.gy]=ws at h1;have wl:ws.length=4:=by rw[<-hw];rfl
  refine oo ws.length (fun i=>(ws.take i).filter fun v=>!gi v) (fun i σ H'=>H'=H/\∃v,σ=[v]) (fun i hi=>zL (List.length_filter_le _ _) (by rw[zP];omega)) nofun rfl ⟨rfl,none,rfl⟩ ?_ ?_ ?_ ?_
  ·rintro i σ H' hi ⟨rfl,_⟩
   exact HD (du.of h1) hi
  ·rintro σ H' ⟨rfl,_⟩
   exact⟨_,du.of h1,zk _⟩
  ·rintro i x σ H' H2 hi ⟨rfl,v,rfl⟩ ⟨rfl,hy⟩
   have hx:=hy _ (du.of h1);left
   by_cases e:x=.bC
   ·refine cm (by rw[ze e];rfl) ?_
    refine GK.skip hi ?_ ⟨rfl,_,rfl⟩;show List.filter _ (List.take (i+1) ws)=List.filter _ (List.take i ws);rw[FW hx,if_pos (show gi x=true from ze e),zU]
   ·refine b9 (by rw[zd e];rfl) ?_
    left;refine GK.push hi ?_ ⟨rfl,_,rfl⟩;show List.filter _ (List.take (i+1) ws)=List.filter _ (List.take i ws)++[x];rw[FW hx,if_neg (by unfold gi;rw[zd e];decide)]
  ·rintro σ H' ⟨rfl,_⟩
   rw[zM];have ef:(ws.filter fun v=>!gi v)=([j.wL,j.AS,j.dr]++j.gy.toList).map V.int:=by
    rw[<-hw];cases j.gy <;> rfl
   rw[ef];intros D H2 s2 h2;refine⟨a,D,S,o,_,rfl,sc.mono s2,aI.of h2,?_,fun H3 s3=>?_⟩
   ·cases j.gy <;> simp
   ·cases qb:S.has ([j.wL,j.AS,j.dr]++j.gy.toList) with
    | false=>
     rw[qb] at kk;change kk _ (s2.trans s3)
    | true=>
     rw[qb,if_neg (by simp)] at kk;have s03:=s2.trans s3;have sc3:=sc.mono s03;exists a,C,o.dx,_,_,rfl,s03 _ _ ho,F.cls,F.repeats,rfl,?_;exists o.re,S.repeats,_,j,rfl,⟨vs,aI.of (s03 _ _ hv),il.mono s03⟩,rok,iv.mono s03,fun H4 s4=>?_;cases qj:gS S.repeats j with
     | false=>
      rw[qj] at kk;change kk _ (s03.trans s4)
     | true=>
      rw[qj,if_neg (by simp)] at kk;change kk _ (s03.trans s4)
def md (C:Addr):Sp:=fh C fun H v S f=>∃r:Rep,Is H (jB r) v/\GX r.ends<64/\r.ends.length<=1000/\-1000000<=r.times/\r.times<=1000000/\f=fault S (.rep r)
def vI:aA ["score","repeat"] ["score","repeat"] (ao nH):=dC
def vO {C:Addr} (F:Cf K C):di P w base 3 T.iz (md C):=by
 nomatch T.iz,vI
 obtain⟨a,S,o,v,f,rfl,sc,⟨r,iv,ht,hl,t0,t1,rfl⟩,kk⟩:=h;have sl:=yB;obtain⟨ub,jm,ho,hub,hjm⟩:=sc.obj;obtain⟨vs,hv,il⟩:=sc.re;have vl:=aO il;obtain⟨a1,e,rfl,h1,he⟩:=fT iv;unfold Is at he;obtain⟨e',us,ee,hu,ilu⟩:=he;cases ee;unfold fault at kk;dsimp only at kk;refine⟨_,(ag (aF (fw (cU (bM (jR T F) hr T.kP (ah (pv 0) (ah (ar gE (bx (ah (bN (pv 1) ae) (ah (bN (pv 1) ae) af))) (pK (ts:=["end"]) (ys:=[]) (js:=[]) (te:=(fA (qx K) (aY 0) (tC (.int (0))))) (kc (bN (pv 1) ae)) (gO 0) bj (bN (pv 0) ae))) af)))))
  (aj (aq aJ))
  ax)
  (ag (aF (PW.pt (eC (bq (fq (bD (pv 0) rfl))) (dq (fw (cU (bM (x9 T) hr T.nU (ah (bD (pv 0) rfl) (ah (pv 1) af))))))))
  (aj (aq aJ))
  ax)
  (ag (aF (ptr B6 (eQ aB T.bu (ah (bD (pv 0) rfl) af)) (bQ (v:=.int (20)) (by rfl) T.Au ⟨_,rfl⟩))
  (aj (aq aJ))
  ax)
  (aj (aq aQ))))),?_⟩
 ac_rfl;exists dn,?_;intros p2 H2 s2 h2;have h12:=s2 _ _ h1;exists⟨_,du.of (s2 _ _ hu)⟩,?_;obtain⟨ps,f1,f2,f3⟩:=wM ilu;have pl:ps.length<=1000:=by
  have:ps.length=r.ends.length:=by rw[<-f1,za]
  omega
 refine gx (enc:=fun z:Sc.End×V=>z.2) (ws:=ps) (fun z=>.int z.1.1) (fun σ=>∃v,σ=[v]) nofun (by rw[f2];exact s2 _ _ hu) ⟨none,rfl⟩ ?_ ?_
 ·rintro z σ H6 R' hz s6 ⟨_,rfl⟩ r'
  obtain⟨a6,q6,ev,h6,h7⟩:=uj (f3 z hz);rw[ev];have h66:=s6 _ _ (s2 _ _ h6);change r' _ _ _ (au.refl _) cP ⟨_,rfl⟩
 ·intro D vs5 H3 s3 hD il5
  have e5:ps.map (fun z=>Dt.int z.1.1)=(r.ends.map (·.1)).map Dt.int:=by rw[<-f1,zA,zA];rfl
  rw[e5] at il5;rw[fu il5] at hD;refine⟨p2,D,_,_,rfl,rfl,aI.of (s3 _ _ h2),aI.of hD,by rw[za,za];show 2+_<=_;omega,?_⟩;rw[show [V.int r.first,V.int r.last]++List.map V.int (r.ends.map (·.1))=([r.first,r.last]++r.ends.map (·.1)).map V.int from by rw[zj];rfl];intros p4 H4 s4 h4;have s04:=(s2.trans s3).trans s4;refine⟨a,p4,S,o,_,rfl,sc.mono s04,aI.of h4,by rw[zg,za];show 2+_<=_;omega,fun H5 s5=>?_⟩;have s05:=s04.trans s5;cases qb:S.has ([r.first,r.last]++r.ends.map (·.1)) with
  | false=>
   rw[qb] at kk;change kk _ s05
  | true=>
   rw[qb,if_neg (by simp)] at kk;exists a,C,o.dx,_,_,rfl,s05 _ _ ho,F.cls,F.bZ,rfl,?_;cases q:S.bZ with
   | some j'=>
    rw[q] at hjm kk;obtain⟨a2,rfl,_⟩:=wK hjm;change kk _ s05
   | none=>
    rw[q] at hjm kk;unfold dO Is at hjm;subst hjm;rw[if_neg ∅] at kk;exists a,C,o.dx,_,_,rfl,s05 _ _ ho,F.cls,F.repeats,rfl,?_;exists o.re,S.repeats,_,r,rfl,⟨vs,aI.of (s05 _ _ hv),il.mono s05⟩,iv.mono s05,ht,t0,t1,fun H6 s6=>?_;have s06:=s05.trans s6;cases qj:lB S.repeats r with
    | false=>
     rw[qj] at kk;change kk _ s06
    | true=>
     rw[qj,if_neg (by simp)] at kk;exists a,C,o.dx,_,_,rfl,s06 _ _ ho,F.cls,F.repeats,rfl,?_;exists o.re,vs,rfl,.inl (aI.of (s06 _ _ hv)),?_;rw[vl];left
     by_cases c2:20<=S.repeats.length
     ·refine b9 (ze nofun) ?_
      rw[if_pos c2] at kk;change kk _ s06
     ·refine cm (zd nofun) ?_
      rw[if_neg c2] at kk;change kk _ s06
theorem EC (n:Int×Str):∀{ks:List (Int×Str)} {vs:List V},vs.length=ks.length->(e9 ((ks.map kN).zip vs) (kN n)).isSome=decide (n∈ks)
 | [],_,_=>by simp[e9]
 | k::ks,[],h=>by simp at h
 | k::ks,v::vs,h=>by
  have ih:=EC n (ks:=ks) (vs:=vs) (by simpa using h);rw[zh,List.zip_cons_cons];unfold e9 at ih ⊢;rw[List.find?_cons]
  by_cases e:k=n
  ·subst e
   simp
  ·have e1:¬kN k=kN n:=fun z=>e (by
    unfold kN at z;simp at z;exact Prod.ext z.1 z.2)
   have e2:¬n=k:=fun z=>e z.symm;simp only[e1,decide_false] at ih ⊢;rw[ih];simp[e2]
theorem oH {α:Type} {d:α->Dt} {H:Hp}:∀{ls:List (List α)} {as:List Addr},b8 H d ls as->as.length=ls.length
 | [],_,h=>by unfold b8 at h;rw[h];rfl
 | l::r,_,⟨a,t,vs,e,_,_,h3⟩=>by rw[e,zt,zt,oH h3]
def NM {x y:Int×Int}:decide ([V.int x.1,V.int x.2]=[V.int y.1,V.int y.2])=decide (x=y):=by
 by_cases h:x=y
 ·subst h;simp
 ·rw[zd h,zd]
  intro z;simp at z;exact h (Prod.ext z.1 z.2)
def ng (C:Addr):Sp:=fh C fun H v S f=>∃x:Int×Str×List Item,Jo H v x/\0<=x.1/\x.2.2.length<=500/\(∀it∈x.2.2,M8 it.2)/\(∀b∈S.aL,Jr b)/\f=fault S (.aG x.1 x.2.1 x.2.2)
def fP:aA ["score","told","bar","player","items"] ["score","told"] (ao pH):=dC
def yP {C:Addr} (F:Cf K C):di P w base 5 T.jS (ng C):=by
 nomatch T.jS,fP
 obtain⟨a,S,o,v,f,rfl,sc,⟨⟨b,pn,its⟩,⟨a1,q,us,rfl,h1,hq,ilq⟩,b0,il5,iok,bok,rfl⟩,kk⟩:=h;have sl:=yB;obtain⟨ub,jm,ho,hub,hjm⟩:=sc.obj;have nl:(o.ns.map V.ref).length=(S.aG.map (·.1)).length:=by rw[za,za,oH sc.no.2,za]
 have em:(S.aG.map fun x=>kN x.1)=(S.aG.map (·.1)).map kN:=by rw[zA];rfl
 unfold fault at kk;dsimp only at kk h1 b0 il5 iok ilq;refine⟨_,(ag (bS 2 fP.nd (bN (pv 1) ae))
  (ag (bS 3 fP.nd (bN (pv 1) ae))
  (ag (bS 4 fP.nd (bN (pv 1) ae))
  (ag (aF (bq (Hk (mK hr) (bF (ah (pv 2) (ah (pv 3) af))) (bD (pv 0) rfl)))
  (aj (aq aJ))
  ax)
  (ag (aF (iA dS (pv 3) (bD (pv 0) rfl) (by with_unfolding_all rfl))
  (aj (aq aJ))
  ax)
  (ag (aF (fw (cU (bM (jR T F) hr T.kP (ah (pv 0) (ah (bx (ah (pv 2) af)) af)))))
  (aj (aq aJ))
  ax)
  (ag (aF (ptr (C9 hr.units) (bM (vQ T) hr T.lL (ah (pv 4) af)) (bM (x6 T F) hr T.mX (ah (pv 0) (ah (pv 2) af))))
  (aj (aq aJ))
  ax)
  (ag (aF (ptr fi (eQ aB T.bu (ah (pv 4) af)) (bQ (v:=.int (40)) (by rfl) T.DX ⟨_,rfl⟩))
  (aj (aq aJ))
  ax)
  (aj (aq aQ)))))))))),?_⟩
 ac_rfl;exists dn,?_;intros p2 H2 s2 h2;have h12:=s2 _ _ h1;exists a,C,o.dx,_,_,rfl,s2 _ _ ho,F.cls,F.aG,rfl,?_;refine⟨o.no,_,rfl,.inr ⟨_,kN (b,pn),p2,.inl (s2 _ _ sc.no.1),rfl,h2,rfl⟩,?_⟩;rw[em,EC (b,pn) nl];left
 by_cases c1:(b,pn)∈S.aG.map (·.1)
 ·rw[ze c1]
  rw[if_pos c1] at kk;change kk _ s2
 ·rw[zd c1]
  rw[if_neg c1] at kk;exists a,C,o.dx,_,_,rfl,s2 _ _ ho,F.cls,F.players,rfl,?_;refine⟨o.pl,_,rfl,.inl (aI.of (s2 _ _ sc.pl)),rfl,gr _,?_⟩;show∃k,V.bl (!Et (.str pn) (S.players.map V.str))=.bl k/\_;rw[jk]
  by_cases c2:pn∈S.players
  ·rw[ze c2]
   rw[if_neg (fun z=>z c2)] at kk;exists by show 1<=sizeLine;omega,?_
   intros p3 H3 s3 h3;refine⟨a,p3,S,o,[b],rfl,sc.mono (s2.trans s3),aI.of h3,(by show 1<=1000000;decide),fun H4 s4=>?_⟩;have s04:=(s2.trans s3).trans s4;cases qb:S.has [b] with
   | false=>
    rw[qb] at kk;change kk _ s04
   | true=>
    rw[qb,if_neg (by simp)] at kk;have hb:b<S.aL.length:=by
     unfold cG.has at qb
     simpa using qb
    obtain⟨n,rfl⟩:=yK b0;exists q,us,its,rfl,aI.of (s04 _ _ hq),ilq.mono s04,il5,iok,fun r5 H5 s5 h5=>?_;exists a,S,o,n,rfl,sc.mono (s04.trans s5),nofun,bok,fun r6 H6 s6 h6=>?_;have s06:=(s04.trans s5).trans s6;refine⟨r5,r6,_,_,rfl,rfl,.inr ⟨du.of (s6 _ _ h5),du.of h6⟩,.inr (.inr ⟨rfl,rfl⟩),?_⟩;rw[NM]
    by_cases c3:j6 its=S.len n
    ·rw[ze c3]
     rw[if_neg (fun z=>z c3)] at kk;exists q,us,rfl,.inl (aI.of (s06 _ _ hq)),?_;rw[aO ilq];left
     by_cases c4:40<its.length
     ·refine b9 (ze nofun) ?_
      rw[if_pos c4] at kk;change kk _ s06
     ·refine cm (zd nofun) ?_
      rw[if_neg c4] at kk;change kk _ s06
    ·rw[zd c3]
     rw[if_pos (show j6 its≠S.len ((n:Int)).toNat from c3)] at kk;change kk _ s06
  ·rw[zd c2]
   rw[if_pos c2] at kk;change kk _ s2
def both {c:Bool} {T:(Bool->Hp->Prop)->Prop} {Z:Bool->Hp->Prop} {H:Hp} (v:Bool) (h1:c=true->∀Z,Z v H->T Z) (h2:c=false->v=false) (hz:Z v H):if c=true then T Z else Z false H:=by
 cases c with
 | true=>rw[if_pos rfl];exact h1 rfl Z hz
 | false=>rw[if_neg (by simp)];rw[<-h2 rfl];exact hz
theorem ug {H:Hp} {α:Type} {d:α->Dt} (p:Str):∀{hs:List (Str×List α)} {as:List Addr},b8 H d (hs.map (·.2)) as->
  (hs.lookup p=none/\e9 ((hs.map fun x=>kS x.1).zip (as.map V.ref)) (kS p)=none)\/∃l h vs,hs.lookup p=some l/\e9 ((hs.map fun x=>kS x.1).zip (as.map V.ref)) (kS p)=some (.ref h)/\H h=some (.lst vs)/\ay H (l.map d) vs
 | [],_,h=>.inl ⟨rfl,by simp[e9]⟩
 | (x,l)::r,as,h=>by
  rw[zh] at h;unfold b8 at h;obtain⟨a,t,vs,rfl,h1,h2,h3⟩:=h;rw[zh,zh,List.zip_cons_cons]
  by_cases e:x=p
  ·subst e
   refine .inr ⟨l,a,vs,by rw[yp,beq_self_eq_true],?_,h1,h2⟩;unfold e9;rw[List.find?_cons];simp
  ·have e1:¬kS x=kS p:=fun z=>e (Sum.inr.inj z)
   have e2:(p == x)=false:=by simp;exact fun z=>e z.symm
   have ih:=ug p h3;unfold e9 at ih ⊢;rw[List.find?_cons,yp,e2];simp only[e1,decide_false];exact ih
def OJ {H:Hp} {x:Int×Str} {v:V} (h:Is H (HX x) v):∃a,v=.ref a/\H a=some (.tup [.int x.1,.str x.2]):=by
 unfold HX Is at h;obtain⟨a,vs,rfl,ha,hl⟩:=h;unfold ay at hl;obtain⟨v1,r1,rfl,h1,hl⟩:=hl;unfold ay at hl;obtain⟨v2,r2,rfl,h2,hl⟩:=hl;unfold ay at hl;subst hl;unfold Is at h1 h2;subst h1 h2;exact⟨a,rfl,ha⟩
def I9 {H:Hp} {x:Str×Int×Str} {v:V} (h:Is H (vm x) v):∃a,v=.ref a/\H a=some (.tup [.str x.1,.int x.2.1,.str x.2.2]):=by
 unfold vm Is at h;obtain⟨a,vs,rfl,ha,hl⟩:=h;unfold ay at hl;obtain⟨v1,r1,rfl,h1,hl⟩:=hl;unfold ay at hl;obtain⟨v2,r2,rfl,h2,hl⟩:=hl;unfold ay at hl;obtain⟨v3,r3,rfl,h3,hl⟩:=hl;unfold ay at hl;subst hl;unfold Is at h1 h2 h3;subst h1 h2 h3;exact⟨a,rfl,ha⟩
def o7 (C:Addr):Sp:=fh C fun H v S f=>∃x:Str×Int×Str,Is H (vm x) v/\f=fault S (.holds x.1 x.2.1 x.2.2)
def ka:aA ["score","told","bar","holds"] ["score","told"] (ao rG):=dC
def Bi {C:Addr} (F:Cf K C):di P w base 3 T.lN (o7 C):=by
 nomatch T.lN,ka
 obtain⟨a,S,o,v,f,rfl,sc,⟨⟨pn,b,iN⟩,hd,rfl⟩,kk⟩:=h;obtain⟨a1,rfl,h1⟩:=I9 hd;have sl:=yB;obtain⟨ub,jm,ho,hub,hjm⟩:=sc.obj;unfold fault at kk;dsimp only at kk h1;refine⟨_,(ag (bS 2 ka.nd (bN (pv 1) ae))
  (ag (bS 3 ka.nd (Fg (mK hr) (bD (pv 0) rfl) (bN (pv 1) ae) (bx af) ⟨rfl,rfl,rfl,rfl⟩))
  (ag (aF (PW.pt (cT (ptr fi (eQ aB T.bu (ah (pv 3) af)) ae) (cH (ptr gh (pv 2) (bN (fL (pv 3) (rT kZ ae)) ae)))))
  (aj (aq aJ))
  ax)
  (ag (aF (PW.pt (eC (iA dS (bN (pv 1) ae) (bD (pv 0) rfl) (by with_unfolding_all rfl)) (dq (bq (B1 (mK hr) (bN (pv 1) ae) (bD (pv 0) rfl))))))
  (aj (aq aJ))
  ax)
  (ag (aF (fw (cU (bM (jR T F) hr T.kP (ah (pv 0) (ah (bx (ah (pv 2) af)) af)))))
  (aj (aq aJ))
  ax)
  (ag (aF (ptr B6 (eQ aB T.bu (ah (pv 3) af)) (bQ (v:=.int (20)) (by rfl) T.DY ⟨_,rfl⟩))
  (aj (aq aJ))
  ax)
  (aj (aq aQ)))))))),?_⟩
 ac_rfl;exists a,C,o.dx,_,_,rfl,ho,F.cls,F.holds,rfl,?_;refine⟨o.ho,rfl,.inl ⟨_,.inl sc.ho.1⟩,?_⟩;exists by show 0<=sizeLine;omega,?_
 intros p2 H2 s2 h2;have h12:=s2 _ _ h1;refine⟨_,.inl ⟨_,kS pn,.inl (s2 _ _ sc.ho.1),rfl,rfl⟩,?_⟩;obtain⟨h,vs,l,eh,hh,ilh,el⟩:∃h vs l,(e9 ((S.holds.map fun x=>kS x.1).zip (o.hs.map V.ref)) (kS pn)).getD (.ref p2)=.ref h/\H2 h=some (.lst vs)/\ay H2 (l.map HX) vs/\(S.holds.lookup pn).getD []=l:=by
  rcases ug (H:=H) pn sc.ho.2 with⟨e1,e2⟩ | ⟨l,h,vs,e1,e2,hh,il⟩
  ·exact⟨p2,[],[],by rw[e2];rfl,h2,by unfold ay;rfl,by rw[e1];rfl⟩
  ·exact⟨h,vs,l,by rw[e2];rfl,s2 _ _ hh,il.mono s2,by rw[e1];rfl⟩
 rw[el] at kk;rw[eh];exists h,vs,rfl,.inl (aI.of hh),?_;rw[aO ilh];left;obtain⟨c1,ec,kk⟩:∃c1:Bool,c1=(match l.getLast? with | some q=>decide (b<=q.1) | none=>false)/\∀H',au H H'->Q (Sc.os (if c1=true then some "twice" else if pn∉S.players then some "name" else if iN∉S.ak.map (·.1) then some "name" else if¬S.has [b]=true then some "bar" else if 20<=l.length then some "many" else none)) H':=by
  refine⟨_,rfl,?_⟩;cases q:l.getLast? with
  | none=>rw[q] at kk;exact kk
  | some x=>rw[q] at kk;exact kk
 refine both c1 ?_ ?_ ?_
 ·intro c Z hz
  have lp:0<l.length:=by have:=yd c;omega
  have vl:=aO ilh;obtain⟨x,hx,ix⟩:=dt ilh (i:=vs.length-1) (zb nofun);obtain⟨a3,ea,h3⟩:=OJ ix;have eg:l.getLast?=some x:=by rw[List.getLast?_eq_getElem?,<-vl];exact hx
  rw[ec,eg] at hz;left;refine⟨h,vs,-1,_,rfl,rfl,aI.of hh,Jl (zb nofun),?_⟩;rw[ea];change hz
 ·intro c
  have:l=[]:=yr.mp (by have:=of_decide_eq_false c;omega);rw[ec,this];rfl
 ·clear ec
  cases c1 with
  | true=>
   change kk _ s2
  | false=>
   rw[if_neg (by simp)] at kk;exists a,C,o.dx,_,_,rfl,s2 _ _ ho,F.cls,F.players,rfl,?_;refine⟨o.pl,_,rfl,.inl (aI.of (s2 _ _ sc.pl)),rfl,gr _,?_⟩;show∃k,V.bl (!Et (.str pn) (S.players.map V.str))=.bl k/\_;rw[jk]
   by_cases c2:pn∈S.players
   ·rw[ze c2]
    rw[if_neg (fun z=>z c2)] at kk;obtain⟨us,hu,ilu⟩:=sc.ins;have em:(S.ak.map fun x=>kS x.1)=(S.ak.map (·.1)).map kS:=by rw[zA];rfl
    exists a,C,o.dx,_,_,rfl,s2 _ _ ho,F.cls,F.ak,rfl,?_;refine⟨o.ins,_,rfl,.inl ⟨_,kS iN,.inl (s2 _ _ hu),rfl,rfl⟩,?_⟩;rw[em,qT iN (by rw[za];exact aO ilu)]
    by_cases c3:iN∈S.ak.map (·.1)
    ·rw[ze c3]
     rw[if_neg (fun z=>z c3)] at kk;exists by show 1<=sizeLine;omega,?_
     intros p3 H3 s3 h3;refine⟨a,p3,S,o,[b],rfl,sc.mono (s2.trans s3),aI.of h3,(by show 1<=1000000;decide),fun H4 s4=>?_⟩;have s04:=(s2.trans s3).trans s4;cases qb:S.has [b] with
     | false=>
      rw[qb] at kk;change kk _ s04
     | true=>
      rw[qb,if_neg (by simp)] at kk;exists h,vs,rfl,.inl (aI.of ((s3.trans s4) _ _ hh)),?_;rw[aO ilh];left
      by_cases c4:20<=l.length
      ·refine b9 (ze nofun) ?_
       rw[if_pos c4] at kk;change kk _ s04
      ·refine cm (zd nofun) ?_
       rw[if_neg c4] at kk;change kk _ s04
    ·rw[zd c3]
     rw[if_pos c3] at kk;change kk _ s2
   ·rw[zd c2]
    rw[if_pos c2] at kk;change kk _ s2
def EM {H:Hp} {x:Str×List Str} {v:V} (h:Is H (gw x) v):∃a q,v=.ref a/\H a=some (.tup [.str x.1,.ref q])/\H q=some (.tup (x.2.map V.str)):=by
 unfold gw Is at h;obtain⟨a,vs,rfl,ha,hl⟩:=h;unfold ay at hl;obtain⟨v1,r1,rfl,h1,hl⟩:=hl;unfold ay at hl;obtain⟨v2,r2,rfl,h2,hl⟩:=hl;unfold ay at hl;subst hl;unfold Is at h1;subst h1;unfold mO Is at h2;obtain⟨q,us,rfl,hq,hl⟩:=h2;rw[dI hl] at hq;exact⟨a,q,rfl,ha,hq⟩
def Px {H:Hp} {x:Str×List Str} {v:V} (h:Is H (Oa x) v):∃q,v=.ref q/\H q=some (.tup (x.2.map V.str)):=by
 unfold Oa mO Is at h;obtain⟨q,us,rfl,hq,hl⟩:=h;rw[dI hl] at hq;exact⟨q,rfl,hq⟩
inductive EO (C:Addr) (vs:List V) (H:Hp) (Q:VK) (E:XK):Prop
 | mk (a:Addr) (S:cG) (o:Ow) (v ub jm:V) (x:Str×List Str) (ob:Obj) (us:List V) (_:vs=[.ref a,v]) (_:H a=some (.ins C o.dx (M3 o ub jm))) (_:H o.pl=some (.lst (S.players.map V.str))) (_:Iw H o.st ob ((S.aH.map fun x=>kS x.1).zip us)) (_:ay H (S.aH.map Oa) us) (_:Is H (gw x) v) (_:x.2.length<=1000) (_:∀H',au H H'->Q (os (fault S (.cg x.1 x.2))) H')
theorem GO {α β:Type}:∀{l:List α} {m:List β} {i:Nat} {p:α×β},(l.zip m)[i]?=some p->l[i]?=some p.1/\m[i]?=some p.2
 | [],_,_,_,h=>by simp at h
 | _::_,[],_,_,h=>by simp at h
 | _::_,_::_,0,_,h=>by simp at h;subst h;exact⟨rfl,rfl⟩
 | _::l,_::m,i+1,_,h=>by
  rw[List.zip_cons_cons] at h
  simpa using GO (l:=l) (m:=m) (i:=i) (by simpa using h)
def MR {α:Type} {p:α->Bool} {l:List α} {i:Nat} {x:α} (h:l[i]?=some x) (hn:(l.take i).any p=false) (hx:p x=false):(l.take (i+1)).any p=false:=by
 rw[cS h,List.any_append,hn];simp[hx]
def MS {α:Type} {p:α->Bool} {l:List α} {i:Nat} {x:α} (h:l[i]?=some x) (hx:p x=true):l.any p=true:=yn.mpr ⟨x,zB h,hx⟩
def iW:aA ["score","told","players","others"] ["score","told"] (ao pk):=dC
def Fn {C:Addr} (F:Cf K C):di P w base 1 T.gM (EO C):=by
 nomatch T.gM,iW
 obtain⟨a,S,o,v,ub,jm,x,ob,us,rfl,ho,hpl,fz,ilu,iv,x5,kk⟩:=h;obtain⟨a1,q,rfl,h1,hq⟩:=EM iv;have sl:=yB;have ul:=aO ilu;have em:(S.aH.map fun x=>kS x.1)=(S.aH.map (·.1)).map kS:=by rw[zA];rfl
 unfold fault at kk;dsimp only at kk;refine⟨_,(ag (bS 2 iW.nd (bN (pv 1) ae))
  (ag (aF (PW.pt (eC (bq (Hk (mK hr) (bN (pv 1) ae) (bD (pv 0) rfl))) (dq (ptr eY (eQ Kr T.bu (ah (mV (Kp rfl) T.Q0 (ah (pv 2) af)) af)) (eQ aB T.bu (ah (pv 2) af))))))
  (aj (aq aJ))
  ax)
  (ag (cB PassesOwn.never rfl (JT (bD (pv 0) rfl)) (jP 3 iW.nd)
  (aj (aF (cU (eQ (gz rfl) T.yQ (ah (pK (ts:=["player"]) (ys:=["others"]) (js:=[3]) (te:=(fA (Qu K false) (aY 0) (aY 1))) (kc (pv 2)) (gO 0) bj (dR oE (pv 0) (pv 1) (by with_unfolding_all rfl))) af)))
   (aj (aq aJ))
   ax)))
  (ag (aF (cU (eQ (gz rfl) T.yQ (ah (pK (ts:=["player"]) (ys:=["score"]) (js:=[0]) (te:=(fA (Qu K true) (aY 0) (Nh K (aY 1) "players"))) (kc (pv 2)) (gO 0) bj (dR dS (pv 0) (bD (pv 1) rfl) (by with_unfolding_all rfl))) af)))
  (aj (aq aJ))
  ax)
  (aj (aq aQ)))))),?_⟩
 ac_rfl;exists a,C,o.dx,_,_,rfl,ho,F.cls,F.aH,rfl,?_;refine⟨o.st,_,rfl,.inl ⟨_,kS x.1,.inr ⟨_,fz⟩,rfl,rfl⟩,?_⟩;rw[em,qT x.1 (by rw[za];exact ul)]
 by_cases c1:x.1∈S.aH.map (·.1)
 ·rw[ze c1]
  rw[if_pos c1] at kk;change kk _ (au.refl _)
 ·rw[zd c1]
  rw[if_neg c1] at kk;exists q,x.2,rfl,du.of hq,x5,fun p2 n2=>?_;have s2:au H (upd H p2 (GG p2 (gs x.2).length)):=aV n2;have h2:upd H p2 (GG p2 (gs x.2).length) p2=some (GG p2 (gs x.2).length):=aC;generalize upd H p2 (GG p2 (gs x.2).length)=H2 at s2 h2 ⊢;obtain⟨d1,d2⟩:=F4 x.2;refine⟨p2,_,rfl,h2,nofun,?_⟩;exists q,_,rfl,.inr (du.of (s2 _ _ hq)),?_;rw[za];left
  by_cases c2:x.2.Nodup
  ·refine cm (zd (by have:=d2.mpr c2;omega)) ?_
   rw[if_neg (fun z=>z c2)] at kk;exists a,C,o.dx,_,_,rfl,s2 _ _ ho,F.cls,F.aH,rfl,?_;refine⟨o.st,ob,_,rfl,s2 _ _ fz,?_⟩;refine HF (fun i σ H'=>au H H'/\(S.aH.take i).any (fun q=>x.2.any fun p=>decide (p∈q.2))=false/\∃u,σ=[some (.ref a),some (.ref a1),some (.ref q),u]) ⟨s2,rfl,none,rfl⟩ (fun i σ H' _ h=>h.1 _ _ fz) ?_ ?_
   ·intro i p σ H3 hp hh
    refine dM fun N kN0 kR0 _ _=>?_;obtain⟨s3,hn,u,rfl⟩:=hh;obtain⟨_,hp2⟩:=GO hp;obtain⟨st,hst,ist⟩:=dt ilu hp2;obtain⟨r,er,hr'⟩:=Px ist;rw[er];exists⟨_,du.of (s3 _ _ hq)⟩,?_;refine gx (enc:=V.str) (ws:=x.2) (fun z=>.bl (decide (z∈st.2))) (fun σ=>∃v,σ=[v,some (.ref r)]) nofun (s3 _ _ hq) ⟨none,rfl⟩ ?_ ?_
    ·rintro z σ H4 R hz s4 ⟨_,rfl⟩ rr
     exists r,_,rfl,.inr (du.of ((s3.trans s4) _ _ hr')),rfl,gr _,?_;refine rr _ _ _ (au.refl _) ?_ ⟨_,rfl⟩;rw[if_neg (by simp),jk];unfold Is;rfl
    ·intro D vs H4 s4 hD il
     have e:x.2.map (fun z=>Dt.bl (decide (z∈st.2)))=(x.2.map fun z=>decide (z∈st.2)).map Dt.bl:=by rw[zA];rfl
     rw[e] at il;rw[kg il] at hD;refine⟨D,_,rfl,aI.of hD,?_⟩;have e2:(x.2.map fun z=>decide (z∈st.2)).any id=x.2.any fun p=>decide (p∈st.2):=by rw[List.any_map];rfl
     rw[e2];cases qc:x.2.any fun p=>decide (p∈st.2) with
     | true=>
      rw[if_pos (MS hst (p:=fun q:Str×List Str=>x.2.any fun p=>decide (p∈q.2)) qc)] at kk;change kk _ (s3.trans s4)
     | false=>
      change⟨s3.trans s4,MR hst hn qc,_,rfl⟩
   ·rintro σ H3 ⟨s3,hn,u,rfl⟩
    rw[List.length_zip,za,ul,Nat.min_self,zM] at hn;rw[hn,if_neg (by simp)] at kk;exists⟨_,du.of (s3 _ _ hq)⟩,?_;refine gx (enc:=V.str) (ws:=x.2) (fun z=>.bl (!decide (z∈S.players))) (fun σ=>∃v,σ=[v,some (.ref a)]) nofun (s3 _ _ hq) ⟨none,rfl⟩ ?_ ?_
    ·rintro z σ H4 R hz s4 ⟨_,rfl⟩ rr
     exists a,C,o.dx,_,_,rfl,(s3.trans s4) _ _ ho,F.cls,F.players,rfl,?_;refine⟨o.pl,_,rfl,.inl (aI.of ((s3.trans s4) _ _ hpl)),rfl,gr _,?_⟩;refine rr _ _ _ (au.refl _) ?_ ⟨_,rfl⟩;show Is H4 _ (V.bl (!Et (.str z) (S.players.map V.str)));rw[jk];unfold Is;rfl
    ·intro D vs H4 s4 hD il
     have e:x.2.map (fun z=>Dt.bl (!decide (z∈S.players)))=(x.2.map fun z=>!decide (z∈S.players)).map Dt.bl:=by rw[zA];rfl
     rw[e] at il;rw[kg il] at hD;refine⟨D,_,rfl,aI.of hD,?_⟩;have e2:(x.2.map fun z=>!decide (z∈S.players)).any id=x.2.any fun p=>!decide (p∈S.players):=by rw[List.any_map];rfl
     rw[e2];cases qc:x.2.any fun p=>!decide (p∈S.players) with
     | true=>
      rw[qc,if_pos rfl] at kk;change kk _ (s3.trans s4)
     | false=>
      rw[qc,if_neg (by simp)] at kk;change kk _ (s3.trans s4)
  ·refine b9 (ze (by have:(gs x.2).length≠x.2.length:=fun z=>c2 (d2.mp z);omega)) ?_
   rw[if_pos c2] at kk;change kk _ s2
def nc (C:Addr):Sp:=fh C fun H v S f=>∃x,Is H (gw x) v/\x.2.length<=1000/\f=fault S (.cg x.1 x.2)
def Mw {H:Hp} {d:Addr} {o:Obj} {u:HO} (hd:H d=some u) (nt:cN (some u)) {l:List Dt} {vs:List V} (h:ay H l vs):ay (upd H d (.mW o u)) l vs:=ay.upd (by rw[hd];exact nt) h
def E1 {H H':Hp} {d:Addr} {o:Obj} {u:HO} (hd:H d=some u) (s:au (upd H d (.mW o u)) H'):au H (upd H' d u):=fun b z hb=>by
 by_cases e:b=d
 ·subst e;rw[aC,<-hd,hb]
 ·rw[aD e];exact s b z (by rw[aD e];exact hb)
def x8 {C:Addr} (F:Cf K C):di P w base 1 T.gM (nc C):=by
 refine(Fn (P:=P) (w:=w) (base:=base) T F).Ou (fun vs H Q E h=>?_) (fun vs H Q E h=>?_)
 ·obtain⟨_,_,_,_,_,rfl,_⟩:=h;rfl
 ·obtain⟨a,S,o,v,f,rfl,sc,⟨x,iv,x5,rfl⟩,kk⟩:=h
  obtain⟨us,hu,ilu⟩:=sc.st;obtain⟨ub,jm,ho,hub,hjm⟩:=sc.obj;have nt:cN (some (HO.dK ((S.aH.map fun x=>kS x.1).zip us))):=fun vs z=>by cases z
  have na:a≠o.st:=fun z=>by rw[z,hu] at ho;cases ho
  have np:o.pl≠o.st:=fun z=>by have:=sc.pl;rw[z,hu] at this;cases this
  refine⟨o.st,_,hu,rfl,fun ob=>⟨a,S,o,v,ub,jm,x,ob,us,rfl,by rw[aD na];exact ho,by rw[aD np];exact sc.pl,aC,Mw hu nt ilu,Is.upd (by rw[hu];exact nt) iv,x5,fun H' s'=>kk _ (E1 hu s')⟩⟩
def OR (S:cG):Prop:=∀b∈S.aL,Jr b
inductive CM (C:Addr) (vs:List V) (H:Hp) (Q:VK) (E:XK):Prop
 | mk (a:Addr) (S:cG) (o:Ow) (v ub jm:V) (x:Int×Int) (ob:Obj) (us:List V) (_:vs=[.ref a,v]) (_:H a=some (.ins C o.dx (M3 o ub jm))) (_:Is H (dO dL S.aE) ub) (_:RI C H a S o) (_:H o.no=some (.mW ob (.dT ((S.aG.map fun x=>kN x.1).zip us)))) (_:us.length=S.aG.length) (_:S.aG.length<=1000000) (_:Is H (dL x) v) (_:AU 8999 x) (_:OR S) (_:∀H',au H H'->Q (os (fault S (.aE x))) H')
def Ma {S:cG} (h:OR S) (b:Nat) (hb:b<S.aL.length):AU 8999 (S.aP b):=by
 unfold cG.aP;rw[zb hb];obtain⟨k1,k2,k3,k4⟩:=h _ (yk hb);obtain⟨g,g1,g2,g3,g4,g5⟩:=lC (t:=S.aL[b].aP.1) k3;have r0:=xO (t:=S.aL[b].aP.1) (b:=S.aL[b].aP.2) k1;have r1:=xP (t:=S.aL[b].aP.1) (b:=S.aL[b].aP.2) k1;dsimp only;exact⟨(dj (n:=10) r0 nofun).mono ∅,(dj (n:=10) nofun nofun).mono ∅⟩
def vH:aA ["score","length"] ["score","length"] (ao nF):=dC
def Dd {C:Addr} (F:Cf K C):di P w base 4 T.fM (CM C):=by
 nomatch T.fM,vH
 obtain⟨a,S,o,v,ub,jm,x,ob,us,rfl,ho,hub,sb,fz,ul,n6,iv,zx,bok,kk⟩:=h;have sl:=yB;unfold fault at kk;dsimp only at kk;refine⟨_,(ag (aF (bq (fq (bD (pv 0) rfl)))
  (aj (aq aJ))
  ax)
  (ag (aF (ptr cY (eQ aB T.bu (ah (bD (pv 0) rfl) af)) ae)
  (aj (aq aJ))
  ax)
  (ag (aF (fw (cU (bM (Hl T) hr T.CW (ah (pv 1) (ah (bM (mG T F) hr T.iE (ah (pv 0) (ah ae af))) af)))))
  (aj (aq aJ))
  ax)
  (ag (aF (cU (eQ (gz rfl) T.yQ (ah (pK (ts:=["place"]) (ys:=[]) (js:=[]) (te:=(fA Sx (fA (qx K) (aY 0) (tC (.int (0)))) (tC (.int (0))))) (NG (bD (pv 0) rfl)) (gO 0) bj (dR cY (bN (pv 0) ae) ae (jg _))) af)))
  (aj (aq aJ))
  ax)
  (aj (aq aQ)))))),?_⟩
 ac_rfl;exists a,C,o.dx,_,_,rfl,ho,F.cls,F.aE,rfl,?_;cases q:S.aE with
 | some u=>
  rw[q,if_pos (show(some u).isSome=true from rfl)] at kk;rw[q] at hub;cases fb (o:=some u) hub with
  | ref hu=>
   change kk _ (au.refl _)
 | none=>
  rw[q,if_neg (by simp)] at kk;rw[q] at hub;unfold dO Is at hub;subst hub;obtain⟨vs,hv,il⟩:=sb.ba;cases fb (o:=some x) iv with
  | ref hx=>
  rename_i a1;exists a,C,o.dx,_,_,rfl,ho,F.cls,F.aL,rfl,?_;exists o.ba,vs,rfl,.inl (aI.of hv),?_;rw[aO il];left
  by_cases c1:S.aL.length=0
  ·refine b9 (by rw[c1];rfl) ?_
   rw[if_pos c1] at kk;change kk _ (au.refl _)
  ·refine cm (zd fun z=>c1 (by have:=V.int.inj z;omega)) ?_
   rw[if_neg c1] at kk;exists a,S,o,0,rfl,sb,nofun,bok,fun p H1 s1 h1=>?_;refine⟨_,_,_,_,rfl,s1 _ _ hx,h1,zx,Ma bok 0 nofun,?_⟩
   by_cases c2:x.1*(S.aP 0).2<(S.aP 0).1*x.2
   ·rw[ze c2]
    rw[if_neg (fun z=>z c2)] at kk;exists a,C,o.dx,_,_,rfl,s1 _ _ ho,F.cls,F.aG,rfl,?_;refine⟨o.no,ob,_,_,rfl,⟨_,s1 _ _ fz,.inr ⟨_,rfl,rfl,rfl⟩⟩,?_⟩;have kl:((S.aG.map fun x=>kN x.1).zip us).length=S.aG.length:=by rw[List.length_zip,za,ul,Nat.min_self]
    refine Ap (ws:=S.aG) (fun p x H=>∃b,x=.ref b/\H b=some (.tup [.int p.1.1,.str p.1.2])) (fun p=>.bl (decide (p.1.1=0))) (fun σ=>∃v,σ=[v]) nofun ⟨none,rfl⟩ (fun i H2 hi s2=>⟨⟨_,s2 _ _ (s1 _ _ fz),.inr ⟨_,rfl,rfl,rfl⟩⟩,nofun⟩) (fun H2 s2=>⟨⟨_,s2 _ _ (s1 _ _ fz),.inr ⟨_,rfl,rfl,rfl⟩⟩,nofun⟩) ?_ ?_ ?_
    ·rintro i y H2 H3 hi s2 ⟨rfl,p,b,hp,hb,rfl⟩
     refine⟨au.refl _,b,rfl,?_⟩;obtain⟨z1,_⟩:=GO hp;rw[zJ,zb hi] at z1;simp only[Option.map_some,Option.some.injEq] at z1;rw[<-z1] at hb;exact hb
    ·rintro p y σ H2 R hp s2 ⟨b,rfl,hb⟩ ⟨_,rfl⟩ r
     left;refine r _ _ _ (au.refl _) ?_ ⟨_,rfl⟩;rw[show decide (V.int p.1.1=V.int 0)=decide (p.1.1=0) from by by_cases h:p.1.1=0 <;> simp[h]];unfold Is;rfl
    ·intro D vs H4 s4 hD il
     have e:S.aG.map (fun p=>Dt.bl (decide (p.1.1=0)))=(S.aG.map fun p=>decide (p.1.1=0)).map Dt.bl:=by rw[zA];rfl
     rw[e] at il;rw[kg il] at hD;refine⟨D,_,rfl,aI.of hD,?_⟩;have e2:(S.aG.map fun p=>decide (p.1.1=0)).any id=S.aG.any fun p=>decide (p.1.1=0):=by rw[List.any_map];rfl
     rw[e2];cases qc:S.aG.any fun p=>decide (p.1.1=0) with
     | true=>
      rw[qc,if_pos rfl] at kk;change kk _ (s1.trans s4)
     | false=>
      rw[qc,if_neg (by simp)] at kk;change kk _ (s1.trans s4)
   ·rw[zd c2]
    rw[if_pos c2] at kk;change kk _ s1
def ma (C:Addr):Sp:=fh C fun H v S f=>∃x,Is H (dL x) v/\AU 8999 x/\OR S/\S.aG.length<=1000000/\f=fault S (.aE x)
def vN {C:Addr} (F:Cf K C):di P w base 4 T.fM (ma C):=by
 refine(Dd (P:=P) (w:=w) (base:=base) T F).Ou (fun vs H Q E h=>?_) (fun vs H Q E h=>?_)
 ·obtain⟨_,_,_,_,_,rfl,_⟩:=h;rfl
 ·obtain⟨a,S,o,v,f,rfl,sc,⟨x,iv,zx,bok,n6,rfl⟩,kk⟩:=h
  obtain⟨hn,ln⟩:=sc.no;obtain⟨ub,jm,ho,hub,hjm⟩:=sc.obj;obtain⟨bs,hb,ilb⟩:=sc.ba;have nt:cN (some (HO.dT ((S.aG.map fun x=>kN x.1).zip (o.ns.map V.ref)))):=fun vs z=>by cases z
  have na:a≠o.no:=fun z=>by rw[z,hn] at ho;cases ho
  have nb:o.ba≠o.no:=fun z=>by rw[z,hn] at hb;cases hb
  have ho':∀ob,upd H o.no (.mW ob (.dT ((S.aG.map fun x=>kN x.1).zip (o.ns.map V.ref)))) a=some (.ins C o.dx (M3 o ub jm)):=fun ob=>by rw[aD na];exact ho
  refine⟨o.no,_,hn,rfl,fun ob=>⟨a,S,o,v,ub,jm,x,ob,o.ns.map V.ref,rfl,ho' ob,Is.upd (by rw[hn];exact nt) hub,⟨⟨ub,jm,ho' ob⟩,bs,by rw[aD nb];exact hb,Mw hn nt ilb⟩,aC,by rw[za,oH ln,za],n6,Is.upd (by rw[hn];exact nt) iv,zx,bok,fun H' s'=>kk _ (E1 hn s')⟩⟩
noncomputable def pV:Told->Str
 | .bA _=> "player"
 | .cF _ _ _=> "instrument"
 | .cg _ _=> "staff"
 | .bar _=> "bar"
 | .aE _=> "upbeat"
 | .holds _ _ _=> "holds"
 | .aG _ _ _=> "notes"
 | .rep _=> "repeat"
 | .bZ _=> "jump"
def Qn (S:cG):Told->Prop
 | .cg _ ps=>ps.length<=1000
 | .aE l=>AU 8999 l/\OR S/\S.aG.length<=1000000
 | .aG b _ its=>0<=b/\its.length<=500/\(∀it∈its,M8 it.2)/\OR S
 | .rep r=>GX r.ends<64/\r.ends.length<=1000/\-1000000<=r.times/\r.times<=1000000
 | .bZ _=>Em S
 | _=>True
inductive KS (K:yA) {mg:Str->Option Value} (T:Txt K mg) (C:Addr):Addr->Sp->Prop where
 | bA:KS K T C T.gd (mf C)
 | cF:KS K T C T.dZ (ia C)
 | cg:KS K T C T.gG (nc C)
 | bar:KS K T C T.j0 (qW C)
 | aE:KS K T C T.gb (ma C)
 | holds:KS K T C T.iP (o7 C)
 | aG:KS K T C T.gK (ng C)
 | rep:KS K T C T.gc (md C)
 | bZ:KS K T C T.iO (o6 C)
noncomputable def OK {K:yA} {mg:Str->Option Value} (T:Txt K mg):List (Str×V):=[("player",V.ref T.gd),("instrument",.ref T.dZ),("staff",.ref T.gG),("bar",.ref T.j0),("upbeat",.ref T.gb),("holds",.ref T.iP),("notes",.ref T.gK),("repeat",.ref T.gc),("jump",.ref T.iO)]
def Mv (K:yA) {mg:Str->Option Value} (T:Txt K mg) (C:Addr) (t:Told):∃f D,sY (OK T) (pV t)=some (.ref f)/\KS K T C f (fh C D)/\∀H0 H v S,gB H0 H v (some t)->Qn S t->D H v S (fault S t):=by
 cases t with
 | bA n=>exact⟨_,_,rfl,.bA,fun H0 H v S h1 h2=>⟨n,h1,rfl⟩⟩
 | cF n t l=>exact⟨_,_,rfl,.cF,fun H0 H v S h1 h2=>⟨(n,t,l),h1,rfl⟩⟩
 | cg n ps=>exact⟨_,_,rfl,.cg,fun H0 H v S h1 h2=>⟨(n,ps),h1,h2,rfl⟩⟩
 | bar b=>exact⟨_,_,rfl,.bar,fun H0 H v S h1 h2=>⟨b,rfl⟩⟩
 | aE l=>exact⟨_,_,rfl,.aE,fun H0 H v S h1 h2=>⟨l,h1,h2.1,h2.2.1,h2.2.2,rfl⟩⟩
 | holds p b i=>exact⟨_,_,rfl,.holds,fun H0 H v S h1 h2=>⟨(p,b,i),h1,rfl⟩⟩
 | aG b p its=>exact⟨_,_,rfl,.aG,fun H0 H v S h1 h2=>⟨(b,p,its),iR.at h1,h2.1,h2.2.1,h2.2.2.1,h2.2.2.2,rfl⟩⟩
 | rep r=>exact⟨_,_,rfl,.rep,fun H0 H v S h1 h2=>⟨r,h1,h2.1,h2.2.1,h2.2.2.1,h2.2.2.2,rfl⟩⟩
 | bZ j=>exact⟨_,_,rfl,.bZ,fun H0 H v S h1 h2=>⟨j,h1,h2,rfl⟩⟩
def K9 {H0 H:Hp} {v:V} {t:Told} (h:gB H0 H v (some t)):v≠.bC:=by
 have tp:∀l,Is H (.tup l) v->v≠.bC:=fun l z=>by
  unfold Is at z;obtain⟨a,vs,e,_⟩:=z;rw[e];simp
 cases t with
 | bA n=>have e:v=.str n:=h;rw[e];simp
 | cF n t l=>exact tp _ h
 | cg n ps=>exact tp _ h
 | bar b=>exact tp _ h
 | aE l=>exact tp _ h
 | holds p b i=>exact tp _ h
 | aG b p its=>obtain⟨a,_,_,e,_⟩:=h;rw[e];simp
 | rep r=>exact tp _ h
 | bZ j=>exact tp _ h
noncomputable def MA (S:cG):Option Told->Option Str
 | none=>some "row"
 | some t=>fault S t
inductive EU (C:Addr) (vs:List V) (H:Hp) (Q:VK) (E:XK):Prop
 | mk (a:Addr) (S:cG) (o:Ow) (x:Str) (v:V) (H0:Hp) (t:Option Told) (_:vs=[.ref a,.str x,v]) (_:bR C H a S o) (_:gB H0 H v t) (_:(∀t',t=some t'->x=pV t'/\Qn S t')) (_:∀H',au H H'->Q (os (MA S t)) H')
def uM:aA ["score","sort","told","finder"] ["score","sort","told"] (ao qh):=dC
def Ft (B:Dk P w K T) {C:Addr} (F:Cf K C):di P w base 6 T.y6 (EU C):=by
 refine T.y6.F.RF uM fun cdv A' outer s H vs Q E hr h=>?_
 ·obtain⟨a,S,o,x,v,H0,t,rfl,sc,tv,fit,kk⟩:=h
  have hTbV:∀f sp,KS K T C f sp->Qr (kr GJ P w K mg base ["score","sort","told","finder"] "fault_of" (ao qh) T.AH cdv A' outer s H E).Ho GJ 5 f sp:=by
   intro f sp h;cases h with
   | bA=>exact⟨_,_,L2.dE.mono (vP T F) ∅,T.iB.F.kp,T.iB.b⟩
   | cF=>exact⟨_,_,L2.dE.mono (oV T F) ∅,T.eW.F.kp,T.eW.b⟩
   | cg=>exact⟨_,_,L2.dE.mono (x8 T F) ∅,T.gM.F.kp,T.gM.b⟩
   | bar=>exact⟨_,_,L2.dE.mono (Dp T F) ∅,T.oN.F.kp,T.oN.b⟩
   | aE=>exact⟨_,_,L2.dE.mono (vN T F) ∅,T.fM.F.kp,T.fM.b⟩
   | holds=>exact⟨_,_,L2.dE.mono (Bi T F) ∅,T.lN.F.kp,T.lN.b⟩
   | aG=>exact⟨_,_,L2.dE.mono (yP T F) ∅,T.jS.F.kp,T.jS.b⟩
   | rep=>exact⟨_,_,L2.dE.mono (vO T F) ∅,T.iz.F.kp,T.iz.b⟩
   | bZ=>exact⟨_,_,L2.dE.mono (Bh T F) ∅,T.lK.F.kp,T.lK.b⟩
  refine⟨_,(ag (aF (bq (cy (pv 2)))
   (aj (aq aJ))
   ax)
   (ag (bS 3 uM.nd (Ff (bQ (v:=.ref T.rP) (by rfl) T.MM rfl) (pv 1) (fun _ _=>rfl)))
   (aj (aq (Fi (KS K T C) hTbV (hr.mono ∅) (pv 3) IT (ah (pv 0) (ah (pv 2) af))))))),?_⟩
  ac_rfl;left;cases t with
  | none=>
   have e:v=.bC:=tv;subst e;change kk _ (au.refl _)
  | some t=>
   obtain⟨ex,ft⟩:=fit t rfl;subst ex;obtain⟨f,D,ev,htb,hd⟩:=Mv K T C t;have ne:=K9 tv;rw[zd ne];exists T.rP,OK T,pV t,_,rfl,B.Qb,rfl,ev,?_;exists f,_,rfl,htb,?_;change⟨a,S,o,v,_,rfl,sc,hd H0 H v S tv ft,kk⟩
def Gv {hs:List (Str×List (Int×Str))} {p:Str} {h:Int×Str} (fr:p∉hs.map (·.1)):eX (hs++[(p,[])]) p h=eX hs p h:=by
 unfold eX;rw[if_neg fr,if_pos (by rw[zj];exact zH _ (zy.mpr rfl)),zj];have e:(hs.map fun q:Str×List (Int×Str)=>if q.1=p then(q.1,q.2++[h]) else q)=hs:=by
  conv=>rhs;rw[<-List.map_id hs]
  refine List.map_congr_left fun q hq=>?_;rw[if_neg (fun z=>fr (by rw[<-z];exact zO (f:=fun x:Str×List (Int×Str)=>x.1) hq))];rfl
 rw[e];simp
def qO (S:cG):Prop:=(S.holds.map (·.1)).Nodup/\S.holds.length<=1000000/\∀q∈S.holds,q.2.length<=1000000
inductive EV (C:Addr) (vs:List V) (H:Hp) (Q:VK) (E:XK):Prop
 | mk (a:Addr) (S:cG) (o:Ow) (v:V) (pn:Str) (b:Int) (i:Str) (_:vs=[.ref a,v]) (_:bR C H a S o) (_:Is H (vm (pn,b,i)) v) (_:qO S) (_:∀H' o',bR C H' a (bE S (.holds pn b i)) o'->wF (own a o) H H'->(∀x∈own a o',x∈own a o\/H x=none)->Q .bC H')
def so {o:Ow} {a x:Addr} (h:x∈o.lists):x∈own a o:=by
 unfold Ow.lists at h;unfold own;rw[zF,zF] at h ⊢;rcases h with(h | h) | h
 ·refine .inl (.inl ?_)
  simp only[zC,zD,or_false] at h ⊢;rcases h with h | h | h <;> simp[h]
 ·exact .inl (.inr h)
 ·exact .inr h
def L4 {C a x:Addr} {H:Hp} {S:cG} {o:Ow} (h:bR C H a S o) (hx:x∈own a o):∃u,H x=some u:=by
 obtain⟨_,_,ha,_⟩:=h.obj;obtain⟨_,hi,_⟩:=h.ins;obtain⟨_,hs,_⟩:=h.st;obtain⟨_,hb,_⟩:=h.ba;obtain⟨_,hr,_⟩:=h.re;unfold own at hx;rw[zF,zF] at hx;rcases hx with(hx | hx) | hx
 ·simp only[zC,zD,or_false] at hx
  rcases hx with rfl | rfl | rfl | rfl | rfl | rfl | rfl | rfl
  ·exact⟨_,ha⟩
  ·exact⟨_,h.pl⟩
  ·exact⟨_,hi⟩
  ·exact⟨_,hs⟩
  ·exact⟨_,hb⟩
  ·exact⟨_,h.ho.1⟩
  ·exact⟨_,h.no.1⟩
  ·exact⟨_,hr⟩
 ·obtain⟨vs,e⟩:=cC h.ho.2 hx
  exact⟨_,e⟩
 ·obtain⟨vs,e⟩:=cC h.no.2 hx
  exact⟨_,e⟩
def C8 {C a x:Addr} {H:Hp} {S:cG} {o:Ow} (h:bR C H a S o) (hx:H x=none):x∉own a o:=fun z=>by
 obtain⟨u,e⟩:=L4 h z;rw[hx] at e;cases e
def FG {hs:List (Str×List (Int×Str))} {as:List Addr} {H:Hp} {x:Addr} {vs:List V} (hL:b8 H HX (hs.map (·.2)) as) (hx:x∈as) (hH:H x=some (.lst vs)) (hb:∀q∈hs,q.2.length<=1000000):vs.length<=1000000:=by
 induction hs generalizing as with
 | nil=>unfold b8 at hL;rw[hL] at hx;simp at hx
 | cons q r ih=>
  rw[zh] at hL;obtain⟨a,t,us,rfl,h1,h2,h3⟩:=hL;rcases zC.mp hx with rfl | hx
  ·rw[h1] at hH;cases hH
   have:=aO h2;have:=hb q zp;omega
  ·exact ih h3 hx fun q hq=>hb q (zm _ hq)
def EZ:aA ["score","told"] ["score","told"] (ao xH):=dC
def Fv {C:Addr} (F:Cf K C):di P w base 1 T.AA (EV C):=by
 nomatch T.AA,EZ
 obtain⟨a,S,o,v,pn,b,i,rfl,sc,iv,⟨nk,hl,hb⟩,kk⟩:=h;obtain⟨a1,rfl,h1⟩:=I9 iv;have sl:=yB;obtain⟨ub,jm,ho,hub,hjm⟩:=sc.obj;have em:(S.holds.map fun x=>kS x.1)=(S.holds.map (·.1)).map kS:=by rw[zA];rfl
 have ll:(o.hs.map V.ref).length=(S.holds.map (·.1)).length:=by rw[za,za,oH sc.ho.2,za]
 dsimp only at h1;refine⟨_,(ag (aF (bq (B1 (mK hr) (bN (pv 1) ae) (bD (pv 0) rfl)))
  (aj (wG (mK hr) (bD (pv 0) rfl) (bN (pv 1) ae) (bx af) rfl))
  ax)
  (aj (bP (ck yC yE yD bG (NI (mK hr) (bD (pv 0) rfl) (bN (pv 1) ae) (fun _ _=>rfl)) (ah (bF (ah (bN (pv 1) ae) (ah (bN (pv 1) ae) af))) af))))),?_⟩
 ac_rfl;exists a,C,o.dx,_,_,rfl,ho,F.cls,F.holds,rfl,?_;refine⟨o.ho,_,rfl,.inl ⟨_,kS pn,.inl sc.ho.1,rfl,rfl⟩,?_⟩;rw[em,qT pn ll]
 by_cases c1:pn∈S.holds.map (·.1)
 ·rw[ze c1]
  obtain⟨x,us,e1,e2,e3,e4⟩:=sc.oF nk c1;exists a,C,o.dx,_,_,rfl,ho,F.cls,F.holds,rfl,?_;exists o.ho,_,rfl,.inl ⟨_,kS pn,.inl sc.ho.1,rfl,e1.symm⟩,?_;refine⟨.inl ⟨rfl,us,aI.of e3⟩,?_⟩;exists dn,?_;intros p2 H2 s2 h2;refine⟨x,us,_,rfl,rfl,s2 _ _ e3,?_,?_⟩
  ·have:=FG sc.ho.2 e2 e3 hb
   omega
  ·obtain⟨x',us',f1,f2,f3,f4⟩:=(sc.mono s2).oF nk c1
   have ex:x=x':=by rw[f1] at e1;cases e1;rfl
   subst ex;have eu:us=us':=by have:=s2 _ _ e3;rw[f3] at this;cases this;rfl
   subst eu;change kk _ o (f4 _ b i (cz h2 (aM cP (aM eM cD)))) ((wF.of s2).trans (wF.upd (so (by unfold Ow.lists;simp[e2])))) fun y hy=>.inl hy
 ·rw[zd c1]
  exists by show 0<=sizeLine;omega,?_
  intro p1 n1;have s1:au H (upd H p1 (.lst [])):=aV n1;have g1:upd H p1 (.lst []) p1=some (.lst []):=aC;generalize upd H p1 (.lst [])=H1 at s1 g1 ⊢;have sc1:=sc.mono s1;have h11:=s1 _ _ h1;have nl:p1∉o.lists:=fun z=>C8 sc n1 (so z);exists a,C,o.dx,_,_,rfl,s1 _ _ ho,F.cls,F.holds,rfl,?_;left;refine⟨o.ho,_,rfl,.inl ⟨_,kS pn,sc1.ho.1,rfl,?_,rfl⟩,?_⟩
  ·rw[List.length_zip,za];omega
  have sc2:=sc1.L7 g1 nl c1;have nt1:cN (H1 o.ho):=by rw[sc1.ho.1];exact fun _ z=>by cases z
  have h12:upd H1 o.ho (.dK (putK ((S.holds.map fun x=>kS x.1).zip (o.hs.map V.ref)) (kS pn) (.ref p1))) a1=some (.tup [V.str pn,V.int b,V.str i]):=by rw[aD (Sc.aZ h11 sc1.ho.1 (by simp[kindOf]))];exact h11
  have el:wF (own a o) H (upd H1 o.ho (.dK (putK ((S.holds.map fun x=>kS x.1).zip (o.hs.map V.ref)) (kS pn) (.ref p1)))):=(wF.of s1).trans (wF.upd (by unfold own;simp));generalize upd H1 o.ho (.dK (putK ((S.holds.map fun x=>kS x.1).zip (o.hs.map V.ref)) (kS pn) (.ref p1)))=H3 at sc2 h12 el ⊢;obtain⟨ub2,jm2,ho2,_,_⟩:=sc2.obj;have nk2:(({S with holds:=S.holds++[(pn,[])]}:cG).holds.map (·.1)).Nodup:=by
   show((S.holds++[(pn,[])]).map fun x:Str×List (Int×Str)=>x.1).Nodup;rw[zj,zR];exact⟨nk,by simp,fun x hx y hy e=>by simp at hy;subst hy;subst e;exact c1 hx⟩
  have c2:pn∈({S with holds:=S.holds++[(pn,[])]}:cG).holds.map (·.1):=by
   show pn∈(S.holds++[(pn,[])]).map fun x:Str×List (Int×Str)=>x.1;rw[zj];exact zH _ (zy.mpr rfl)
  obtain⟨x,us,e1,e2,e3,e4⟩:=sc2.oF nk2 c2;have hb2:∀q∈S.holds++[((pn,[]):Str×List (Int×Str))],q.2.length<=1000000:=fun q hq=>by
   rcases zF.mp hq with z | z
   ·exact hb q z
   ·rw[zy.mp z];exact yf _
  exists a,C,_,_,_,rfl,ho2,F.cls,F.holds,rfl,?_;exists o.ho,_,rfl,.inl ⟨_,kS pn,.inl sc2.ho.1,rfl,e1.symm⟩,?_;refine⟨.inl ⟨rfl,us,aI.of e3⟩,?_⟩;exists dn,?_;intros p2 H4 s4 h4;refine⟨x,us,_,rfl,rfl,s4 _ _ e3,?_,?_⟩
  ·have:=FG sc2.ho.2 e2 e3 hb2
   omega
  ·obtain⟨x',us',f1,f2,f3,f4⟩:=(sc2.mono s4).oF nk2 c2
   have ex:x=x':=by rw[f1] at e1;cases e1;rfl
   subst ex;have eu:us=us':=by have:=s4 _ _ e3;rw[f3] at this;cases this;rfl
   subst eu;left;have ea:bE {S with holds:=S.holds++[(pn,[])]} (.holds pn b i)=bE S (.holds pn b i):=by
    show({S with holds:=eX (S.holds++[(pn,[])]) pn (b,i)}:cG)={S with holds:=eX S.holds pn (b,i)};rw[Gv c1]
   have sf:=f4 _ b i (cz h4 (aM cP (aM eM cD)));rw[ea] at sf;have xin:x∈o.hs\/x=p1:=by
    have:x∈o.hs++[p1]:=e2;rw[zF,zy] at this;exact this
   refine kk _ _ sf (fun y u ny hy=>?_) fun y hy=>?_
   ·have hy4:=s4 _ _ (el y u ny hy)
    rw[aD]
    ·exact hy4
    ·intro z
     subst z;rcases xin with z | z
     ·exact ny (so (by unfold Ow.lists;simp[z]))
     ·subst z;rw[n1] at hy;cases hy
   ·have:y∈own a o\/y=p1:=by
     unfold own at hy ⊢;simp only[zF,zC,zD,or_false] at hy ⊢;rcases hy with(hy | hy | hy) | hy
     ·exact .inl (.inl (.inl hy))
     ·exact .inl (.inl (.inr hy))
     ·exact .inr hy
     ·exact .inl (.inr hy)
    rcases this with z | z
    ·exact .inl z
    ·subst z;exact .inr n1
def uG (S:cG):Prop:=S.players.length<=1000000/\S.ak.length<=1000000/\S.aH.length<=1000000/\S.aL.length<=1000000/\S.aG.length<=1000000/\S.repeats.length<=1000000
inductive G1 (C:Addr) (vs:List V) (H:Hp) (Q:VK) (E:XK):Prop
 | mk (a:Addr) (S:cG) (o:Ow) (v:V) (H0:Hp) (t:Told) (_:vs=[.ref a,.str (pV t),v]) (_:bR C H0 a S o) (_:au H0 H) (_:gB H0 H v (some t)) (_:fault S t=none) (_:qO S) (_:uG S) (_:∀H' o',bR C H' a (bE S t) o'->wF (own a o) H H'->(∀x∈own a o',x∈own a o\/H0 x=none)->Q .bC H')
def DA {c:Prop} [Decidable c] {x:Str} {y:Option Str} (h:(if c then some x else y)=none):¬c/\y=none:=by
 by_cases e:c
 ·rw[if_pos e] at h;cases h
 ·rw[if_neg e] at h;exact⟨e,h⟩
theorem vh {H:Hp}:∀l:List Str,ay H (l.map Dt.str) (l.map V.str)
 | []=>cD
 | x::r=>aM eM (vh r)
def G8:aA ["score","sort","told"] ["score","sort","told"] (ao BW):=dC
def Hn {C:Addr} (F:Cf K C):di P w base 2 T.Ed (G1 C):=by
 nomatch T.Ed,G8
 obtain⟨a,S,o,v,H0,t,rfl,sc0,s0,tv,fn,bV,⟨z1,z2,z3,z4,z5,z6⟩,kk⟩:=h;have sl:=yB;have sc:=sc0.mono s0;obtain⟨ub,jm,ho,hub,hjm⟩:=sc.obj;have me:∀x∈own a o,x∈own a o\/H0 x=none:=fun x hx=>.inl hx;refine⟨_,(aj (aF (ptr cY (pv 1) aJ)
  (aj (bP (ck yC yE yD bG (bD (pv 0) rfl) (ah (pv 2) af))))
  (aj (aF (ptr cY (pv 1) aJ)
   (aj (wG (mK hr) (bD (pv 0) rfl) (bN (pv 2) ae) (bF (ah (bN (pv 2) ae) (ah (bN (pv 2) ae) af))) rfl))
   (aj (aF (ptr cY (pv 1) aJ)
    (aj (wG (mK hr) (bD (pv 0) rfl) (bN (pv 2) ae) (bN (pv 2) ae) rfl))
    (aj (aF (ptr cY (pv 1) aJ)
     (aj (bP (ck yC yE yD bG (bD (pv 0) rfl) (ah (pv 2) af))))
     (aj (aF (ptr cY (pv 1) aJ)
      (aj (je (pv 0) (pv 2) rfl))
      (aj (aF (ptr cY (pv 1) aJ)
       (aj (bP (bM (Fv T F) hr T.AA (ah (pv 0) (ah (pv 2) af)))))
       (aj (aF (ptr cY (pv 1) aJ)
        (aj (wG (mK hr) (bD (pv 0) rfl) (bF (ah (bN (pv 2) ae) (ah (bN (pv 2) ae) af))) (bN (pv 2) ae) rfl))
        (aj (aF (ptr cY (pv 1) aJ)
         (aj (bP (ck yC yE yD bG (bD (pv 0) rfl) (ah (pv 2) af))))
         (aj (je (pv 0) (pv 2) rfl)))))))))))))))))),?_⟩
 ac_rfl;cases t with
 | bA n=>
  have e:v=.str n:=tv;subst e;exists a,C,o.dx,_,_,rfl,ho,F.cls,F.players,rfl,?_;refine⟨.inl ⟨rfl,_,aI.of sc.pl⟩,?_⟩;exists o.pl,_,_,rfl,rfl,sc.pl,by rw[za];omega,?_
  change kk _ o (sc.Ii n) (wF.upd (by unfold own;simp)) me
 | cF n t l=>
  obtain⟨a1,t1,l1,rfl,h1,it,il⟩:=FJ (x:=(n,t,l)) tv;have fr:=(DA fn).1;exists dn,?_;intros p2 H2 s2 h2;have sc2:=sc.mono s2;have h12:=s2 _ _ h1;obtain⟨vs,hv,ilv⟩:=sc2.ins;exists a,C,o.dx,_,_,rfl,s2 _ _ ho,F.cls,F.ak,rfl,?_;left;refine⟨o.ins,_,rfl,.inl ⟨_,kS n,hv,rfl,?_,rfl⟩,?_⟩
  ·rw[List.length_zip,za];omega
  exact kk _ o (sc2.Kw hv ilv (cz h2 (aM (it.mono s2) (aM (il.mono s2) cD))) fr) ((wF.of s2).trans (wF.upd (by unfold own;simp))) me
 | cg n ps=>
  obtain⟨a1,q,rfl,h1,hq⟩:=EM (x:=(n,ps)) tv;have fr:=(DA fn).1;obtain⟨vs,hv,ilv⟩:=sc.st;exists a,C,o.dx,_,_,rfl,ho,F.cls,F.aH,rfl,?_;left;refine⟨o.st,_,rfl,.inl ⟨_,kS n,hv,rfl,?_,rfl⟩,?_⟩
  ·rw[List.length_zip,za];omega
  exact kk _ o (sc.Ku hv ilv (by unfold Oa mO;exact cz hq (vh ps)) fr) (wF.upd (by unfold own;simp)) me
 | bar b=>
  obtain⟨vs,hv,ilv⟩:=sc.ba;have vl:=aO ilv;exists a,C,o.dx,_,_,rfl,ho,F.cls,F.aL,rfl,?_;refine⟨.inl ⟨rfl,_,aI.of hv⟩,?_⟩;exists o.ba,_,_,rfl,rfl,hv,nofun,?_;change kk _ o (sc.Oe hv ilv tv) (wF.upd (by unfold own;simp)) me
 | aE l=>
  exists a,C,o.dx,_,rfl,ho,F.cls,F.aE,(by show 9<1000;decide),?_;exact kk _ o (sc.Ih ho hjm tv) (wF.upd (by unfold own;simp)) me
 | holds p b i=>
  change⟨a,S,o,v,p,b,i,rfl,sc,tv,bV,fun H' o' s' e' n'=>kk H' o' s' e' fun x hx=>(n' x hx).imp id fun z=>s0.back z⟩
 | aG b p its=>
  obtain⟨a1,q,us,rfl,h1,hq,ilq,nq⟩:=tv;have fr:=(DA fn).1;have nl:q∉o.lists:=fun z=>C8 sc0 nq (so z);exists a,C,o.dx,_,_,rfl,ho,F.cls,F.aG,rfl,?_;exists dn,?_;intros p2 H2 s2 h2;have sc2:=sc.mono s2;refine⟨o.no,_,rfl,.inr ⟨_,kN (b,p),p2,sc2.no.1,rfl,h2,?_,rfl⟩,?_⟩
  ·rw[List.length_zip,za];omega
  refine kk _ _ (sc2.Kv (s2 _ _ hq) (ilq.mono s2) nl fr) ((wF.of s2).trans (wF.upd (by unfold own;simp))) fun x hx=>?_;have:x∈own a o\/x=q:=by
   unfold own at hx ⊢;simp only[zF,zC,zD,or_false] at hx ⊢;rcases hx with hx | hx | hx
   ·exact .inl (.inl hx)
   ·exact .inl (.inr hx)
   ·exact .inr hx
  rcases this with z | z
  ·exact .inl z
  ·subst z;exact .inr nq
 | rep r=>
  obtain⟨vs,hv,ilv⟩:=sc.re;have vl:=aO ilv;exists a,C,o.dx,_,_,rfl,ho,F.cls,F.repeats,rfl,?_;refine⟨.inl ⟨rfl,_,aI.of hv⟩,?_⟩;exists o.re,_,_,rfl,rfl,hv,nofun,?_;change kk _ o (sc.Oc hv ilv tv) (wF.upd (by unfold own;simp)) me
 | bZ j=>
  exists a,C,o.dx,_,rfl,ho,F.cls,F.bZ,(by show 9<1000;decide),?_;exact kk _ o (sc.MU ho hub tv) (wF.upd (by unfold own;simp)) me
def gn {H:Hp} {a C dx p:Addr} {fs fs':List (Str×V)} {u:HO} (ha:H a=some (.ins C dx fs)) (np:H p=none) :
  upd (upd H p u) a (.ins C dx fs') a=some (.ins C dx fs')/\upd (upd H p u) a (.ins C dx fs') p=some u/\∀b v,H b=some v->b≠a->upd (upd H p u) a (.ins C dx fs') b=some v:=by
 have na:p≠a:=fun z=>by rw[z,ha] at np;cases np
 refine⟨aC,by rw[aD na,aC],fun b v hb ne=>?_⟩;rw[aD ne,aD (fun z=>by rw[z,np] at hb;cases hb)];exact hb
def Cd {H:Hp} {a C dx:Addr} {fs':List (Str×V)}:upd H a (.ins C dx fs') a=some (.ins C dx fs')/\∀b v,H b=some v->b≠a->upd H a (.ins C dx fs') b=some v:=
 ⟨aC,fun b v hb ne=>by rw[aD ne];exact hb⟩
inductive A3 (C:Addr) (vs:List V) (H:Hp) (Q:VK) (E:XK):Prop
 | mk (a dx:Addr) (_:vs=[.ref a]) (_:H a=some (.ins C dx [])) (_:∀H' o,bR C H' a {} o->(∀b u,H b=some u->b≠a->H' b=some u)->(∀x∈own a o,x=a\/H x=none)->Q .bC H')
def Ba:aA ["self"] ["self"] (ao rK):=dC
def Bj {C:Addr} (F:Cf K C):dE P w K mg base GJ 1 T.lT T.sN ["self"] (A3 C):=by
 refine T.AO.F.RF Ba fun _ _ _ _ H vs Q E hr h=>?_
 ·obtain⟨a,dx,rfl,ha,kk⟩:=h
  have sl:=yB;refine⟨_,ag (je (pv 0) (bx af) rfl) (ag (je (pv 0) xX rfl) (ag (je (pv 0) xX rfl) (ag (je (pv 0) (bx af) rfl) (ag (je (pv 0) aQ rfl) (ag (je (pv 0) xX rfl) (ag (je (pv 0) L0 rfl) (ag (je (pv 0) (bx af) rfl) (aj (je (pv 0) aQ rfl))))))))),?_⟩;refine⟨by show 0<=sizeLine;omega,fun p1 n1=>?_⟩;refine⟨_,rfl,a,C,dx,[],rfl,(by rw[aD (fun z=>by rw[<-z,ha] at n1;cases n1)];exact ha),F.cls,F.players,(by show 0<1000;decide),?_⟩;obtain⟨a1,q1,k1⟩:=gn (u:=.lst []) (fs':=aU "players" (.ref p1) []) ha n1;generalize upd (upd H p1 (.lst [])) a (.ins C dx (aU "players" (.ref p1) []))=H1 at a1 q1 k1 ⊢;refine fun p2 n2=>⟨_,rfl,a,C,dx,_,rfl,(by rw[aD (fun z=>by rw[<-z,a1] at n2;cases n2)];exact a1),F.cls,F.ak,(by show 1<1000;decide),?_⟩
  obtain⟨a2,q2,k2⟩:=gn (u:=.dK []) (fs':=(aU "instruments" (.ref p2) (aU "players" (.ref p1) []))) a1 n2;generalize upd (upd H1 p2 (.dK [])) a (.ins C dx (aU "instruments" (.ref p2) (aU "players" (.ref p1) [])))=H2 at a2 q2 k2 ⊢;refine fun p3 n3=>⟨_,rfl,a,C,dx,_,rfl,(by rw[aD (fun z=>by rw[<-z,a2] at n3;cases n3)];exact a2),F.cls,F.aH,(by show 2<1000;decide),?_⟩
  obtain⟨a3,q3,k3⟩:=gn (u:=.dK []) (fs':=(aU "staffs" (.ref p3) (aU "instruments" (.ref p2) (aU "players" (.ref p1) [])))) a2 n3;generalize upd (upd H2 p3 (.dK [])) a (.ins C dx (aU "staffs" (.ref p3) (aU "instruments" (.ref p2) (aU "players" (.ref p1) []))))=H3 at a3 q3 k3 ⊢;refine⟨by show 0<=sizeLine;omega,fun p4 n4=>⟨_,rfl,a,C,dx,_,rfl,(by rw[aD (fun z=>by rw[<-z,a3] at n4;cases n4)];exact a3),F.cls,F.aL,(by show 3<1000;decide),?_⟩⟩;obtain⟨a4,q4,k4⟩:=gn (u:=.lst []) (fs':=(aU "bars" (.ref p4) (aU "staffs" (.ref p3) (aU "instruments" (.ref p2) (aU "players" (.ref p1) []))))) a3 n4;generalize upd (upd H3 p4 (.lst [])) a (.ins C dx (aU "bars" (.ref p4) (aU "staffs" (.ref p3) (aU "instruments" (.ref p2) (aU "players" (.ref p1) [])))))=H4 at a4 q4 k4 ⊢;refine⟨_,rfl,a,C,dx,_,rfl,a4,F.cls,F.aE,(by show 4<1000;decide),?_⟩;obtain⟨a5,k5⟩:=Cd (H:=H4) (a:=a) (C:=C) (dx:=dx) (fs':=(aU "upbeat" .bC (aU "bars" (.ref p4) (aU "staffs" (.ref p3) (aU "instruments" (.ref p2) (aU "players" (.ref p1) []))))));generalize upd H4 a (.ins C dx (aU "upbeat" .bC (aU "bars" (.ref p4) (aU "staffs" (.ref p3) (aU "instruments" (.ref p2) (aU "players" (.ref p1) []))))))=H5 at a5 k5 ⊢;refine fun p6 n6=>⟨_,rfl,a,C,dx,_,rfl,(by rw[aD (fun z=>by rw[<-z,a5] at n6;cases n6)];exact a5),F.cls,F.holds,(by show 5<1000;decide),?_⟩
  obtain⟨a6,q6,k6⟩:=gn (u:=.dK []) (fs':=(aU "holds" (.ref p6) (aU "upbeat" .bC (aU "bars" (.ref p4) (aU "staffs" (.ref p3) (aU "instruments" (.ref p2) (aU "players" (.ref p1) []))))))) a5 n6;generalize upd (upd H5 p6 (.dK [])) a (.ins C dx (aU "holds" (.ref p6) (aU "upbeat" .bC (aU "bars" (.ref p4) (aU "staffs" (.ref p3) (aU "instruments" (.ref p2) (aU "players" (.ref p1) [])))))))=H6 at a6 q6 k6 ⊢;refine fun p7 n7=>⟨_,rfl,a,C,dx,_,rfl,(by rw[aD (fun z=>by rw[<-z,a6] at n7;cases n7)];exact a6),F.cls,F.aG,(by show 6<1000;decide),?_⟩
  obtain⟨a7,q7,k7⟩:=gn (u:=.dT []) (fs':=(aU "notes" (.ref p7) (aU "holds" (.ref p6) (aU "upbeat" .bC (aU "bars" (.ref p4) (aU "staffs" (.ref p3) (aU "instruments" (.ref p2) (aU "players" (.ref p1) [])))))))) a6 n7;generalize upd (upd H6 p7 (.dT [])) a (.ins C dx (aU "notes" (.ref p7) (aU "holds" (.ref p6) (aU "upbeat" .bC (aU "bars" (.ref p4) (aU "staffs" (.ref p3) (aU "instruments" (.ref p2) (aU "players" (.ref p1) []))))))))=H7 at a7 q7 k7 ⊢;refine⟨by show 0<=sizeLine;omega,fun p8 n8=>⟨_,rfl,a,C,dx,_,rfl,(by rw[aD (fun z=>by rw[<-z,a7] at n8;cases n8)];exact a7),F.cls,F.repeats,(by show 7<1000;decide),?_⟩⟩;obtain⟨a8,q8,k8⟩:=gn (u:=.lst []) (fs':=(aU "repeats" (.ref p8) (aU "notes" (.ref p7) (aU "holds" (.ref p6) (aU "upbeat" .bC (aU "bars" (.ref p4) (aU "staffs" (.ref p3) (aU "instruments" (.ref p2) (aU "players" (.ref p1) []))))))))) a7 n8;generalize upd (upd H7 p8 (.lst [])) a (.ins C dx (aU "repeats" (.ref p8) (aU "notes" (.ref p7) (aU "holds" (.ref p6) (aU "upbeat" .bC (aU "bars" (.ref p4) (aU "staffs" (.ref p3) (aU "instruments" (.ref p2) (aU "players" (.ref p1) [])))))))))=H8 at a8 q8 k8 ⊢;refine⟨_,rfl,a,C,dx,_,rfl,a8,F.cls,F.bZ,(by show 8<1000;decide),?_⟩;obtain⟨a9,k9⟩:=Cd (H:=H8) (a:=a) (C:=C) (dx:=dx) (fs':=(aU "jump" .bC (aU "repeats" (.ref p8) (aU "notes" (.ref p7) (aU "holds" (.ref p6) (aU "upbeat" .bC (aU "bars" (.ref p4) (aU "staffs" (.ref p3) (aU "instruments" (.ref p2) (aU "players" (.ref p1) []))))))))));generalize upd H8 a (.ins C dx (aU "jump" .bC (aU "repeats" (.ref p8) (aU "notes" (.ref p7) (aU "holds" (.ref p6) (aU "upbeat" .bC (aU "bars" (.ref p4) (aU "staffs" (.ref p3) (aU "instruments" (.ref p2) (aU "players" (.ref p1) []))))))))))=H9 at a9 k9 ⊢;have e1:p1≠a:=fun z=>by rw[z,ha] at n1;cases n1
  have g1:=k9 _ _ (k8 _ _ (k7 _ _ (k6 _ _ (k5 _ _ (k4 _ _ (k3 _ _ (k2 _ _ (q1) e1) e1) e1) e1) e1) e1) e1) e1;have e2:p2≠a:=fun z=>by rw[z,a1] at n2;cases n2
  have g2:=k9 _ _ (k8 _ _ (k7 _ _ (k6 _ _ (k5 _ _ (k4 _ _ (k3 _ _ (q2) e2) e2) e2) e2) e2) e2) e2;have e3:p3≠a:=fun z=>by rw[z,a2] at n3;cases n3
  have g3:=k9 _ _ (k8 _ _ (k7 _ _ (k6 _ _ (k5 _ _ (k4 _ _ (q3) e3) e3) e3) e3) e3) e3;have e4:p4≠a:=fun z=>by rw[z,a3] at n4;cases n4
  have g4:=k9 _ _ (k8 _ _ (k7 _ _ (k6 _ _ (k5 _ _ (q4) e4) e4) e4) e4) e4;have e6:p6≠a:=fun z=>by rw[z,a5] at n6;cases n6
  have g6:=k9 _ _ (k8 _ _ (k7 _ _ (q6) e6) e6) e6;have e7:p7≠a:=fun z=>by rw[z,a6] at n7;cases n7
  have g7:=k9 _ _ (k8 _ _ (q7) e7) e7;have e8:p8≠a:=fun z=>by rw[z,a7] at n8;cases n8
  have g8:=k9 _ _ (q8) e8;have kH:∀b v,H b=some v->b≠a->H9 b=some v:=fun b v hb ne=>k9 _ _ (k8 _ _ (k7 _ _ (k6 _ _ (k5 _ _ (k4 _ _ (k3 _ _ (k2 _ _ (k1 _ _ hb ne) ne) ne) ne) ne) ne) ne) ne) ne;have f1:H p1=none:=n1;have f2:H p2=none:=by
   cases q:H p2 with
   | none=>rfl
   | some v=>have z:=q;rw[show H1 p2=some v from k1 _ _ z e2] at n2;cases n2
  have f3:H p3=none:=by
   cases q:H p3 with
   | none=>rfl
   | some v=>have z:=q;rw[show H2 p3=some v from k2 _ _ (k1 _ _ z e3) e3] at n3;cases n3
  have f4:H p4=none:=by
   cases q:H p4 with
   | none=>rfl
   | some v=>have z:=q;rw[show H3 p4=some v from k3 _ _ (k2 _ _ (k1 _ _ z e4) e4) e4] at n4;cases n4
  have f6:H p6=none:=by
   cases q:H p6 with
   | none=>rfl
   | some v=>have z:=q;rw[show H5 p6=some v from k5 _ _ (k4 _ _ (k3 _ _ (k2 _ _ (k1 _ _ z e6) e6) e6) e6) e6] at n6;cases n6
  have f7:H p7=none:=by
   cases q:H p7 with
   | none=>rfl
   | some v=>have z:=q;rw[show H6 p7=some v from k6 _ _ (k5 _ _ (k4 _ _ (k3 _ _ (k2 _ _ (k1 _ _ z e7) e7) e7) e7) e7) e7] at n7;cases n7
  have f8:H p8=none:=by
   cases q:H p8 with
   | none=>rfl
   | some v=>have z:=q;rw[show H7 p8=some v from k7 _ _ (k6 _ _ (k5 _ _ (k4 _ _ (k3 _ _ (k2 _ _ (k1 _ _ z e8) e8) e8) e8) e8) e8) e8] at n8;cases n8
  have d14:p1≠p4:=fun z=>by have h:=k3 _ _ (k2 _ _ (q1) e1) e1;rw[z,n4] at h;cases h
  have d18:p1≠p8:=fun z=>by have h:=k7 _ _ (k6 _ _ (k5 _ _ (k4 _ _ (k3 _ _ (k2 _ _ (q1) e1) e1) e1) e1) e1) e1;rw[z,n8] at h;cases h
  have d48:p4≠p8:=fun z=>by have h:=k7 _ _ (k6 _ _ (k5 _ _ (q4) e4) e4) e4;rw[z,n8] at h;cases h
  have d23:p2≠p3:=fun z=>by have h:=q2;rw[z,n3] at h;cases h
  have d26:p2≠p6:=fun z=>by have h:=k5 _ _ (k4 _ _ (k3 _ _ (q2) e2) e2) e2;rw[z,n6] at h;cases h
  have d36:p3≠p6:=fun z=>by have h:=k5 _ _ (k4 _ _ (q3) e3) e3;rw[z,n6] at h;cases h
  refine kk H9 ⟨dx,p1,p2,p3,p4,p6,p7,p8,[],[]⟩ ⟨⟨.bC,.bC,a9,dX,dX⟩,g1,⟨[],g2,cD⟩,⟨[],g3,cD⟩,⟨[],g4,cD⟩,⟨g6,rfl⟩,⟨g7,rfl⟩,⟨[],g8,cD⟩,?_,?_⟩ kH fun x hx=>?_
  ·show [p1,p4,p8].Nodup
   simp[d14,d18,d48]
  ·show [p2,p3,p6].Nodup
   simp[d23,d26,d36]
  ·have hx':x∈[a,p1,p2,p3,p4,p6,p7,p8]:=by simpa[own] using hx
   simp only[zC,zD,or_false] at hx';rcases hx' with rfl | rfl | rfl | rfl | rfl | rfl | rfl | rfl
   ·exact .inl rfl
   ·exact .inr f1
   ·exact .inr f2
   ·exact .inr f3
   ·exact .inr f4
   ·exact .inr f6
   ·exact .inr f7
   ·exact .inr f8
inductive RT:List Str->List Told->Prop where
 | nil:RT [] []
 | blank {r:Str} {rs:List Str} {ts:List Told}:r.length<=1000000->words r=[]->RT rs ts->RT (r::rs) ts
 | row {r:Str} {t:Told} {rs:List Str} {ts:List Told}:r.length<=1000000->words r=wordsOf t->ON t->(wordsOf t).length<=1000000->(∀y∈wordsOf t,y.length<=600)->RT rs ts->RT (r::rs) (t::ts)
def Runs:cG->List Told->cG->Prop
 | S,[],S'=>S=S'
 | S,t::r,S'=>fault S t=none/\Qn S t/\qO S/\uG S/\Runs (bE S t) r S'
def JH (t:Told):∃ws,wordsOf t=pV t::ws:=by cases t <;> exact⟨_,rfl⟩
inductive AY (C:Addr) (vs:List V) (H:Hp) (Q:VK) (E:XK):Prop
 | mk (t:Str) (ts:List Told) (S:cG) (_:vs=[.str t]) (_:t.length+2<=sizeLine) (_:RT (Txt.split t "\n") ts) (_:Runs {} ts S) (_:∀a o H',bR C H' a S o->au H H'->(∀x∈own a o,H x=none)->Q (.ref a) H')
theorem JC {H0 H H':Hp} {v:V} (s:au H H'):∀{t:Option Told},gB H0 H v t->gB H0 H' v t
 | none,h=>h
 | some (.bA _),h=>h
 | some (.cF _ _ _),h=>Is.mono s h
 | some (.cg _ _),h=>Is.mono s h
 | some (.bar _),h=>Is.mono s h
 | some (.aE _),h=>Is.mono s h
 | some (.holds _ _ _),h=>Is.mono s h
 | some (.aG _ _ _),⟨a,q,vs,h1,h2,h3,h4,h5⟩=>⟨a,q,vs,h1,s _ _ h2,s _ _ h3,h4.mono s,h5⟩
 | some (.rep _),h=>Is.mono s h
 | some (.bZ _),h=>Is.mono s h
def dB:aA ["text","score","place","row","words","told","word"] ["text"] (ao rA):=dC
def Be (B:Dk P w K T) (F:Cf K T.lR):di P w base 8 T.qo (AY T.lR):=by
 nomatch T.qo,dB
 obtain⟨t,ts,S,rfl,tl,rt,run,kk⟩:=h;have sl:=yB;refine⟨_,(ag (bS 1 dB.nd (LX T.Oh (Bj T F) (hr.mono ∅) rfl T.Nc T.AO.b .nil IT))
  (ag (cB PassesOwn.never rfl (wH (by rfl) T.jT (ah (ck yF yJ yI jh (pv 0) (ah aJ af)) af)) (dQ (n:=2) rfl (aK (jP 2 dB.nd) (aK (jP 3 dB.nd) cV)))
  (ag (bS 4 dB.nd (bM (Fm T) hr T.words_of (ah (pv 3) af)))
   (aj (aF (ptr fi (eQ aB T.bu (ah (pv 4) af)) ae)
   (ag (bS 5 dB.nd (bM (Fo T B) hr T.xQ (ah (pv 4) af)))
    (ag (bS 6 dB.nd (bM (Ft T B F) hr T.y6 (ah (pv 1) (ah (fL (pv 4) ae) (ah (pv 5) af)))))
    (ag (aF (bq (fq (pv 6)))
    (aj xV)
    ax)
    (aj (bP (bM (Hn T F) hr T.Ed (ah (pv 1) (ah (fL (pv 4) ae) (ah (pv 5) af)))))))))
   ax))))
  (aj (aq (pv 1))))),?_⟩
 ac_rfl;intro a dx na ndx ne;refine⟨a,dx,rfl,aC,fun H1 o sc1 k1 fr1=>⟨rfl,?_⟩⟩;have s1:au H H1:=fun b u hb=>k1 b u (by rw[aD (fun z=>by rw[z,na] at hb;cases hb),aD (fun z=>by rw[z,ndx] at hb;cases hb)];exact hb) (fun z=>by rw[z,na] at hb;cases hb);have f1:∀x∈own a o,H x=none:=fun x hx=>by
  rcases fr1 x hx with z | z
  ·rw[z];exact na
  ·cases q:H x with
   | none=>rfl
   | some u=>
    rw[aD (fun y=>by rw[y,na] at q;cases q),aD (fun y=>by rw[y,ndx] at q;cases q),q] at z;cases z
 exists tl,fun l nl=>?_;have s2:au H1 (upd H1 l (.lst ((Txt.split t "\n").map V.str))):=aV nl;have h2:upd H1 l (.lst ((Txt.split t "\n").map V.str)) l=some (.lst ((Txt.split t "\n").map V.str)):=aC;generalize upd H1 l (.lst ((Txt.split t "\n").map V.str))=H2 at s2 h2 ⊢;generalize hrows:Txt.split t "\n"= rows at rt h2;exists l,_,rfl,aI.of h2,?_;refine sF (K:=K) (a:=l) (xs:=rows.map V.str) (fun i σ H'=>∃ts' S' o',RT (rows.drop i) ts'/\Runs S' ts' S/\bR T.lR H' a S' o'/\H' l=some (.lst (rows.map V.str))/\l∉own a o'/\au H H'/\(∀x∈own a o',H x=none)/\∃u2 u3 u4 u5 u6,σ=[some (.str t),some (.ref a),u2,u3,u4,u5,u6])
  ⟨ts,{},o,rt,run,sc1.mono s2,h2,C8 sc1 nl,s1.trans s2,f1,none,none,none,none,none,rfl⟩ (fun i σ H' _ h=>by obtain⟨_,_,_,_,_,_,h,_⟩:=h;exact aI.of h) ?_ ?_
 ·intro i x σ H3 p H4 hx hh s34 hp4
  refine dM fun N kN0 kR0 _ _=>?_;obtain⟨ts',S',o',rt',run',sc3,hl3,nl3,s3,f3,u2,u3,u4,u5,u6,rfl⟩:=hh;rw[zJ] at hx;cases qr:rows[i]? with
  | none=>rw[qr] at hx;cases hx
  | some r=>
  rw[qr] at hx;simp only[Option.map_some,Option.some.injEq] at hx;subst hx;have ed:rows.drop i=r::rows.drop (i+1):=by
   have hi:=(zw.mp qr).1;rw[List.drop_eq_getElem_cons hi];have:=(zw.mp qr).2;rw[this]
  rw[ed] at rt';have s4:=s3.trans s34;have sc4:=sc3.mono s34;cases rt' with
  | blank rl rw0 rt''=>
   refine⟨p,_,rfl,du.of hp4,rfl,?_⟩;refine⟨_,_,rfl,⟨_,_,rfl,⟨rfl,?_⟩⟩⟩;exists rl,fun p5 H5 s5 h5=>?_;rw[rw0] at h5;exists p5,_,rfl,.inl (aI.of h5),?_;left;have s05:=s4.trans s5;exact⟨ts',S',o',rt'',run',sc4.mono s5,s5 _ _ (s34 _ _ hl3),nl3,s05,f3,_,_,_,_,_,rfl⟩
  | row rl rw0 tok wl ws6 rt''=>
   rename_i t' ts'';obtain⟨fn,fit,hd,sz,run''⟩:=run';obtain⟨ws,ew⟩:=JH t';refine⟨p,_,rfl,du.of hp4,rfl,?_⟩;refine⟨_,_,rfl,⟨_,_,rfl,⟨rfl,?_⟩⟩⟩;exists rl,fun p5 H5 s5 h5=>?_;rw[rw0] at h5;have h5':=h5;rw[ew] at h5;have sc5:=sc4.mono s5;have hl5:=s5 _ _ (s34 _ _ hl3);exists p5,_,rfl,.inl (aI.of h5),?_;rw[za,zt];left;refine b9 (ze nofun) ?_;left;have wl':ws.length<=999999:=by rw[ew,zt] at wl;omega
   refine⟨p5,pV t',ws,rfl,aI.of h5,wl',by rw[<-ew];exact ws6,fun v H6 s6 tv=>?_⟩;rw[<-ew,Hh tok] at tv;have sc6:=sc5.mono s6;exists p5,_,0,_,rfl,rfl,aI.of (s6 _ _ h5),bz (j:=0) rfl,?_;exists a,S',o',pV t',v,H5,some t',rfl,sc6,tv,fun t2 e2=>by cases e2;exact⟨rfl,fit⟩,fun H7 s7=>?_
   rw[show MA S' (some t')=fault S' t' from rfl,fn];exists p5,_,0,_,rfl,rfl,aI.of (s7 _ _ (s6 _ _ h5)),bz (j:=0) rfl,?_;exists a,S',o',v,H5,t',rfl,sc5,s6.trans s7,JC s7 tv,fn,hd,sz,fun H8 o8 sc8 el8 fr8=>?_;have s07:=((s4.trans s5).trans s6).trans s7;left;refine⟨ts'',bE S' t',o8,rt'',run'',sc8,el8 _ _ nl3 (s7 _ _ (s6 _ _ hl5)),fun z=>?_,fun b u hb=>el8 _ _ (fun z=>by rw[f3 b z] at hb;cases hb) (s07 _ _ hb),fun x hx=>?_,_,_,_,_,_,rfl⟩
   ·rcases fr8 l z with y | y
    ·exact nl3 y
    ·rw[hl5] at y;cases y
   ·rcases fr8 x hx with y | y
    ·exact f3 x y
    ·exact(s4.trans s5).back y
 ·rintro σ H3 ⟨ts',S',o',rt',run',sc3,hl3,nl3,s3,f3,u2,u3,u4,u5,u6,rfl⟩
  rw[za,List.drop_length] at rt';cases rt';have es:S'=S:=run';subst es;change kk a o' H3 sc3 s3 f3
inductive vB (C:Addr) (vs:List V) (H:Hp) (Q:VK) (E:XK):Prop
 | mk (a:Addr) (S:cG) (o:Ow) (n:Str) (_:vs=[.ref a,.str n]) (_:bR C H a S o) (_:n∈S.players) (_:Q .bC H)
def vK:aA ["score","player"] ["score","player"] (ao nM):=dC
def vR {C:Addr} (F:Cf K C):di P w base 1 T.lQ (vB C):=by
 nomatch T.lQ,vK
 obtain⟨a,S,o,n,rfl,sc,hn,kk⟩:=h;obtain⟨ub,jm,ho,hub,hjm⟩:=sc.obj;refine⟨_,(aj (aF (iA dS (pv 1) (bD (pv 0) rfl) (by with_unfolding_all rfl))
  (aj xV)
  ax)),?_⟩
 ac_rfl;exists a,C,o.dx,_,_,rfl,ho,F.cls,F.players,rfl,?_;refine⟨o.pl,_,rfl,.inl (aI.of sc.pl),rfl,gr _,?_⟩;show∃k,V.bl (!Et (.str n) (S.players.map V.str))=.bl k/\_;rw[jk,ze hn];change kk
inductive CU (C:Addr) (vs:List V) (H:Hp) (Q:VK) (E:XK):Prop
 | mk (a:Addr) (S:cG) (o:Ow) (b:Int) (_:vs=[.ref a,.int b]) (_:bR C H a S o) (_:0<=b) (_:b<S.aL.length) (_:Q .bC H)
def C2:aA ["score","bar"] ["score","bar"] (ao uY):=dC
def Dn {C:Addr} (F:Cf K C):di P w base 1 T.uy (CU C):=by
 nomatch T.uy,C2
 obtain⟨a,S,o,b,rfl,sc,b0,b1,kk⟩:=h;obtain⟨ub,jm,ho,hub,hjm⟩:=sc.obj;obtain⟨vs,hv,il⟩:=sc.ba;refine⟨_,(aj (aF (PW.pt (eC (ptr eY (pv 1) ae) (dq (ptr B6 (pv 1) (eQ aB T.bu (ah (bD (pv 0) rfl) af))))))
  (aj xV)
  ax)),?_⟩
 ac_rfl;left;refine cm (zd nofun) ?_;exists a,C,o.dx,_,_,rfl,ho,F.cls,F.aL,rfl,?_;exists o.ba,vs,rfl,.inl (aI.of hv),?_;rw[aO il];left;refine cm (zd nofun) ?_;change kk
def pM (b:Int) (r:Option Str) (h:Int×Str):Option Str:=if h.1<=b then some h.2 else r
def yY (S:cG) (n:Str) (b:Int):Option Str:=((S.holds.lookup n).getD []).foldl (pM b) none
inductive tw (C:Addr) (vs:List V) (H:Hp) (Q:VK) (E:XK):Prop
 | mk (a:Addr) (S:cG) (o:Ow) (n:Str) (b:Int) (_:vs=[.ref a,.str n,.int b]) (_:bR C H a S o) (_:n∈S.players) (_:0<=b) (_:b<S.aL.length) (_:∀H',au H H'->Q (os (yY S n b)) H')
def eR:aA ["score","player","bar","instrument","hold"] ["score","player","bar"] (ao mm):=dC
def tS {C:Addr} (F:Cf K C):di P w base 2 T.ki (tw C):=by
 nomatch T.ki,eR
 obtain⟨a,S,o,n,b,rfl,sc,hn,b0,b1,kk⟩:=h;have sl:=yB;obtain⟨ub,jm,ho,hub,hjm⟩:=sc.obj;refine⟨_,(ag (bP (bM (vR T F) hr T.lQ (ah (pv 0) (ah (pv 1) af))))
  (ag (bP (bM (Dn T F) hr T.uy (ah (pv 0) (ah (pv 2) af))))
  (ag (bS 3 eR.nd aQ)
  (ag (cB PassesOwn.never rfl (bo (Fg (mK hr) (bD (pv 0) rfl) (pv 1) (bx af) ⟨rfl,rfl,rfl,rfl⟩)) (jP 4 eR.nd)
  (aj (aF (ptr gh (bN (pv 4) ae) (pv 2))
   (aj (bS 3 eR.nd (bN (pv 4) ae)))
   ax)))
  (aj (aq (pv 3))))))),?_⟩
 ac_rfl;exists a,S,o,n,rfl,sc,hn,?_;exists a,S,o,b,rfl,sc,b0,b1,?_;exists a,C,o.dx,_,_,rfl,ho,F.cls,F.holds,rfl,?_;refine⟨o.ho,rfl,.inl ⟨_,.inl sc.ho.1⟩,?_⟩;exists by show 0<=sizeLine;omega,?_
 intros p2 H2 s2 h2;refine⟨_,.inl ⟨_,kS n,.inl (s2 _ _ sc.ho.1),rfl,rfl⟩,?_⟩;obtain⟨h,vs,l,eh,hh,ilh,el⟩:∃h vs l,(e9 ((S.holds.map fun x=>kS x.1).zip (o.hs.map V.ref)) (kS n)).getD (.ref p2)=.ref h/\H2 h=some (.lst vs)/\ay H2 (l.map HX) vs/\(S.holds.lookup n).getD []=l:=by
  rcases ug (H:=H) n sc.ho.2 with⟨e1,e2⟩ | ⟨l,h,vs,e1,e2,hh,il⟩
  ·exact⟨p2,[],[],by rw[e2];rfl,h2,by unfold ay;rfl,by rw[e1];rfl⟩
  ·exact⟨h,vs,l,by rw[e2];rfl,s2 _ _ hh,il.mono s2,by rw[e1];rfl⟩
 unfold yY at kk;rw[el] at kk;rw[eh];exists⟨_,aI.of hh⟩,?_;refine dP (K:=K) (a:=h) (xs:=vs) (fun i σ H'=>H'=H2/\∃v,σ=[some (.ref a),some (.str n),some (.int b),some (Sc.os ((l.take i).foldl (pM b) none)),v]) ⟨rfl,none,rfl⟩ (fun i σ H' _ h=>by rw[h.1];exact aI.of hh) ?_ ?_
 ·rintro i x σ H3 hx ⟨rfl,v,rfl⟩
  obtain⟨d,hd,id⟩:=dt ilh hx;obtain⟨a3,rfl,h3⟩:=OJ id;have e:(l.take (i+1)).foldl (pM b) none=pM b ((l.take i).foldl (pM b) none) d:=by rw[cS hd,zX];rfl
  rw[e];left
  by_cases c:d.1<=b
  ·refine b9 (ze c) ?_
   rw[show pM b ((l.take i).foldl (pM b) none) d=some d.2 from if_pos c];change⟨_,rfl⟩
  ·refine cm (zd c) ?_
   rw[show pM b ((l.take i).foldl (pM b) none) d=(l.take i).foldl (pM b) none from if_neg c];change⟨_,rfl⟩
 ·rintro σ H3 ⟨rfl,v,rfl⟩
  rw[aO ilh,zM];change kk _ s2
theorem Runs.app:∀{a b:List Told} {S S1 S2:cG},Runs S a S1->Runs S1 b S2->Runs S (a++b) S2
 | [],_,_,_,_,h,k=>by
  have e:_=_:=h;subst e;exact k
 | _::_,_,_,_,_,⟨h1,h2,h3,h4,h5⟩,k=>⟨h1,h2,h3,h4,Runs.app h5 k⟩
theorem rL:∀{l:List Str} {S:cG},(S.players++l).Nodup->(S.players++l).length<=12->qO S->uG S->Runs S (l.map .bA) {S with players:=S.players++l}
 | [],S,_,_,_,_=>by
  show S=_;rw[zU]
 | n::r,S,nd,hl,hd,sz=>by
  have nd':=nd;rw[zR] at nd';rw[zg,zt] at hl;refine⟨?_,trivial,hd,sz,?_⟩
  ·unfold fault
   dsimp only;rw[if_neg (fun z=>nd'.2.2 n z n zp rfl),if_neg nofun]
  ·have ih:=rL (l:=r) (S:=bE S (.bA n)) (by show(S.players++[n]++r).Nodup;rw[zE];exact nd) (by show(S.players++[n]++r).length<=12;simp only[zg,zt,List.length_nil];omega) hd ⟨by show(S.players++[n]).length<=1000000;rw[zg];simp;omega,sz.2⟩
   have e:({bE S (.bA n) with players:=(bE S (.bA n)).players++r}:cG)={S with players:=S.players++n::r}:=by
    show({S with players:=S.players++[n]++r}:cG)=_;rw[zE];rfl
   rw[e] at ih;exact ih
theorem xJ:∀{l:List (Str×(Int×Int)×(Int×Int))} {S:cG},((S.ak++l).map (·.1)).Nodup->(S.ak++l).length<=12->qO S->uG S->Runs S (l.map fun x=>.cF x.1 x.2.1 x.2.2) {S with ak:=S.ak++l}
 | [],S,_,_,_,_=>by
  show S=_;rw[zU]
 | n::r,S,nd,hl,hd,sz=>by
  have nd':=nd;rw[zj,zR] at nd';rw[zg,zt] at hl;refine⟨?_,trivial,hd,sz,?_⟩
  ·unfold fault
   dsimp only;rw[if_neg (fun z=>nd'.2.2 n.1 z n.1 (by rw[zh];exact zp) rfl),if_neg nofun]
  ·have ih:=xJ (l:=r) (S:=bE S (.cF n.1 n.2.1 n.2.2)) (by show((S.ak++[n]++r).map _).Nodup;rw[zE];exact nd) (by show(S.ak++[n]++r).length<=12;simp only[zg,zt,List.length_nil];omega) hd ⟨sz.1,by show(S.ak++[n]).length<=1000000;rw[zg];simp;omega,sz.2.2⟩
   have e:({bE S (.cF n.1 n.2.1 n.2.2) with ak:=(bE S (.cF n.1 n.2.1 n.2.2)).ak++r}:cG)={S with ak:=S.ak++n::r}:=by
    show({S with ak:=S.ak++[n]++r}:cG)=_;rw[zE];rfl
   rw[e] at ih;exact ih
theorem BZ:∀{l:List Sc.KW} {S:cG},(S.aL++l).length<=200->qO S->uG S->Runs S (l.map .bar) {S with aL:=S.aL++l}
 | [],S,_,_,_=>by
  show S=_;rw[zU]
 | n::r,S,hl,hd,sz=>by
  rw[zg,zt] at hl;refine⟨?_,trivial,hd,sz,?_⟩
  ·unfold fault
   dsimp only;rw[if_neg nofun]
  ·have ih:=BZ (l:=r) (S:=bE S (.bar n)) (by show(S.aL++[n]++r).length<=200;simp only[zg,zt,List.length_nil];omega) hd ⟨sz.1,sz.2.1,sz.2.2.1,by show(S.aL++[n]).length<=1000000;rw[zg];simp;omega,sz.2.2.2.2⟩
   have e:({bE S (.bar n) with aL:=(bE S (.bar n)).aL++r}:cG)={S with aL:=S.aL++n::r}:=by
    show({S with aL:=S.aL++[n]++r}:cG)=_;rw[zE];rfl
   rw[e] at ih;exact ih
theorem xI:∀{l:List ((Int×Str)×List Item)} {S:cG},((S.aG++l).map (·.1)).Nodup->(S.aG++l).length<=1000000->OR S->(∀x∈l,0<=x.1.1/\x.1.1<S.aL.length/\x.1.2∈S.players/\x.2.length<=40/\(∀it∈x.2,M8 it.2)/\j6 x.2=S.len x.1.1.toNat)->qO S->uG S->Runs S (l.map fun x=>.aG x.1.1 x.1.2 x.2) {S with aG:=S.aG++l}
 | [],S,_,_,_,_,_,_=>by
  show S=_;rw[zU]
 | n::r,S,nd,hl,lu,hx,hd,sz=>by
  have nd':=nd;rw[zj,zR] at nd';rw[zg,zt] at hl;obtain⟨b0,b1,pin,il,iok,isum⟩:=hx n zp;refine⟨?_,⟨b0,nofun,iok,lu⟩,hd,sz,?_⟩
  ·unfold fault
   dsimp only;rw[if_neg (fun z=>nd'.2.2 n.1 z n.1 (by rw[zh];exact zp) rfl),if_neg (fun z=>z pin),if_neg,if_neg (fun z=>z isum),if_neg nofun];intro z;apply z;unfold cG.has;simp[b1]
  ·have ih:=xI (l:=r) (S:=bE S (.aG n.1.1 n.1.2 n.2)) (by show((S.aG++[n]++r).map _).Nodup;rw[zE];exact nd) (by show(S.aG++[n]++r).length<=1000000;simp only[zg,zt,List.length_nil];omega) lu (fun x h=>hx x (zm _ h)) hd ⟨sz.1,sz.2.1,sz.2.2.1,sz.2.2.2.1,by show(S.aG++[n]).length<=1000000;rw[zg];simp;omega,sz.2.2.2.2.2⟩
   have e:({bE S (.aG n.1.1 n.1.2 n.2) with aG:=(bE S (.aG n.1.1 n.1.2 n.2)).aG++r}:cG)={S with aG:=S.aG++n::r}:=by
    show({S with aG:=S.aG++[n]++r}:cG)=_;rw[zE];rfl
   rw[e] at ih;exact ih
def E3 {S:cG} {u:Int×Int} (hn:S.aE=none) (hb:S.aL.length≠0) (hs:u.1*(S.aP 0).2<(S.aP 0).1*u.2) (no:S.aG=[]) (zu:AU 8999 u) (lu:OR S) (hd:qO S) (sz:uG S):Runs S [.aE u] {S with aE:=some u}:=by
 refine⟨?_,⟨zu,lu,by rw[no];exact yf _⟩,hd,sz,rfl⟩;unfold fault;dsimp only;rw[if_neg (by rw[hn];simp),if_neg hb,if_neg (fun z=>z hs),if_neg (by rw[no];simp)]
theorem u7:∀{l:List (Str×List Str)} {S:cG},((S.aH++l).map (·.1)).Nodup->((S.aH++l).map (·.2)).flatten.Nodup->(∀x∈l,∀p∈x.2,p∈S.players)->(∀x∈l,x.2.length<=1000)->(S.aH++l).length<=1000000->qO S->uG S->Runs S (l.map fun x=>.cg x.1 x.2) {S with aH:=S.aH++l}
 | [],S,_,_,_,_,_,_,_=>by
  show S=_;rw[zU]
 | n::r,S,nd,fd,pin,pl,hl,hd,sz=>by
  have nd':=nd;have fd':=fd;rw[zj,zR] at nd';rw[zj,List.flatten_append,zh,z9,zR] at fd';rw[zg,zt] at hl;refine⟨?_,pl n zp,hd,sz,?_⟩
  ·unfold fault
   dsimp only;have pn:n.2.Nodup:=(zR.mp fd'.2.1).1;have p2:¬(S.aH.any fun q=>n.2.any fun p=>decide (p∈q.2))=true:=fun z=>by
    obtain⟨q,hq,z⟩:=yn.mp z;obtain⟨p,hp,z⟩:=yn.mp z;exact fd'.2.2 p (List.mem_flatten.mpr ⟨q.2,zO (f:=fun x:Str×List Str=>x.2) hq,yd z⟩) p (zI _ hp) rfl
   have p3:¬(n.2.any fun p=>!decide (p∈S.players))=true:=fun z=>by
    obtain⟨p,hp,z⟩:=yn.mp z;rw[ze (pin n zp p hp)] at z;cases z
   rw[if_neg (fun z=>nd'.2.2 n.1 z n.1 (by rw[zh];exact zp) rfl),if_neg (fun z=>z pn),if_neg p2,if_neg p3]
  ·have ih:=u7 (l:=r) (S:=bE S (.cg n.1 n.2)) (by show((S.aH++[n]++r).map _).Nodup;rw[zE];exact nd) (by show((S.aH++[n]++r).map _).flatten.Nodup;rw[zE];exact fd) (fun x h=>pin x (zm _ h)) (fun x h=>pl x (zm _ h)) (by show(S.aH++[n]++r).length<=1000000;simp only[zg,zt,List.length_nil];omega) hd ⟨sz.1,sz.2.1,by show(S.aH++[n]).length<=1000000;rw[zg];simp;omega,sz.2.2.2⟩
   have e:({bE S (.cg n.1 n.2) with aH:=(bE S (.cg n.1 n.2)).aH++r}:cG)={S with aH:=S.aH++n::r}:=by
    show({S with aH:=S.aH++[n]++r}:cG)=_;rw[zE];rfl
   rw[e] at ih;exact ih
def Md {base:List (Str×List (Int×Str))} {p:Str} (h:p∉base.map (·.1)):base.lookup p=none:=by
 induction base with
 | nil=>rfl
 | cons x r ih=>
  rw[zh,zC,not_or] at h;rw[yp,show(p == x.1)=false from by simp;exact h.1];exact ih h.2
def J0 {base:List (Str×List (Int×Str))} {p:Str} {acc:List (Int×Str)} (h:p∉base.map (·.1)):(base++[(p,acc)]).lookup p=some acc:=by
 induction base with
 | nil=>rw[List.nil_append,yp,beq_self_eq_true]
 | cons x r ih=>
  rw[zh,zC,not_or] at h;rw[List.cons_append,yp,show(p == x.1)=false from by simp;exact h.1];exact ih h.2
def MT {base:List (Str×List (Int×Str))} {p:Str} {acc:List (Int×Str)} {e:Int×Str} (h:p∉base.map (·.1)):eX (base++[(p,acc)]) p e=base++[(p,acc++[e])]:=by
 unfold eX;rw[if_pos (by rw[zj];exact zH _ (zy.mpr rfl)),zj];have er:(base.map fun q:Str×List (Int×Str)=>if q.1=p then(q.1,q.2++[e]) else q)=base:=by
  conv=>rhs;rw[<-List.map_id base]
  refine List.map_congr_left fun q hq=>?_;rw[if_neg (fun z=>h (by rw[<-z];exact zO (f:=fun x:Str×List (Int×Str)=>x.1) hq))];rfl
 rw[er];simp
def Cg {S:cG} {p:Str} {acc:List (Int×Str)} {h:Int×Str} (hl:(S.holds.lookup p).getD []=acc) (asc:∀a∈acc,a.1<h.1) (al:acc.length<20) (hp:p∈S.players) (hb:h.1<S.aL.length) (hi:h.2∈S.ak.map (·.1)):fault S (.holds p h.1 h.2)=none:=by
 unfold fault;dsimp only;rw[hl];have c1:¬(match acc.getLast? with | some q=>decide (h.1<=q.1) | none=>false)=true:=by
  cases q:acc.getLast? with
  | none=>simp
  | some x=>
   have:=asc x (List.mem_of_getLast? q);simp;exact this
 rw[if_neg (by
  cases q:acc.getLast? with
  | none=>simp
  | some x=>
   have:=asc x (List.mem_of_getLast? q);simp;exact this),if_neg (fun z=>z hp),if_neg (fun z=>z hi),if_neg (fun z=>z (by unfold cG.has;simp[hb])),if_neg nofun]
theorem E4 {p:Str} {base:List (Str×List (Int×Str))} (nb:p∉base.map (·.1)) (nd:(base.map (·.1)).Nodup) (bl:base.length<=999999) (bb:∀q∈base,q.2.length<=1000000):∀{row acc:List (Int×Str)} {S:cG},S.holds=base++[(p,acc)]->((acc++row).map (·.1)).Pairwise (·<·)->(acc++row).length<=20->p∈S.players->
  (∀h∈row,h.1<S.aL.length/\h.2∈S.ak.map (·.1))->uG S->Runs S (row.map fun h=>.holds p h.1 h.2) {S with holds:=base++[(p,acc++row)]}
 | [],acc,S,eS,_,_,_,_,_=>by
  show S=_;rw[zU,<-eS]
 | h::r,acc,S,eS,asc,al,hp,hx,sz=>by
  obtain⟨hb,hi⟩:=hx h zp;have asc':=asc;rw[zj,zT] at asc';rw[zg,zt] at al;have hd:qO S:=by
   refine⟨?_,?_,?_⟩
   ·rw[eS,zj,zR]
    exact⟨nd,by simp,fun x hx y hy e=>by simp at hy;subst hy;subst e;exact nb hx⟩
   ·rw[eS,zg];simp;omega
   ·intro q hq
    rw[eS] at hq;rcases zF.mp hq with z | z
    ·exact bb q z
    ·rw[zy.mp z];show acc.length<=1000000;omega
  refine⟨Cg (acc:=acc) (by rw[eS,J0 nb];rfl) (fun a ha=>asc'.2.2 a.1 (zO (f:=fun x:Int×Str=>x.1) ha) h.1 (by rw[zh];exact zp)) nofun hp hb hi,trivial,hd,sz,?_⟩;have ih:=E4 nb nd bl bb (row:=r) (acc:=acc++[h]) (S:=bE S (.holds p h.1 h.2)) (by show eX S.holds p (h.1,h.2)=_;rw[eS,MT nb]) (by rw[zE];exact asc) (by simp only[zg,zt,List.length_nil];omega) hp (fun x hx'=>hx x (zm _ hx')) sz;have e:({bE S (.holds p h.1 h.2) with holds:=base++[(p,acc++[h]++r)]}:cG)={S with holds:=base++[(p,acc++h::r)]}:=by
   show({S with holds:=base++[(p,acc++[h]++r)]}:cG)=_;rw[zE];rfl
  rw[e] at ih;exact ih
theorem xK:∀{l:List (Str×List (Int×Str))} {S:cG},((S.holds++l).map (·.1)).Nodup->(S.holds++l).length<=999999->(∀x∈l,x.2≠[]/\x.2.length<=20/\(x.2.map (·.1)).Pairwise (·<·)/\x.1∈S.players/\∀h∈x.2,h.1<S.aL.length/\h.2∈S.ak.map (·.1))->qO S->uG S->
  Runs S (l.map fun x=>x.2.map fun h=>Told.holds x.1 h.1 h.2).flatten {S with holds:=S.holds++l}
 | [],S,_,_,_,_,_=>by
  show S=_;rw[zU]
 | x::r,S,nd,hl,hx,hd,sz=>by
  obtain⟨ne,xl,asc,hp,hh⟩:=hx x zp;obtain⟨h,t,et⟩:=List.exists_cons_of_ne_nil ne;have nd':=nd;rw[zj,zR] at nd';have nb:x.1∉S.holds.map (·.1):=fun z=>nd'.2.2 x.1 z x.1 (by rw[zh];exact zp) rfl;rw[zg,zt] at hl;rw[zh,z9];refine Runs.app (S1:={S with holds:=S.holds++[x]}) ?_ ?_
  ·rw[et] at xl asc hh ⊢
   obtain⟨hb,hi⟩:=hh h zp;refine⟨Cg (acc:=[]) (by rw[Md nb];rfl) (by simp) (by simp) hp hb hi,trivial,hd,sz,?_⟩;have ea:bE S (.holds x.1 h.1 h.2)={S with holds:=S.holds++[(x.1,[h])]}:=by
    show({S with holds:=eX S.holds x.1 (h.1,h.2)}:cG)=_;unfold eX;rw[if_neg nb]
   rw[ea];have rr:=E4 (p:=x.1) nb hd.1 nofun hd.2.2 (row:=t) (acc:=[h]) (S:={S with holds:=S.holds++[(x.1,[h])]}) rfl asc xl hp (fun y hy=>hh y (zm _ hy)) sz;have ex:x=(x.1,[h]++t):=by rw[List.singleton_append,<-et]
   have e2:({({S with holds:=S.holds++[(x.1,[h])]}:cG) with holds:=S.holds++[(x.1,[h]++t)]}:cG)={S with holds:=S.holds++[x]}:=by rw[<-ex]
   rw[e2] at rr;exact rr
  ·have ih:=xK (l:=r) (S:={S with holds:=S.holds++[x]}) (by show((S.holds++[x]++r).map _).Nodup;rw[zE];exact nd) (by show(S.holds++[x]++r).length<=999999;simp only[zg,zt,List.length_nil];omega) (fun y hy=>hx y (zm _ hy)) ?_ sz
   ·have e:({({S with holds:=S.holds++[x]}:cG) with holds:=S.holds++[x]++r}:cG)={S with holds:=S.holds++x::r}:=by rw[zE];rfl
    exact e▸ih
   ·refine⟨?_,?_,?_⟩
    ·show((S.holds++[x]).map _).Nodup
     have:=List.Nodup.sublist (List.Sublist.map (fun x:Str×List (Int×Str)=>x.1) (List.Sublist.append (List.Sublist.refl S.holds) (List.singleton_sublist.mpr zp))) nd;exact this
    ·show(S.holds++[x]).length<=1000000
     rw[zg];simp;omega
    ·intro q hq
     have hq':q∈S.holds++[x]:=hq;rcases zF.mp hq' with z | z
     ·exact hd.2.2 q z
     ·rw[zy.mp z];omega
def wU (n:Nat):List Rep->List Rep->Prop
 | _,[]=>True
 | rs,r::l=>(∀b∈[r.first,r.last]++r.ends.map (·.1),b<(n:Int))/\lB rs r=true/\(GX r.ends<64/\r.ends.length<=1000/\-1000000<=r.times/\r.times<=1000000)/\wU n (rs++[r]) l
def Mt {S:cG} {bs:List Int} (h:∀b∈bs,b<(S.aL.length:Int)):S.has bs=true:=yo.mpr fun b hb=>ze (h b hb)
theorem BY:∀{l:List Rep} {S:cG},S.bZ=none->wU S.aL.length S.repeats l->(S.repeats++l).length<=20->qO S->uG S->Runs S (l.map .rep) {S with repeats:=S.repeats++l}
 | [],S,_,_,_,_,_=>by
  show S=_;rw[zU]
 | r::l,S,nj,⟨h1,h2,h3,h4⟩,hl,hd,sz=>by
  rw[zg,zt] at hl;refine⟨?_,h3,hd,sz,?_⟩
  ·unfold fault
   dsimp only;rw[if_neg (fun z=>z (Mt h1)),if_neg (by rw[nj];simp),if_neg (fun z=>z h2),if_neg nofun]
  ·have ih:=BY (l:=l) (S:=bE S (.rep r)) nj h4 (by show(S.repeats++[r]++l).length<=20;simp only[zg,zt,List.length_nil];omega) hd ⟨sz.1,sz.2.1,sz.2.2.1,sz.2.2.2.1,sz.2.2.2.2.1,by show(S.repeats++[r]).length<=1000000;rw[zg];simp;omega⟩
   have e:({bE S (.rep r) with repeats:=(bE S (.rep r)).repeats++l}:cG)={S with repeats:=S.repeats++r::l}:=by
    show({S with repeats:=S.repeats++[r]++l}:cG)=_;rw[zE];rfl
   rw[e] at ih;exact ih
def JK {S:cG} {j:Jump} (nj:S.bZ=none) (hb:∀b∈[j.wL,j.AS,j.dr]++j.gy.toList,b<(S.aL.length:Int)) (hf:gS S.repeats j=true) (ro:Em S) (hd:qO S) (sz:uG S):Runs S [.bZ j] {S with bZ:=some j}:=by
 refine⟨?_,ro,hd,sz,rfl⟩;unfold fault;dsimp only;rw[if_neg (by rw[nj];simp),if_neg (fun z=>z (Mt hb)),if_neg (fun z=>z hf)]
structure Ta (S:cG):Prop where
 pn:S.players.Nodup
 pl:S.players.length<=12
 Ts:(S.ak.map (·.1)).Nodup
 il:S.ak.length<=12
 sn:(S.aH.map (·.1)).Nodup
 sf:(S.aH.map (·.2)).flatten.Nodup
 sp:∀x∈S.aH,∀p∈x.2,p∈S.players
 sl:∀x∈S.aH,x.2.length<=1000
 sc:S.aH.length<=1000000
 bl:S.aL.length<=200
 lu:OR S
 up:∀u,S.aE=some u->S.aL.length≠0/\u.1*(S.aP 0).2<(S.aP 0).1*u.2/\AU 8999 u
 hn:(S.holds.map (·.1)).Nodup
 hl:S.holds.length<=999999
 hx:∀x∈S.holds,x.2≠[]/\x.2.length<=20/\(x.2.map (·.1)).Pairwise (·<·)/\x.1∈S.players/\∀h∈x.2,h.1<S.aL.length/\h.2∈S.ak.map (·.1)
 nn:(S.aG.map (·.1)).Nodup
 nl:S.aG.length<=1000000
 nx:∀x∈S.aG,0<=x.1.1/\x.1.1<S.aL.length/\x.1.2∈S.players/\x.2.length<=40/\(∀it∈x.2,M8 it.2)/\j6 x.2=S.len x.1.1.toNat
 rf:wU S.aL.length [] S.repeats
 rl:S.repeats.length<=20
 ro:Em S
 ju:∀j,S.bZ=some j->(∀b∈[j.wL,j.AS,j.dr]++j.gy.toList,b<(S.aL.length:Int))/\gS S.repeats j=true
def Lw {S:cG} (V:Ta S):Runs {} (eG S) S:=by
 have hd0:∀T:cG,T.holds=[]->qO T:=fun T e=>by
  refine⟨by rw[e];exact List.nodup_nil,by rw[e];exact yf _,fun q hq=>by rw[e] at hq;cases hq⟩
 have hdS:∀T:cG,T.holds=S.holds->qO T:=fun T e=>by
  refine⟨by rw[e];exact V.hn,by rw[e];have:=V.hl;omega,fun q hq=>?_⟩;rw[e] at hq;have:=(V.hx q hq).2.1;omega
 have b1:=V.pl;have b2:=V.il;have b3:=V.sc;have b4:=V.bl;have b5:=V.nl;have b6:=V.rl;have szP:∀T:cG,(T.players=[]\/T.players=S.players)->(T.ak=[]\/T.ak=S.ak)->(T.aH=[]\/T.aH=S.aH)->(T.aL=[]\/T.aL=S.aL)->(T.aG=[]\/T.aG=S.aG)->(T.repeats=[]\/T.repeats=S.repeats)->uG T:=fun T q1 q2 q3 q4 q5 q6=>by
  refine⟨?_,?_,?_,?_,?_,?_⟩
  ·rcases q1 with e | e <;> rw[e] <;> first | exact yf _ | omega
  ·rcases q2 with e | e <;> rw[e] <;> first | exact yf _ | omega
  ·rcases q3 with e | e <;> rw[e] <;> first | exact yf _ | omega
  ·rcases q4 with e | e <;> rw[e] <;> first | exact yf _ | omega
  ·rcases q5 with e | e <;> rw[e] <;> first | exact yf _ | omega
  ·rcases q6 with e | e <;> rw[e] <;> first | exact yf _ | omega
 have r1:=rL (l:=S.players) (S:={}) V.pn b1 (hd0 _ rfl) (szP _ (.inl rfl) (.inl rfl) (.inl rfl) (.inl rfl) (.inl rfl) (.inl rfl));have r2:=xJ (l:=S.ak) (S:={players:=S.players}) V.Ts b2 (hd0 _ rfl) (szP _ (.inr rfl) (.inl rfl) (.inl rfl) (.inl rfl) (.inl rfl) (.inl rfl));have r3:=u7 (l:=S.aH) (S:={players:=S.players,ak:=S.ak}) V.sn V.sf V.sp V.sl b3 (hd0 _ rfl) (szP _ (.inr rfl) (.inr rfl) (.inl rfl) (.inl rfl) (.inl rfl) (.inl rfl));have r4:=BZ (l:=S.aL) (S:={players:=S.players,ak:=S.ak,aH:=S.aH}) b4 (hd0 _ rfl) (szP _ (.inr rfl) (.inr rfl) (.inr rfl) (.inl rfl) (.inl rfl) (.inl rfl));have r5:Runs {players:=S.players,ak:=S.ak,aH:=S.aH,aL:=S.aL} (S.aE.toList.map .aE) {players:=S.players,ak:=S.ak,aH:=S.aH,aL:=S.aL,aE:=S.aE}:=by
  cases q:S.aE with
  | none=>exact rfl
  | some u=>
   obtain⟨u1,u2,u3⟩:=V.up u q;exact E3 (S:={players:=S.players,ak:=S.ak,aH:=S.aH,aL:=S.aL}) rfl u1 u2 rfl u3 V.lu (hd0 _ rfl) (szP _ (.inr rfl) (.inr rfl) (.inr rfl) (.inr rfl) (.inl rfl) (.inl rfl))
 have r6:=xK (l:=S.holds) (S:={players:=S.players,ak:=S.ak,aH:=S.aH,aL:=S.aL,aE:=S.aE}) V.hn V.hl V.hx (hd0 _ rfl) (szP _ (.inr rfl) (.inr rfl) (.inr rfl) (.inr rfl) (.inl rfl) (.inl rfl));have r7:=xI (l:=S.aG) (S:={players:=S.players,ak:=S.ak,aH:=S.aH,aL:=S.aL,aE:=S.aE,holds:=S.holds}) V.nn b5 V.lu V.nx (hdS _ rfl) (szP _ (.inr rfl) (.inr rfl) (.inr rfl) (.inr rfl) (.inl rfl) (.inl rfl));have r8:=BY (l:=S.repeats) (S:={players:=S.players,ak:=S.ak,aH:=S.aH,aL:=S.aL,aE:=S.aE,holds:=S.holds,aG:=S.aG}) rfl V.rf b6 (hdS _ rfl) (szP _ (.inr rfl) (.inr rfl) (.inr rfl) (.inr rfl) (.inr rfl) (.inl rfl));have r9:Runs {players:=S.players,ak:=S.ak,aH:=S.aH,aL:=S.aL,aE:=S.aE,holds:=S.holds,aG:=S.aG,repeats:=S.repeats} (S.bZ.toList.map .bZ) S:=by
  obtain⟨s1,s2,s3,s4,s5,s6,s7,s8,s9⟩:=S;cases s9 with
  | none=>exact rfl
  | some j=>
   obtain⟨j1,j2⟩:=V.ju j rfl;exact JK (S:={players:=s1,ak:=s2,aH:=s3,aL:=s4,aE:=s5,holds:=s6,aG:=s7,repeats:=s8}) rfl j1 j2 V.ro (hdS _ rfl) (szP _ (.inr rfl) (.inr rfl) (.inr rfl) (.inr rfl) (.inr rfl) (.inr rfl))
 exact Runs.app (Runs.app (Runs.app (Runs.app (Runs.app (Runs.app (Runs.app r1 r2) r3) r4) r5) r6) r7) (Runs.app r8 r9)
inductive vE (K:yA) (vs:List V) (H:Hp) (Q:VK) (E:XK):Prop
 | mk (a:Addr) (ns:List Int) (k:Int) (_:vs=[.ref a,.int k]) (_:aI K H a (ns.map V.int)) (_:0<=k) (_:ns.length<=1000) (_:∀c:Int,Q (.int c) H)
def vL:aA ["_law_script","_law_k"] ["_law_script","_law_k"] (ao nQ):=dC
def bU:di P w base 1 T.cw (vE K):=by
 nomatch T.cw,vL
 obtain⟨a,ns,k,rfl,hS,h0,hl,kk⟩:=h;refine⟨_,(ag (aF (ptr eY (pv 1) (eQ aB T.bu (ah (pv 0) af)))
  (aj (aq (fL (pv 0) (pv 1))))
  ax)
  (aj (aq ae))),?_⟩
 exists a,_,rfl,.inl hS,?_;left;refine vX (fun c1=>?_) (fun c1=>?_)
 ·have c2:=yd c1
  rw[za] at c2;change⟨a,_,_,_,rfl,rfl,hS,MQ h0 c2,kk _⟩
 ·left
  exact kk _
inductive tG (vs:List V) (H:Hp) (Q:VK) (E:XK):Prop
 | mk (c m:Int) (_:vs=[.int c,.int m]) (_:0<=c) (_:c<1099511627776) (_:0<=m) (_:m<=12) (_:∀(ns:List Str) p H',ns.length=m.toNat->AQ ns->au H H'->H' p=some (.lst (ns.map V.str))->Q (.ref p) H')
def df:aA ["_law_cell","_law_many","_law_letters","_law_first","_law_size","_law_place","_law_stem"] ["_law_cell","_law_many"] (ao mw):=dC
def eU:di P w base 1 T.d9 tG:=by
 nomatch T.d9,df
 obtain⟨c,m,rfl,c0,c1,m0,m1,kk⟩:=h;have sl:=yB;refine⟨_,(ag (bS 2 df.nd aJ)
  (ag (bS 3 df.nd (ar aR (ar aS (pv 0) ae) ae))
  (ag (aF (PW.pt (cT (ptr cY (ar aR (pv 0) ae) ae) (cH (ptr eY (pv 1) ae))))
  (aj (aq (pK (ts:=["_law_k"]) (ys:=["_law_many","_law_letters","_law_first"]) (js:=[1,2,3]) (te:=(fA OB (fA Nz (aY 2) (aY 3)) (fA (vM fun i j=>.int (i-j)) (aY 1) (aY 0)))) (cM (by rfl) T.dA (aa (pv 1) af)) (gO 0) bj (ar NO (xW Dw (pv 2) (pv 3) (fun _ _=>rfl)) (ar ke (pv 1) (pv 0))))))
  ax)
  (ag (bS 4 df.nd (ar aR (ar aS (pv 0) ae) ae))
  (ag (bS 5 df.nd (ar aR (ar aS (pv 0) ae) (ar aX (pv 4) ae)))
  (ag (bS 6 df.nd (ck yF yH yG gF aJ (aa (pK (ts:=["_law_k"]) (ys:=["_law_cell","_law_letters"]) (js:=[0,2]) (te:=(fA Nz (fA (fun x y H Q=>∃i j,x=.str i/\y=.str j/\i.length+j.length<=sizeLine/\Q (.str (i++j)) H) (aY 2) (tC (.str "0123456789"))) (fA (rI (fun _ j=>0<j) fun i j=>.int (i%j)) (fA (vM fun i j=>.int (i+j)) (fA (rI Qs fun i j=>.int (i/j)) (aY 1) (tC (.int (16224)))) (fA (rI KO fun i j=>.int (i*j)) (tC (.int (7))) (aY 0))) (tC (.int (36)))))) (cM (by rfl) T.dA (aa (pv 4) af)) (gO 0) bj (xW Dw (ar bO (pv 2) aJ) (ar aR (ar aX (ar aS (pv 1) ae) (ar dU ae (pv 0))) ae) (fun _ _=>rfl))) af)))
  (aj (aq (pK (ts:=["_law_k"]) (ys:=["_law_letters","_law_first","_law_place","_law_stem"]) (js:=[2,3,5,6]) (te:=(fA (fun x y H Q=>∃i j,x=.str i/\y=.str j/\i.length+j.length<=sizeLine/\Q (.str (i++j)) H) (fA (fun x y H Q=>∃i j,x=.str i/\y=.str j/\i.length+j.length<=sizeLine/\Q (.str (i++j)) H) (Sg Pt (aY 4) CG (Ld (aY 3))) (fA Nz (aY 1) (fA (rI (fun _ j=>0<j) fun i j=>.int (i%j)) (fA (vM fun i j=>.int (i+j)) (aY 2) (fA (rI KO fun i j=>.int (i*j)) (tC (.int (5))) (aY 0))) (tC (.int (26)))))) (Sg Pt (aY 4) (Ld (aY 3)) CG))) (cM (by rfl) T.dA (aa (pv 1) af)) (gO 0) bj (ar bO (ar bO (dz G4 (pv 4) eE (eD (pv 3))) (xW Dw (pv 1) (ar aR (ar aX (pv 2) (ar dU ae (pv 0))) ae) (fun _ _=>rfl))) (dz G4 (pv 4) (eD (pv 3)) eE))))))))))),?_⟩
 ac_rfl;left
 by_cases q:c%4=0
 ·refine b9 (by show decide (V.int (c%4)=V.int 0)=true;rw[q];rfl) ?_
  left;refine b9 (ze nofun) ?_;exists by omega,nofun,?_
  have f0:0<=c/4%26:=zv _ ∅;have f1:c/4%26<26:=zr _ ∅;refine lP (fun k=>.str (qk ⟨#[97+(c/4%26).toNat]⟩ (m.toNat-k))) (fun σ=>∃v,σ=[v,some (.int m),some (.str lets),some (.int (c/4%26))]) nofun ⟨none,rfl⟩ ?_ ?_
  ·rintro k σ H4 R hk s4 ⟨_,rfl⟩ r
   exists lets,_,_,rfl,rfl,(by show 26<=sizeLine;omega),IW f0 f1,?_;exists by omega,nofun,(by show 1<=1000;decide),?_
   refine r _ _ _ (au.refl _) ?_ ⟨_,rfl⟩;rw[show(m-(0+(k:Int))).toNat=m.toNat-k from by omega];exact eM
  ·intro D vs H4 s4 _ hD il
   have e:(List.range m.toNat).map (fun k=>Dt.str (qk ⟨#[97+(c/4%26).toNat]⟩ (m.toNat-k)))=((List.range m.toNat).map fun k=>qk ⟨#[97+(c/4%26).toNat]⟩ (m.toNat-k)).map Dt.str:=by rw[zA];rfl
   rw[e] at il;rw[dI il] at hD;exact kk _ D H4 (by rw[za,zQ]) (JX nofun (Mi f0 f1)) s4 hD
 ·refine cm (by show decide (V.int (c%4)=V.int 0)=false;exact zd fun z=>q (V.int.inj z)) ?_
  have f0:0<=c/4%26:=zv _ ∅;have f1:c/4%26<26:=zr _ ∅;have z0:0<=c/104%12:=zv _ ∅;have z1:c/104%12<12:=zr _ ∅;have y0:0<=c/1248%(c/104%12+1):=zv _ nofun;have y1:c/1248%(c/104%12+1)<c/104%12+1:=zr _ nofun;have x0:0<=c/16224:=zV c0 ∅;have x1:c/16224<=c:=zW _ c0;exists by show 0<c/104%12+1;omega,?_
  exists by omega,nofun,?_
  refine lP (fun k=>.str ⟨#[Np ((c/16224+7*(0+(k:Nat)))%36)]⟩) (fun σ=>∃v,σ=[v,some (.int c),some (.str lets)]) nofun ⟨none,rfl⟩ ?_ ?_
  ·rintro k σ H4 R hk s4 ⟨_,rfl⟩ r
   exists by show 26+10<=sizeLine;omega,?_
   left;have w0:0<=(c/16224+7*(0+(k:Int)))%36:=zv _ ∅;have w1:(c/16224+7*(0+(k:Int)))%36<36:=zr _ ∅;refine⟨lets ++"0123456789",_,_,rfl,rfl,by show 36<=sizeLine;omega,(Ls w0 w1).1,?_⟩;exact r _ _ _ (au.refl _) eM ⟨_,rfl⟩
  ·intro D vs H4 s4 _ hD il
   have e:(List.range (c/104%12).toNat).map (fun k:Nat=>Dt.str ⟨#[Np ((c/16224+7*(0+(k:Nat)))%36)]⟩)=(m8 c (c/104%12).toNat).map Dt.str:=by unfold m8;rw[zA];rfl
   rw[e] at il;rw[dI il] at hD;refine⟨"",D,m8 c (c/104%12).toNat,rfl,rfl,aI.of hD,by rw[Lk];omega,?_⟩;exists by omega,nofun,?_
   have sln:=Ln c (c/104%12).toNat;have ssg:=Ll (c:=c) (n:=(c/104%12).toNat);generalize hst:Str.join "" (m8 c (c/104%12).toNat)=stem at sln ssg;obtain⟨pn,hpn⟩:∃n:Nat,c/1248%(c/104%12+1)=(n:Int):=⟨(c/1248%(c/104%12+1)).toNat,nofun⟩
   obtain⟨fn,hfn⟩:∃n:Nat,c/4%26=(n:Int):=⟨(c/4%26).toNat,nofun⟩
   have pb:pn<=stem.length:=nofun
   have l1:(Txt.slice stem none (some (pn:Int))).length<=11:=by
    rw[<-show _=(Txt.slice stem none (some (pn:Int))).length from Array.length_toList,EW stem pb,zP];omega
   have l2:(Txt.slice stem (some (pn:Int)) none).length<=11:=by
    rw[<-show _=(Txt.slice stem (some (pn:Int)) none).length from Array.length_toList,pW stem pb,List.length_drop,show stem.cps.toList.length=stem.length from Array.length_toList];omega
   refine lP (fun k=>.str (Txt.slice stem none (some (pn:Int))++⟨#[97+(fn+5*k)%26]⟩++Txt.slice stem (some (pn:Int)) none)) (fun σ=>∃v,σ=[v,some (.str lets),some (.int (fn:Int)),some (.int (pn:Int)),some (.str stem)]) nofun ⟨none,by rw[<-hpn,<-hfn];rfl⟩ ?_ ?_
   ·rintro k σ H5 R hk s5 ⟨_,rfl⟩ r
    exists by omega,?_
    left;have w0:0<=((fn:Int)+5*(0+(k:Int)))%26:=zv _ ∅;have w1:((fn:Int)+5*(0+(k:Int)))%26<26:=zr _ ∅;have we:(((fn:Int)+5*(0+(k:Int)))%26).toNat=(fn+5*k)%26:=nofun
    refine⟨lets,_,_,rfl,rfl,by show 26<=sizeLine;omega,IW w0 w1,?_⟩;rw[we];have l3:(⟨#[97+(fn+5*k)%26]⟩:Str).length=1:=rfl;refine⟨_,_,rfl,rfl,nofun,?_⟩;exists by omega,?_
    refine⟨_,_,rfl,rfl,by rw[len_app];omega,?_⟩;exact r _ _ _ (au.refl _) eM ⟨_,rfl⟩
   ·intro D2 vs2 H5 s5 _ hD2 il2
    have e:(List.range m.toNat).map (fun k=>Dt.str (Txt.slice stem none (some (pn:Int))++⟨#[97+(fn+5*k)%26]⟩++Txt.slice stem (some (pn:Int)) none))=((List.range m.toNat).map fun k=>Txt.slice stem none (some (pn:Int))++⟨#[97+(fn+5*k)%26]⟩++Txt.slice stem (some (pn:Int)) none).map Dt.str:=by rw[zA];rfl
    rw[e] at il2;rw[dI il2] at hD2;exact kk _ D2 H5 (by rw[za,zQ]) (Hr nofun pb ssg nofun) (s4.trans s5) hD2
def tE:Sp:=fun vs H Q _=>∃(m:Int),vs=[.int m]/\0<=m/\∀q p H',MW q->au H H'->H' p=some (lY q)->Q (.ref p) H'
def gk:aA ["_law_m","_law_f","_law_high"] ["_law_m"] (ao mq):=dC
def tU:di P w base 1 T.kB tE:=by
 nomatch T.kB,gk
 obtain⟨m,rfl,m0,kk⟩:=h;have a:=zv m (b:=41) ∅;have b:=zr m (b:=41) ∅;have c:=zv (m/41) (b:=14) ∅;have d:=zr (m/41) (b:=14) ∅;refine⟨_,(ag (bS 1 gk.nd (ar ke (ar aR (pv 0) ae) ae))
  (ag (bS 2 gk.nd (ar dU (ar ke (ar aR (ar aS (pv 0) ae) ae) ae) ae))
  (aj (aq (bF (aa (pv 1) (aa (ar aX (ar aR (ar dU ae (pv 1)) ae) (pv 2)) af))))))),?_⟩
 ac_rfl;exists dn,?_;intros p1 H1 s1 h1;change kk _ _ _ (JS m) s1 h1
inductive tH (vs:List V) (H:Hp) (Q:VK) (E:XK):Prop
 | mk (m:Int) (x:Int×Int) (q:Addr) (_:vs=[.int m,.ref q]) (_:H q=some (lY x)) (_:0<=m) (_:m<1099511627776) (_:KJ x) (_:∀(its:List Item) p us H',Ep its x->au H H'->H p=none->H' p=some (.lst us)->ay H' (its.map eO) us->Q (.ref p) H')
def dg:aA ["_law_m","_law_length","_law_many","_law_weights","_law_items","_law_j","_law_each"] ["_law_m","_law_length"] (ao mz):=dC
def tW:di P w base 2 T.kD tH:=by
 nomatch T.kD,dg
 obtain⟨m,x,q,rfl,hq,m0,m1,xok,kk⟩:=h;have sl:=yB;have a:=zv m (b:=6) ∅;have b:=zr m (b:=6) ∅;obtain⟨n,hn⟩:∃n:Nat,1+m%6=(n:Int):=⟨(1+m%6).toNat,nofun⟩
 refine⟨_,(ag (bS 2 dg.nd (ar aX ae (ar aR (pv 0) ae)))
  (ag (M4 (i:=3) (ts:=["_law_j"]) (ys:=["_law_m"]) (js:=[0]) (te:=(fA (vM fun i j=>.int (i+j)) (tC (.int (1))) (fA (rI (fun _ j=>0<j) fun i j=>.int (i%j)) (fA (rI Qs fun i j=>.int (i/j)) (aY 1) (fA (vM fun i j=>.int (i+j)) (tC (.int (7))) (fA (rI KO fun i j=>.int (i*j)) (tC (.int (5))) (aY 0)))) (tC (.int (4)))))) (cM (by rfl) T.dA (aa (pv 2) af)) (gO 0) bj (ar aX ae (ar aR (ar aS (pv 1) (ar aX ae (ar dU ae (pv 0)))) ae)) dg.nd)
  (ag (bS 4 dg.nd (bx af))
  (ag (cB PassesOwn.never rfl (cM (by rfl) T.dA (aa (pv 2) af)) (jP 5 dg.nd)
  (ag (bS 6 dg.nd (bM (fU T) hr T.fI (aa (ar dU (bN (pv 1) ae) (fL (pv 3) (pv 5))) (aa (ar dU (bN (pv 1) ae) (eQ (Ko rfl) T.QZ (aa (pv 3) af))) af))))
   (aj (aF (PW.pt (cT (ptr jQ (pv 5) (ar aR (ar aS (pv 0) ae) (pv 2))) (cH (ptr cY (ar PM (ar PL (ar aS (pv 0) ae) (pv 5)) ae) ae))))
   (aj (bP (ck yC yE yD bG (pv 4) (aa (bF (aa aQ (aa (pv 6) af))) af))))
   (aj (bP (ck yC yE yD bG (pv 4) (aa (bF (aa (bM (tU T) hr T.kB (aa (ar aS (pv 0) (ar aX ae (ar dU ae (pv 5)))) af)) (aa (pv 6) af))) af))))))))
  (aj (aq (pv 4))))))),?_⟩
 ac_rfl;exists by omega,nofun,?_
 rw[show(1+m%6).toNat=n from by omega];refine lP (fun j=>.int (1+m/(7+5*(0+(j:Nat)))%4)) (fun σ=>∃v,σ=[v,some (.int m)]) nofun ⟨none,rfl⟩ ?_ ?_
 ·rintro j σ H1 R hj s1 ⟨_,rfl⟩ r
  exists⟨nofun,nofun⟩,?_;change r _ _ _ (au.refl _) cP ⟨_,rfl⟩
 ·intro D0 vs0 H1 s1 _ hD0 il0
  have e:(List.range n).map (fun j:Nat=>Dt.int (1+m/(7+5*(0+(j:Nat)))%4))=(sX m n).map Dt.int:=by unfold sX;rw[zA];rfl
  rw[e] at il0;rw[fu il0] at hD0;exists by show 0<=sizeLine;omega,?_
  intro D nD;have s2:au H1 (upd H1 D (.lst [])):=aV nD;have h2:upd H1 D (.lst []) D=some (.lst []):=aC;generalize upd H1 D (.lst [])=H2 at s2 h2 ⊢;have nDH:H D=none:=s1.back nD;exists by omega,nofun,?_
  rw[show(1+m%6).toNat=n from by omega];obtain⟨xr,x1,x2,x3⟩:=id xok;obtain⟨_,xp,_⟩:=xr.pos;have wl:=Na m n;have wb:=Li (l:=sX m n) fun w hw=>GP hw;have W0:0<(sX m n).sum:=nofun
  have W2:(sX m n).sum<=24:=nofun
  have j0a:0<=m/4%(n:Int):=zv _ nofun;have j0b:m/4%(n:Int)<n:=zr _ nofun;refine gq (fun i σ H'=>∃(its:List Item) (us:List V) (v5 v6:Option V),σ=[some (.int m),some (.ref q),some (.int (1+m%6)),some (.ref D0),some (.ref D),v5,v6]/\au H1 H'/\H' D=some (.lst us)/\ay H' (its.map eO) us/\its.length=i/\(∀it∈its,KL it)/\
   j6 its=red (x.1*((sX m n).take i).sum) (x.2*(sX m n).sum)/\(m/4%(n:Int)<i->its.all (fun it=>it.1.isNone)=false)) ⟨[],[],none,none,rfl,s2,h2,cD,rfl,by simp,Lh xp W0,fun z=>by exfalso;simp at z;omega⟩ ?_ ?_
  ·intro i σ H3 hi hh
   refine dM fun N kN0 kR0 _ _=>?_;obtain⟨its,us,v5,v6,rfl,s3,h3,il3,il,iok,isum,ino⟩:=hh;have hq3:=s3 _ _ (s1 _ _ hq);have hD3:=s3 _ _ hD0;have hwi:(sX m n)[i]?=some ((sX m n)[i]'nofun):=zb nofun;obtain⟨w1,w2⟩:=GP (zB hwi);generalize (sX m n)[i]'nofun=wi at hwi w1 w2;left;refine⟨D0,_,_,_,rfl,rfl,aI.of hD3,(by rw[Int.zero_add];exact bz (by rw[zJ,hwi];rfl)),?_⟩;exists .inl ⟨nofun,nofun⟩,?_;exists D0,_,rfl,aI.of hD3,fun w hw=>by have:=GP hw;omega,nofun,?_
   exists .inl ⟨nofun,nofun⟩,?_;have lk:=Me xok w1 w2 W0 W2;have b1:0<x.2*(sX m n).sum:=Int.mul_pos xp W0;have b2:x.2*(sX m n).sum<=160*24:=Int.mul_le_mul x3 W2 nofun ∅;have t0:0<=x.1*wi:=Int.mul_nonneg nofun nofun;refine⟨_,_,rfl,t0,b1,(dj (n:=12) nofun nofun).mono ∅,fun p6 H6 s6 h6=>?_⟩;exists by show 0<1+m%6;omega,?_
   left;have nD6:H6 D=some (.lst us):=s6 _ _ h3;have il6:=il3.mono s6;have e6:(sX m n).take (i+1)=(sX m n).take i++[wi]:=cS hwi;have ps:∀it:Item,it.2=red (x.1*wi) (x.2*(sX m n).sum)->j6 (its++[it])=red (x.1*((sX m n).take (i+1)).sum) (x.2*(sX m n).sum):=fun it e=>by
    rw[e6,List.sum_append];have:[wi].sum=wi:=by simp
    rw[this];exact Lg xp W0 isum e
   refine d8 ((!decide (V.int (0+(i:Int))=V.int (m/4%(1+m%6))))&&decide (V.int (Builtin.bitAnd (m/16/2^(0+(i:Int)).toNat) 1)=V.int 1)) ?_ ?_ ?_
   ·intro c Z hz
    rw[c,Bool.true_and] at hz;exists by show 0<=0+(i:Int);omega,?_
    change hz
   ·intro c;rw[c,Bool.false_and]
   ·cases qv:((!decide (V.int (0+(i:Int))=V.int (m/4%(1+m%6))))&&decide (V.int (Builtin.bitAnd (m/16/2^(0+(i:Int)).toNat) 1)=V.int 1)) with
    | true=>
     have ne:(i:Int)≠m/4%(n:Int):=fun z=>by
      rw[Int.zero_add,z,hn] at qv;simp at qv
     exists .inl ⟨rfl,_,aI.of nD6⟩,?_;exists dn,?_;intros p7 H7 s7 h7;refine⟨D,us,_,rfl,rfl,s7 _ _ nD6,(by have:=aO il3;omega),?_⟩;left;have nt:cN (H7 D):=by rw[s7 _ _ nD6];exact fun _ z=>by cases z
     have it7:Is H7 (eO (none,red (x.1*wi) (x.2*(sX m n).sum))) (.ref p7):=cz h7 (aM dX (aM (iG (s7 _ _ h6)) cD));refine⟨its++[(none,red (x.1*wi) (x.2*(sX m n).sum))],_,_,_,rfl,cJ nD ((s3.trans s6).trans s7),aC,?_,by rw[zg,il];rfl,fun it hit=>?_,ps _ rfl,fun z=>?_⟩
     ·rw[zj]
      exact cR (Is.upd nt it7) (ay.upd nt (il6.mono s7))
     ·rcases zF.mp hit with y | y
      ·exact iok it y
      ·rw[zy.mp y];exact⟨lk,fun q z=>by cases z⟩
     ·rw[List.all_append,ino nofun,Bool.false_and]
    | false=>
     exists .inl ⟨rfl,_,aI.of nD6⟩,?_;exists⟨nofun,nofun⟩,?_;exists zV m0 nofun,fun pq p8 H8 pok s8 h8=>?_;exists dn,?_;intros p7 H7 s7 h7;have s67:=s8.trans s7;refine⟨D,us,_,rfl,rfl,s67 _ _ nD6,by have:=aO il3;omega,?_⟩;left;have nt:cN (H7 D):=by rw[s67 _ _ nD6];exact fun _ z=>by cases z
     have it7:Is H7 (eO (some pq,red (x.1*wi) (x.2*(sX m n).sum))) (.ref p7):=cz h7 (aM (iG (s7 _ _ h8)) (aM (iG (s67 _ _ h6)) cD));refine⟨its++[(some pq,red (x.1*wi) (x.2*(sX m n).sum))],_,_,_,rfl,cJ nD ((s3.trans s6).trans s67),aC,?_,by rw[zg,il];rfl,fun it hit=>?_,ps _ rfl,fun z=>?_⟩
     ·rw[zj]
      exact cR (Is.upd nt it7) (ay.upd nt (il6.mono s67))
     ·rcases zF.mp hit with y | y
      ·exact iok it y
      ·rw[zy.mp y];exact⟨lk,fun q z=>by cases z;exact pok⟩
     ·rw[List.all_append];simp
  ·rintro σ H3 ⟨its,us,v5,v6,rfl,s3,h3,il3,il,iok,isum,ino⟩
   left;refine kk its D us H3 ⟨nofun,iok,?_,ino j0b⟩ (s1.trans s3) nDH h3 il3;rw[isum,show(sX m n).take n=sX m n from List.take_of_length_le nofun,JF xr W0]
noncomputable def Hw:List (Int×Int):=[(4,4),(3,4),(6,8),(2,2),(5,16),(7,8),(1,32),(12,1)]
def KP (b:Sc.KW):Prop:=b.aP∈Hw/\-7<=b.key/\b.key<=7/\(∀n∈b.marks,gf n)/\b.marks.length<=2
inductive vF (vs:List V) (H:Hp) (Q:VK) (E:XK):Prop
 | mk (c n:Int) (_:vs=[.int c,.int n]) (_:0<=n) (_:n<=200) (_:∀(bs:List Sc.KW) p us H',bs.length=n.toNat->(∀b∈bs,KP b)->au H H'->H p=none->H' p=some (.lst us)->ay H' (bs.map kT) us->Q (.ref p) H')
def bT:aA ["_law_cell","_law_many","_law_bars","_law_k","_law_m","_law_metre","_law_key","_law_marks"] ["_law_cell","_law_many"] (ao nT):=dC
def vU:di P w base 2 T.lX vF:=by
 nomatch T.lX,bT
 obtain⟨c,n,rfl,n0,n1,kk⟩:=h;have sl:=yB;refine⟨_,(ag (bS 2 bT.nd (bx af))
  (ag (cB PassesOwn.never rfl (cM (by rfl) T.dA (aa (pv 1) af)) (jP 3 bT.nd)
  (zf (zc (zS (bS 4 bT.nd (bM (bJ T) hr T.cu (aa (pv 0) (aa (ar aX (pv 3) ae) af)))))
   (zc (SD 5 bT.nd (NH Hw (ar aR (pv 4) ae) (fun _ _=>rfl)))
   (zc (zS (bS 6 bT.nd (ar ke (ar aR (ar aS (pv 4) ae) ae) ae)))
   (zc (zS (aF (PW.pt (cT (ptr fi (pv 3) ae) (cH (ptr fi (ar aR (ar aS (pv 4) ae) ae) ae))))
   (aj (bS 5 bT.nd (bN (fL (pv 2) (rT kZ ae)) ae)))
   ax))
   (zc (zS (aF (PW.pt (cT (ptr fi (pv 3) ae) (cH (ptr fi (ar aR (ar aS (pv 4) ae) ae) ae))))
   (aj (bS 6 bT.nd (bN (fL (pv 2) (rT kZ ae)) ae)))
   ax))
   (zc (zS (bS 7 bT.nd (mV cI T.iD (aa (bM (eU T) hr T.d9 (aa (ar aS (pv 4) ae) (aa (fL (bx (aa ae (aa ae (aa ae (aa ae (aa ae (aa ae (aa ae af)))))))) (ar aR (ar aS (pv 4) ae) ae)) af))) af))))
   (zo (zS (bP (ck yC yE yD bG (pv 2) (aa (bF (aa (pv 5) (aa (pv 6) (aa (pv 7) af)))) af)))))))))))))
  (aj (aq (pv 2))))),?_⟩
 ac_rfl;exists by show 0<=sizeLine;omega,?_
 intro D nD;have s2:au H (upd H D (.lst [])):=aV nD;have h2:upd H D (.lst []) D=some (.lst []):=aC;generalize upd H D (.lst [])=H2 at s2 h2 ⊢;exists by omega,nofun,?_
 refine gq (fun i σ H'=>∃(bs:List Sc.KW) (us:List V),Lo [some (.int c),some (.int n),some (.ref D)] 5 σ/\au H H'/\H' D=some (.lst us)/\ay H' (bs.map kT) us/\bs.length=i/\∀b∈bs,KP b)
  ⟨[],[],Lo.of rfl rfl,s2,h2,cD,rfl,by simp⟩ ?_ ?_
 ·intro i σ H3 hi hh
  refine dM fun N kN0 kR0 _ _=>?_;obtain⟨bs,us,⟨e,rfl⟩,s3,h3,il3,bl,bok⟩:=hh;exists c,_,rfl,nofun,nofun,?_;have m0:0<=mixed c (0+(i:Int)+20):=zv _ ∅;have m1:mixed c (0+(i:Int)+20)<2147483399:=zr _ ∅;generalize mixed c (0+(i:Int)+20)=m at m0 m1;have a0:0<=m%8:=zv _ ∅;have a1:m%8<8:=zr _ ∅;have b0:0<=m/8%15:=zv _ ∅;have b1:m/8%15<15:=zr _ ∅;left;intro D4 vs4 H4 s4 h4 il4;left;obtain⟨j,hj⟩:∃j:Nat,m%8=(j:Int):=⟨(m%8).toNat,nofun⟩
  have vl4:=aO il4;have jl:j<vs4.length:=by rw[vl4];show j<8;omega
  obtain⟨mx,hmx,imx⟩:=dt (d:=dL) il4 (i:=j) (zb jl);generalize hmv:vs4[j]=mv at imx;have h3':=s4 _ _ h3;have il3':=il3.mono s4;refine⟨D4,vs4,m%8,mv,rfl,rfl,aI.of h4,(by rw[hj];exact bz (by rw[<-hmv];exact zb jl)),?_⟩;left;have lastB:0<(i:Int)->∃b a mt q,us[us.length-1]?=some (.ref a)/\H4 a=some (.tup [mt,.int b.key,.ref q])/\Is H4 (dL b.aP) mt/\b∈bs:=fun ip=>by
   have ul:=aO il3';obtain⟨b,hb,ib⟩:=dt il3' (i:=us.length-1) (zb nofun);obtain⟨a,mt,q,ea,ha,hm,_⟩:=wJ ib;exact⟨b,a,mt,q,by rw[<-ea];exact zb nofun,ha,hm,zB hb⟩
  refine d8 (decide (0<0+(i:Int))&&decide (0<m/120%4)) ?_ ?_ ?_
  ·intro c1 Z hz
   rw[c1,Bool.true_and] at hz;change hz
  ·intro c1;rw[c1,Bool.false_and]
  refine join (fun σ H'=>H'=H4/\∃mv x,σ=[some (.int c),some (.int n),some (.ref D),some (.int (0+(i:Int))),some (.int m),some mv,some (.int (m/8%15-7)),e 4]/\Is H4 (dL x) mv/\x∈Hw) (fun N hN c1=>?_) (fun N hN c1=>?_) ?_
  ·have ip:0<(i:Int):=by simp at c1;omega
   obtain⟨b,a,mt,q,hl,ha,hm,hb⟩:=lastB ip;exists D,us,-1,_,rfl,rfl,aI.of h3',sP hl,?_;change hN _ _ ⟨rfl,mt,b.aP,rfl,hm,(bok b hb).1⟩
  ·left
   exact hN _ _ ⟨rfl,mv,mx,rfl,imx,zB hmx⟩
  clear imx hmv;rintro σ5 H5 ⟨e5,mv,x,rfl,imv,hx⟩;rw[e5];clear e5 H5;left;refine d8 (decide (0<0+(i:Int))&&decide (0<m/480%5)) ?_ ?_ ?_
  ·intro c1 Z hz
   rw[c1,Bool.true_and] at hz;change hz
  ·intro c1;rw[c1,Bool.false_and]
  refine join (fun σ H'=>H'=H4/\∃k:Int,σ=[some (.int c),some (.int n),some (.ref D),some (.int (0+(i:Int))),some (.int m),some mv,some (.int k),e 4]/\-7<=k/\k<=7) (fun N hN c1=>?_) (fun N hN c1=>?_) ?_
  ·have ip:0<(i:Int):=by simp at c1;omega
   obtain⟨b,a,mt,q,hl,ha,hm,hb⟩:=lastB ip;exists D,us,-1,_,rfl,rfl,aI.of h3',sP hl,?_;change hN _ _ ⟨rfl,b.key,rfl,(bok b hb).2.1,(bok b hb).2.2.1⟩
  ·left
   exact hN _ _ ⟨rfl,m/8%15-7,rfl,nofun,nofun⟩
  rintro σ5 H5 ⟨e5,k,rfl,k0,k1⟩;rw[e5];clear e5 H5;exists by show 7<=sizeLine;omega,?_
  intros p6 H6 s6 h6;have g0:0<=m/33600%7:=zv _ ∅;have g1:m/33600%7<7:=zr _ ∅;obtain⟨jj,hjj⟩:∃j:Nat,m/33600%7=(j:Int):=⟨(m/33600%7).toNat,nofun⟩
  obtain⟨z,hz,z0,z1⟩:∃z:Int,[V.int 0,V.int 0,V.int 0,V.int 0,V.int 0,V.int 1,V.int 2][jj]?=some (.int z)/\0<=z/\z<=2:=by
   have:jj<7:=nofun
   match jj,this with
   | 0,_=>exact⟨0,rfl,∅,∅⟩
   | 1,_=>exact⟨0,rfl,∅,∅⟩
   | 2,_=>exact⟨0,rfl,∅,∅⟩
   | 3,_=>exact⟨0,rfl,∅,∅⟩
   | 4,_=>exact⟨0,rfl,∅,∅⟩
   | 5,_=>exact⟨1,rfl,∅,∅⟩
   | 6,_=>exact⟨2,rfl,∅,∅⟩
  exists p6,_,m/33600%7,.int z,rfl,rfl,aI.of h6,(by rw[hjj];exact bz hz),?_;left;refine⟨_,z,rfl,zV m0 ∅,?_,z0,nofun,fun ns p7 H7 nl nok s7 h7=>?_⟩
  ·have:=zW (a:=m) 2400 m0;omega
  left;refine⟨p7,_,rfl,.inl ⟨aI.of h7,?_⟩⟩;intros p8 H8 s8 h8;have s48:=(s6.trans s7).trans s8;have h38:=s48 _ _ h3';exists .inl ⟨rfl,_,aI.of h38⟩,?_;exists nh,?_;intros p9 H9 s9 h9;refine⟨D,us,_,rfl,rfl,s9 _ _ h38,(by have:=aO il3;omega),?_⟩;left;have s49:=s48.trans s9;have nt:cN (H9 D):=by rw[s9 _ _ h38];exact fun _ z=>by cases z
  have ib:Is H9 (kT ⟨x,k,ns⟩) (.ref p9):=cz h9 (aM (imv.mono s49) (aM cP (aM (cz (s9 _ _ h8) (yV ns)) cD)));refine⟨bs++[⟨x,k,ns⟩],_,Lo.of rfl rfl,cJ nD ((s3.trans s4).trans s49),aC,?_,by rw[zg,bl];rfl,fun b hb=>?_⟩
  ·rw[zj]
   exact cR (Is.upd nt ib) (ay.upd nt (il3'.mono s49))
  ·rcases zF.mp hb with y | y
   ·exact bok b y
   ·rw[zy.mp y]
    exact⟨hx,k0,k1,nok.1,by show ns.length<=2;omega⟩
 ·rintro σ H3 ⟨bs,us,⟨e,rfl⟩,s3,h3,il3,bl,bok⟩
  change kk bs D us H3 bl bok s3 nD h3 il3
inductive qY (vs:List V) (H:Hp) (Q:VK) (E:XK):Prop
 | mk (bl:Addr) (us:List V) (S:cG) (ub:V) (b:Nat) (_:vs=[.ref bl,ub,.int b]) (_:H bl=some (.lst us)) (_:ay H (S.aL.map kT) us) (_:Is H (dO dL S.aE) ub) (_:b<S.aL.length) (_:(∀x∈S.aL,KP x)) (_:∀p H',au H H'->H' p=some (lY (S.len b))->Q (.ref p) H')
def lJ {x:Int×Int} (h:x∈Hw):1<=x.1/\x.1<=12/\x.2∈BC/\1<=x.2/\x.2<=32:=by
 unfold Hw at h;simp only[zC,zD,or_false] at h;rcases h with rfl | rfl | rfl | rfl | rfl | rfl | rfl | rfl <;> decide
def rj:aA ["_law_bars","_law_upbeat","_law_bar"] ["_law_bars","_law_upbeat","_law_bar"] (ao kJ):=dC
def si:di P w base 2 T.jx qY:=by
 nomatch T.jx,rj
 obtain⟨bl,us,S,ub,b,rfl,hbl,il,iu,hb,bok,kk⟩:=h;have ul:=aO il;obtain⟨x,hx,ix⟩:=dt il (i:=b) (zb nofun);obtain⟨a1,mv,q,ev,h1,im,_⟩:=wJ ix;obtain⟨m1,m2,m3,m4,m5⟩:=lJ (bok x (zB hx)).1;have em:S.aP b=red x.aP.1 x.aP.2:=by unfold cG.aP;rw[hx]
 cases fb (o:=some x.aP) im with
 | ref hm=>
 rename_i am;refine⟨_,(ag (aF (PW.pt (cT (ptr cY (pv 2) ae) (cH (bq (fq (pv 1))))))
  (aj (aq (pv 1)))
  ax)
  (aj (aq (bM (fU T) hr T.fI (aa (bN (bN (fL (pv 0) (pv 2)) ae) ae) (aa (bN (bN (fL (pv 0) (pv 2)) ae) ae) af)))))),?_⟩
 ac_rfl;left;have nz:∀H1,Is H1 (dO dL S.aE) ub->(!decide (ub=V.bC))=S.aE.isSome:=fun H1 z=>by
  cases q:S.aE with
  | none=>rw[q] at z;unfold dO Is at z;rw[z];rfl
  | some u=>
   rw[q] at z;cases fb (o:=some u) z with
   | ref hu=>rfl
 refine d8 (decide (V.int (b:Int)=V.int 0)&&S.aE.isSome) ?_ ?_ ?_
 ·intro c Z hz
  rw[c,Bool.true_and,<-nz H iu] at hz;change hz
 ·intro c;rw[c,Bool.false_and]
 ·cases qv:(decide (V.int (b:Int)=V.int 0)&&S.aE.isSome) with
  | true=>
   rw[zN] at qv;have b0:b=0:=by have:=V.int.inj (yd qv.1);omega
   cases q:S.aE with
   | none=>rw[q] at qv;cases qv.2
   | some u=>
    rw[q] at iu;cases fb (o:=some u) iu with
    | ref hu=>
     left;refine kk _ _ (au.refl _) ?_;unfold cG.len;rw[q];simp only[b0,if_true];exact hu
  | false=>
   have el:S.len b=S.aP b:=by
    unfold cG.len;cases q:S.aE with
    | none=>rfl
    | some u=>
     rw[q] at qv;have:b≠0:=fun z=>by rw[z] at qv;simp at qv
     simp only[if_neg this]
   rw[el,em] at kk;left;refine⟨bl,us,b,_,rfl,rfl,aI.of hbl,bz (zb nofun),?_⟩;rw[ev];left;refine⟨bl,us,b,_,rfl,rfl,aI.of hbl,bz (zb nofun),?_⟩;rw[ev];change⟨_,_,rfl,nofun,nofun,(dj (n:=10) nofun nofun).mono ∅,kk⟩
inductive tI (vs:List V) (H:Hp) (Q:VK) (E:XK):Prop
 | mk (c many:Int) (pp ip:Addr) (ps:List Str) (ins:List (Str×(Int×Int)×(Int×Int))) (iv:List V) (_:vs=[.int c,.ref pp,.ref ip,.int many]) (_:H pp=some (.lst (ps.map V.str))) (_:H ip=some (.lst iv)) (_:ay H (ins.map eA) iv) (_:ps.length<=100) (_:ins.length<=100) (_:many<=200) (_:∀(hs:List (Str×List (Int×Str))) D us H',List.Sublist (hs.map (·.1)) ps->(∀x∈hs,Jn (ins.map (·.1)) many x.2)->au H H'->H' D=some (.lst us)->RL (jA D H') hs us->Q (.ref D) H')
def J3 {H:Hp} {x:Str×(Int×Int)×(Int×Int)} {v:V} (h:Is H (eA x) v):∃a t l,v=.ref a/\H a=some (.tup [.str x.1,t,l]):=by
 unfold eA Is at h;obtain⟨a,vs,rfl,ha,hl⟩:=h;unfold ay at hl;obtain⟨v1,r1,rfl,h1,hl⟩:=hl;unfold ay at hl;obtain⟨v2,r2,rfl,h2,hl⟩:=hl;unfold ay at hl;obtain⟨v3,r3,rfl,h3,hl⟩:=hl;unfold ay at hl;subst hl;unfold Is at h1;subst h1;exact⟨a,v2,v3,rfl,ha⟩
def bB:aA ["_law_cell","_law_players","_law_instruments","_law_many","_law_holds","_law_k","_law_player","_law_row","_law_bar","_law_j","_law_m"] ["_law_cell","_law_players","_law_instruments","_law_many"] (ao mB):=dC
def tX:di P w base 2 T.kE tI:=by
 nomatch T.kE,bB
 obtain⟨c,many,pp,ip,ps,ins,iv,rfl,hpp,hip,ili,pl,il0,my,kk⟩:=h;have sl:=yB;have ivl:=aO ili;refine⟨_,(ag (bS 4 bB.nd (bx af))
  (ag (cB PassesOwn.never rfl (wH (by rfl) T.jT (aa (pv 1) af)) (dQ (n:=2) rfl (aK (jP 5 bB.nd) (aK (jP 6 bB.nd) cV)))
  (ag (bS 7 bB.nd (bx af))
   (ag (bS 8 bB.nd ae)
   (ag (cB PassesOwn.never rfl (cM (by rfl) T.dA (aa ae af)) (jP 9 bB.nd)
   (ag (bS 10 bB.nd (bM (bJ T) hr T.cu (aa (pv 0) (aa (ar aX (ar aX (ar dU ae (pv 5)) (pv 9)) ae) af))))
    (ag (bS 8 bB.nd (ar aX (pv 8) (ar aR (pv 10) ae)))
    (ag (aF (PW.pt (cT (ptr eY (pv 8) (pv 3)) (cT (ptr fi (eQ aB T.bu (aa (pv 2) af)) ae) (cH (ptr fi (ar aR (ar aS (pv 10) ae) ae) ae)))))
    (aj (bP (ck yC yE yD bG (pv 7) (aa (bF (aa (pv 8) (aa (bN (fL (pv 2) (ar aR (ar aS (pv 10) ae) (eQ aB T.bu (aa (pv 2) af)))) ae) af))) af))))
    ax)
    (aj (bS 8 bB.nd (ar aX (pv 8) ae)))))))
   (aj (aF (ptr (C9 hr.units) (pv 7) (bx af))
   (aj (bP (ck yC yE yD bG (pv 4) (aa (bF (aa (pv 6) (aa (pv 7) af))) af))))
   ax))))))
  (aj (aq (pv 4))))),?_⟩
 ac_rfl;exists by show 0<=sizeLine;omega,?_
 intro D nD;have s2:au H (upd H D (.lst [])):=aV nD;have h2:upd H D (.lst []) D=some (.lst []):=aC;generalize upd H D (.lst [])=H2 at s2 h2 ⊢;exists pp,_,rfl,aI.of (s2 _ _ hpp),?_;refine sF (K:=K) (a:=pp) (xs:=ps.map V.str) (fun i σ H'=>∃(hs:List (Str×List (Int×Str))) (us:List V),Lo [some (.int c),some (.ref pp),some (.ref ip),some (.int many),some (.ref D)] 6 σ/\au H H'/\H' D=some (.lst us)/\RL (jA D H') hs us/\List.Sublist (hs.map (·.1)) (ps.take i)/\(∀x∈hs,Jn (ins.map (·.1)) many x.2)/\hs.length<=i)
  ⟨[],[],Lo.of rfl rfl,s2,h2,rfl,List.nil_sublist _,by simp,zk _⟩ (fun i σ H' _ h=>by obtain⟨_,_,_,z,_⟩:=h;exact aI.of (z _ _ hpp)) ?_ ?_
 ·intro i x σ H3 p H4 hx hh s34 hp4
  refine dM fun N kN0 kR0 _ _=>?_;obtain⟨hs,us,⟨e,rfl⟩,s3,h3,rl3,sub,rok,hl⟩:=hh;rw[zJ] at hx;cases qr:ps[i]? with
  | none=>rw[qr] at hx;cases hx
  | some pn=>
  rw[qr] at hx;simp only[Option.map_some,Option.some.injEq] at hx;subst hx;refine⟨p,_,rfl,du.of hp4,rfl,?_⟩;refine⟨_,_,rfl,⟨_,_,rfl,⟨rfl,?_⟩⟩⟩;exists by show 0<=sizeLine;omega,?_
  intro R nR;have s5:au H4 (upd H4 R (.lst [])):=aV nR;have h5:upd H4 R (.lst []) R=some (.lst []):=aC;generalize upd H4 R (.lst [])=H5 at s5 h5 ⊢;exists by decide,(by decide),?_
  refine gq (fun j σ H'=>∃(row:List (Int×Str)) (ws:List V) (bar:Int) (v9 va:Option V),σ=[some (.int c),some (.ref pp),some (.ref ip),some (.int many),some (.ref D),some (.int (i:Int)),some (.str pn),some (.ref R),some (.int bar),v9,va]/\au H4 H'/\H' R=some (.lst ws)/\ay H' (row.map HX) ws/\0<=bar/\row.length<=j/\(row.map (·.1)).Pairwise (·<·)/\
   ∀h∈row,0<=h.1/\h.1<many/\h.2∈ins.map (·.1)/\h.1<bar) ⟨[],[],0,e 4,e 5,rfl,s5,h5,cD,∅,by simp,by simp,by simp⟩ ?_ ?_
  ·intro j σ H6 hj hh
   refine dM fun N kN1 kR1 _ _=>?_;obtain⟨row,ws,bar,v9,va,rfl,s6,h6,il6,b0,rl,asc,rin⟩:=hh;have s06:=(s3.trans s34).trans s6;left;have ib:i<ps.length:=(zw.mp qr).1;refine⟨c,_,rfl,nofun,nofun,?_⟩;have m0:0<=mixed c (7*(i:Int)+(0+(j:Int))+60):=zv _ ∅;have m1:mixed c (7*(i:Int)+(0+(j:Int))+60)<2147483399:=zr _ ∅;generalize mixed c (7*(i:Int)+(0+(j:Int))+60)=m at m0 m1;have a0:0<=m%5:=zv _ ∅;left;have hip6:=s06 _ _ hip;refine d8 (decide (bar+m%5<many)&&(decide (0<(ins.length:Int))&&decide (0<m/5%3))) ?_ ?_ ?_
   ·intro c1 Z hz
    rw[c1,Bool.true_and] at hz;exists ip,iv,rfl,.inl (aI.of hip6),?_;rw[ivl];left;refine d8 (decide (0<(ins.length:Int))&&decide (0<m/5%3)) ?_ ?_ hz
    ·intro c2 Z hz
     rw[c2,Bool.true_and] at hz;change hz
    ·intro c2;rw[c2,Bool.false_and]
   ·intro c1;rw[c1,Bool.false_and]
   refine join (fun σ H'=>∃(row:List (Int×Str)) (ws:List V),σ=[some (.int c),some (.ref pp),some (.ref ip),some (.int many),some (.ref D),some (.int (i:Int)),some (.str pn),some (.ref R),some (.int (bar+m%5)),some (.int (0+(j:Int))),some (.int m)]/\au H4 H'/\H' R=some (.lst ws)/\ay H' (row.map HX) ws/\row.length<=j+1/\(row.map (·.1)).Pairwise (·<·)/\
    ∀h∈row,0<=h.1/\h.1<many/\h.2∈ins.map (·.1)/\h.1<bar+m%5+1) (fun N hN c1=>?_) (fun N hN c1=>?_) ?_
   ·simp only[zN,decide_eq_true_eq] at c1
    obtain⟨c1,c2,c3⟩:=c1;have d0:0<=m/15%(ins.length:Int):=zv _ nofun;have d1:m/15%(ins.length:Int)<ins.length:=zr _ nofun;obtain⟨jj,hjj⟩:∃jj:Nat,m/15%(ins.length:Int)=(jj:Int):=⟨(m/15%(ins.length:Int)).toNat,nofun⟩
    obtain⟨nx,hnx,inx⟩:=dt (d:=eA) (ili.mono s06) (i:=jj) (zb nofun);obtain⟨ai,ti,li,ea,hai⟩:=J3 inx;exists .inl ⟨rfl,_,aI.of h6⟩,?_;exists ip,iv,rfl,.inl (aI.of hip6),?_;rw[ivl];exists by show 0<(ins.length:Int);omega,?_
    refine⟨ip,iv,_,_,rfl,rfl,aI.of hip6,(by rw[hjj];exact bz (zb nofun)),?_⟩;rw[ea];exists dn,?_;intros p7 H7 s7 h7;refine⟨R,ws,_,rfl,rfl,s7 _ _ h6,(by have:=aO il6;omega),?_⟩;left;have nt:cN (H7 R):=by rw[s7 _ _ h6];exact fun _ z=>by cases z
    refine hN _ _ ⟨row++[(bar+m%5,nx.1)],_,rfl,cJ nR (s6.trans s7),aC,?_,by rw[zg];simp;omega,?_,fun h hh=>?_⟩
    ·rw[zj]
     exact cR (Is.upd nt (cz h7 (aM cP (aM eM cD)))) (ay.upd nt (il6.mono s7))
    ·rw[zj,zT]
     refine⟨asc,by simp,fun x hx y hy=>?_⟩;obtain⟨h',hh',rfl⟩:=zG.mp hx;have ey:y=bar+m%5:=by simpa using hy
     have:=(rin h' hh').2.2.2;omega
    ·rcases zF.mp hh with z | z
     ·have:=rin h z
      exact⟨this.1,this.2.1,this.2.2.1,nofun⟩
     ·rw[zy.mp z]
      exact⟨by show 0<=bar+m%5;omega,c1,zO (f:=fun x:Str×(Int×Int)×(Int×Int)=>x.1) (zB hnx),by show bar+m%5<bar+m%5+1;omega⟩
   ·left
    refine hN _ _ ⟨row,ws,rfl,s6,h6,il6,nofun,asc,fun h hh=>?_⟩;have:=rin h hh;exact⟨this.1,this.2.1,this.2.2.1,nofun⟩
   rintro σ7 H7 ⟨row,ws,rfl,s7,h7,il7,rl7,asc7,rin7⟩;change⟨row,ws,bar+m%5+1,_,_,rfl,s7,h7,il7,nofun,rl7,asc7,rin7⟩
  ·rintro σ H6 ⟨row,ws,bar,v9,va,rfl,s6,h6,il6,b0,rl,asc,rin⟩
   have s06:=(s3.trans s34).trans s6;have h36:=s6 _ _ (s34 _ _ h3);have rl6:RL (jA D H6) hs us:=rl3.imp fun x v z=>(z.mono s34).mono s6;have ne:R≠D:=fun z=>by rw[z,s34 _ _ h3] at nR;cases nR
   have ib:i<ps.length:=(zw.mp qr).1;have tk:ps.take (i+1)=ps.take i++[pn]:=cS qr;exists by show 0<=sizeLine;omega,?_
   intros p7 H7 s7 h7;refine⟨R,p7,ws,[],rfl,rfl,.inl ⟨aI.of (s7 _ _ h6),aI.of h7⟩,.inr (.inl rfl),?_⟩;have wr:=aO il6;have s07:=s06.trans s7
   by_cases e:ws=[]
   ·rw[ze e]
    left;refine⟨hs,us,Lo.of rfl rfl,s07,s7 _ _ h36,rl6.imp fun x v z=>z.mono s7,?_,rok,nofun⟩;rw[tk];exact sub.trans (List.sublist_append_left _ _)
   ·rw[zd e]
    have rne:row≠[]:=fun z=>e (by rw[z] at wr;exact yr.mp wr);exists .inl ⟨rfl,_,aI.of (s7 _ _ h36)⟩,?_;exists dn,?_;intros p8 H8 s8 h8;have s78:=s7.trans s8;have h38:=s78 _ _ h36;refine⟨D,us,_,rfl,rfl,h38,by have:=rl3.len;omega,?_⟩;left;refine⟨hs++[(pn,row)],_,Lo.of rfl rfl,cJ nD (s06.trans s78),aC,?_,?_,fun x hx=>?_,by rw[zg];simp;omega⟩
    ·refine RL.snoc ?_ (rl6.imp fun x v z=>(z.mono s78).upd h38)
     exact jA.upd h38 ⟨p8,R,ws,rfl,h8,s78 _ _ h6,il6.mono s78,ne⟩
    ·rw[zj,tk]
     exact sub.append (List.Sublist.refl _)
    ·rcases zF.mp hx with z | z
     ·exact rok x z
     ·rw[zy.mp z]
      exact⟨rne,rl,asc,fun h hh=>⟨(rin h hh).1,(rin h hh).2.1,(rin h hh).2.2.1⟩⟩
 ·rintro σ H3 ⟨hs,us,⟨e,rfl⟩,s3,h3,rl3,sub,rok,hl⟩
  rw[za,zM] at sub;change kk hs D us H3 sub rok s3 h3 rl3
def Eo (S:cG) (ns:List ((Int×Str)×List Item)):Prop:=(ns.map (·.1)).Nodup/\∀x∈ns,0<=x.1.1/\x.1.1<S.aL.length/\x.1.2∈S.players/\Ep x.2 (S.len x.1.1.toNat)
inductive tF (vs:List V) (H:Hp) (Q:VK) (E:XK):Prop
 | mk (c:Int) (pp bl:Addr) (S:cG) (bv:List V) (ub:V) (_:vs=[.int c,.ref pp,.ref bl,ub]) (_:H pp=some (.lst (S.players.map V.str))) (_:H bl=some (.lst bv)) (_:ay H (S.aL.map kT) bv) (_:Is H (dO dL S.aE) ub) (_:S.players.length<=9) (_:S.players.Nodup) (_:S.aL.length<=200) (_:(∀x∈S.aL,KP x)) (_:(∀b:Nat,b<S.aL.length->KJ (S.len b))) (_:∀(ns:List ((Int×Str)×List Item)) D us H',Eo S ns->ns.length<=9*S.aL.length->au H H'->H' D=some (.lst us)->RL (hZ D H') ns us->Q (.ref D) H')
def bY:aA ["_law_cell","_law_players","_law_bars","_law_upbeat","_law_notes","_law_bar","_law_k","_law_player","_law_m","_law_often","_law_run"] ["_law_cell","_law_players","_law_bars","_law_upbeat"] (ao mr):=dC
def tV:di P w base 3 T.kC tF:=by
 nomatch T.kC,bY
 obtain⟨c,pp,bl,S,bv,ub,rfl,hpp,hbl,ilb,iub,pl,pnd,bl2,bok,lok,kk⟩:=h;have sl:=yB;have bvl:=aO ilb;refine⟨_,(ag (bS 4 bY.nd (bx af))
  (ag (cB PassesOwn.never rfl (cM (by rfl) T.dA (aa (eQ aB T.bu (aa (pv 2) af)) af)) (jP 5 bY.nd)
  (aj (cB PassesOwn.never rfl (wH (by rfl) T.jT (aa (pv 1) af)) (dQ (n:=2) rfl (aK (jP 6 bY.nd) (aK (jP 7 bY.nd) cV)))
   (ag (bS 8 bY.nd (bM (bJ T) hr T.cu (aa (pv 0) (aa (ar aX (ar aX (ar dU ae (pv 6)) (pv 5)) ae) af))))
    (ag (bS 9 bY.nd (ar aR (bM (bJ T) hr T.cu (aa (pv 0) (aa (ar aX (pv 6) ae) af))) ae))
    (ag (bS 10 bY.nd (ar aR (bM (bJ T) hr T.cu (aa (pv 0) (aa (ar aX (ar aX (ar dU ae (pv 6)) (ar aS (pv 5) ae)) ae) af))) ae))
    (aj (aF (PW.pt (cT (ptr gh (ar aR (pv 8) ae) (pv 9)) (cH (ptr fi (pv 10) ae))))
    (aj (bP (ck yC yE yD bG (pv 4) (aa (bF (aa (pv 5) (aa (pv 7) (aa (bM (tW T) hr T.kD (aa (ar aS (pv 8) ae) (aa (bM (si T) hr T.jx (aa (pv 2) (aa (pv 3) (aa (pv 5) af)))) af))) af)))) af))))
    ax))))))))
  (aj (aq (pv 4))))),?_⟩
 ac_rfl;exists by show 0<=sizeLine;omega,?_
 intro D nD;have s2:au H (upd H D (.lst [])):=aV nD;have h2:upd H D (.lst []) D=some (.lst []):=aC;generalize upd H D (.lst [])=H2 at s2 h2 ⊢;exists bl,bv,rfl,.inl (aI.of (s2 _ _ hbl)),?_;rw[bvl];exists by omega,nofun,?_
 rw[show((S.aL.length:Int)).toNat=S.aL.length from by omega];refine gq (fun i σ H'=>∃(ns:List ((Int×Str)×List Item)) (us:List V),Lo [some (.int c),some (.ref pp),some (.ref bl),some ub,some (.ref D)] 6 σ/\au H H'/\H' D=some (.lst us)/\RL (hZ D H') ns us/\Eo S ns/\(∀x∈ns,x.1.1<i)/\ns.length<=9*i)
  ⟨[],[],Lo.of rfl rfl,s2,h2,rfl,⟨by simp,by simp⟩,by simp,by simp⟩ ?_ ?_
 ·intro i σ H3 hi hh
  refine dM fun N kN0 kR0 _ _=>?_;obtain⟨ns,us,⟨e,rfl⟩,s3,h3,rl3,nok,nlt,nl⟩:=hh;exists pp,_,rfl,aI.of (s3 _ _ hpp),?_;refine sF (K:=K) (a:=pp) (xs:=S.players.map V.str) (fun j σ H'=>∃(ns:List ((Int×Str)×List Item)) (us:List V),Lo [some (.int c),some (.ref pp),some (.ref bl),some ub,some (.ref D),some (.int (0+(i:Int)))] 5 σ/\au H H'/\H' D=some (.lst us)/\RL (hZ D H') ns us/\Eo S ns/\(∀x∈ns,x.1.1<i\/(x.1.1=i/\x.1.2∈S.players.take j))/\ns.length<=9*i+j)
   ⟨ns,us,Lo.of rfl rfl,s3,h3,rl3,nok,fun x hx=>.inl (nlt x hx),nofun⟩ (fun i σ H' _ h=>by obtain⟨_,_,_,z,_⟩:=h;exact aI.of (z _ _ hpp)) ?_ ?_
  ·intro j x σ H4 p H5 hx hh s45 hp5
   refine dM fun N kN1 kR1 _ _=>?_;obtain⟨ns,us,⟨e,rfl⟩,s4,h4,rl4,nok,nlt,nl⟩:=hh;rw[zJ] at hx;cases qr:S.players[j]? with
   | none=>rw[qr] at hx;cases hx
   | some pn=>
   rw[qr] at hx;simp only[Option.map_some,Option.some.injEq] at hx;subst hx;have jb:j<S.players.length:=(zw.mp qr).1;have s05:=s4.trans s45;have h45:=s45 _ _ h4;have rl5:RL (hZ D H5) ns us:=rl4.imp fun x v z=>z.mono s45;have tk:S.players.take (j+1)=S.players.take j++[pn]:=cS qr;refine⟨p,_,rfl,du.of hp5,rfl,?_⟩;refine⟨_,_,rfl,⟨_,_,rfl,⟨rfl,?_⟩⟩⟩;exists c,_,rfl,nofun,nofun,?_;have m0:0<=mixed c (97*(j:Int)+(0+(i:Int))+100):=zv _ ∅;have m1:mixed c (97*(j:Int)+(0+(i:Int))+100)<2147483399:=zr _ ∅;generalize mixed c (97*(j:Int)+(0+(i:Int))+100)=m at m0 m1;exists c,_,rfl,nofun,nofun,?_;left;refine⟨c,_,rfl,?_,?_,?_⟩
   ·have:=zV (a:=0+(i:Int)) (b:=4) nofun ∅;omega
   ·have:=zW (a:=0+(i:Int)) 4 nofun;omega
   generalize mixed c (31*(j:Int)+(0+(i:Int))/4+400)=m3;generalize mixed c ((j:Int)+90)=m2;left;refine d8 (decide (m%6<=m2%5)&&decide (0<m3%3)) ?_ ?_ ?_
   ·intro c1 Z hz
    rw[c1,Bool.true_and] at hz;change hz
   ·intro c1;rw[c1,Bool.false_and]
   cases qv:(decide (m%6<=m2%5)&&decide (0<m3%3)) with
   | true=>
    exists .inl ⟨rfl,_,aI.of h45⟩,?_;exists bl,bv,S,ub,i,(by simp),s05 _ _ hbl,ilb.mono s05,iub.mono s05,hi,bok,fun p6 H6 s6 h6=>?_;refine⟨_,_,p6,rfl,h6,zV m0 ∅,?_,lok i hi,fun its p7 ws H7 iok s7 n7 h7 il7=>?_⟩
    ·have:=zW (a:=m) 6 m0;omega
    have s57:=s6.trans s7;have ne:p7≠D:=fun z=>by rw[z,s6 _ _ h45] at n7;cases n7
    exists nh,?_;intros p8 H8 s8 h8;have s58:=s57.trans s8;have h48:=s58 _ _ h45;refine⟨D,us,_,rfl,rfl,h48,by have:=rl4.len;omega,?_⟩;left;have fr:((0+(i:Int),pn):Int×Str)∉ns.map (·.1):=fun z=>by
     obtain⟨y,hy,ey⟩:=zG.mp z;rcases nlt y hy with q | ⟨_,q2⟩
     ·rw[ey] at q;dsimp only at q;omega
     ·rw[ey] at q2
      dsimp only at q2;have nd:=List.Nodup.sublist (List.take_sublist (j+1) S.players) pnd;rw[tk,zR] at nd;exact nd.2.2 pn q2 pn (zy.mpr rfl) rfl
    refine⟨ns++[((0+(i:Int),pn),its)],_,Lo.of rfl rfl,cJ nD (s05.trans s58),aC,?_,⟨?_,fun x hx=>?_⟩,fun x hx=>?_,by rw[zg];simp;omega⟩
    ·refine RL.snoc ?_ (rl5.imp fun x v z=>(z.mono s58).upd h48)
     exact hZ.upd h48 ⟨p8,p7,ws,rfl,h8,s8 _ _ h7,il7.mono s8,ne⟩
    ·rw[zj,zR]
     exact⟨nok.1,by simp,fun x hx y hy e=>by
      have:y=(0+(i:Int),pn):=by simpa using hy
      rw[<-e] at this;exact fr (this▸hx)⟩
    ·rcases zF.mp hx with z | z
     ·exact nok.2 x z
     ·rw[zy.mp z]
      refine⟨by show 0<=0+(i:Int);omega,by show 0+(i:Int)<S.aL.length;omega,zB qr,?_⟩;show Ep its (S.len (0+(i:Int)).toNat);rw[show(0+(i:Int)).toNat=i from by omega];exact iok
    ·rcases zF.mp hx with z | z
     ·rcases nlt x z with q | ⟨q1,q2⟩
      ·exact .inl q
      ·exact .inr ⟨q1,by rw[tk];exact zI _ q2⟩
     ·rw[zy.mp z]
      exact .inr ⟨by show 0+(i:Int)=i;omega,by rw[tk];exact zH _ (zy.mpr rfl)⟩
   | false=>
    left;refine⟨ns,us,Lo.of rfl rfl,s05,h45,rl5,nok,fun x hx=>?_,nofun⟩;rcases nlt x hx with z | ⟨z1,z2⟩
    ·exact .inl z
    ·exact .inr ⟨z1,by rw[tk];exact zI _ z2⟩
  ·rintro σ H4 ⟨ns,us,⟨e,rfl⟩,s4,h4,rl4,nok,nlt,nl⟩
   rw[za] at nlt nl;left;refine⟨ns,us,Lo.of rfl rfl,s4,h4,rl4,nok,fun x hx=>?_,nofun⟩;rcases nlt x hx with z | ⟨z1,z2⟩
   ·omega
   ·omega
 ·rintro σ H3 ⟨ns,us,⟨e,rfl⟩,s3,h3,rl3,nok,nlt,nl⟩
  change kk ns D us H3 nok nofun s3 h3 rl3
def Ru (ins:List (Str×(Int×Int)×(Int×Int))):Prop:=ins.length<=3/\AQ (ins.map (·.1))/\∀x∈ins,MW x.2.1/\-12<=x.2.1.1/\x.2.1.1<=12/\Lm.Rd x.2.2/\x.2.2.1<10000/\x.2.2.2<10000
def GW (n:Int):MW (n%25-12,7*(n%25-12)%12+12*(n/25%5-2))/\-12<=n%25-12/\n%25-12<=12:=by
 have a:=zv n (b:=25) ∅;have b:=zr n (b:=25) ∅;have c:=zv (n/25) (b:=5) ∅;have d:=zr (n/25) (b:=5) ∅;unfold MW;dsimp only;omega
def lq:Sp:=fun vs H Q _=>∃(c:Int),vs=[.int c]/\∀(ins:List (Str×(Int×Int)×(Int×Int))) D us H',Ru ins->au H H'->H' D=some (.lst us)->ay H' (ins.map eA) us->Q (.ref D) H'
def bc:aA ["_law_cell","_law_m","_law_instruments","_law_k","_law_name","_law_n","_law_df","_law_turn"] ["_law_cell"] (ao gg):=dC
def lI:di P w base 2 T.fc lq:=by
 nomatch T.fc,bc
 obtain⟨c,rfl,kk⟩:=h;have sl:=yB;refine⟨_,(ag (bS 1 bc.nd (bM (bJ T) hr T.cu (aa (pv 0) (aa ae af))))
  (ag (bS 2 bc.nd (bx af))
  (ag (cB PassesOwn.never rfl (wH (by rfl) T.jT (aa (bM (eU T) hr T.d9 (aa (ar aS (pv 1) ae) (aa (ar aR (pv 1) ae) af))) af)) (dQ (n:=2) rfl (aK (jP 3 bc.nd) (aK (jP 4 bc.nd) cV)))
  (ag (bS 5 bc.nd (bM (bJ T) hr T.cu (aa (pv 0) (aa (ar aX (pv 3) ae) af))))
   (ag (bS 6 bc.nd (ar ke (ar aR (pv 5) ae) ae))
   (ag (bS 7 bc.nd (bF (aa (pv 6) (aa (ar aX (ar aR (ar dU ae (pv 6)) ae) (ar dU ae (ar ke (ar aR (ar aS (pv 5) ae) ae) ae))) af))))
   (aj (bP (ck yC yE yD bG (pv 2) (aa (bF (aa (pv 4) (aa (pv 7) (aa (bM (fU T) hr T.fI (aa (ar aR (ar aS (pv 5) ae) ae) (aa (fL (bx (aa ae (aa ae (aa ae (aa ae (aa ae af)))))) (ar aR (ar aS (pv 5) ae) ae)) af))) af)))) af))))))))
  (aj (aq (pv 2)))))),?_⟩
 ac_rfl;exists c,8,rfl,nofun,nofun,?_;have m0:0<=mixed c 8:=zv _ ∅;have m1:mixed c 8<2147483399:=zr _ ∅;generalize mixed c 8=m at m0 m1;have a0:0<=m%4:=zv _ ∅;have a1:m%4<4:=zr _ ∅;exists by show 0<=sizeLine;omega,?_
 intro D nD;have s2:au H (upd H D (.lst [])):=aV nD;have h2:upd H D (.lst []) D=some (.lst []):=aC;generalize upd H D (.lst [])=H2 at s2 h2 ⊢;left;refine⟨_,_,rfl,zV m0 ∅,?_,a0,nofun,fun nms pn H3 nl nok s3 h3=>?_⟩
 ·have:=zW (a:=m) 4 m0;omega
 exists pn,_,rfl,aI.of h3,?_;have nl3:nms.length<=3:=nofun
 refine sF (K:=K) (a:=pn) (xs:=nms.map V.str) (fun i σ H'=>∃(ins:List (Str×(Int×Int)×(Int×Int))) (us:List V),Lo [some (.int c),some (.int m),some (.ref D)] 5 σ/\au H H'/\H' pn=some (.lst (nms.map V.str))/\H' D=some (.lst us)/\ay H' (ins.map eA) us/\ins.map (·.1)=nms.take i/\
  ∀x∈ins,MW x.2.1/\-12<=x.2.1.1/\x.2.1.1<=12/\Lm.Rd x.2.2/\x.2.2.1<10000/\x.2.2.2<10000)
  ⟨[],[],Lo.of rfl rfl,s2.trans s3,h3,s3 _ _ h2,cD,rfl,by simp⟩ (fun i σ H' _ h=>by obtain⟨_,_,_,_,z,_⟩:=h;exact aI.of z) ?_ ?_
 ·intro i x σ H4 p H5 hx hh s45 hp5
  refine dM fun N kN0 kR0 _ _=>?_;obtain⟨ins,us,⟨e,rfl⟩,s4,hpn4,h4,il4,ek,iok⟩:=hh;rw[zJ] at hx;cases qr:nms[i]? with
  | none=>rw[qr] at hx;cases hx
  | some nm=>
  rw[qr] at hx;simp only[Option.map_some,Option.some.injEq] at hx;subst hx;have ib:i<nms.length:=(zw.mp qr).1;have h45:=s45 _ _ h4;have tk:nms.take (i+1)=nms.take i++[nm]:=cS qr;have nepn:pn≠D:=fun z=>by
   have q:=h3;rw[z,s3 _ _ h2] at q;have e:([]:List V)=nms.map V.str:=HO.lst.inj (yj q);have:nms.length=0:=by rw[<-za (f:=V.str),<-e];rfl
   omega
  refine⟨p,_,rfl,du.of hp5,rfl,?_⟩;refine⟨_,_,rfl,⟨_,_,rfl,⟨rfl,?_⟩⟩⟩;exists c,_,rfl,nofun,nofun,?_;have n0:0<=mixed c ((i:Int)+530):=zv _ ∅;have n1:mixed c ((i:Int)+530)<2147483399:=zr _ ∅;generalize mixed c ((i:Int)+530)=n at n0 n1;exists dn,?_;intros p6 H6 s6 h6;have h46:=s6 _ _ h45;exists .inl ⟨rfl,_,aI.of h46⟩,?_;exists by show 5<=sizeLine;omega,?_
  intros p7 H7 s7 h7;have g0:0<=n/1125%5:=zv _ ∅;have g1:n/1125%5<5:=zr _ ∅;have t0:0<=n/125%9:=zv _ ∅;have t1:n/125%9<9:=zr _ ∅;obtain⟨jj,hjj⟩:∃j:Nat,n/1125%5=(j:Int):=⟨(n/1125%5).toNat,nofun⟩
  obtain⟨z,hz,z0,z1⟩:∃z:Int,[V.int 1,V.int 2,V.int 4,V.int 8,V.int 3][jj]?=some (.int z)/\0<z/\z<=8:=by
   have:jj<5:=nofun
   match jj,this with
   | 0,_=>exact⟨1,rfl,∅,∅⟩
   | 1,_=>exact⟨2,rfl,∅,∅⟩
   | 2,_=>exact⟨4,rfl,∅,∅⟩
   | 3,_=>exact⟨8,rfl,∅,∅⟩
   | 4,_=>exact⟨3,rfl,∅,∅⟩
  exists p7,_,n/1125%5,.int z,rfl,rfl,aI.of h7,(by rw[hjj];exact bz hz),?_;exists _,_,rfl,t0,z0,(dj (n:=10) nofun nofun).mono ∅,fun p8 H8 s8 h8=>?_;exists nh,?_;intros p9 H9 s9 h9;have s59:=((s6.trans s7).trans s8).trans s9;have h49:=s59 _ _ h45;refine⟨D,us,_,rfl,rfl,h49,?_,?_⟩
  ·have e1:=aO il4
   have e2:ins.length=(nms.take i).length:=by rw[<-ek,za]
   rw[zP] at e2;omega
  left;have nt:cN (H9 D):=by rw[h49];exact fun _ z=>by cases z
  have rb:=lC (t:=n/125%9) z0;have rle:=xP (t:=n/125%9) (b:=z) t0;obtain⟨td1,td2,td3⟩:=GW n;have ix:Is H9 (eA (nm,(n%25-12,7*(n%25-12)%12+12*(n/25%5-2)),red (n/125%9) z)) (.ref p9):=cz h9 (aM eM (aM (iG (((s7.trans s8).trans s9) _ _ h6)) (aM (iG (s9 _ _ h8)) cD)));refine⟨ins++[(nm,(n%25-12,7*(n%25-12)%12+12*(n/25%5-2)),red (n/125%9) z)],_,Lo.of rfl rfl,cJ nD ((s4.trans s45).trans s59),by rw[aD nepn];exact s59 _ _ (s45 _ _ hpn4),aC,?_,?_,fun x hx=>?_⟩
  ·rw[zj]
   exact cR (Is.upd nt ix) (ay.upd nt ((il4.mono s45).mono s59))
  ·rw[zj,ek,tk];rfl
  ·rcases zF.mp hx with y | y
   ·exact iok x y
   ·rw[zy.mp y]
    obtain⟨_,_,_,_,_,r5⟩:=rb;exact⟨td1,td2,td3,Lm.Rd.of t0 z0,by show(red (n/125%9) z).1<10000;omega,by show(red (n/125%9) z).2<10000;omega⟩
 ·rintro σ H4 ⟨ins,us,⟨e,rfl⟩,s4,hpn4,h4,il4,ek,iok⟩
  rw[za,zM] at ek;change kk ins D us H4 ⟨by rw[<-za (f:=fun x:Str×(Int×Int)×(Int×Int)=>x.1),ek];exact nl3,by rw[ek];exact nok,iok⟩ s4 h4 il4
inductive oR (vs:List V) (H:Hp) (Q:VK) (E:XK):Prop
 | mk (q:Addr) (x:Int×Int) (_:vs=[.ref q]) (_:H q=some (lY x)) (_:0<=x.1) (_:x.1<10000) (_:0<x.2) (_:x.2<10000) (_:Q (.str (iF x)) H)
def oU:aA ["_law_length"] ["_law_length"] (ao i7):=dC
def dH:di P w base 1 T.dh oR:=by
 nomatch T.dh,oU
 obtain⟨q,x,rfl,hq,x1,x2,x3,x4,kk⟩:=h;have sl:=yB;have a:=bg (n:=x.1) nofun x2;have b:=bg (n:=x.2) nofun x4;have na:=bH (n:=x.1) nofun x2;have nb:=bH (n:=x.2) nofun x4;have l1:("/": Str).length=1:=rfl;refine⟨_,(ag (aF (ptr cY (bN (pv 0) ae) ae)
  (aj (aq (mV aT T.eZ (aa (bN (pv 0) ae) af))))
  ax)
  (aj (aq (ar bO (ar bO (mV aT T.eZ (aa (bN (pv 0) ae) af)) aJ) (mV aT T.eZ (aa (bN (pv 0) ae) af)))))),?_⟩
 ac_rfl;left
 by_cases c:x.2=1
 ·refine b9 (by rw[c];rfl) ?_
  exists na,?_;left;unfold iF at kk;rw[if_pos c] at kk;exact kk
 ·refine cm (zd fun z=>c (V.int.inj z)) ?_
  unfold iF at kk;rw[if_neg c] at kk;exists na,?_;exists by show(dec x.1).length+_<=_;omega,?_
  exists nb,?_;exists by show(dec x.1 ++"/").length+(dec x.2).length<=_;rw[len_app];omega,?_
  exact kk
inductive jD (vs:List V) (H:Hp) (Q:VK) (E:XK):Prop
 | mk (v:V) (it:Item) (_:vs=[v]) (_:Is H (eO it) v) (_:KL it) (_:Q (.str (qF it)) H)
def Mf {H:Hp} {it:Item} {v:V} (h:Is H (eO it) v):∃a q b,v=.ref a/\H a=some (.tup [q,.ref b])/\Is H (dO dL it.1) q/\H b=some (lY it.2):=by
 unfold eO Is at h;obtain⟨a,vs,rfl,ha,hl⟩:=h;unfold ay at hl;obtain⟨v1,r1,rfl,h1,hl⟩:=hl;unfold ay at hl;obtain⟨v2,r2,rfl,h2,hl⟩:=hl;unfold ay at hl;subst hl;cases fb (o:=some it.2) h2 with
 | ref hb=>exact⟨a,v1,_,rfl,ha,h1,hb⟩
def rk:aA ["_law_item"] ["_law_item"] (ao kK):=dC
def sj:di P w base 2 T.jy jD:=by
 nomatch T.jy,rk
 obtain⟨v,⟨o,x⟩,rfl,iv,iok,kk⟩:=h;have sl:=yB;obtain⟨a,q,b,rfl,ha,iq,hb⟩:=Mf iv;obtain⟨⟨hr',h1,h2,h3⟩,hq⟩:=id iok;obtain⟨_,p2,_⟩:=hr'.pos;have lx:=kM (x:=x) (by have:=h1;dsimp only at this;omega) h2 (by have:=p2;dsimp only at this;omega) h3;dsimp only at h1 h2 h3 p2 hq hb iq;refine⟨_,(ag (aF (bq (cy (bN (pv 0) ae)))
  (aj (aq (ar bO aJ (bM (dH T) hr T.dh (aa (bN (pv 0) ae) af)))))
  ax)
  (aj (aq (ar bO (ar bO (ar bO (ar bO (mV aT T.eZ (aa (bN (bN (pv 0) ae) ae) af)) aJ) (mV aT T.eZ (aa (bN (bN (pv 0) ae) ae) af))) aJ) (bM (dH T) hr T.dh (aa (bN (pv 0) ae) af)))))),?_⟩
 ac_rfl;left;cases o with
 | none=>
  unfold dO Is at iq;subst iq;exists b,x,rfl,hb,nofun,h2,p2,h3,?_;have l2:("r:": Str).length=2:=rfl;refine⟨_,_,rfl,rfl,nofun,?_⟩;exact kk
 | some pq=>
  obtain⟨q1,q2,q3,q4,_⟩:=hq pq rfl;have la:=bg (n:=pq.1) nofun nofun;have lb:=bg (n:=pq.2) nofun nofun;have na:=bH (n:=pq.1) nofun nofun;have nb:=bH (n:=pq.2) nofun nofun;cases fb (o:=some pq) iq with
  | ref hpq=>
   have l1:(":": Str).length=1:=rfl;exists na,?_;exists by show(dec pq.1).length+_<=_;omega,?_
   exists nb,?_;exists by show(dec pq.1 ++":").length+(dec pq.2).length<=_;rw[len_app];omega,?_
   exists by show(dec pq.1 ++":" ++ dec pq.2).length+_<=_;rw[len_app,len_app];omega,?_
   exists b,x,rfl,hb,nofun,h2,p2,h3,?_;refine⟨_,_,rfl,rfl,by show(dec pq.1 ++":" ++ dec pq.2 ++":").length+_<=_;rw[len_app,len_app,len_app];omega,?_⟩;exact kk
inductive ic (vs:List V) (H:Hp) (Q:VK) (E:XK):Prop
 | mk (v:V) (r:Rep) (_:vs=[v]) (_:Is H (jB r) v) (_:KH r) (_:∀H',au H H'->Q (.str (rowOf (.rep r))) H')
noncomputable def w4 (r:Rep):List Str:=["repeat",dec r.first,dec r.last,dec r.times]
def dF:aA ["_law_repeat","_law_words","_law_begin","_law_passes"] ["_law_repeat"] (ao i6):=dC
def oW:di P w base 1 T.gA ic:=by
 nomatch T.gA,dF
 obtain⟨v,r,rfl,iv,⟨⟨f1,f2,f3,f4,f5⟩,el,pl⟩,kk⟩:=h;have sl:=yB;obtain⟨a,ep,rfl,ha,ie⟩:=fT iv;obtain⟨ep',evs,e0,hep,ile⟩:∃ep' evs,V.ref ep=.ref ep'/\H ep'=some (.tup evs)/\ay H (r.ends.map mT) evs:=by unfold Is at ie;exact ie
 cases e0;have evl:=aO ile;have n1:=bH (n:=r.first) (by have:=f1.1;omega) (by have:=f1.2;omega);have n2:=bH (n:=r.last) (by have:=f2.1;omega) (by have:=f2.2;omega);have n3:=bH (n:=r.times) nofun nofun;refine⟨_,(ag (bS 1 dF.nd (bx (aa aJ (aa (mV aT T.eZ (aa (bN (pv 0) ae) af)) (aa (mV aT T.eZ (aa (bN (pv 0) ae) af)) (aa (mV aT T.eZ (aa (bN (pv 0) ae) af)) af))))))
  (ag (cB PassesOwn.never rfl (kc (bN (pv 0) ae)) (dQ (n:=2) rfl (aK (jP 2 dF.nd) (aK (jP 3 dF.nd) cV)))
  (aj (bP (ck yC yE yD bG (pv 1) (aa (ar bO (ar bO (mV aT T.eZ (aa (pv 2) af)) aJ) (ck yF yH yG gF aJ (aa (pK (ts:=["_law_one"]) (ys:=[]) (js:=[]) (te:=(JE QU (bK (aY 0) eI))) (kc (pv 3)) (gO 0) bj (mV aT T.eZ (aa (pv 0) af))) af))) af)))))
  (aj (aq (ck yF yH yG gF aJ (aa (pv 1) af)))))),?_⟩
 ac_rfl;exists n1,?_;exists n2,?_;exists n3,?_;exists by show 4<=sizeLine;omega,?_
 intro W nW;generalize hU:upd H W _=H2;have s2:au H H2:=by rw[<-hU];exact aV nW
 have h2:H2 W=some (.lst ((w4 r).map V.str)):=by rw[<-hU];exact aC
 clear hU;have ha2:=s2 _ _ ha;exists⟨_,du.of (s2 _ _ hep)⟩,?_;refine Ja (K:=K) (a:=ep) (xs:=evs) (fun i σ H'=>∃(v2 v3:Option V),σ=[some (.ref a),some (.ref W),v2,v3]/\au H H'/\H' W=some (.lst ((w4 r++(r.ends.take i).map oY).map V.str))) ⟨none,none,rfl,s2,by rw[List.take_zero,ym,zU];exact h2⟩ (fun i σ H' _ h=>by obtain⟨_,_,_,z,_⟩:=h;exact du.of (z _ _ hep)) ?_ ?_
 ·intro i x σ H3 hx hh
  refine dM fun N kN0 kR0 _ _=>?_;obtain⟨v2,v3,rfl,s3,h3⟩:=hh;obtain⟨e,he,ie⟩:=dt ile hx;obtain⟨b,q,rfl,hb,hq⟩:=uj ie;have eo:=f5 e (zB he);have pe:=pl e (zB he);have hb3:=s3 _ _ hb;have tk:r.ends.take (i+1)=r.ends.take i++[e]:=cS he;have ib:i<r.ends.length:=(zw.mp he).1;have nb:=bH (n:=e.1) (by have:=eo.1;omega) (by have:=eo.2.1;omega);have lb:=bg (n:=e.1) (by have:=eo.1;omega) (by have:=eo.2.1;omega);refine⟨b,_,rfl,du.of hb3,rfl,?_⟩;refine⟨_,_,rfl,⟨_,_,rfl,⟨rfl,?_⟩⟩⟩;exists .inl ⟨rfl,_,aI.of h3⟩,?_;exists nb,?_;exists by show(dec e.1).length+(":": Str).length<=_;have:(":": Str).length=1:=rfl;omega,?_
  exists⟨_,du.of (s3 _ _ hq)⟩,?_;refine gx (enc:=V.int) (ws:=e.2) (fun z=>.str (dec z)) (fun σ=>∃v,σ=[v]) nofun (s3 _ _ hq) ⟨none,rfl⟩ ?_ ?_
  ·rintro z σ H4 R hz s4 ⟨_,rfl⟩ rr
   have:=eo.2.2.2 z hz;exists bH nofun nofun,?_;exact rr _ _ _ (au.refl _) eM ⟨_,rfl⟩
  ·intro D vs H4 s4 hD il
   have e1:e.2.map (fun z=>Dt.str (dec z))=(e.2.map dec).map Dt.str:=by rw[zA];rfl
   rw[e1] at il;rw[dI il] at hD;have l5:∀z∈e.2.map dec,z.length<=5:=fun z hz=>by
    obtain⟨p,hp,rfl⟩:=zG.mp hz;have:=eo.2.2.2 p hp;exact bg nofun nofun
   have l9:(e.2.map dec).length<=9:=by rw[za];exact pe
   have sb:=pQ (sep:=",") l5;have jb:=yU (sep:=",") l5;have mb:(e.2.map dec).length*(5+(",": Str).length)<=9*(5+1):=Nat.mul_le_mul l9 (zk _);refine⟨",",D,_,rfl,rfl,aI.of hD,zL sb (zL mb nofun),?_⟩;refine⟨_,_,rfl,rfl,?_,?_⟩
   ·show(dec e.1 ++":").length+(Str.join "," (e.2.map dec)).length<=sizeLine
    rw[len_app];have:(":": Str).length=1:=rfl;omega
   have h34:=s4 _ _ h3;have s04:=s3.trans s4;left;refine⟨W,_,_,rfl,rfl,h34,?_,?_⟩
   ·rw[za,zg,za,zP]
    show 4+_<_;omega
   exists _,_,rfl,cJ nW s04,?_;have ew:(w4 r++(r.ends.take (i+1)).map oY).map V.str=(w4 r++(r.ends.take i).map oY).map V.str++[V.str (oY e)]:=by
    rw[tk,zj (f:=oY),<-zE,zj (f:=V.str)];rfl
   rw[aC,ew];rfl
 ·rintro σ H3 ⟨v2,v3,rfl,s3,h3⟩
  rw[evl,zM] at h3;left;have ll:∀z∈w4 r++r.ends.map oY,z.length<=60:=fun z hz=>by
   rcases zF.mp hz with y | y
   ·unfold w4 at y
    simp only[zC,zD,or_false] at y;rcases y with rfl | rfl | rfl | rfl
    ·decide
    ·have:=bg (n:=r.first) (by have:=f1.1;omega) (by have:=f1.2;omega);omega
    ·have:=bg (n:=r.last) (by have:=f2.1;omega) (by have:=f2.2;omega);omega
    ·have:=bg (n:=r.times) nofun nofun;omega
   ·obtain⟨e,he,rfl⟩:=zG.mp y
    exact FZ (f5 e he) (pl e he)
  have sb:=pQ (sep:=" ") ll;refine⟨" ",W,_,rfl,rfl,aI.of h3,?_,?_⟩
  ·have l4:(w4 r++r.ends.map oY).length<=13:=by rw[zg,za];show 4+_<=13;omega
   exact zL sb (zL (Nat.mul_le_mul l4 (zk _)) (by show 13*(60+1)<=sizeLine;omega))
  exact kk _ s3
def S9 {c:Bool} {T1 T2:VK->Prop} {Z:VK} {H:Hp} (v:V) (h1:c=true->∀Z:VK,Z v H->T1 Z) (h2:c=false->∀Z:VK,Z v H->T2 Z) (hz:Z v H):if c=true then T1 Z else T2 Z:=by
 cases c with
 | true=>rw[if_pos rfl];exact h1 rfl Z hz
 | false=>rw[if_neg (by simp)];exact h2 rfl Z hz
def Rr (j:Jump):Prop:=ON (.bZ j)
noncomputable def y3 (S:cG):List Told:=S.repeats.map .rep++S.bZ.toList.map .bZ
inductive qZ (vs:List V) (H:Hp) (Q:VK) (E:XK):Prop
 | mk (p:Addr) (S:cG) (_:vs=[.ref p]) (_:vo H p S) (_:(∀r∈S.repeats,KH r)) (_:S.repeats.length<=1000) (_:(∀j,S.bZ=some j->Rr j)) (_:∀D H',au H H'->H D=none->H' D=some (.lst (((y3 S).map rowOf).map V.str))->Q (.ref D) H')
def Mo {H:Hp} {j:Jump} {v:V} (h:Is H (jq j) v):∃a c,v=.ref a/\H a=some (.tup [.int j.wL,.int j.AS,.int j.dr,c])/\Is H (dO .int j.gy) c:=by
 unfold jq Is at h;obtain⟨a,vs,rfl,ha,hl⟩:=h;unfold ay at hl;obtain⟨v1,r1,rfl,h1,hl⟩:=hl;unfold ay at hl;obtain⟨v2,r2,rfl,h2,hl⟩:=hl;unfold ay at hl;obtain⟨v3,r3,rfl,h3,hl⟩:=hl;unfold ay at hl;obtain⟨v4,r4,rfl,h4,hl⟩:=hl;unfold ay at hl;subst hl;unfold Is at h1 h2 h3;subst h1 h2 h3;exact⟨a,v4,rfl,ha,h4⟩
theorem gR {H:Hp} {α:Type} {d:α->Dt}:∀{xs:List α} {vs:List V},ay H (xs.map d) vs->∃ps:List (α×V),ps.map (·.1)=xs/\ps.map (·.2)=vs/\∀z∈ps,Is H (d z.1) z.2
 | [],_,h=>⟨[],rfl,by unfold ay at h;rw[h];rfl,by simp⟩
 | x::xs,_,h=>by
  rw[zh] at h;unfold ay at h;obtain⟨v,r,rfl,h1,h2⟩:=h;obtain⟨ps,e1,e2,e3⟩:=gR h2;refine⟨(x,v)::ps,by rw[zh,e1],by rw[zh,e2],fun z hz=>?_⟩;rcases zC.mp hz with rfl | hz
  ·exact h1
  ·exact e3 z hz
def fR:aA ["_law_s","_law_rows","_law_coda"] ["_law_s"] (ao kL):=dC
def sk:di P w base 2 T.jz qZ:=by
 nomatch T.jz,fR
 obtain⟨p,S,rfl,la,rok,rl3,jok,kk⟩:=h;have sl:=yB;obtain⟨pl,il,sl',bl,hl,nl,rl,ub,jm,iv,sv,bv,hv,nv,rv,h1,h2,h3,h4,h5,h6,h7,h8,⟨h9,ilr⟩,hj⟩:=la.at';obtain⟨ps,e1,e2,e3⟩:=gR ilr;have pln:ps.length=S.repeats.length:=by rw[<-e1,za]
 refine⟨_,(ag (M4 (i:=1) (ts:=["_law_repeat"]) (ys:=[]) (js:=[]) (te:=(gL ic [] E0 (bK (aY 0) eI))) (bo (bN (pv 0) ae)) (gO 0) bj (bM (oW T) hr T.gA (aa (pv 0) af)) fR.nd)
  (ag (aF (bq (fq (bN (pv 0) ae)))
  (ag (bS 2 fR.nd (Fe (bq (cy (bN (bN (pv 0) ae) ae))) aJ (mV aT T.eZ (aa (bN (bN (pv 0) ae) ae) af))))
   (aj (bP (ck yC yE yD bG (pv 1) (aa (ck yF yH yG gF aJ (aa (bx (aa aJ (aa (mV aT T.eZ (aa (bN (bN (pv 0) ae) ae) af)) (aa (mV aT T.eZ (aa (bN (bN (pv 0) ae) ae) af)) (aa (mV aT T.eZ (aa (bN (bN (pv 0) ae) ae) af)) (aa (pv 2) af)))))) af)) af)))))
  ax)
  (aj (aq (pv 1))))),?_⟩
 ac_rfl;exists⟨_,aI.of h9⟩,?_;refine dY (enc:=fun q:Rep×V=>q.2) (ws:=ps) (fun q=>.str (rowOf (.rep q.1))) (fun σ=>∃v,σ=[v]) nofun (by rw[e2];exact aI.of h9) ⟨none,rfl⟩ ?_ ?_
 ·rintro z σ H1 R hz s1 ⟨_,rfl⟩ rr
  have zin:z.1∈S.repeats:=by rw[<-e1];exact zO hz
  change⟨z.2,z.1,rfl,(e3 z hz).mono s1,rok _ zin,fun H2 s2=>rr _ _ _ s2 eM ⟨_,rfl⟩⟩
 ·intro D vs H1 s1 nD hD ilD
  have ee:ps.map (fun q:Rep×V=>Dt.str (rowOf (.rep q.1)))=((S.repeats.map Told.rep).map rowOf).map Dt.str:=by rw[<-e1,zA,zA,zA];rfl
  rw[ee] at ilD;rw[dI ilD] at hD;have h11:=s1 _ _ h1;left;cases q:S.bZ with
  | none=>
   rw[q] at hj;unfold dO Is at hj;subst hj;left;refine kk D H1 s1 nD ?_;unfold y3;rw[q,hD];simp
  | some j=>
   rw[q] at hj;obtain⟨ja,jc,rfl,hja,ijc⟩:=Mo hj;obtain⟨j1,j2,j3,j4⟩:=jok j q;have hja1:=s1 _ _ hja;have n1:=bH (n:=j.wL) (by have:=j1.1;omega) (by have:=j1.2;omega);have n2:=bH (n:=j.AS) (by have:=j2.1;omega) (by have:=j2.2;omega);have n3:=bH (n:=j.dr) (by have:=j3.1;omega) (by have:=j3.2;omega);have cl:(ctxt j.gy).length<=5:=by
    unfold ctxt;cases qc:j.gy with
    | none=>decide
    | some m=>have:=j4 m qc;exact bg (by have:=this.1;omega) (by have:=this.2;omega)
   left;refine S9 (H:=H1) (.str (ctxt j.gy)) ?_ ?_ ?_
   ·intro c Z hz
    have e:jc=.bC:=yd c;cases qc:j.gy with
    | none=>rw[qc] at hz;change hz
    | some m=>rw[qc] at ijc;unfold dO Is at ijc;rw[ijc] at e;cases e
   ·intro c Z hz
    cases qc:j.gy with
    | none=>rw[qc] at ijc;unfold dO Is at ijc;rw[ijc] at c;simp at c
    | some m=>
     rw[qc] at ijc hz;unfold dO Is at ijc;subst ijc;change⟨bH (by have:=(j4 m qc).1;omega) (by have:=(j4 m qc).2;omega),hz⟩
   exists .inl ⟨rfl,_,aI.of hD⟩,?_;exists n1,?_;exists n2,?_;exists n3,?_;exists by show 5<=sizeLine;omega,?_
   intros p5 H5 s5 h5;have ll:∀z∈Sc.wordsOf (.bZ j),z.length<=5:=fun z hz=>by
    simp only[Sc.wordsOf,zC,zD,or_false] at hz;rcases hz with rfl | rfl | rfl | rfl | rfl
    ·decide
    ·exact bg (by have:=j1.1;omega) (by have:=j1.2;omega)
    ·exact bg (by have:=j2.1;omega) (by have:=j2.2;omega)
    ·exact bg (by have:=j3.1;omega) (by have:=j3.2;omega)
    ·exact cl
   have sb:=pQ (sep:=" ") ll;refine⟨" ",p5,Sc.wordsOf (.bZ j),rfl,rfl,aI.of h5,zL sb (by show 5*(5+1)<=sizeLine;omega),?_⟩;exists D,_,_,rfl,rfl,s5 _ _ hD,by rw[za,za,za];omega,?_
   left;refine kk D _ (cJ nD (s1.trans s5)) nD ?_;unfold y3;rw[aC,q,zj,zj];rfl
def NU {H:Hp} {x:Str×(Int×Int)×(Int×Int)} {v:V} (h:Is H (eA x) v):∃a t l,v=.ref a/\H a=some (.tup [.str x.1,t,l])/\Is H (dL x.2.1) t/\Is H (dL x.2.2) l:=by
 unfold eA Is at h;obtain⟨a,vs,rfl,ha,hl⟩:=h;unfold ay at hl;obtain⟨v1,r1,rfl,h1,hl⟩:=hl;unfold ay at hl;obtain⟨v2,r2,rfl,h2,hl⟩:=hl;unfold ay at hl;obtain⟨v3,r3,rfl,h3,hl⟩:=hl;unfold ay at hl;subst hl;unfold Is at h1;subst h1;exact⟨a,v2,v3,rfl,ha,h2,h3⟩
def JZ {H:Hp} {x:Str×List Str} {v:V} (h:Is H (gw x) v):∃a q,v=.ref a/\H a=some (.tup [.str x.1,.ref q])/\H q=some (.tup (x.2.map V.str)):=by
 unfold gw Is at h;obtain⟨a,vs,rfl,ha,hl⟩:=h;unfold ay at hl;obtain⟨v1,r1,rfl,h1,hl⟩:=hl;unfold ay at hl;obtain⟨v2,r2,rfl,h2,hl⟩:=hl;unfold ay at hl;subst hl;unfold Is at h1;subst h1;unfold mO Is at h2;obtain⟨q,us,rfl,hq,hl⟩:=h2;rw[dI hl] at hq;exact⟨a,q,rfl,ha,hq⟩
def Mg {H:Hp} {x:Int×Str} {v:V} (h:Is H (HX x) v):∃a,v=.ref a/\H a=some (.tup [.int x.1,.str x.2]):=by
 unfold HX Is at h;obtain⟨a,vs,rfl,ha,hl⟩:=h;unfold ay at hl;obtain⟨v1,r1,rfl,h1,hl⟩:=hl;unfold ay at hl;obtain⟨v2,r2,rfl,h2,hl⟩:=hl;unfold ay at hl;subst hl;unfold Is at h1 h2;subst h1 h2;exact⟨a,rfl,ha⟩
def TD (t:Told):Prop:=ON t/\(Sc.wordsOf t).length<=100/\∀w∈Sc.wordsOf t,w.length<=100
def xa {t:Told} (h:TD t):((Sc.wordsOf t).map (fun z:Str=>z.length+(" ": Str).length)).sum<=sizeLine:=by
 have sl:=yB;have a:=pQ (sep:=" ") h.2.2;have b:(Sc.wordsOf t).length*(100+(" ": Str).length)<=100*(100+(" ": Str).length):=Nat.mul_le_mul h.2.1 (zk _);exact zL a (zL b (by show 100*(100+1)<=sizeLine;omega))
def Hi (n:Str):("player ": Str)++n=rowOf (.bA n):=rfl
noncomputable def rws (ts:List Told):List V:=(ts.map rowOf).map V.str
def lA (a b:List Told):rws (a++b)=rws a++rws b:=by unfold rws;rw[zj,zj]
def lz (a:List Told):(rws a).length=a.length:=by unfold rws;rw[za,za]
inductive pS (vs:List V) (H:Hp) (Q:VK) (E:XK):Prop
 | mk (p:Addr) (S:cG) (_:vs=[.ref p]) (_:vo H p S) (_:(∀t∈eG S,TD t)) (_:(eG S).length<=1000000) (_:(∀r∈S.repeats,KH r)) (_:S.repeats.length<=1000) (_:∀D H',au H H'->H D=none->H' D=some (.lst (rws (eG S)))->Q (.ref D) H')
def aN:aA ["_law_s","_law_rows","_law_name","_law_turn","_law_time","_law_metre","_law_key","_law_marks","_law_player","_law_row","_law_bar","_law_items"] ["_law_s"] (ao jH):=dC
def qC:di P w base 3 T.hJ pS:=by
 nomatch T.hJ,aN
 obtain⟨p,S,rfl,la,tok,tl,rok,rln3,kk⟩:=h;have sl:=yB;obtain⟨pl,il,st,bl,hl,nl,rl,ub,jm,iv,sv,bv,hv,nv,rv,h1,h2,⟨h3,ili⟩,⟨h4,ils⟩,⟨h5,ilb⟩,h6,⟨h7,rlh⟩,⟨h8,rln⟩,_,_⟩:=la.at';have mem:∀a b c:List Told,eG S=a++b++c->∀t∈b,TD t:=fun a b c e t ht=>tok t (by rw[e];simp[ht]);have tlen:∀a b:List Told,eG S=a++b->a.length<=1000000:=fun a b e=>by rw[e,zg] at tl;omega
 obtain⟨fl,fli,fls,flb,fln⟩:S.players.length<=1000000/\S.players.length+S.ak.length<=1000000/\S.players.length+S.ak.length+S.aH.length<=1000000/\S.players.length+S.ak.length+S.aH.length+S.aL.length<=1000000/\S.aG.length<=1000000:=by
  unfold eG at tl;simp only[zg,za] at tl;omega
 refine⟨_,(ag (M4 (i:=1) (ts:=["_law_name"]) (ys:=[]) (js:=[]) (te:=(fA (fun x y H Q=>∃i j,x=.str i/\y=.str j/\i.length+j.length<=sizeLine/\Q (.str (i++j)) H) (tC (.str "player ")) (aY 0))) (bo (bN (pv 0) ae)) (gO 0) bj (ar bO aJ (pv 0)) aN.nd)
  (ag (cB PassesOwn.never rfl (bo (bN (pv 0) ae)) (dQ (n:=3) rfl (aK (jP 2 aN.nd) (aK (jP 3 aN.nd) (aK (jP 4 aN.nd) cV))))
  (aj (bP (ck yC yE yD bG (pv 1) (aa (ck yF yH yG gF aJ (aa (bx (aa aJ (aa (pv 2) (aa (mV aT T.eZ (aa (bN (pv 3) ae) af)) (aa (mV aT T.eZ (aa (bN (pv 3) ae) af)) (aa (bM (dH T) hr T.dh (aa (pv 4) af)) af)))))) af)) af)))))
  (ag (bS 1 aN.nd (ar gE (pv 1) (pK (ts:=["_law_name","_law_players"]) (ys:=[]) (js:=[]) (g:=(FO K 2 (fV (b7 0) (fV (b7 1) FP)))) (te:=(RE K "str" (rJoin K) (tC (.str " ")) (bK (fA (OC K) (EJ (bK (tC (.str "staff")) (bK (aY 0) eI))) (JE (QV K) (bK (aY 1) eI))) eI))) (bo (bN (pv 0) ae)) (dQ (n:=2) rfl (aK (gO 0) (aK (gO 1) cV))) bj (ck yF yH yG gF aJ (aa (ar gE (bx (aa aJ (aa (pv 0) af))) (mV iI T.tY (aa (pv 1) af))) af)))))
  (ag (cB PassesOwn.never rfl (bo (bN (pv 0) ae)) (dQ (n:=3) rfl (aK (jP 5 aN.nd) (aK (jP 6 aN.nd) (aK (jP 7 aN.nd) cV))))
  (aj (bP (ck yC yE yD bG (pv 1) (aa (ck yF yH yG gF aJ (aa (ar gE (bx (aa aJ (aa (ar bO (ar bO (mV aT T.eZ (aa (bN (pv 5) ae) af)) aJ) (mV aT T.eZ (aa (bN (pv 5) ae) af))) (aa (mV aT T.eZ (aa (pv 6) af)) af)))) (mV iI T.tY (aa (pv 7) af))) af)) af)))))
  (ag (aF (bq (fq (bN (pv 0) ae)))
  (aj (bP (ck yC yE yD bG (pv 1) (aa (ar bO aJ (bM (dH T) hr T.dh (aa (bN (pv 0) ae) af))) af))))
  ax)
  (ag (cB PassesOwn.never rfl (bo (bN (pv 0) ae)) (dQ (n:=2) rfl (aK (jP 8 aN.nd) (aK (jP 9 aN.nd) cV)))
  (aj (bS 1 aN.nd (ar gE (pv 1) (pK (ts:=["_law_bar","_law_name"]) (ys:=["_law_player"]) (js:=[8]) (g:=(FO K 2 (fV (b7 0) (fV (b7 1) FP)))) (te:=(RE K "str" (rJoin K) (tC (.str " ")) (bK (EJ (bK (tC (.str "holds")) (bK (aY 2) (bK (JE QU (bK (aY 0) eI)) (bK (aY 1) eI))))) eI))) (bo (pv 9)) (dQ (n:=2) rfl (aK (gO 0) (aK (gO 1) cV))) bj (ck yF yH yG gF aJ (aa (bx (aa aJ (aa (pv 2) (aa (mV aT T.eZ (aa (pv 0) af)) (aa (pv 1) af))))) af)))))))
  (ag (cB PassesOwn.never rfl (bo (bN (pv 0) ae)) (dQ (n:=3) rfl (aK (jP 10 aN.nd) (aK (jP 8 aN.nd) (aK (jP 11 aN.nd) cV))))
  (aj (bP (ck yC yE yD bG (pv 1) (aa (ck yF yH yG gF aJ (aa (ar gE (bx (aa aJ (aa (mV aT T.eZ (aa (pv 10) af)) (aa (pv 8) af)))) (pK (ts:=["_law_item"]) (ys:=[]) (js:=[]) (te:=(gL jD [] E0 (bK (aY 0) eI))) (bo (pv 11)) (gO 0) bj (bM (sj T) hr T.jy (aa (pv 0) af)))) af)) af)))))
  (aj (aq (ar gE (pv 1) (bM (sk T) hr T.jz (aa (pv 0) af)))))))))))),?_⟩
 ac_rfl;exists⟨_,aI.of h2⟩,?_;refine dY (enc:=V.str) (ws:=S.players) (fun n=>.str (rowOf (.bA n))) (fun σ=>∃v,σ=[v]) nofun (aI.of h2) ⟨none,rfl⟩ ?_ ?_
 ·rintro z σ H1 R hz s1 ⟨_,rfl⟩ rr
  have tz:TD (.bA z):=tok _ (by unfold eG;simp[hz]);left;refine⟨?_,?_⟩
  ·have l7:("player ": Str).length=7:=rfl
   have:=tz.2.2 z (by simp[Sc.wordsOf]);omega
  exact rr _ _ _ (au.refl _) (by rw[Hi];exact eM) ⟨_,rfl⟩
 ·intro D vs H1 s1 nD hD ilD
  have ee:S.players.map (fun n=>Dt.str (rowOf (.bA n)))=((S.players.map Told.bA).map rowOf).map Dt.str:=by rw[zA,zA];rfl
  rw[ee] at ilD;rw[dI ilD] at hD;have h11:=s1 _ _ h1;exists⟨_,aI.of (s1 _ _ h3)⟩,?_;refine dP (K:=K) (a:=il) (xs:=iv) (fun i σ H'=>Lo [some (.ref p),some (.ref D)] 10 σ/\au H H'/\H' D=some (.lst (rws (S.players.map .bA++(S.ak.take i).map fun x=>.cF x.1 x.2.1 x.2.2)))) ⟨Lo.of rfl rfl,s1,by rw[List.take_zero,ym,zU];exact hD⟩ (fun i σ H' _ h=>by obtain⟨_,z,_⟩:=h;exact aI.of (z _ _ h3)) ?_ ?_
  ·intro i x σ H2 hx hh
   refine dM fun N kN0 kR0 _ _=>?_;obtain⟨⟨e,rfl⟩,s2,hD2⟩:=hh;obtain⟨n,hn,ix⟩:=dt (d:=eA) ili hx;obtain⟨a1,t1,l1,rfl,ha1,it,iL⟩:=NU ix;cases fb (o:=some n.2.1) it with
   | ref ht=>
   cases fb (o:=some n.2.2) iL with
   | ref hL=>
   have tn:TD (.cF n.1 n.2.1 n.2.2):=tok _ (by unfold eG;simp only[zF,zG];exact .inl (.inl (.inl (.inl (.inl (.inl (.inr ⟨n,zB hn,rfl⟩)))))));refine⟨a1,_,rfl,du.of (s2 _ _ ha1),rfl,?_⟩;refine⟨_,_,rfl,⟨_,_,rfl,⟨_,_,rfl,⟨rfl,?_⟩⟩⟩⟩;rename_i bt bL;have ht2:=s2 _ _ ht;have hL2:=s2 _ _ hL;obtain⟨t1,t2,t3,t4,t5,t6,t7⟩:=tn.1;obtain⟨c1,c2,c3,c4,_⟩:=t2;obtain⟨r1,r2,_⟩:=t5.pos;exists .inl ⟨rfl,_,aI.of hD2⟩,?_;exists bH nofun nofun,?_;exists bH nofun nofun,?_;exists _,n.2.2,rfl,hL2,r1,t6,r2,t7,?_;exists by show 5<=sizeLine;omega,?_
   intros p5 H5 s5 h5;refine⟨" ",p5,Sc.wordsOf (.cF n.1 n.2.1 n.2.2),rfl,rfl,aI.of h5,xa tn,?_⟩;left;refine⟨D,_,_,rfl,rfl,s5 _ _ hD2,?_,?_⟩
   ·rw[lz,zg,za,za,zP];omega
   exists Lo.of rfl rfl,cJ nD (s2.trans s5),?_;rw[aC,cS hn,zj,<-zE];exact congrArg (fun l=>some (HO.lst l)) (lA _ [Told.cF n.1 n.2.1 n.2.2]).symm
  ·rintro σ H2 ⟨⟨e,rfl⟩,s2,hD2⟩
   rw[aO ili,zM] at hD2;have h12:=s2 _ _ h1;obtain⟨ps,e1,e2,e3⟩:=gR ils;have pln:ps.length=S.aH.length:=by rw[<-e1,za]
   exists⟨_,aI.of (s2 _ _ h4)⟩,?_;refine dY (enc:=fun q:(Str×List Str)×V=>q.2) (ws:=ps) (fun q=>.str (rowOf (.cg q.1.1 q.1.2))) (fun σ=>∃v u,σ=[v,u]) nofun (by rw[e2];exact aI.of (s2 _ _ h4)) ⟨none,none,rfl⟩ ?_ ?_
   ·rintro z σ H3 R hz s3 ⟨_,_,rfl⟩ rr
    have zin:z.1∈S.aH:=by rw[<-e1];exact zO hz
    have tz:TD (.cg z.1.1 z.1.2):=tok _ (by unfold eG;simp only[zF,zG];exact .inl (.inl (.inl (.inl (.inl (.inr ⟨z.1,zin,rfl⟩))))));obtain⟨a3,q3,ea,ha3,hq3⟩:=JZ (e3 z hz);have s03:=s2.trans s3;rw[ea];refine⟨a3,_,rfl,du.of (s03 _ _ ha3),rfl,?_⟩;refine⟨_,_,rfl,⟨_,_,rfl,⟨rfl,?_⟩⟩⟩;exists by show 2<=sizeLine;omega,?_
    intros p5 H5 s5 h5;exists q3,_,rfl,.inr (du.of (s5 _ _ (s03 _ _ hq3))),?_;intros p6 H6 s6 h6;have zl:z.1.2.length<=98:=by have:=tz.2.1;simp only[Sc.wordsOf,zt] at this;omega
    refine⟨p5,p6,_,_,rfl,rfl,aI.of (s6 _ _ h5),aI.of h6,by rw[za];show 2+_<=_;omega,?_⟩;intros p7 H7 s7 h7;refine⟨" ",p7,Sc.wordsOf (.cg z.1.1 z.1.2),rfl,rfl,aI.of h7,xa tz,?_⟩;exact rr _ _ _ ((s5.trans s6).trans s7) eM ⟨_,_,rfl⟩
   ·intro D3 vs3 H3 s3 nD3 hD3 il3
    have ee3:ps.map (fun q:(Str×List Str)×V=>Dt.str (rowOf (.cg q.1.1 q.1.2)))=((S.aH.map fun x=>Told.cg x.1 x.2).map rowOf).map Dt.str:=by rw[<-e1,zA,zA,zA];rfl
    rw[ee3] at il3;rw[dI il3] at hD3;refine⟨D,D3,_,_,rfl,rfl,aI.of (s3 _ _ hD2),aI.of hD3,?_,?_⟩
    ·rw[lz,zg,za,za,za,za,za];omega
    intro D4 n4;generalize hU:upd H3 D4 _=H4;have s4:au H3 H4:=by rw[<-hU];exact aV n4
    have hD4:H4 D4=some (.lst (rws (S.players.map .bA++(S.ak.map fun x=>.cF x.1 x.2.1 x.2.2)++S.aH.map fun x=>.cg x.1 x.2))):=by
     rw[<-hU,aC];exact congrArg (fun l=>some (HO.lst l)) (lA _ _).symm
    clear hU;have nD4:H D4=none:=(s2.trans s3).back n4;have s04:=(s2.trans s3).trans s4;clear hD2 hD3 il3 hD ilD nD nD3;have h14:=s04 _ _ h1;exists⟨_,aI.of (s04 _ _ h5)⟩,?_;refine dP (K:=K) (a:=bl) (xs:=bv) (fun i σ H'=>Lo [some (.ref p),some (.ref D4)] 10 σ/\au H H'/\H' D4=some (.lst (rws (S.players.map .bA++(S.ak.map fun x=>.cF x.1 x.2.1 x.2.2)++(S.aH.map fun x=>.cg x.1 x.2)++(S.aL.take i).map .bar)))) ⟨⟨e,rfl⟩,s04,by rw[List.take_zero,ym,zU];exact hD4⟩ (fun i σ H' _ h=>by obtain⟨_,z,_⟩:=h;exact aI.of (z _ _ h5)) ?_ ?_
    ·intro i x σ H5 hx hh
     refine dM fun N kN1 kR1 _ _=>?_;obtain⟨⟨e,rfl⟩,s5,hD5⟩:=hh;obtain⟨b,hb,ib⟩:=dt (d:=kT) ilb hx;obtain⟨a1,mv,q1,rfl,ha1,im,hq1⟩:=wJ ib;cases fb (o:=some b.aP) im with
     | ref hm=>
     rename_i am;have tb:TD (.bar b):=tok _ (by unfold eG;simp only[zF,zG];exact .inl (.inl (.inl (.inl (.inr ⟨b,zB hb,rfl⟩)))));have hm5:=s5 _ _ hm;refine⟨a1,_,rfl,du.of (s5 _ _ ha1),rfl,?_⟩;refine⟨_,_,rfl,⟨_,_,rfl,⟨_,_,rfl,⟨rfl,?_⟩⟩⟩⟩;obtain⟨t1,t2,t3,t4,t5,t6⟩:=tb.1;have bb:0<=b.aP.2/\b.aP.2<1000:=by unfold BC at t3;simp at t3;omega
     have la1:=bg (n:=b.aP.1) nofun nofun;have la2:=bg (n:=b.aP.2) nofun nofun;have l1:("/": Str).length=1:=rfl;exists .inl ⟨rfl,_,aI.of hD5⟩,?_;exists bH nofun nofun,?_;exists by show(dec b.aP.1).length+_<=_;omega,?_
     exists bH nofun nofun,?_;exists by show(dec b.aP.1 ++"/").length+(dec b.aP.2).length<=_;rw[len_app];omega,?_
     exists bH nofun nofun,?_;exists by show 3<=sizeLine;omega,?_
     intros p6 H6 s6 h6;exists q1,_,rfl,.inr (du.of (s6 _ _ (s5 _ _ hq1))),?_;intros p7 H7 s7 h7;have ml:b.marks.length<=97:=by have:=tb.2.1;simp only[Sc.wordsOf,zt] at this;omega
     refine⟨p6,p7,_,_,rfl,rfl,aI.of (s7 _ _ h6),aI.of h7,by rw[za];show 3+_<=_;omega,?_⟩;intros p8 H8 s8 h8;refine⟨" ",p8,Sc.wordsOf (.bar b),rfl,rfl,aI.of h8,xa tb,?_⟩;have s58:=(s6.trans s7).trans s8;left;refine⟨D4,_,_,rfl,rfl,s58 _ _ hD5,?_,?_⟩
     ·rw[lz];simp only[zg,za,zP];omega
     exists Lo.of rfl rfl,cJ nD4 (s5.trans s58),?_;rw[aC,cS hb,zj,<-zE];exact congrArg (fun l=>some (HO.lst l)) (lA _ [Told.bar b]).symm
    ·rintro σ H5 ⟨⟨e,rfl⟩,s5,hD5⟩
     rw[aO ilb,zM] at hD5;obtain⟨B,hB⟩:∃B,B=S.players.map Told.bA++(S.ak.map fun x=>Told.cF x.1 x.2.1 x.2.2)++(S.aH.map fun x=>Told.cg x.1 x.2)++S.aL.map Told.bar:=⟨_,rfl⟩
     have tB:eG S=B++S.aE.toList.map .aE++(S.holds.map fun x=>x.2.map fun h=>Told.holds x.1 h.1 h.2).flatten++(S.aG.map fun x=>.aG x.1.1 x.1.2 x.2)++y3 S:=by rw[hB];rfl
     rw[<-hB] at hD5;have h15:=s5 _ _ h1;left;refine join (fun σ H'=>Lo [some (.ref p),some (.ref D4)] 10 σ/\au H H'/\H' D4=some (.lst (rws (B++S.aE.toList.map .aE)))) (fun N hN c1=>?_) (fun N hN c1=>?_) ?_
     ·cases qu:S.aE with
      | none=>
       rw[qu] at h6;unfold dO Is at h6;rw[h6] at c1;simp at c1
      | some u=>
       rw[qu] at h6;cases fb (o:=some u) h6 with
       | ref hu=>
       have tu:TD (.aE u):=tok _ (by rw[tB,qu];simp);obtain⟨u1,u2,u3,u4⟩:=tu.1;obtain⟨_,r2,_⟩:=u1.pos;have lu:=kM (x:=u) nofun u3 nofun u4;have bl5:B.length<=1000000:=tlen B _ (by rw[tB,zE,zE,zE]);exists .inl ⟨rfl,_,aI.of hD5⟩,?_;exists _,u,rfl,s5 _ _ hu,nofun,u3,r2,u4,?_;have l7:("upbeat ": Str).length=7:=rfl;refine⟨_,_,rfl,rfl,nofun,?_⟩;exists D4,_,_,rfl,rfl,hD5,by rw[lz];omega,?_
       left;refine hN _ _ ⟨Lo.of rfl rfl,cJ nD4 s5,?_⟩;rw[aC,qu];exact congrArg (fun l=>some (HO.lst l)) (lA B [Told.aE u]).symm
     ·have qu:S.aE=none:=by
       cases qu:S.aE with
       | none=>rfl
       | some u=>
        rw[qu] at h6;cases fb (o:=some u) h6 with
        | ref hu=>simp at c1
      left;refine hN _ _ ⟨Lo.of rfl rfl,s5,?_⟩;rw[qu];show H5 D4=some (.lst (rws (B++[])));rw[zU];exact hD5
     rintro σ6 H6 ⟨⟨e,rfl⟩,s6,hD6⟩;have h16:=s6 _ _ h1;exists⟨_,aI.of (s6 _ _ h7)⟩,?_;refine dP (K:=K) (a:=hl) (xs:=hv) (fun i σ H'=>∃(D:Addr),Lo [some (.ref p),some (.ref D)] 10 σ/\au H H'/\H D=none/\H' D=some (.lst (rws (B++S.aE.toList.map .aE++((S.holds.take i).map fun x=>x.2.map fun h=>Told.holds x.1 h.1 h.2).flatten)))) ⟨D4,⟨e,rfl⟩,s6,nD4,by rw[List.take_zero,ym,List.flatten_nil,zU];exact hD6⟩ (fun i σ H' _ h=>by obtain⟨_,_,z,_⟩:=h;exact aI.of (z _ _ h7)) ?_ ?_
     ·intro i x σ H7 hx hh
      refine dM fun N kN2 kR2 _ _=>?_;obtain⟨D7,⟨e,rfl⟩,s7,nD7,hD7⟩:=hh;obtain⟨y,hy,a7,r7,us7,rfl,ha7,hr7,il7,_⟩:=rlh.at hx;obtain⟨qs,f1,f2,f3⟩:=gR il7;have ty:∀h∈y.2,TD (.holds y.1 h.1 h.2):=fun h hh=>tok _ (by
       rw[tB];refine zI _ (zI _ (zH _ ?_));exact List.mem_flatten.mpr ⟨_,zO (zB hy),zO hh⟩)
      have tke:((S.holds.take (i+1)).map fun x=>x.2.map fun h=>Told.holds x.1 h.1 h.2).flatten=((S.holds.take i).map fun x=>x.2.map fun h=>Told.holds x.1 h.1 h.2).flatten++y.2.map fun h=>Told.holds y.1 h.1 h.2:=by
       rw[cS hy,zj,List.flatten_append];simp
      have lenB:(B++S.aE.toList.map Told.aE++((S.holds.take (i+1)).map fun x=>x.2.map fun h=>Told.holds x.1 h.1 h.2).flatten).length<=1000000:=by
       refine tlen _ (((S.holds.drop (i+1)).map fun x=>x.2.map fun h=>Told.holds x.1 h.1 h.2).flatten++(S.aG.map fun x=>.aG x.1.1 x.1.2 x.2)++y3 S) ?_;rw[tB]
       conv=>lhs;rw[<-zY (i+1) S.holds,zj,List.flatten_append]
       simp only[zE]
      rw[tke] at lenB;simp only[zg,za] at lenB;refine⟨a7,_,rfl,du.of (s7 _ _ ha7),rfl,?_⟩;refine⟨_,_,rfl,⟨_,_,rfl,⟨rfl,?_⟩⟩⟩;exists⟨_,aI.of (s7 _ _ hr7)⟩,?_;have ql:qs.length=y.2.length:=by rw[<-f1,za]
      refine dY (enc:=fun q:(Int×Str)×V=>q.2) (ws:=qs) (fun q=>.str (rowOf (.holds y.1 q.1.1 q.1.2))) (fun σ=>∃v u,σ=[v,u,some (.str y.1)]) nofun (by rw[f2];exact aI.of (s7 _ _ hr7)) ⟨none,none,rfl⟩ ?_ ?_
      ·rintro z σ H8 R hz s8 ⟨_,_,rfl⟩ rr
       have zin:z.1∈y.2:=by rw[<-f1];exact zO hz
       have tz:=ty z.1 zin;obtain⟨a8,ea,ha8⟩:=Mg (f3 z hz);have s08:=s7.trans s8;obtain⟨b1,b2⟩:=tz.1.2.1;rw[ea];refine⟨a8,_,rfl,du.of (s08 _ _ ha8),rfl,?_⟩;refine⟨_,_,rfl,⟨_,_,rfl,⟨rfl,?_⟩⟩⟩;exists bH nofun nofun,?_;exists by show 4<=sizeLine;omega,?_
       intros p9 H9 s9 h9;refine⟨" ",p9,Sc.wordsOf (.holds y.1 z.1.1 z.1.2),rfl,rfl,aI.of h9,xa tz,?_⟩;exact rr _ _ _ s9 eM ⟨_,_,rfl⟩
      ·intro D8 vs8 H8 s8 _ hD8 il8
       have ee8:qs.map (fun q:(Int×Str)×V=>Dt.str (rowOf (.holds y.1 q.1.1 q.1.2)))=((y.2.map fun h=>Told.holds y.1 h.1 h.2).map rowOf).map Dt.str:=by rw[<-f1,zA,zA,zA];rfl
       rw[ee8] at il8;rw[dI il8] at hD8;refine⟨D7,D8,_,_,rfl,rfl,aI.of (s8 _ _ hD7),aI.of hD8,?_,?_⟩
       ·rw[lz];simp only[zg,za];omega
       intro D9 n9;generalize hU:upd H8 D9 _=H9;have s9:au H8 H9:=by rw[<-hU];exact aV n9
       exists D9,Lo.of rfl rfl,(s7.trans s8).trans s9,(s7.trans s8).back n9,?_;rw[<-hU,aC,tke,<-zE];exact congrArg (fun l=>some (HO.lst l)) (lA _ _).symm
     ·rintro σ H7 ⟨D7,⟨e,rfl⟩,s7,nD7,hD7⟩
      rw[rlh.len,zM] at hD7;obtain⟨B2,hB2⟩:∃B2,B2=B++S.aE.toList.map Told.aE++(S.holds.map fun x=>x.2.map fun h=>Told.holds x.1 h.1 h.2).flatten:=⟨_,rfl⟩
      rw[<-hB2] at hD7 tB;have h17:=s7 _ _ h1;exists⟨_,aI.of (s7 _ _ h8)⟩,?_;refine dP (K:=K) (a:=nl) (xs:=nv) (fun i σ H'=>Lo [some (.ref p),some (.ref D7)] 10 σ/\au H H'/\H' D7=some (.lst (rws (B2++(S.aG.take i).map fun x=>.aG x.1.1 x.1.2 x.2)))) ⟨⟨e,rfl⟩,s7,by rw[List.take_zero,ym,zU];exact hD7⟩ (fun i σ H' _ h=>by obtain⟨_,z,_⟩:=h;exact aI.of (z _ _ h8)) ?_ ?_
      ·intro i x σ H8 hx hh
       refine dM fun N kN3 kR3 _ _=>?_;obtain⟨⟨e,rfl⟩,s8,hD8⟩:=hh;obtain⟨y,hy,a7,r7,us7,rfl,ha7,hr7,il7,_⟩:=rln.at hx;obtain⟨qs,f1,f2,f3⟩:=gR il7;have tz:TD (.aG y.1.1 y.1.2 y.2):=tok _ (by rw[tB];simp only[zF,zG];exact .inl (.inr ⟨y,zB hy,rfl⟩));obtain⟨⟨b1,b2⟩,b3,b4,_⟩:=tz.1;have yl:y.2.length<=97:=by have:=tz.2.1;simp only[Sc.wordsOf,zt,za] at this;omega
       have ql:qs.length=y.2.length:=by rw[<-f1,za]
       have ib:i<S.aG.length:=(zw.mp hy).1;have lenB:B2.length+S.aG.length<=1000000:=by
        have:=tlen (B2++S.aG.map fun x=>.aG x.1.1 x.1.2 x.2) (y3 S) tB
        simpa[zg,za] using this
       refine⟨a7,_,rfl,du.of (s8 _ _ ha7),rfl,?_⟩;refine⟨_,_,rfl,⟨_,_,rfl,⟨_,_,rfl,⟨rfl,?_⟩⟩⟩⟩;exists .inl ⟨rfl,_,aI.of hD8⟩,?_;exists bH nofun nofun,?_;exists by show 3<=sizeLine;omega,?_
       intros p9 H9 s9 h9;have s09:=s8.trans s9;exists⟨_,aI.of (s09 _ _ hr7)⟩,?_;refine dY (enc:=fun q:Item×V=>q.2) (ws:=qs) (fun q=>.str (qF q.1)) (fun σ=>∃v,σ=[v]) nofun (by rw[f2];exact aI.of (s09 _ _ hr7)) ⟨none,rfl⟩ ?_ ?_
       ·rintro z σ Ha R hz sa ⟨_,rfl⟩ rr
        have zin:z.1∈y.2:=by rw[<-f1];exact zO hz
        change⟨z.2,z.1,rfl,((f3 z hz).mono s09).mono sa,b4 _ zin,rr _ _ _ (au.refl _) eM ⟨_,rfl⟩⟩
       ·intro Da vsa Ha sa _ hDa ila
        have eea:qs.map (fun q:Item×V=>Dt.str (qF q.1))=(y.2.map qF).map Dt.str:=by rw[<-f1,zA,zA];rfl
        rw[eea] at ila;rw[dI ila] at hDa;refine⟨p9,Da,_,_,rfl,rfl,aI.of (sa _ _ h9),aI.of hDa,by rw[za,za];show 3+_<=_;omega,?_⟩;intros pb Hb sb hb;refine⟨" ",pb,Sc.wordsOf (.aG y.1.1 y.1.2 y.2),rfl,rfl,aI.of hb,xa tz,?_⟩;have s8b:=(s9.trans sa).trans sb;left;refine⟨D7,_,_,rfl,rfl,s8b _ _ hD8,?_,?_⟩
        ·rw[lz];simp only[zg,za,zP];omega
        exists Lo.of rfl rfl,cJ nD7 (s8.trans s8b),?_;rw[aC,cS hy,zj,<-zE];exact congrArg (fun l=>some (HO.lst l)) (lA _ [Told.aG y.1.1 y.1.2 y.2]).symm
      ·rintro σ H8 ⟨⟨e,rfl⟩,s8,hD8⟩
       rw[rln.len,zM] at hD8;exists p,S,rfl,la.mono s8,rok,rln3,fun j hj=>(tok (.bZ j) (by rw[tB];unfold y3;rw[hj];simp)).1,fun D9 H9 s9 _ h9=>?_;refine⟨D7,D9,_,_,rfl,rfl,aI.of (s9 _ _ hD8),aI.of h9,?_,?_⟩
       ·have:=tl
        rw[tB] at this;simp only[zg,za] at this;rw[lz];simp only[zg,za];omega
       intro Dx nx;generalize hU:upd H9 Dx _=Hx;have sx:au H9 Hx:=by rw[<-hU];exact aV nx
       refine kk Dx Hx ((s8.trans s9).trans sx) ((s8.trans s9).back nx) ?_;rw[<-hU,aC,tB];exact congrArg (fun l=>some (HO.lst l)) (lA _ _).symm
def La {t:Told} (h:TD t):(rowOf t).length<=10100:=by
 have a:=yU (sep:=" ") h.2.2;have b:(Sc.wordsOf t).length*(100+(" ": Str).length)<=100*(100+(" ": Str).length):=Nat.mul_le_mul h.2.1 (zk _);exact zL a (zL b (by show 100*(100+1)<=10100;decide))
inductive pR (vs:List V) (H:Hp) (Q:VK) (E:XK):Prop
 | mk (p:Addr) (S:cG) (_:vs=[.ref p]) (_:vo H p S) (_:(∀t∈eG S,TD t)) (_:(eG S).length<=1000) (_:(∀r∈S.repeats,KH r)) (_:S.repeats.length<=1000) (_:∀H',au H H'->Q (.str (Str.join "\n" ((eG S).map rowOf))) H')
def EF {ts:List Told} (h:∀t∈ts,TD t) (hl:ts.length<=1000):((ts.map rowOf).map (fun z:Str=>z.length+("\n": Str).length)).sum<=1000*10101:=by
 have a:=pQ (sep:="\n") (k:=10100) (zs:=ts.map rowOf) fun z hz=>by
  obtain⟨t,ht,rfl⟩:=zG.mp hz;exact La (h t ht)
 rw[za] at a;have b:ts.length*(10100+("\n": Str).length)<=1000*(10100+("\n": Str).length):=Nat.mul_le_mul hl (zk _);exact zL a (zL b (by show 1000*(10100+1)<=1000*10101;decide))
def qd:aA ["_law_s"] ["_law_s"] (ao jG):=dC
def qB:di P w base 4 T.g9 pR:=by
 nomatch T.g9,qd
 obtain⟨p,S,rfl,la,tok,tl,rok,rl,kk⟩:=h;have sl:=yB;refine⟨_,(aj (aq (ck yF yH yG gF aJ (aa (bM (qC T) hr T.hJ (aa (pv 0) af)) af)))),?_⟩;ac_rfl;exists p,S,rfl,la,tok,nofun,rok,rl,fun D H1 s1 _ h1=>?_;refine⟨"\n",D,(eG S).map rowOf,rfl,rfl,aI.of h1,zL (EF tok tl) nofun,?_⟩;exact kk _ s1
noncomputable def vW (b:Int) (r:Option Str) (h:Int×Str):Option Str:=if h.1<=b then some h.2 else r
noncomputable def uc (n:Str) (b:Int) (r:Option Str) (x:Str×List (Int×Str)):Option Str:=if x.1=n then x.2.foldl (vW b) r else r
inductive pU (vs:List V) (H:Hp) (Q:VK) (E:XK):Prop
 | mk (p:Addr) (S:cG) (n:Str) (b:Int) (_:vs=[.ref p,.str n,.int b]) (_:vo H p S) (_:Q (Sc.os (S.holds.foldl (uc n b) none)) H)
def bW:aA ["_law_s","_law_player","_law_bar","_law_found","_law_one","_law_row","_law_begin","_law_name"] ["_law_s","_law_player","_law_bar"] (ao jJ):=dC
def qE:di P w base 1 T.hX pU:=by
 nomatch T.hX,bW
 obtain⟨p,S,n,b,rfl,la,kk⟩:=h;obtain⟨pl,il,st,bl,hl,nl,rl,ub,jm,iv,sv,bv,hv,nv,rv,h1,h2,_,_,_,_,⟨h7,rlh⟩,_,_,_⟩:=la.at';refine⟨_,(ag (bS 3 bW.nd aQ)
  (ag (cB PassesOwn.never rfl (bo (bN (pv 0) ae)) (dQ (n:=2) rfl (aK (jP 4 bW.nd) (aK (jP 5 bW.nd) cV)))
  (aj (aF (ptr cY (pv 4) (pv 1))
   (aj (cB PassesOwn.never rfl (bo (pv 5)) (dQ (n:=2) rfl (aK (jP 6 bW.nd) (aK (jP 7 bW.nd) cV)))
    (aj (aF (ptr gh (pv 6) (pv 2))
     (aj (bS 3 bW.nd (pv 7)))
     ax))))
   ax)))
  (aj (aq (pv 3))))),?_⟩
 ac_rfl;exists⟨_,aI.of h7⟩,?_;refine dP (K:=K) (a:=hl) (xs:=hv) (fun i σ H'=>H'=H/\∃(w4 w5 w6 w7:Option V),σ=[some (.ref p),some (.str n),some (.int b),some (Sc.os ((S.holds.take i).foldl (uc n b) none)),w4,w5,w6,w7]) ⟨rfl,none,none,none,none,rfl⟩ (fun i σ H' _ h=>by rw[h.1];exact aI.of h7) ?_ ?_
 ·rintro i x σ H1 hx ⟨rfl,w4,w5,w6,w7,rfl⟩
  obtain⟨y,hy,a7,r7,us7,rfl,ha7,hr7,il7,_⟩:=rlh.at hx;have e:(S.holds.take (i+1)).foldl (uc n b) none=uc n b ((S.holds.take i).foldl (uc n b) none) y:=by rw[cS hy,zX];rfl
  rw[e];generalize (S.holds.take i).foldl (uc n b) none=r0;refine⟨a7,_,rfl,du.of ha7,rfl,?_⟩;refine⟨_,_,rfl,⟨_,_,rfl,⟨rfl,?_⟩⟩⟩;left
  by_cases c:y.1=n
  ·refine b9 (by rw[c];exact ze rfl) ?_
   exists⟨_,aI.of hr7⟩,?_;refine dP (K:=K) (a:=r7) (xs:=us7) (fun j σ H'=>H'=H1/\∃(w6 w7:Option V),σ=[some (.ref p),some (.str n),some (.int b),some (Sc.os ((y.2.take j).foldl (vW b) r0)),some (.str y.1),some (.ref r7),w6,w7]) ⟨rfl,w6,w7,rfl⟩ (fun j σ H' _ h=>by rw[h.1];exact aI.of hr7) ?_ ?_
   ·rintro j x σ H2 hx ⟨rfl,w6,w7,rfl⟩
    obtain⟨d,hd,id⟩:=dt il7 hx;obtain⟨a3,rfl,h3⟩:=Mg id;have e2:(y.2.take (j+1)).foldl (vW b) r0=vW b ((y.2.take j).foldl (vW b) r0) d:=by rw[cS hd,zX];rfl
    rw[e2];refine⟨a3,_,rfl,du.of h3,rfl,?_⟩;refine⟨_,_,rfl,⟨_,_,rfl,⟨rfl,?_⟩⟩⟩;left
    by_cases c2:d.1<=b
    ·refine b9 (ze c2) ?_
     rw[show vW b ((y.2.take j).foldl (vW b) r0) d=some d.2 from if_pos c2];change⟨_,_,rfl⟩
    ·refine cm (zd c2) ?_
     rw[show vW b ((y.2.take j).foldl (vW b) r0) d=(y.2.take j).foldl (vW b) r0 from if_neg c2];change⟨_,_,rfl⟩
   ·rintro σ H2 ⟨rfl,w6,w7,rfl⟩
    rw[aO il7,zM];rw[show uc n b r0 y=y.2.foldl (vW b) r0 from if_pos c];change⟨_,_,_,_,rfl⟩
  ·refine cm (zd fun z=>c (V.str.inj z)) ?_
   rw[show uc n b r0 y=r0 from if_neg c];change⟨_,_,_,_,rfl⟩
 ·rintro σ H1 ⟨rfl,w4,w5,w6,w7,rfl⟩
  rw[rlh.len,zM];change kk
theorem IM:∀{ts:List Told},(∀t∈ts,TD t)->RT (ts.map rowOf) ts
 | [],_=>.nil
 | t::r,h=>by
  have ht:=h t zp;exact .row (zL (La ht) ∅) (JM ht.1) ht.1 (zL ht.2.1 ∅) (fun y hy=>zL (ht.2.2 y hy) ∅) (IM fun x hx=>h x (zm _ hx))
def Nt {ts:List Told} (ne:ts≠[]) (h:∀t∈ts,TD t):RT (Txt.split (Str.join "\n" (ts.map rowOf)) "\n") ts:=by
 rw[show Txt.split (Str.join "\n" (ts.map rowOf)) "\n"= ts.map rowOf from gj (c:=10) (by simpa using ne) fun z hz=>by
  obtain⟨t,ht,rfl⟩:=zG.mp hz;exact LA (h t ht).1]
 exact IM h
def text_len {ts:List Told} (h:∀t∈ts,TD t) (hl:ts.length<=1000):(Str.join "\n" (ts.map rowOf)).length+2<=sizeLine:=by
 have sl:=yB;have a:=join_le "\n" (ts.map rowOf);have b:=EF h hl;omega
theorem FH {n:Str} {b:Int}:∀{hs:List (Str×List (Int×Str))} {r:Option Str},n∉hs.map (·.1)->hs.foldl (uc n b) r=r
 | [],_,_=>rfl
 | x::t,r,h=>by
  rw[zh,zC,not_or] at h;rw[List.foldl_cons,show uc n b r x=r from if_neg fun z=>h.1 z.symm];exact FH h.2
def Ml {S:cG} {n:Str} {b:Int} (nd:(S.holds.map (·.1)).Nodup):S.holds.foldl (uc n b) none=yY S n b:=by
 unfold yY;generalize S.holds=hs at nd
 induction hs with
 | nil=>rfl
 | cons x t ih=>
  rw[zh,yc] at nd;rw[List.foldl_cons,yp]
  by_cases c:x.1=n
  ·rw[show uc n b none x=x.2.foldl (vW b) none from if_pos c,FH (by rw[<-c];exact nd.1),show(n == x.1)=true from by simp[c]]
   rfl
  ·rw[show uc n b none x=none from if_neg c,show(n == x.1)=false from by simp;exact fun z=>c z.symm]
   exact ih nd.2
def El (ps:List Str) (sts:List (Str×List Str)):Prop:=sts.length<=2/\AQ (sts.map (·.1))/\(sts.map (·.2)).flatten.Nodup/\∀x∈sts,x.2≠[]/\x.2.length<=ps.length/\∀p∈x.2,p∈ps
inductive qX (vs:List V) (H:Hp) (Q:VK) (E:XK):Prop
 | mk (c:Int) (pp:Addr) (ps:List Str) (_:vs=[.int c,.ref pp]) (_:H pp=some (.lst (ps.map V.str))) (_:ps.Nodup) (_:ps.length<=12) (_:∀(sts:List (Str×List Str)) D us H',El ps sts->au H H'->H' D=some (.lst us)->ay H' (sts.map gw) us->Q (.ref D) H')
theorem wV {H:Hp}:∀{nms:List Str} {rows:List (List Str)} {rv us:List V},nms.length=rows.length->RL (fun o v=>∃r,v=V.ref r/\H r=some (.tup (o.map V.str))) rows rv->Pairs H (nms.map V.str) rv us nms.length->ay H ((nms.zip rows).map gw) us
 | [],[],_,us,_,_,p=>by
  have:us=[]:=yr.mp p.1;rw[this];exact cD
 | n::ns,o::ot,_,us,hl,⟨v,rv,rfl,⟨r,ev,hr⟩,rl⟩,p=>by
  subst ev;cases us with
  | nil=>have:=p.1;simp at this
  | cons u us=>
   obtain⟨q,e1,e2⟩:=p.2 0 (.str n) (.ref r) (by simp) rfl rfl;simp at e1;subst e1;refine aM (cz e2 (aM eM (aM (cz hr (yV o)) cD))) (wV (by simpa using hl) rl ⟨by have:=p.1;simpa using this,fun j x y hj hx hy=>?_⟩);obtain⟨q',f1,f2⟩:=p.2 (j+1) x y (by simp;omega) (by simpa using hx) (by simpa using hy);exact⟨q',by simpa using f1,f2⟩
 | [],_::_,_,_,hl,_,_=>by simp at hl
 | _::_,[],_,_,hl,_,_=>by simp at hl
theorem IB {α β:Type}:∀{a:List α} {b:List β},a.length=b.length->(a.zip b).map (·.1)=a
 | [],[],_=>rfl
 | x::xs,y::ys,h=>by rw[List.zip_cons_cons,zh,IB (by simpa using h)]
 | [],_::_,h=>by simp at h
 | _::_,[],h=>by simp at h
theorem CA {α β:Type}:∀{a:List α} {b:List β},a.length=b.length->(a.zip b).map (·.2)=b
 | [],[],_=>rfl
 | x::xs,y::ys,h=>by rw[List.zip_cons_cons,zh,CA (by simpa using h)]
 | [],_::_,h=>by simp at h
 | _::_,[],h=>by simp at h
noncomputable def two (o1 o2:List Str):List (List Str):=(if o1=[] then [] else [o1])++(if o2=[] then [] else [o2])
noncomputable def AV (o1 o2:List Str) (r1 r2:Addr):List V:=(if o1=[] then [] else [.ref r1])++(if o2=[] then [] else [.ref r2])
noncomputable def Sf (o1 o2:List Str) (r1 r2:Addr):Nat->List V
 | 0=>[]
 | 1=>if o1=[] then [] else [.ref r1]
 | _=>AV o1 o2 r1 r2
def K6 (o1 o2:List Str):(two o1 o2).flatten=o1++o2:=by
 unfold two
 by_cases h1:o1=[] <;> by_cases h2:o2=[] <;> simp[h1,h2]
def O1 {o1 o2 o:List Str} (h:o∈two o1 o2):o≠[]/\(o=o1\/o=o2):=by
 unfold two at h;rcases zF.mp h with h | h
 ·by_cases h1:o1=[]
  ·rw[if_pos h1] at h;cases h
  ·rw[if_neg h1] at h;rw[zy.mp h];exact⟨h1,.inl rfl⟩
 ·by_cases h1:o2=[]
  ·rw[if_pos h1] at h;cases h
  ·rw[if_neg h1] at h;rw[zy.mp h];exact⟨h1,.inr rfl⟩
def O0 {H:Hp} {o1 o2:List Str} {r1 r2:Addr} (h1:H r1=some (.tup (o1.map V.str))) (h2:H r2=some (.tup (o2.map V.str))):RL (fun o v=>∃r,v=V.ref r/\H r=some (.tup (o.map V.str))) (two o1 o2) (AV o1 o2 r1 r2):=by
 unfold two AV
 by_cases e1:o1=[] <;> by_cases e2:o2=[]
 ·rw[if_pos e1,if_pos e2,if_pos e1,if_pos e2];exact rfl
 ·rw[if_pos e1,if_neg e2,if_pos e1,if_neg e2];exact⟨_,_,rfl,⟨_,rfl,h2⟩,rfl⟩
 ·rw[if_neg e1,if_pos e2,if_neg e1,if_pos e2];exact⟨_,_,rfl,⟨_,rfl,h1⟩,rfl⟩
 ·rw[if_neg e1,if_neg e2,if_neg e1,if_neg e2];exact⟨_,_,rfl,⟨_,rfl,h1⟩,_,_,rfl,⟨_,rfl,h2⟩,rfl⟩
def IF (o1 o2:List Str):(two o1 o2).length<=2:=by
 unfold two
 by_cases h1:o1=[] <;> by_cases h2:o2=[] <;> simp[h1,h2]
def JG {ps o1 o2:List Str} {nms:List Str} (pn:ps.Nodup) (hs:(o1++o2).Nodup) (hi:∀p∈o1++o2,p∈ps) (hl:(o1++o2).length<=ps.length) (nl:nms.length=(two o1 o2).length) (nok:AQ nms):El ps (nms.zip (two o1 o2)):=by
 refine⟨?_,by rw[IB nl];exact nok,by rw[CA nl,K6];exact hs,fun x hx=>?_⟩
 ·rw[List.length_zip,nl,Nat.min_self];exact IF o1 o2
 ·have hm:x.2∈two o1 o2:=by
   have:=zO (f:=fun y:Str×List Str=>y.2) hx;rw[CA nl] at this;exact this
  obtain⟨ne,e⟩:=O1 hm;rw[zg] at hl;rcases e with e | e <;> rw[e]
  ·exact⟨e▸ne,nofun,fun p hp=>hi p (zI _ hp)⟩
  ·exact⟨e▸ne,nofun,fun p hp=>hi p (zH _ hp)⟩
def cj:aA ["_law_cell","_law_players","_law_m","_law_order","_law_alone","_law_cut","_law_rows"] ["_law_cell","_law_players"] (ao kI):=dC
def sg:di P w base 2 T.jw qX:=by
 nomatch T.jw,cj
 obtain⟨c,pp,ps,rfl,hpp,pn,pl,kk⟩:=h;have sl:=yB;refine⟨_,(ag (bS 2 cj.nd (bM (bJ T) hr T.cu (aa (pv 0) (aa ae af))))
  (ag (aF (ptr cY (ar aR (pv 2) ae) ae)
  (aj (aq (bx af)))
  ax)
  (ag (bS 3 cj.nd (mV iI T.tY (aa (pv 1) af)))
  (ag (aF (ptr cY (ar aR (ar aS (pv 2) ae) ae) ae)
  (aj (bP (PH yC PySem.F.slot_list_reverse PySem.F.type_list_reverse Hs (pv 3))))
  ax)
  (ag (bS 4 cj.nd (ar aR (ar aS (pv 2) ae) (ar aX (eQ aB T.bu (aa (pv 3) af)) ae)))
  (ag (bS 3 cj.nd (ar gE (dz gC (pv 3) eE (eD (pv 4))) (dz gC (pv 3) (eD (ar aX (pv 4) ae)) eE)))
  (ag (bS 5 cj.nd (ar aR (ar aS (pv 2) ae) (ar aX (eQ aB T.bu (aa (pv 3) af)) ae)))
  (ag (M4 (i:=6) (ts:=["_law_row"]) (ys:=[]) (js:=[]) (g:=(b7 0)) (tc:=(mZ (fA (Pu K) (aY 0) (EH eI)))) (te:=(aY 0)) (bo (bx (aa (mV cI T.iD (aa (dz gC (pv 3) eE (eD (pv 5))) af)) (aa (mV cI T.iD (aa (dz gC (pv 3) (eD (pv 5)) eE) af)) af)))) (gO 0) (iC (ptr (C9 hr.units) (pv 0) (bF af))) (pv 0) cj.nd)
  (aj (aq (LY rfl (by rfl) T.tY (by rfl) T.L9 (aa (bM (eU T) hr T.d9 (aa (ar aS (pv 2) ae) (aa (eQ aB T.bu (aa (pv 6) af)) af))) (aa (pv 6) af))))))))))))),?_⟩
 ac_rfl;exists c,9,rfl,nofun,nofun,?_;have m0:0<=mixed c 9:=zv _ ∅;have m1:mixed c 9<2147483399:=zr _ ∅;generalize mixed c 9=m at m0 m1;left
 by_cases c0:m%4=0
 ·refine b9 (ze (congrArg V.int c0)) ?_
  exists by show 0<=sizeLine;omega,fun D nD=>?_
  exact kk [] D [] _ ⟨∅,⟨by simp,by simp⟩,by simp,by simp⟩ (aV nD) aC cD
 refine cm (zd fun z=>c0 (V.int.inj z)) ?_;exists pp,_,rfl,.inl (aI.of hpp),fun D nD=>?_;have s1:au H (upd H D (.lst (ps.map V.str))):=aV nD;have h1:upd H D (.lst (ps.map V.str)) D=some (.lst (ps.map V.str)):=aC;generalize upd H D (.lst (ps.map V.str))=H1 at s1 h1 ⊢;left;refine join (fun σ H'=>∃od:List Str,σ=[some (.int c),some (.ref pp),some (.int m),some (.ref D),none,none,none]/\au H H'/\H' D=some (.lst (od.map V.str))/\od.Perm ps) (fun N hN c1=>?_) (fun N hN c1=>?_) ?_
 ·left
  refine⟨.inl ⟨rfl,_,aI.of h1⟩,D,_,rfl,rfl,h1,?_⟩;change hN _ _ ⟨ps.reverse,rfl,cJ nD s1,by rw[aC,List.map_reverse],ps.reverse_perm⟩
 ·left
  exact hN _ _ ⟨ps,rfl,s1,h1,List.Perm.refl _⟩
 clear s1 h1 H1;rintro σ1 H1 ⟨od,rfl,s1,h1,pm⟩;have ol:=pm.length_eq;exists D,_,rfl,.inl (aI.of h1),?_;rw[za];exists by show 0<(od.length:Int)+2;omega,?_
 have a0:0<=m/5%((od.length:Int)+2):=zv _ nofun;obtain⟨al,hal⟩:∃j:Nat,m/5%((od.length:Int)+2)=(j:Int):=⟨(m/5%((od.length:Int)+2)).toNat,nofun⟩
 exists D,_,rfl,aI.of h1,fun p2 n2=>?_;generalize hU2:upd H1 p2 _=H2;have s2:au H1 H2:=au.kf hU2 n2;have h2:H2 p2=some (.lst ((od.take al).map V.str)):=(ky hU2).trans (congrArg (fun z=>some (HO.lst z)) (by show ku (od.map V.str) none (some (m/5%((od.length:Int)+2)))=_;rw[hal,DS,List.map_take]));clear hU2;exists D,_,rfl,aI.of (s2 _ _ h1),fun p3 n3=>?_;generalize hU3:upd H2 p3 _=H3;have s3:au H2 H3:=au.kf hU3 n3;have h3:H3 p3=some (.lst ((od.drop (al+1)).map V.str)):=(ky hU3).trans (congrArg (fun z=>some (HO.lst z)) (by
  show ku (od.map V.str) (some (m/5%((od.length:Int)+2)+1)) none=_;rw[hal,show((al:Int)+1)=((al+1:Nat):Int) by omega,fG,List.map_drop]))
 clear hU3;left;refine⟨p2,p3,_,_,rfl,rfl,aI.of (s3 _ _ h2),aI.of h3,?_,fun p4 n4=>?_⟩
 ·rw[za,za,zP,List.length_drop];omega
 generalize hU4:upd H3 p4 _=H4;have s4:au H3 H4:=au.kf hU4 n4;obtain⟨o0,eo0⟩:∃o0:List Str,o0=od.take al++od.drop (al+1):=⟨_,rfl⟩
 have h4:H4 p4=some (.lst (o0.map V.str)):=(ky hU4).trans (by rw[eo0,zj]);clear hU4;have sub:o0.Sublist od:=by
  rw[eo0]
  conv=>rhs;rw[<-zY al od]
  exact List.Sublist.append (List.Sublist.refl _) (by rw[List.drop_add_one_eq_tail_drop];exact List.tail_sublist _)
 have o0n:o0.Nodup:=sub.nodup (pm.nodup_iff.mpr pn);have o0l:o0.length<=ps.length:=by have:=sub.length_le;omega
 have o0i:∀p∈o0,p∈ps:=fun p hp=>pm.mem_iff.mp (sub.subset hp);have s04:=s1.trans (s2.trans (s3.trans s4));clear s1 s2 s3 s4 h1 h2 h3 sub eo0 hal a0 n2 n3 n4 ol pm;exists p4,_,rfl,.inl (aI.of h4),?_;rw[za];exists by show 0<(o0.length:Int)+1;omega,?_
 have a0:0<=m/8%((o0.length:Int)+1):=zv _ nofun;obtain⟨al,hal⟩:∃j:Nat,m/8%((o0.length:Int)+1)=(j:Int):=⟨(m/8%((o0.length:Int)+1)).toNat,nofun⟩
 exists p4,_,rfl,aI.of h4,fun p5 n5=>?_;generalize hU5:upd H4 p5 _=H5;have s5:au H4 H5:=au.kf hU5 n5;have h5:H5 p5=some (.lst ((o0.take al).map V.str)):=(ky hU5).trans (congrArg (fun z=>some (HO.lst z)) (by show ku (o0.map V.str) none (some (m/8%((o0.length:Int)+1)))=_;rw[hal,DS,List.map_take]));clear hU5;left;refine⟨p5,_,rfl,.inl ⟨aI.of h5,?_⟩⟩;intros p6 H6 s6 h6;exists p4,_,rfl,aI.of (s6 _ _ (s5 _ _ h4)),fun p7 n7=>?_;generalize hU7:upd H6 p7 _=H7;have s7:au H6 H7:=au.kf hU7 n7;have h7:H7 p7=some (.lst ((o0.drop al).map V.str)):=(ky hU7).trans (congrArg (fun z=>some (HO.lst z)) (by show ku (o0.map V.str) (some (m/8%((o0.length:Int)+1))) none=_;rw[hal,fG,List.map_drop]));clear hU7;left;refine⟨p7,_,rfl,.inl ⟨aI.of h7,?_⟩⟩;intros p8 H8 s8 h8;exists by show 2<=sizeLine;omega,?_
 intros p9 H9 s9 h9;exists⟨_,aI.of h9⟩,?_;have s49:=s5.trans (s6.trans (s7.trans (s8.trans s9)));have h69:H9 p6=some (.tup ((o0.take al).map V.str)):=s9 _ _ (s8 _ _ (s7 _ _ h6));have h89:H9 p8=some (.tup ((o0.drop al).map V.str)):=s9 _ _ h8;have fl:(o0.take al++o0.drop al)=o0:=zY al o0;generalize o0.take al=o1 at h69 fl;generalize o0.drop al=o2 at h89 fl;have s09:=s04.trans s49;clear s04 s49 s5 s6 s7 s8 s9 h5 h6 h7 h8;have tst:∀(o:List Str) (r:Addr) (H':Hp) (R:Bool->Hp->Prop),H' r=some (.tup (o.map V.str))->(∀H'',au H' H''->R (!decide (o=[])) H'')->mZ (fA (Pu K) (aY 0) (EH eI)) [some (.ref r)] H' R:=fun o r H' R hr hR=>by
  exists by show 0<=sizeLine;omega,?_
  intros pa Ha sa ha;refine⟨r,pa,_,_,rfl,rfl,.inr ⟨du.of (sa _ _ hr),du.of ha⟩,.inr (.inl rfl),?_⟩;have e:decide (o.map V.str=[])=decide (o=[]):=by simp
  rw[e];exact⟨_,rfl,hR _ sa⟩
 refine oo 2 (Sf o1 o2 p6 p8) (fun i σ H'=>(∃v,σ=[v])/\au H9 H') ?_ nofun rfl ⟨⟨_,rfl⟩,au.refl _⟩ ?_ ?_ ?_ ?_
 ·intro i hi
  match i,hi with
  | 0,_=>exact zk _
  | 1,_=>show(if o1=[] then([]:List V) else [.ref p6]).length<=1;by_cases e:o1=[] <;> simp[e]
  | 2,_=>show(AV o1 o2 p6 p8).length<=2;unfold AV;by_cases e:o1=[] <;> by_cases e2:o2=[] <;> simp[e,e2]
 ·rintro i σ H' hi ⟨_,sm⟩
  exact FL (aI.of (sm _ _ h9)) hi
 ·rintro σ H' ⟨_,sm⟩
  exact⟨_,aI.of (sm _ _ h9),zk _⟩
 ·rintro i x σ H' H'' hi ⟨⟨v,rfl⟩,sm⟩ ⟨rfl,hy⟩
  have hx:=hy _ (aI.of (sm _ _ h9))
  match i,hi with
  | 0,_=>
   have ex:V.ref p6=x:=yj hx;subst ex;refine tst o1 p6 _ _ (sm _ _ h69) fun H3 s3=>?_
   by_cases e:o1=[]
   ·rw[ze e]
    exact GK.skip nofun (by show(if o1=[] then([]:List V) else [.ref p6])=[];rw[if_pos e]) ⟨⟨_,rfl⟩,sm.trans s3⟩
   ·rw[zd e]
    change GK.push nofun (by show(if o1=[] then([]:List V) else [.ref p6])=[]++[.ref p6];rw[if_neg e];rfl) ⟨⟨_,rfl⟩,sm.trans s3⟩
  | 1,_=>
   have ex:V.ref p8=x:=yj hx;subst ex;refine tst o2 p8 _ _ (sm _ _ h89) fun H3 s3=>?_
   by_cases e:o2=[]
   ·rw[ze e]
    exact GK.skip nofun (by show AV o1 o2 p6 p8=(if o1=[] then([]:List V) else [.ref p6]);unfold AV;rw[if_pos e,zU]) ⟨⟨_,rfl⟩,sm.trans s3⟩
   ·rw[zd e]
    change GK.push nofun (by show AV o1 o2 p6 p8=(if o1=[] then([]:List V) else [.ref p6])++[.ref p8];unfold AV;rw[if_neg e]) ⟨⟨_,rfl⟩,sm.trans s3⟩
 ·rintro σ H' ⟨_,sm⟩ D5 n5'
  generalize hU:upd H' D5 _=H5;have s5:au H9 H5:=sm.trans (au.kf hU n5');have hD5:H5 D5=some (.lst (AV o1 o2 p6 p8)):=ky hU;clear hU;have rl5:=O0 (s5 _ _ h69) (s5 _ _ h89);have tl:=rl5.len;have t2:=IF o1 o2;exists D5,_,rfl,.inl (aI.of hD5),?_;rw[tl];left;refine⟨_,_,rfl,zV m0 ∅,?_,nofun,nofun,fun nms pn2 H6 nl nok s6 h6=>?_⟩
  ·have:=zW (a:=m) 80 m0;omega
  left;have nl':nms.length=(two o1 o2).length:=by rw[nl];omega
  refine⟨false,false,pn2,D5,_,_,rfl,aI.of h6,aI.of (s6 _ _ hD5),by rw[za,tl];exact nl',fun l H7 us s7 n7 h7 pr=>?_⟩;rw[za] at pr;refine kk (nms.zip (two o1 o2)) l us H7 (JG pn (by rw[fl];exact o0n) (by rw[fl];exact o0i) (by rw[fl];exact o0l) nl' nok) (((s09.trans s5).trans s6).trans s7) h7 (wV nl' ?_ pr);exact rl5.imp fun o v ⟨r,e1,e2⟩=>⟨r,e1,s7 _ _ (s6 _ _ e2)⟩
inductive vD (vs:List V) (H:Hp) (Q:VK) (E:XK):Prop
 | mk (m first last times:Int) (_:vs=[.int m,.int first,.int last,.int times]) (_:0<=m) (_:m<1099511627776) (_:0<=first) (_:first<=last) (_:last<=200) (_:2<=times) (_:times<=9) (_:∀(es:List Sc.End) v H',Jq first last times es->au H H'->Is H' (.tup (es.map mT)) v->Q v H')
def IA (first last:Int) (bs:List Int):Prop:=bs≠[]/\bs.Pairwise (·<·)/\∀b∈bs,first<=b/\b<=last
def MP {first last:Int} {bs:List Int} (h:IA first last bs):∃b,(bs.map V.int)[(bs.map V.int).length-1]?=some (.int b)/\first<=b/\b<=last/\∀x∈bs,x<=b:=by
 obtain⟨ne,asc,hin⟩:=h;have e:=List.dropLast_concat_getLast ne;have hm:=List.getLast_mem ne;refine⟨bs.getLast ne,?_,(hin _ hm).1,(hin _ hm).2,fun x hx=>?_⟩
 ·rw[za,zJ,List.getLast_eq_getElem,zb (by have:=yq.mpr ne;omega)];rfl
 ·rw[<-e] at hx asc
  rw[zT] at asc;rcases zF.mp hx with z | z
  ·exact Int.le_of_lt (asc.2.2 x z _ (zy.mpr rfl))
  ·rw[zy.mp z];exact Int.le_refl _
def MO {first last b c:Int} {bs:List Int} (h:IA first last bs) (hb:∀x∈bs,x<=b) (h1:first<=b) (h2:b<c) (h3:c<=last):IA first last (bs++[c]):=by
 obtain⟨ne,asc,hin⟩:=h;refine⟨by simp,?_,fun x hx=>?_⟩
 ·rw[zT]
  refine⟨asc,by simp,fun x hx y hy=>?_⟩;have ey:y=c:=by simpa using hy
  have:=hb x hx;omega
 ·rcases zF.mp hx with z | z
  ·exact hin x z
  ·have ey:x=c:=by simpa using z
   omega
noncomputable def mQ (m:Int) (n k:Nat):Nat:=if k<n then(k+(m/90).toNat)%n else(m/((k:Int)+7)%(n:Int)).toNat
def d4:aA ["_law_m","_law_first","_law_last","_law_times","_law_begins","_law_passes","_law_k","_law_spot"] ["_law_m","_law_first","_law_last","_law_times"] (ao nP):=dC
def vT:di P w base 1 T.lW vD:=by
 nomatch T.lW,d4
 obtain⟨m,first,last,times,rfl,m0,m1,f0,fl,l1,t0,t1,kk⟩:=h;have sl:=yB;refine⟨_,(ag (aF (PW.pt (eC (ptr cY (pv 2) (pv 1)) (dq (ptr cY (ar aR (pv 0) ae) ae))))
  (aj (aq (bF af)))
  ax)
  (ag (bS 4 d4.nd (bx (aa (ar aX (pv 1) (ar aR (ar aS (pv 0) ae) (ar aX (ar ke (pv 2) (pv 1)) ae))) af)))
  (ag (xU PassesOwn.never (PW.pt (cT (ptr eY (eQ aB T.bu (aa (pv 4) af)) (pv 3)) (cT (ptr eY (fL (pv 4) (rT kZ ae)) (pv 2)) (cH (ptr fi (ar aR (ar aS (pv 0) (ar aX (ar dU ae (eQ aB T.bu (aa (pv 4) af))) ae)) ae) ae)))))
  (aj (bP (ck yC yE yD bG (pv 4) (aa (eQ (Kq rfl) T.Q1 (aa (pv 2) (aa (ar aX (ar aX (fL (pv 4) (rT kZ ae)) ae) (ar aR (ar aS (pv 0) (ar aX (eQ aB T.bu (aa (pv 4) af)) ae)) ae)) af))) af)))))
  (ag (M4 (i:=5) (ts:=["_law_begin"]) (ys:=[]) (js:=[]) (te:=(EJ eI)) (bo (pv 4)) (gO 0) bj (bx af) d4.nd)
  (ag (cB PassesOwn.never rfl (cM (by rfl) T.dA (aa (pv 3) af)) (jP 6 d4.nd)
  (ag (bS 7 d4.nd (Fe (ptr eY (pv 6) (eQ aB T.bu (aa (pv 4) af))) (ar aR (ar aX (pv 6) (ar aS (pv 0) ae)) (eQ aB T.bu (aa (pv 4) af))) (ar aR (ar aS (pv 0) (ar aX (pv 6) ae)) (eQ aB T.bu (aa (pv 4) af)))))
   (aj (bP (ck yC yE yD bG (fL (pv 5) (pv 7)) (aa (ar aX (pv 6) ae) af))))))
  (aj (aq (mV cI T.iD (aa (pK (ts:=["_law_begin","_law_some"]) (ys:=[]) (js:=[]) (g:=(FO K 2 (fV (b7 0) (fV (b7 1) FP)))) (te:=(EH (bK (aY 0) (bK (JE (Pw K) (bK (aY 1) eI)) eI)))) (LU (by rfl) T.L9 (aa (pv 4) (aa (pv 5) af))) (dQ (n:=2) rfl (aK (gO 0) (aK (gO 1) cV))) bj (bF (aa (pv 0) (aa (mV cI T.iD (aa (pv 1) af)) af)))) af))))))))),?_⟩
 ac_rfl;left;have none_:∀(Hq:Hp),au H Hq->(∀p,Hq p=none->Q (.ref p) (upd Hq p (.tup []))):=fun Hq sq p n=>kk [] (.ref p) _ Kd (sq.trans (aV n)) (cz aC cD);refine IU (decide (V.int last=V.int first)||decide (V.int (m%3)=V.int 0)) ?_ ?_ ?_
 ·intro c1 Z hz
  rw[c1,Bool.false_or] at hz;change hz
 ·intro c1;rw[c1,Bool.true_or]
 cases qv:(decide (V.int last=V.int first)||decide (V.int (m%3)=V.int 0)) with
 | true=>
  change⟨by show 0<=sizeLine;omega,none_ H (au.refl _)⟩
 | false=>
 exists by show 0<last-first+1;omega,?_
 have a0:0<=m/3%(last-first+1):=zv _ nofun;have a1:m/3%(last-first+1)<last-first+1:=zr _ nofun;exists by show 1<=sizeLine;omega,fun B nB=>?_
 generalize hU1:upd H B _=H1;have s1:au H H1:=au.kf hU1 nB;have h1:H1 B=some (.lst ([first+m/3%(last-first+1)].map V.int)):=ky hU1;have b1:IA first last [first+m/3%(last-first+1)]:=by
  refine⟨by simp,by simp,fun b hb=>?_⟩;have:b=first+m/3%(last-first+1):=by simpa using hb
  omega
 clear hU1;left;refine Jx (fun n σ H'=>∃bs:List Int,n=9-bs.length/\σ=[some (.int m),some (.int first),some (.int last),some (.int times),some (.ref B),none,none,none]/\au H H'/\H' B=some (.lst (bs.map V.int))/\IA first last bs/\(bs.length:Int)<=times)
  (fun σ H'=>∃bs:List Int,σ=[some (.int m),some (.int first),some (.int last),some (.int times),some (.ref B),none,none,none]/\au H H'/\H' B=some (.lst (bs.map V.int))/\IA first last bs/\(bs.length:Int)<=times)
  ⟨_,_,rfl,rfl,s1,h1,b1,by show(1:Int)<=times;omega⟩ ?_ ?_
 ·rintro n σ H2 ⟨bs,rfl,rfl,s2,h2,b2,bl⟩ N hN
  obtain⟨lb,hlb,lb0,lb1,lbx⟩:=MP b2;have out:=hN _ _ ⟨bs,rfl,s2,h2,b2,bl⟩;exists B,_,rfl,.inl (aI.of h2),?_;rw[za];left;have q0:0<=m/(7*(bs.length:Int)+5)%4:=zv _ ∅;refine d8 (decide ((bs.length:Int)<times)&&(decide (lb<last)&&decide (0<m/(7*(bs.length:Int)+5)%4))) ?_ ?_ ?_
  ·intro c1 Z hz
   rw[c1,Bool.true_and] at hz;exists B,_,-1,_,rfl,rfl,aI.of h2,sP hlb,?_;left;refine d8 (decide (lb<last)&&decide (0<m/(7*(bs.length:Int)+5)%4)) ?_ ?_ hz
   ·intro c2 Z hz
    rw[c2,Bool.true_and] at hz;exists B,_,rfl,.inl (aI.of h2),?_;rw[za];exists⟨by show 0<7*(bs.length:Int)+5;omega,by show 7*(bs.length:Int)+5<1073741824;omega⟩,?_;change hz
   ·intro c2;rw[c2,Bool.false_and]
  ·intro c1;rw[c1,Bool.false_and]
  cases qw:(decide ((bs.length:Int)<times)&&(decide (lb<last)&&decide (0<m/(7*(bs.length:Int)+5)%4))) with
  | false=>exact cm rfl out
  | true=>
   simp only[zN,decide_eq_true_eq] at qw;obtain⟨c1,c2,c3⟩:=qw;refine b9 rfl ⟨fun σ H'=>∃bs':List Int,bs'.length=bs.length+1/\σ=[some (.int m),some (.int first),some (.int last),some (.int times),some (.ref B),none,none,none]/\au H H'/\H' B=some (.lst (bs'.map V.int))/\IA first last bs'/\(bs'.length:Int)<=times,?_,?_⟩
   ·rintro σ' H' ⟨bs',e1,e2,e3,e4,e5,e6⟩
    exact⟨9-bs'.length,nofun,bs',rfl,e2,e3,e4,e5,e6⟩
   exists .inl ⟨rfl,_,aI.of h2⟩,?_;exists B,_,-1,_,rfl,rfl,aI.of h2,sP hlb,?_;exists B,_,rfl,.inl (aI.of h2),?_;rw[za];exists⟨by show 0<(bs.length:Int)+11;omega,by show(bs.length:Int)+11<1073741824;omega⟩,?_;left;have r0:0<=m/((bs.length:Int)+11)%3:=zv _ ∅;refine⟨_,_,rfl,?_⟩;exists B,_,_,rfl,rfl,h2,by rw[za];omega,?_
   left;refine⟨bs++[if lb+1+m/((bs.length:Int)+11)%3<last then lb+1+m/((bs.length:Int)+11)%3 else last],by rw[zg];rfl,rfl,cJ nB s2,by rw[aC,zj];rfl,MO b2 lbx lb0 ?_ ?_,by rw[zg];show((bs.length+1:Nat):Int)<=times;omega⟩
   ·split <;> omega
   ·split <;> omega
 ·clear s1 h1 b1
  rintro σ1 H1 ⟨bs,rfl,s1,h1,b1,bl⟩;have bp:0<bs.length:=yq.mpr b1.1;exists⟨_,aI.of h1⟩,?_;refine DT (by rw[za];omega) (aI.of h1) ⟨none,rfl⟩ fun D qs H2 s2 nD h2 nd nDq ql hq=>?_;rw[za] at ql;exists by omega,nofun,?_
  have neB:∀q∈qs,q≠B:=fun q hq' e=>by
   have:=(hq q hq').1;rw[e,h1] at this;cases this
  have tn:((times.toNat:Nat):Int)=times:=nofun
  refine gq (fun k σ H'=>∃(v6 v7:Option V),σ=[some (.int m),some (.int first),some (.int last),some (.int times),some (.ref B),some (.ref D),v6,v7]/\au H H'/\H' B=some (.lst (bs.map V.int))/\H' D=some (.lst (qs.map V.ref))/\∀(i:Nat) (q:Addr),qs[i]?=some q->H' q=some (.lst ((cK (mQ m bs.length) k i).map V.int)))
   ⟨none,none,rfl,s1.trans s2,s2 _ _ h1,h2,fun i q e=>(hq q (zB e)).2⟩ ?_ ?_
  ·intro k σ H3 hk hh
   refine dM fun N kN0 kR0 _ _=>?_;obtain⟨v6,v7,rfl,s3,hB3,hD3,hq3⟩:=hh;left;have m90:0<=m/90:=zV m0 ∅;have sl0:mQ m bs.length k<bs.length:=by
    unfold mQ;split
    ·exact Nat.mod_lt _ bp
    ·have:=zr (m/((k:Int)+7)) (b:=(bs.length:Int)) nofun
     have:=zv (m/((k:Int)+7)) (b:=(bs.length:Int)) nofun;omega
   refine⟨B,_,rfl,.inl (aI.of hB3),?_⟩;rw[za];left;refine S9 (H:=H3) (.int ((mQ m bs.length k:Nat):Int)) ?_ ?_ ?_
   ·intro c1 Z hz
    have c1':k<bs.length:=by have:=yd c1;omega
    have e:((mQ m bs.length k:Nat):Int)=(0+(k:Int)+m/90)%(bs.length:Int):=by
     unfold mQ;rw[if_pos c1',Int.natCast_emod,Int.natCast_add,Int.toNat_of_nonneg m90,Int.zero_add]
    rw[e] at hz;exists B,_,rfl,.inl (aI.of hB3),?_;rw[za];change⟨by show 0<(bs.length:Int);omega,hz⟩
   ·intro c1 Z hz
    have c1':¬k<bs.length:=by have:=of_decide_eq_false c1;omega
    have e:((mQ m bs.length k:Nat):Int)=m/(0+(k:Int)+7)%(bs.length:Int):=by
     unfold mQ;rw[if_neg c1',Int.zero_add,Int.toNat_of_nonneg (zv _ nofun)]
    rw[e] at hz;exists⟨by show 0<0+(k:Int)+7;omega,by show 0+(k:Int)+7<1073741824;omega⟩,?_;exists B,_,rfl,.inl (aI.of hB3),?_;rw[za];change⟨by show 0<(bs.length:Int);omega,hz⟩
   left;have qe:qs[mQ m bs.length k]?=some (qs[mQ m bs.length k]'nofun):=zb nofun;generalize qs[mQ m bs.length k]'nofun=q at qe;have qm:=zB qe;refine⟨D,_,_,.ref q,rfl,rfl,aI.of hD3,bz (by rw[zJ,qe];rfl),?_⟩;have hq3':=hq3 _ _ qe;refine⟨.inl ⟨rfl,_,aI.of hq3'⟩,?_⟩;exists q,_,_,rfl,rfl,hq3',by rw[za];have:=xY (sp:=mQ m bs.length) (i:=mQ m bs.length k) (k:=k);omega,?_
   exists _,_,rfl,cJ (s1.back (hq q qm).1) s3,by rw[aD (neB q qm).symm];exact hB3,by rw[aD (fun z=>nDq (by rw[z];exact qm))];exact hD3,fun i q' e=>?_
   by_cases ei:i=mQ m bs.length k
   ·have:q'=q:=by rw[ei,qe] at e;exact(yj e).symm
    rw[this,aC,cK,if_pos ei,zj,Int.zero_add,ei];rfl
   ·have nq:q'≠q:=fun z=>by
     rw[z] at e;exact ei (FA nd e qe)
    rw[aD nq,cK,if_neg ei];exact hq3 i q' e
  ·rintro σ H3 ⟨v6,v7,rfl,s3,hB3,hD3,hq3⟩
   left;have eb:=tN V.int 0 bs;have eq:=tN V.ref 0 qs;rw[ql] at eq;refine⟨false,false,B,D,_,_,rfl,aI.of hB3,aI.of hD3,?_⟩;refine HZ (ws:=List.range bs.length) (e1:=fun i=>.int (bs.getD i 0)) (e2:=fun i=>.ref (qs.getD i 0)) (fun i=>mT (bs.getD i 0,cK (mQ m bs.length) times.toNat i)) (fun σ=>∃v w,σ=[v,w]) (by rw[zQ];omega) (by rw[eb];exact aI.of hB3) (by rw[eq];exact aI.of hD3) ⟨none,none,rfl⟩ ?_ ?_
   ·rintro i σ H4 p R hi s4 hp ⟨v,w',rfl⟩ rr
    have il:=List.mem_range.mp hi;have qe:qs[i]?=some (qs.getD i 0):=by rw[List.getD_eq_getElem?_getD,zb nofun];rfl
    have h5:=s4 _ _ (hq3 i _ qe);refine⟨p,_,rfl,du.of hp,rfl,?_⟩;refine⟨_,_,rfl,⟨_,_,rfl,⟨rfl,?_⟩⟩⟩;left;refine⟨_,_,rfl,.inl ⟨aI.of h5,?_⟩⟩;intros p6 H6 s6 h6;exists dn,?_;intros p7 H7 s7 h7;exact rr _ _ _ (s6.trans s7) (cz h7 (aM cP (aM (cz (s7 _ _ h6) sC) cD))) ⟨_,_,rfl⟩
   ·intro D5 vs5 H5 s5 _ h5 il5
    rw[Ke] at il5;left;refine⟨D5,_,rfl,.inl ⟨aI.of h5,?_⟩⟩;intros p6 H6 s6 h6;refine kk _ _ _ ?_ ((s3.trans s5).trans s6) (cz h6 (il5.mono s6));have:=HK (first:=first) (last:=last) (t:=times.toNat) (bs:=bs) (sp:=mQ m bs.length) nofun b1.1 b1.2.1 b1.2.2 ?_ ?_ nofun
    ·rw[tn] at this;exact this
    ·intro j hj
     unfold mQ;split
     ·exact Nat.mod_lt _ bp
     ·have:=zr (m/((j:Int)+7)) (b:=(bs.length:Int)) nofun
      have:=zv (m/((j:Int)+7)) (b:=(bs.length:Int)) nofun;omega
    ·intro i hi
     obtain⟨j,hj,ej⟩:=Nj (c:=(m/90).toNat) hi;exact⟨j,nofun,by unfold mQ;rw[if_pos hj];exact ej⟩
def En (many:Int) (r:Rep):Prop:=0<=r.first/\r.first<=r.last/\r.last<many/\2<=r.times/\r.times<=9/\Jq r.first r.last r.times r.ends
def Cy (many:Int) (rs:List Rep):Prop:=rs.length<=4/\(∀r∈rs,En many r)/\rs.Pairwise fun a b=>a.last<b.first
inductive pT (vs:List V) (H:Hp) (Q:VK) (E:XK):Prop
 | mk (c many:Int) (_:vs=[.int c,.int many]) (_:many<=200) (_:∀(rs:List Rep) D us H',Cy many rs->au H H'->H' D=some (.lst us)->ay H' (rs.map jB) us->Q (.ref D) H')
def bw:aA ["_law_cell","_law_many","_law_repeats","_law_bar","_law_k","_law_m","_law_first","_law_last","_law_times"] ["_law_cell","_law_many"] (ao jI):=dC
def qD:di P w base 2 T.hV pT:=by
 nomatch T.hV,bw
 obtain⟨c,many,rfl,my,kk⟩:=h;have sl:=yB;refine⟨_,(ag (bS 2 bw.nd (bx af))
  (ag (bS 3 bw.nd ae)
  (ag (cB PassesOwn.never rfl (cM (by rfl) T.dA (aa ae af)) (jP 4 bw.nd)
  (ag (bS 5 bw.nd (bM (bJ T) hr T.cu (aa (pv 0) (aa (ar aX (pv 4) ae) af))))
   (ag (bS 6 bw.nd (ar aX (pv 3) (ar aR (pv 5) ae)))
   (ag (bS 7 bw.nd (ar aX (pv 6) (ar aR (ar aS (pv 5) ae) ae)))
   (aj (aF (PW.pt (cT (ptr eY (pv 7) (pv 1)) (cH (ptr fi (ar aR (ar aS (pv 5) ae) ae) ae))))
   (ag (bS 8 bw.nd (ar aX ae (ar aR (ar aS (pv 5) ae) (fL (bx (aa ae (aa ae (aa ae af)))) (ar aR (ar aS (pv 5) ae) ae)))))
    (ag (bP (ck yC yE yD bG (pv 2) (aa (bF (aa (pv 6) (aa (pv 7) (aa (pv 8) (aa (bM (vT T) hr T.lW (aa (ar aS (pv 5) ae) (aa (pv 6) (aa (pv 7) (aa (pv 8) af))))) af))))) af)))
    (aj (bS 3 bw.nd (ar aX (pv 7) ae)))))
   ax))))))
  (aj (aq (pv 2)))))),?_⟩
 ac_rfl;exists by show 0<=sizeLine;omega,?_
 intro D nD;have s2:au H (upd H D (.lst [])):=aV nD;have h2:upd H D (.lst []) D=some (.lst []):=aC;generalize upd H D (.lst [])=H2 at s2 h2 ⊢;exists by decide,(by decide),?_
 refine gq (fun i σ H'=>∃(rs:List Rep) (us:List V) (bar:Int),Lo [some (.int c),some (.int many),some (.ref D),some (.int bar)] 5 σ/\au H H'/\H' D=some (.lst us)/\ay H' (rs.map jB) us/\rs.length<=i/\0<=bar/\(∀r∈rs,En many r/\r.last<bar)/\rs.Pairwise fun a b=>a.last<b.first)
  ⟨[],[],0,Lo.of rfl rfl,s2,h2,cD,zk _,∅,by simp,by simp⟩ ?_ ?_
 ·intro i σ H3 hi hh
  refine dM fun N kN0 kR0 _ _=>?_;obtain⟨rs,us,bar,⟨e,rfl⟩,s3,h3,il3,rl,b0,rok,asc⟩:=hh;exists c,_,rfl,nofun,nofun,?_;have m0:0<=mixed c (0+(i:Int)+500):=zv _ ∅;have m1:mixed c (0+(i:Int)+500)<2147483399:=zr _ ∅;generalize mixed c (0+(i:Int)+500)=m at m0 m1;have a0:0<=m%4:=zv _ ∅;have e0:0<=m/4%8:=zv _ ∅;left;refine d8 (decide (bar+m%4+m/4%8<many)&&decide (0<m/32%4)) ?_ ?_ ?_
  ·intro c1 Z hz
   rw[c1,Bool.true_and] at hz;change hz
  ·intro c1;rw[c1,Bool.false_and]
  cases qw:(decide (bar+m%4+m/4%8<many)&&decide (0<m/32%4)) with
  | false=>
   change⟨rs,us,bar,Lo.of rfl rfl,s3,h3,il3,nofun,b0,rok,asc⟩
  | true=>
   simp only[zN,decide_eq_true_eq] at qw;obtain⟨c1,c2⟩:=qw;exists by show 3<=sizeLine;omega,?_
   intros p4 H4 s4 h4;have g0:0<=m/1024%3:=zv _ ∅;have g1:m/1024%3<3:=zr _ ∅;obtain⟨jj,hjj⟩:∃j:Nat,m/1024%3=(j:Int):=⟨(m/1024%3).toNat,nofun⟩
   obtain⟨z,hz,z0,z1⟩:∃z:Int,[V.int 2,V.int 3,V.int 8][jj]?=some (.int z)/\2<=z/\z<=8:=by
    have:jj<3:=nofun
    match jj,this with
    | 0,_=>exact⟨2,rfl,∅,∅⟩
    | 1,_=>exact⟨3,rfl,∅,∅⟩
    | 2,_=>exact⟨8,rfl,∅,∅⟩
   exists p4,_,m/1024%3,.int z,rfl,rfl,aI.of h4,(by rw[hjj];exact bz hz),?_;exists by show 0<z;omega,?_
   have t0:0<=m/128%z:=zv _ nofun;have t1:m/128%z<z:=zr _ nofun;exists .inl ⟨rfl,_,aI.of (s4 _ _ h3)⟩,?_;left;refine⟨_,_,_,_,rfl,zV m0 ∅,?_,nofun,nofun,nofun,nofun,nofun,fun es v H5 eok s5 h5=>?_⟩
   ·have:=zW (a:=m) 7 m0;omega
   exists by show 4<=sizeLine;omega,?_
   intros p6 H6 s6 h6;have s36:=s4.trans (s5.trans s6);have h36:=s36 _ _ h3;refine⟨D,us,_,rfl,rfl,h36,by have:=aO il3;omega,?_⟩;have nt:cN (H6 D):=by rw[h36];exact fun _ z=>by cases z
   have ix:Is H6 (jB ⟨bar+m%4,bar+m%4+m/4%8,2+m/128%z,es⟩) (.ref p6):=cz h6 (aM cP (aM cP (aM cP (aM (h5.mono s6) cD))));left;refine⟨rs++[⟨bar+m%4,bar+m%4+m/4%8,2+m/128%z,es⟩],_,_,Lo.of rfl rfl,cJ nD (s3.trans s36),aC,?_,by rw[zg];show rs.length+1<=i+1;omega,nofun,fun r hr=>?_,?_⟩
   ·rw[zj]
    exact cR (Is.upd nt ix) (ay.upd nt (il3.mono s36))
   ·rcases zF.mp hr with y | y
    ·have:=rok r y
     exact⟨this.1,nofun⟩
    ·rw[zy.mp y]
     exact⟨⟨by show 0<=bar+m%4;omega,by show bar+m%4<=bar+m%4+m/4%8;omega,c1,by show 2<=2+m/128%z;omega,by show 2+m/128%z<=9;omega,eok⟩,by show bar+m%4+m/4%8<bar+m%4+m/4%8+1;omega⟩
   ·rw[zT]
    refine⟨asc,by simp,fun a ha b hb=>?_⟩;have eb:b=⟨bar+m%4,bar+m%4+m/4%8,2+m/128%z,es⟩:=by simpa using hb
    rw[eb];have:=(rok a ha).2;show a.last<bar+m%4;omega
 ·rintro σ H3 ⟨rs,us,bar,⟨e,rfl⟩,s3,h3,il3,rl,b0,rok,asc⟩
  change kk rs D us H3 ⟨rl,fun r hr=>(rok r hr).1,asc⟩ s3 h3 il3
def OO (H:Hp) (p:Addr) (rs:List Rep):Prop:=rs.length<=1000/\(∀r∈rs,r.ends.length<=1000)/\∃rv,H p=some (.lst rv)/\ay H (rs.map jB) rv
theorem OO.mono {H H':Hp} (s:au H H') {p:Addr} {rs:List Rep} (h:OO H p rs):OO H' p rs:=by
 obtain⟨h1,h2,rv,h3,h4⟩:=h;exact⟨h1,h2,rv,s _ _ h3,h4.mono s⟩
inductive gX (vs:List V) (H:Hp) (Q:VK) (E:XK):Prop
 | mk (p:Addr) (rs:List Rep) (b:Int) (_:vs=[.ref p,.int b]) (_:OO H p rs) (_:∀H',au H H'->Q (.bl (jV rs b)) H')
inductive j8 (vs:List V) (H:Hp) (Q:VK) (E:XK):Prop
 | mk (p:Addr) (rs:List Rep) (b:Int) (_:vs=[.ref p,.int b]) (_:OO H p rs) (_:∀H',au H H'->Q (.bl (eN rs b)) H')
def A9:aA ["_law_repeats","_law_bar"] ["_law_repeats","_law_bar"] (ao rJ):=dC
def pL:di P w base 1 T.lV j8:=by
 nomatch T.lV,A9
 obtain⟨p,rs,b,rfl,⟨rl,el,rv,hp,il⟩,kk⟩:=h;have sl:=yB;obtain⟨ps,e1,e2,e3⟩:=gR il;have pln:ps.length=rs.length:=by rw[<-e1,za]
 refine⟨_,(aj (aq (eQ (gz rfl) T.yQ (aa (pK (ts:=["_law_first","_law_last","_law_times","_law_ends"]) (ys:=["_law_bar"]) (js:=[1]) (g:=(FO K 4 (fV (b7 0) (fV (b7 1) (fV (b7 2) (fV (b7 3) FP)))))) (te:=(xj (vM fun i j=>.bl (decide (i<j))) (vM fun i j=>.bl (decide (i<=j))) (aY 0) (aY 4) (aY 1))) (bo (pv 0)) (dQ (n:=4) rfl (aK (gO 0) (aK (gO 1) (aK (gO 2) (aK (gO 3) cV))))) bj (Fh eY gh (pv 0) (pv 4) (pv 1))) af)))),?_⟩;ac_rfl;exists⟨_,aI.of hp⟩,?_;refine dY (enc:=fun q:Rep×V=>q.2) (ws:=ps) (fun q=>.bl (decide (q.1.first<b)&&decide (b<=q.1.last))) (fun σ=>∃v1 v2 v3 v4,σ=[v1,v2,v3,v4,some (.int b)]) nofun (by rw[e2];exact aI.of hp) ⟨_,_,_,_,rfl⟩ ?_ ?_
 ·rintro z σ H1 R hz s1 ⟨v1,v2,v3,v4,rfl⟩ rr
  obtain⟨a,e,ev,ha,_⟩:=fT ((e3 z hz).mono s1);rw[ev];refine⟨a,_,rfl,du.of ha,rfl,?_⟩;refine⟨_,_,rfl,⟨_,_,rfl,⟨_,_,rfl,⟨_,_,rfl,⟨rfl,?_⟩⟩⟩⟩⟩;left
  by_cases c:z.1.first<b
  ·refine b9 (ze c) ?_
   change rr _ _ _ (au.refl _) (by rw[ze c,Bool.true_and];unfold Is;rfl) ⟨_,_,_,_,rfl⟩
  ·refine cm (zd c) ?_
   exact rr _ _ _ (au.refl _) (by rw[zd c,Bool.false_and];unfold Is;rfl) ⟨_,_,_,_,rfl⟩
 ·intro D vs H1 s1 nD hD ilD
  have ee:ps.map (fun q:Rep×V=>Dt.bl (decide (q.1.first<b)&&decide (b<=q.1.last)))=(rs.map fun r=>decide (r.first<b)&&decide (b<=r.last)).map Dt.bl:=by rw[<-e1,zA,zA];rfl
  rw[ee] at ilD;rw[kg ilD] at hD;exists D,_,rfl,aI.of hD,?_;have:=kk _ s1;unfold eN at this;rw[List.any_map];exact this
def dw:aA ["_law_repeats","_law_bar","_law_first","_law_last","_law_times","_law_ends","_law_mine"] ["_law_repeats","_law_bar"] (ao nN):=dC
def mI:di P w base 1 T.iQ gX:=by
 nomatch T.iQ,dw
 obtain⟨p,rs,b,rfl,⟨rl,el,rv,hp,il⟩,kk⟩:=h;have sl:=yB;have rvl:=aO il;refine⟨_,(ag (cB PassesOwn.never rfl (bo (pv 0)) (dQ (n:=4) rfl (aK (jP 2 dw.nd) (aK (jP 3 dw.nd) (aK (jP 4 dw.nd) (aK (jP 5 dw.nd) cV)))))
  (aj (aF (LN gh gh (pv 2) (pv 1) (pv 3))
   (ag (M4 (i:=6) (ts:=["_law_begin","_law_passes"]) (ys:=["_law_bar"]) (js:=[1]) (g:=(FO K 2 (fV (b7 0) (fV (b7 1) FP)))) (tc:=(mZ (fA (vM fun i j=>.bl (decide (i<=j))) (aY 0) (aY 2)))) (te:=(aY 1)) (kc (pv 5)) (dQ (n:=2) rfl (aK (gO 0) (aK (gO 1) cV))) (iC (ptr gh (pv 0) (pv 2))) (pv 1) dw.nd)
    (aj (aq (LW (dR (Dc hr.units) (pv 6) (bx af) (jg _)) (qy (dR oE (pv 4) (fL (pv 6) (rT kZ ae)) (by with_unfolding_all rfl)))))))
   ax)))
  (aj (aq nV))),?_⟩
 ac_rfl;exists⟨_,aI.of hp⟩,?_;refine dP (K:=K) (a:=p) (xs:=rv) (fun i σ H'=>H'=H/\(∀r∈rs.take i,Eu r b=false)/\∃(v2 v3 v4 v5 v6:Option V),σ=[some (.ref p),some (.int b),v2,v3,v4,v5,v6]) ⟨rfl,by simp,none,none,none,none,none,rfl⟩ (fun i σ H' _ h=>by rw[h.1];exact aI.of hp) ?_ ?_
 ·rintro i x σ H1 hx ⟨rfl,no,v2,v3,v4,v5,v6,rfl⟩
  obtain⟨r,hr',ir⟩:=dt il hx;obtain⟨a,ep,rfl,ha,ie⟩:=fT ir;have rin:=zB hr';have nxt:Eu r b=false->∀y∈rs.take (i+1),Eu y b=false:=fun e y hy=>by
   rw[cS hr'] at hy;rcases zF.mp hy with z | z
   ·exact no y z
   ·rw[zy.mp z];exact e
  refine⟨a,_,rfl,du.of ha,rfl,?_⟩;refine⟨_,_,rfl,⟨_,_,rfl,⟨_,_,rfl,⟨_,_,rfl,⟨rfl,?_⟩⟩⟩⟩⟩;left
  by_cases c1:r.first<=b
  ·refine b9 (ze c1) ?_
   left
   by_cases c2:b<=r.last
   ·refine b9 (ze c2) ?_
    left;obtain⟨ep',evs,e0,hep,ile⟩:∃ep' evs,V.ref ep=.ref ep'/\H1 ep'=some (.tup evs)/\ay H1 (r.ends.map mT) evs:=by unfold Is at ie;exact ie
    cases e0;obtain⟨ps,e1,e2,e3⟩:=gR ile;have pln:ps.length=r.ends.length:=by rw[<-e1,za]
    have elr:=el r rin;refine⟨⟨_,du.of hep⟩,?_⟩;have hro:dG rs b=some r:=y4 hr' (by rw[ze c1,ze c2];rfl) fun y hy=>no y hy;refine Ao (ws:=ps) (enc:=fun q:Sc.End×V=>q.2) (fun q=>decide (q.1.1<=b)) (fun q=>vk q.1.2) (fun σ=>∃v w',σ=[v,w',some (.int b)]) nofun ⟨_,_,rfl⟩ (fun i H hi sm=>HD (iS sm hep) (by rw[<-e2,za];exact hi)) (fun H sm=>⟨_,iS sm hep,by rw[<-e2,za];exact zk _⟩) ?_ ?_ ?_
    ·rintro i x H H2 hi sm ⟨rfl,hy⟩
     have hx':=hy _ (iS sm hep);rw[<-e2,zJ,zb hi] at hx';cases hx';exact⟨rfl,rfl⟩
    ·rintro z σ H2 R N hz s2 ⟨v,w',rfl⟩ rr nn
     obtain⟨a2,q2,ev,ha2,hq2⟩:=uj ((e3 z hz).mono s2);rw[ev];refine⟨a2,_,rfl,du.of ha2,rfl,?_⟩;refine⟨_,_,rfl,⟨_,_,rfl,⟨rfl,?_⟩⟩⟩;left
     by_cases c3:z.1.1<=b
     ·refine b9 (ze c3) ?_
      change rr (ze c3) _ _ _ (au.refl _) (cz hq2 sC) ⟨_,_,rfl⟩
     ·refine cm (zd c3) ?_
      exact nn (zd c3) _ _ (au.refl _) ⟨_,_,rfl⟩
    ·intro D vs H2 s2 nD hD ilD
     have ee:(ps.filter fun q:Sc.End×V=>decide (q.1.1<=b)).map (fun q=>vk q.1.2)=((r.ends.filter fun e=>decide (e.1<=b)).map (·.2)).map vk:=by
      rw[<-e1,List.filter_map,zA,zA];rfl
     rw[ee] at ilD;have vl:=aO ilD;rw[za] at vl;exists by show 0<=sizeLine;omega,?_
     intros p3 H3 s3 h3;refine⟨D,p3,_,_,rfl,rfl,.inl ⟨aI.of (s3 _ _ hD),aI.of h3⟩,.inr (.inl rfl),?_⟩;have hlp:jV rs b=(match (r.ends.filter fun e=>decide (e.1<=b)).getLast? with | none=>true | some e=>decide (r.times∈e.2)):=by unfold jV;rw[hro];try rfl
     rw[hlp] at kk;clear hlp ee;generalize (r.ends.filter fun e=>decide (e.1<=b))=fs at kk ilD vl;have s13:=s2.trans s3
     by_cases e:vs=[]
     ·refine⟨_,rfl,b9 (ze e) ?_⟩
      have:fs=[]:=by
       rw[e] at vl;exact yr.mp vl.symm
      rw[this] at kk;exact kk _ s13
     ·refine⟨_,rfl,cm (zd e) ?_⟩
      have vp:0<vs.length:=yq.mpr e;obtain⟨ps5,hps5,i5⟩:=dt ilD (i:=vs.length-1) (zb nofun);rw[zJ] at hps5;cases qf:fs[vs.length-1]? with
      | none=>rw[qf] at hps5;cases hps5
      | some en=>
       rw[qf] at hps5;have e5:en.2=ps5:=yj hps5;subst e5;have gl:fs.getLast?=some en:=by rw[List.getLast?_eq_getElem?,<-vl];exact qf
       rw[gl] at kk;unfold vk Is at i5;obtain⟨a5,us5,ev5,ha5,il5⟩:=i5;rw[fu il5] at ha5;left;refine⟨D,vs,-1,_,rfl,rfl,aI.of (s3 _ _ hD),sP (zb nofun),?_⟩;rw[ev5];refine⟨a5,_,rfl,.inr (du.of (s3 _ _ ha5)),rfl,by rw[List.all_map];exact yo.mpr fun x _=>rfl,?_⟩;show Q (.bl (Et (.int r.times) (en.2.map V.int))) _;rw[wN];exact kk _ s13
   ·refine cm (zd c2) ?_
    change⟨nxt (by unfold Eu;rw[zd c2,Bool.and_false]),_,_,_,_,_,rfl⟩
  ·refine cm (zd c1) ?_
   change⟨nxt (by unfold Eu;rw[zd c1,Bool.false_and]),_,_,_,_,_,rfl⟩
 ·rintro σ H1 ⟨rfl,no,v2,v3,v4,v5,v6,rfl⟩
  left;have e:jV rs b=true:=by
   unfold jV;rw[show dG rs b=none from List.find?_eq_none.mpr fun y hy=>by
    have:=no y (by rw[rvl,zM];exact hy);unfold Eu at this;rw[this];simp]
  rw[e] at kk;exact kk _ (au.refl _)
def Cy.apart {many:Int} {rs:List Rep} (h:Cy many rs):Apart rs:=by
 refine⟨fun r hr=>?_,h.2.2⟩;obtain⟨h1,h2,h3,h4,h5,e1,e2,e3,e4,e5⟩:=h.2.1 r hr;exact⟨h2,e5,fun e he=>⟨(e3 e he).1,(e3 e he).2.1⟩⟩
inductive vC (vs:List V) (H:Hp) (Q:VK) (E:XK):Prop
 | mk (c many:Int) (p:Addr) (rs:List Rep) (_:vs=[.int c,.int many,.ref p]) (_:OO H p rs) (_:Cy many rs) (_:1<=many) (_:many<=200) (_:∀(jo:Option Jump) v H',(∀j,jo=some j->Oi many rs j)->au H H'->Is H' (dO jq jo) v->Q v H')
def Jk {l:List Int} {j:Nat} (h:j<l.length):∃x,(l.map V.int)[j]?=some (.int x)/\x∈l:=⟨l[j],by rw[zJ,zb h];rfl,yk h⟩
def Hv {m:Int} {l:List Int} (h:l≠[]):∃x,Cw (l.map V.int) (m%(l.length:Int))=some (.int x)/\x∈l:=by
 have hp:0<l.length:=yq.mpr h;have a0:=zv m (b:=(l.length:Int)) nofun;have a1:=zr m (b:=(l.length:Int)) nofun;obtain⟨j,hj⟩:∃j:Nat,m%(l.length:Int)=(j:Int):=⟨(m%(l.length:Int)).toNat,nofun⟩
 obtain⟨x,e1,e2⟩:=Jk (l:=l) (j:=j) nofun;exact⟨x,by rw[hj];exact bz e1,e2⟩
def Gu (l:List Int):(l.map V.int).all mL=true:=by rw[List.all_map];exact yo.mpr fun _ _=>rfl
def bI:aA ["_law_cell","_law_many","_law_repeats","_law_m","_law_lasts","_law_inside","_law_ats","_law_at","_law_tos","_law_to","_law_untils","_law_codas"] ["_law_cell","_law_many","_law_repeats"] (ao nO):=dC
def vS:di P w base 2 T.lU vC:=by
 nomatch T.lU,bI
 obtain⟨c,many,p,rs,rfl,rsl,rd,mn1,mn2,kk⟩:=h;have sl:=yB;have ap:=rd.apart;obtain⟨rl,el,rv,hp,il⟩:=id rsl;obtain⟨ps,e1,e2,e3⟩:=gR il;have pln:ps.length=rs.length:=by rw[<-e1,za]
 refine⟨_,(ag (bS 3 bI.nd (bM (bJ T) hr T.cu (aa (pv 0) (aa ae af))))
  (ag (bS 4 bI.nd (pK (ts:=["_law_first","_law_last","_law_times","_law_ends"]) (ys:=[]) (js:=[]) (g:=(FO K 4 (fV (b7 0) (fV (b7 1) (fV (b7 2) (fV (b7 3) FP)))))) (te:=(aY 1)) (bo (pv 2)) (dQ (n:=4) rfl (aK (gO 0) (aK (gO 1) (aK (gO 2) (aK (gO 3) cV))))) bj (pv 1)))
  (ag (bS 5 bI.nd (pK (ts:=["_law_bar"]) (ys:=["_law_repeats"]) (js:=[2]) (g:=(b7 0)) (tc:=(tB (JE (SA K) (bK (m6 [none,some 0] (I0 K (aY 1)) (b7 0) vw (xj (vM fun i j=>.bl (decide (i<=j))) (vM fun i j=>.bl (decide (i<=j))) (fA (qx K) (aY 0) (tC (.int (0)))) (aY 1) (fA (qx K) (aY 0) (tC (.int (1)))))) eI)))) (te:=(aY 0)) (cM (by rfl) T.dA (aa (pv 1) af)) (gO 0) (iC (cU (eQ (gz rfl) T.yQ (aa (pK (ts:=["_law_one"]) (ys:=["_law_bar"]) (js:=[0]) (te:=(xj (vM fun i j=>.bl (decide (i<=j))) (vM fun i j=>.bl (decide (i<=j))) (fA (qx K) (aY 0) (tC (.int (0)))) (aY 1) (fA (qx K) (aY 0) (tC (.int (1)))))) (bo (pv 1)) (gO 0) bj (Fh gh gh (bN (pv 0) ae) (pv 1) (bN (pv 0) ae))) af)))) (pv 0)))
  (ag (M4 (i:=6) (ts:=["_law_bar"]) (ys:=["_law_lasts","_law_inside"]) (js:=[4,5]) (g:=(b7 0)) (tc:=(Si (mZ (fA (Qu K false) (aY 0) (aY 1))) (mZ (fA (Qu K true) (aY 0) (aY 2))))) (te:=(aY 0)) (cM (by rfl) T.dA (aa (pv 1) af)) (gO 0) (iC (PW.pt (eC (iA oE (pv 0) (pv 1) (by with_unfolding_all rfl)) (dq (iA dS (pv 0) (pv 2) (by with_unfolding_all rfl)))))) (pv 0) bI.nd)
  (ag (aF (PW.pt (eC (ptr cY (ar aR (ar aS (pv 3) ae) ae) ae) (dq (ptr (Dc hr.units) (pv 6) (bx af)))))
  (aj (aq aQ))
  ax)
  (ag (bS 7 bI.nd (fL (pv 6) (ar aR (ar aS (pv 3) ae) (eQ aB T.bu (aa (pv 6) af)))))
  (ag (M4 (i:=8) (ts:=["_law_bar"]) (ys:=["_law_repeats"]) (js:=[2]) (g:=(b7 0)) (tc:=(Nf (tB (gL j8 [] E0 (bK (aY 1) (bK (aY 0) eI)))))) (te:=(aY 0)) (cM (by rfl) T.dA (aa (ar aX (pv 7) ae) af)) (gO 0) (iC (fw (cU (bM (pL T) hr T.lV (aa (pv 1) (aa (pv 0) af)))))) (pv 0) bI.nd)
  (ag (bS 9 bI.nd (fL (pv 8) (ar aR (ar aS (pv 3) ae) (eQ aB T.bu (aa (pv 8) af)))))
  (ag (M4 (i:=10) (ts:=["_law_bar"]) (ys:=["_law_repeats"]) (js:=[2]) (g:=(b7 0)) (tc:=(tB (gL gX [] E0 (bK (aY 1) (bK (aY 0) eI))))) (te:=(aY 0)) (B0 (by rfl) T.dA (aa (pv 9) (aa (ar aX (pv 7) ae) af))) (gO 0) (iC (cU (bM (mI T) hr T.iQ (aa (pv 1) (aa (pv 0) af))))) (pv 0) bI.nd)
  (ag (M4 (i:=11) (ts:=["_law_bar"]) (ys:=["_law_repeats"]) (js:=[2]) (g:=(b7 0)) (tc:=(Pj (Nf (tB (gL j8 [] E0 (bK (aY 1) (bK (aY 0) eI))))) (tB (gL gX [] E0 (bK (aY 1) (bK (aY 0) eI)))))) (te:=(aY 0)) (B0 (by rfl) T.dA (aa (ar aX (pv 7) ae) (aa (pv 1) af))) (gO 0) (iC (PW.pt (cT (fw (cU (bM (pL T) hr T.lV (aa (pv 1) (aa (pv 0) af))))) (cH (cU (bM (mI T) hr T.iQ (aa (pv 1) (aa (pv 0) af)))))))) (pv 0) bI.nd)
  (ag (aF (ptr (Dc hr.units) (pv 10) (bx af))
  (aj (aq aQ))
  ax)
  (aj (aq (bF (aa (pv 7) (aa (pv 9) (aa (fL (pv 10) (ar aR (ar aS (pv 3) ae) (eQ aB T.bu (aa (pv 10) af)))) (aa (fL (ar gE (bx (aa aQ af)) (pv 11)) (ar aR (ar aS (pv 3) ae) (ar aX ae (eQ aB T.bu (aa (pv 11) af))))) af)))))))))))))))))),?_⟩
 ac_rfl;exists c,520,rfl,nofun,nofun,?_;have m0:0<=mixed c 520:=zv _ ∅;generalize mixed c 520=m at m0;exists⟨_,aI.of hp⟩,?_;refine dY (enc:=fun q:Rep×V=>q.2) (ws:=ps) (fun q=>.int q.1.last) (fun σ=>∃v1 v2 v3 v4,σ=[v1,v2,v3,v4]) nofun (by rw[e2];exact aI.of hp) ⟨_,_,_,_,rfl⟩ ?_ ?_
 ·rintro z σ H1 R hz s1 ⟨v1,v2,v3,v4,rfl⟩ rr
  obtain⟨a,e,ev,ha,_⟩:=fT ((e3 z hz).mono s1);rw[ev];refine⟨a,_,rfl,du.of ha,rfl,?_⟩;refine⟨_,_,rfl,⟨_,_,rfl,⟨_,_,rfl,⟨_,_,rfl,⟨rfl,?_⟩⟩⟩⟩⟩;change rr _ _ _ (au.refl _) cP ⟨_,_,_,_,rfl⟩
 intro D4 vs4 H4 s4 _ hD4 il4;have ee:ps.map (fun q:Rep×V=>Dt.int q.1.last)=(rs.map (·.last)).map Dt.int:=by rw[<-e1,zA,zA];rfl
 rw[ee] at il4;rw[fu il4] at hD4;clear ee il4;exists by omega,nofun,?_
 have mt:((many.toNat:Nat):Int)=many:=nofun
 refine jr (rest:=[some (.ref p)]) (fun b=>rs.any fun r=>Eu r b) nofun ⟨none,rfl⟩ ?_ ?_
 ·intro i H5 R i0 i1 s5 hR
  have s05:=s4.trans s5;exists⟨_,aI.of (s05 _ _ hp)⟩,?_;refine dY (enc:=fun q:Rep×V=>q.2) (ws:=ps) (fun q=>.bl (Eu q.1 i)) (fun σ=>∃v1,σ=[v1,some (.int i)]) nofun (by rw[e2];exact aI.of (s05 _ _ hp)) ⟨_,rfl⟩ ?_ ?_
  ·rintro z σ H6 R hz s6 ⟨v1,rfl⟩ rr
   obtain⟨a,e,ev,ha,_⟩:=fT ((e3 z hz).mono (s05.trans s6));rw[ev];left
   by_cases c1:z.1.first<=i
   ·refine b9 (ze c1) ?_
    change rr _ _ _ (au.refl _) (by unfold Eu;rw[ze c1,Bool.true_and];unfold Is;rfl) ⟨_,rfl⟩
   ·refine cm (zd c1) ?_
    exact rr _ _ _ (au.refl _) (by unfold Eu;rw[zd c1,Bool.false_and];unfold Is;rfl) ⟨_,rfl⟩
  ·intro D vs H6 s6 nD hD ilD
   have ee:ps.map (fun q:Rep×V=>Dt.bl (Eu q.1 i))=(rs.map fun r=>Eu r i).map Dt.bl:=by rw[<-e1,zA,zA];rfl
   rw[ee] at ilD;rw[kg ilD] at hD;exists D,_,rfl,aI.of hD,?_;rw[List.any_map];exact⟨_,rfl,hR _ s6⟩
 intro D5 H5 s5 _ hD5;have hD45:=s5 _ _ hD4;generalize hins:mM (fun b=>rs.any fun r=>Eu r b) 0 many.toNat=ins at hD5;exists by omega,nofun,?_
 refine jr (rest:=[some (.ref D4),some (.ref D5)]) (fun b=>decide (b∈rs.map (·.last))||!decide (b∈ins)) nofun ⟨none,rfl⟩ ?_ ?_
 ·intro i H6 R i0 i1 s6 hR
  exists D4,_,rfl,.inl (aI.of (s6 _ _ hD45)),rfl,Gu _,?_;show∃k,V.bl (Et (.int i) ((rs.map (·.last)).map V.int))=.bl k/\_;rw[wN];refine⟨_,rfl,?_⟩;refine IU (decide (i∈rs.map (·.last))||!decide (i∈ins)) ?_ ?_ (hR _ (au.refl _))
  ·intro c1 Z hz
   rw[c1,Bool.false_or] at hz;exists D5,_,rfl,.inl (aI.of (s6 _ _ hD5)),rfl,Gu _,?_;show∃k,V.bl (!Et (.int i) (ins.map V.int))=.bl k/\_;rw[wN];exact⟨_,rfl,hz⟩
  ·intro c1;rw[c1,Bool.true_or]
 intro D6 H6 s6 _ hD6;have s06:=(s4.trans s5).trans s6;generalize hats:mM (fun b=>decide (b∈rs.map (·.last))||!decide (b∈ins)) 0 many.toNat=ats at hD6;left;have out:∀H',au H H'->Q .bC H':=fun H' s'=>kk none .bC H' (fun j z=>by cases z) s' (by unfold dO Is;rfl)
 by_cases c0:m/7%3=0
 ·refine b9 (ze (congrArg V.int c0)) ?_
  change out _ s06
 refine cm (zd fun z=>c0 (V.int.inj z)) ?_;exists by show 0<=sizeLine;omega,?_
 intros p7 H7 s7 h7;refine⟨D6,p7,_,_,rfl,rfl,.inl ⟨aI.of (s7 _ _ hD6),aI.of h7⟩,.inr (.inl rfl),?_⟩
 by_cases cn:ats=[]
 ·rw[cn]
  change out _ (s06.trans s7)
 have hn:decide (ats.map V.int=[])=false:=zd (by simpa using cn);rw[hn];have s07:=s06.trans s7;have hD67:=s7 _ _ hD6;left;obtain⟨at_,hat,atin⟩:=Hv (m:=m/3) cn;have anp:0<ats.length:=yq.mpr cn;refine⟨D6,_,rfl,.inl (aI.of hD67),?_⟩;rw[za];exists by show 0<(ats.length:Int);omega,?_
 refine⟨D6,_,_,_,rfl,rfl,aI.of hD67,hat,?_⟩;rw[<-hats] at atin;obtain⟨a0,a1,a2⟩:=oK atin;have a1':at_<many:=nofun
 have aleave:(∃r∈rs,r.last=at_)\/(rs.any fun r=>Eu r at_)=false:=by
  rw[Bool.or_eq_true,decide_eq_true_eq] at a2;rcases a2 with z | z
  ·obtain⟨r,hr1,hr2⟩:=zG.mp z
   exact .inl ⟨r,hr1,hr2⟩
  ·right
   cases q:rs.any fun r=>Eu r at_ with
   | false=>rfl
   | true=>
    have:at_∈ins:=by rw[<-hins];exact FX a0 nofun q
    rw[ze this] at z;cases z
 clear hats atin hat;exists by show -2^62<=at_+1;omega,(by show at_+1<2^62;omega),?_
 have pt:∀H',au H7 H'->OO H' p rs:=fun H' s'=>(rsl.mono s07).mono s';refine jr (rest:=[some (.ref p)]) (fun b=>!eN rs b) (by show(at_+1).toNat<=sizeLine;omega) ⟨none,rfl⟩ ?_ ?_
 ·intro i H8 R i0 i1 s8 hR
  change⟨p,rs,i,rfl,pt _ s8,fun H' s'=>⟨_,rfl,hR _ s'⟩⟩
 intro D8 H8 s8 _ hD8;generalize htos:mM (fun b=>!eN rs b) 0 (at_+1).toNat=tos at hD8;have tn:tos≠[]:=by
  rw[<-htos];refine List.ne_nil_of_mem (FX (x:=0) nofun nofun ?_);have:eN rs 0=false:=by
   unfold eN;rw[List.any_eq_false];intro r hr';have:=(rd.2.1 r hr').1;rw[zd (show¬r.first<0 by omega)];simp
  rw[this];rfl
 obtain⟨to_,hto,toin⟩:=Hv (m:=m/50) tn;have tnp:0<tos.length:=yq.mpr tn;exists D8,_,rfl,.inl (aI.of hD8),?_;rw[za];exists by show 0<(tos.length:Int);omega,?_
 refine⟨D8,_,_,_,rfl,rfl,aI.of hD8,hto,?_⟩;rw[<-htos] at toin;obtain⟨b0,b1,b2⟩:=oK toin;have b2':eN rs to_=false:=by cases q:eN rs to_ with
  | false=>rfl
  | true=>rw[q] at b2;cases b2
 clear htos toin hto tnp tn;exists _,_,rfl,⟨nofun,nofun,(by show -2^62<=at_+1;omega),by show at_+1<2^62;omega⟩,?_;refine jr (rest:=[some (.ref p)]) (fun b=>jV rs b) (by show(at_+1-to_).toNat<=sizeLine;omega) ⟨none,rfl⟩ ?_ ?_
 ·intro i H9 R i0 i1 s9 hR
  change⟨p,rs,i,rfl,pt _ (s8.trans s9),fun H' s'=>⟨_,rfl,hR _ s'⟩⟩
 intro D9 H9 s9 _ hD9;generalize hunt:mM (fun b=>jV rs b) to_ (at_+1-to_).toNat=unt at hD9;exists _,_,rfl,⟨by show -2^62<=at_+1;omega,(by show at_+1<2^62;omega),nofun,nofun⟩,?_;refine jr (rest:=[some (.ref p)]) (fun b=>!eN rs b&&jV rs b) (by show(many-(at_+1)).toNat<=sizeLine;omega) ⟨none,rfl⟩ ?_ ?_
 ·intro i Ha R i0 i1 sa hR
  left;refine⟨p,rs,i,rfl,pt _ ((s8.trans s9).trans sa),fun H' s'=>⟨_,rfl,?_⟩⟩;cases q:eN rs i with
  | true=>
   rw[q] at hR;exact cm rfl (hR _ s')
  | false=>
   rw[q] at hR;refine b9 rfl ?_;change⟨p,rs,i,rfl,(pt _ ((s8.trans s9).trans sa)).mono s',fun H'' s''=>⟨_,rfl,hR _ (s'.trans s'')⟩⟩
 intro Da Ha sa _ hDa;generalize hcod:mM (fun b=>!eN rs b&&jV rs b) (at_+1) (many-(at_+1)).toNat=cod at hDa;have cl:cod.length<=200:=by
  have:=Kc (f:=fun b=>!eN rs b&&jV rs b) (lo:=at_+1) (n:=(many-(at_+1)).toNat);rw[hcod] at this;omega
 have s0a:=((s07.trans s8).trans s9).trans sa;exists by show 0<=sizeLine;omega,?_
 intros pb Hb sb hb;have hD9b:=sb _ _ (sa _ _ hD9);refine⟨D9,pb,_,_,rfl,rfl,.inl ⟨aI.of hD9b,aI.of hb⟩,.inr (.inl rfl),?_⟩
 by_cases un:unt=[]
 ·rw[un]
  change out _ (s0a.trans sb)
 have hn2:decide (unt.map V.int=[])=false:=zd (by simpa using un);rw[hn2];obtain⟨u_,hu,uin⟩:=Hv (m:=m/500) un;have unp:0<unt.length:=yq.mpr un;rw[<-hunt] at uin;obtain⟨u0,u1,u2⟩:=oK uin;exists D9,_,rfl,.inl (aI.of hD9b),?_;rw[za];exists by show 0<(unt.length:Int);omega,?_
 refine⟨D9,_,_,_,rfl,rfl,aI.of hD9b,hu,?_⟩;exists by show 1<=sizeLine;omega,?_
 intros pc Hc sc hc;have hDac:=sc _ _ (sb _ _ hDa);exists pc,Da,_,_,rfl,rfl,aI.of hc,aI.of hDac,by rw[za];show 1+cod.length<=sizeLine;omega,?_
 intros pd Hd sd hd;exists Da,_,rfl,.inl (aI.of (sd _ _ hDac)),?_;rw[za];exists by show 0<1+(cod.length:Int);omega,?_
 have k0:0<=m/7%(1+(cod.length:Int)):=zv _ nofun;have k1:m/7%(1+(cod.length:Int))<1+(cod.length:Int):=zr _ nofun;obtain⟨kj,hkj⟩:∃j:Nat,m/7%(1+(cod.length:Int))=(j:Int):=⟨(m/7%(1+(cod.length:Int))).toNat,nofun⟩
 obtain⟨co,cv,hcv,icv,cok⟩:∃(co:Option Int) (cv:V),(V.bC::cod.map V.int)[kj]?=some cv/\(∀H',Is H' (dO Dt.int co) cv)/\∀x,co=some x->x∈cod:=by
  cases kj with
  | zero=>exact⟨none,.bC,rfl,fun H'=>by unfold dO Is;rfl,fun x z=>by cases z⟩
  | succ k=>
   obtain⟨x,f1,f2⟩:=Jk (l:=cod) (j:=k) nofun;exact⟨some x,.int x,by simpa using f1,fun H'=>by unfold dO Is;rfl,fun y z=>by cases z;exact f2⟩
 refine⟨pd,_,_,_,rfl,rfl,aI.of hd,(by rw[hkj];exact bz hcv),?_⟩;exists by show 4<=sizeLine;omega,?_
 intros pe He se he;refine kk (some ⟨at_,to_,u_,co⟩) _ _ (fun j z=>?_) ((((s0a.trans sb).trans sc).trans sd).trans se) (cz he (aM cP (aM cP (aM cP (aM (icv _) cD)))));cases z;refine P2 ap a0 a1' aleave b0 nofun b2' u0 nofun u2 fun x hx=>?_;have xin:=cok x hx;rw[<-hcod] at xin;obtain⟨x0,x1,x2⟩:=oK xin;rw[zN] at x2;refine⟨nofun,nofun,?_,x2.2⟩;cases q:eN rs x with
 | false=>rfl
 | true=>rw[q] at x2;cases x2.1
def K4:∀x∈Hw,∀z∈([2,3,5]:List Int),(red x.1 (x.2*z)).1*(red x.1 x.2).2<(red x.1 x.2).1*(red x.1 (x.2*z)).2:=by decide +kernel
structure Er (most:Int) (S:cG):Prop where
 QW:1<=S.players.length
 pl:S.players.length<=4
 pn:AQ S.players
 ins:Ru S.ak
 st:El S.players S.aH
 b1:1<=S.aL.length
 bl:(S.aL.length:Int)<=most
 bd:∀b∈S.aL,KP b
 up:∀u,S.aE=some u->∃x z,S.aL[0]?=some x/\z∈([2,3,5]:List Int)/\u=red x.aP.1 (x.aP.2*z)
 hs:List.Sublist (S.holds.map (·.1)) S.players
 hr:∀x∈S.holds,Jn (S.ak.map (·.1)) S.aL.length x.2
 no:Eo S S.aG
 nl:S.aG.length<=9*S.aL.length
 rp:Cy S.aL.length S.repeats
 ju:∀j,S.bZ=some j->Oi S.aL.length S.repeats j
def F2 {aL:List Sc.KW} {upb:Option (Int×Int)} {S:cG} (eb:S.aL=aL) (eu:S.aE=upb) (bd:∀b∈aL,KP b) (up:∀u,upb=some u->∃x z,aL[0]?=some x/\z∈([2,3,5]:List Int)/\u=red x.aP.1 (x.aP.2*z)) (b:Nat) (hb:b<aL.length):KJ (S.len b):=by
 have hm:KJ (S.aP b):=by
  unfold cG.aP;rw[eb,zb hb];obtain⟨m1,m2,m3,m4,m5⟩:=lJ (bd _ (yk hb)).1;exact HA nofun nofun nofun nofun
 unfold cG.len;rw[eu];cases q:upb with
 | none=>exact hm
 | some u=>
  dsimp only;split
  ·obtain⟨x,z,e1,e2,e3⟩:=up u q
   obtain⟨m1,m2,m3,m4,m5⟩:=lJ (bd _ (zB e1)).1;rw[e3];have z1:2<=z/\z<=5:=by
    simp only[zC,zD,or_false] at e2;omega
   have p1:0<x.aP.2*z:=Int.mul_pos nofun nofun;have p2:x.aP.2*z<=32*5:=Int.mul_le_mul m5 z1.2 nofun ∅;exact HA nofun nofun p1 nofun
  ·exact hm
inductive tD (K:yA) (vs:List V) (H:Hp) (Q:VK) (E:XK):Prop
 | mk (a:Addr) (ns:List Int) (most:Int) (_:vs=[.ref a,.int most]) (_:aI K H a (ns.map V.int)) (_:ns.length<=1000) (_:1<=most) (_:most<=24) (_:∀S p H',Er most S->au H H'->vo H' p S->Q (.ref p) H')
def aW:aA ["_law_script","_law_most","_law_m","_law_players","_law_instruments","_law_many","_law_bars","_law_upbeat","_law_holds","_law_notes","_law_repeats","_law_jump","_law_staffs"] ["_law_script","_law_most"] (ao mn):=dC
def tT:di P w base 4 T.kA (tD K):=by
 nomatch T.kA,aW
 obtain⟨a,ns,most,rfl,hS,nl,mo1,mo2,kk⟩:=h;have sl:=yB;refine⟨_,(ag (bS 2 aW.nd (bM (bJ T) hr T.cu (aa (bM (bU T) hr T.cw (aa (pv 0) (aa ae af))) (aa ae af))))
  (ag (bS 3 aW.nd (bM (eU T) hr T.d9 (aa (ar aS (pv 2) ae) (aa (ar aX ae (ar aR (pv 2) ae)) af))))
  (ag (bS 4 aW.nd (bM (lI T) hr T.fc (aa (bM (bU T) hr T.cw (aa (pv 0) (aa ae af))) af)))
  (ag (bS 5 aW.nd (ar aX ae (ar aR (bM (bJ T) hr T.cu (aa (bM (bU T) hr T.cw (aa (pv 0) (aa ae af))) (aa ae af))) (pv 1))))
  (ag (bS 6 aW.nd (bM (vU T) hr T.lX (aa (bM (bU T) hr T.cw (aa (pv 0) (aa ae af))) (aa (pv 5) af))))
  (ag (bS 7 aW.nd aQ)
  (ag (aF (ptr cY (ar aR (ar aS (pv 2) ae) ae) ae)
  (aj (bS 7 aW.nd (bM (fU T) hr T.fI (aa (bN (bN (fL (pv 6) ae) ae) ae) (aa (ar dU (bN (bN (fL (pv 6) ae) ae) ae) (fL (bx (aa ae (aa ae (aa ae af)))) (ar aR (ar aS (pv 2) ae) ae))) af)))))
  ax)
  (ag (bS 8 aW.nd (bM (tX T) hr T.kE (aa (bM (bU T) hr T.cw (aa (pv 0) (aa ae af))) (aa (pv 3) (aa (pv 4) (aa (pv 5) af))))))
  (ag (bS 9 aW.nd (bM (tV T) hr T.kC (aa (bM (bU T) hr T.cw (aa (pv 0) (aa ae af))) (aa (pv 3) (aa (pv 6) (aa (pv 7) af))))))
  (ag (bS 10 aW.nd (bM (qD T) hr T.hV (aa (bM (bU T) hr T.cw (aa (pv 0) (aa ae af))) (aa (pv 5) af))))
  (ag (bS 11 aW.nd (bM (vS T) hr T.lU (aa (bM (bU T) hr T.cw (aa (pv 0) (aa ae af))) (aa (pv 5) (aa (pv 10) af)))))
  (ag (bS 12 aW.nd (bM (sg T) hr T.jw (aa (bM (bU T) hr T.cw (aa (pv 0) (aa ae af))) (aa (pv 3) af))))
  (aj (aq (bF (aa (pv 3) (aa (pv 4) (aa (pv 12) (aa (pv 6) (aa (pv 7) (aa (pv 8) (aa (pv 9) (aa (pv 10) (aa (pv 11) af)))))))))))))))))))))))),?_⟩
 ac_rfl;exists a,ns,0,rfl,hS,(by decide),nl,fun c0=>?_;exists c0,1,rfl,(by decide),(by decide),?_;have m0:0<=mixed c0 1:=zv _ ∅;have m1:mixed c0 1<2147483399:=zr _ ∅;generalize mixed c0 1=m at m0 m1;have a0:0<=m%4:=zv _ ∅;have a1:m%4<4:=zr _ ∅;left;refine⟨_,_,rfl,zV m0 ∅,?_,nofun,nofun,fun ps pp H1 pl pok s1 hpp=>?_⟩
 ·have:=zW (a:=m) 4 m0;omega
 have QW:1<=ps.length/\ps.length<=4:=nofun
 exists a,ns,1,rfl,s1.seq hS,(by decide),nl,fun c1=>?_;left;intro ins ip iv H2 iok s2 hip ili;exists a,ns,2,rfl,(s1.trans s2).seq hS,(by decide),nl,fun c2=>?_;exists c2,2,rfl,(by decide),(by decide),?_;have n0:0<=mixed c2 2:=zv _ ∅;generalize mixed c2 2=n at n0;exists by show 0<most;omega,?_
 have d0:0<=n%most:=zv _ nofun;have d1:n%most<most:=zr _ nofun;exists a,ns,2,rfl,(s1.trans s2).seq hS,(by decide),nl,fun c3=>?_;exists c3,_,rfl,nofun,nofun,fun aL bp bv H3 bl bok s3 nb hbp ilb=>?_;have bl2:((aL.length:Nat):Int)=1+n%most:=nofun
 have bvl:=aO ilb;have s03:=(s1.trans s2).trans s3;have x0:aL[0]?=some (aL[0]'nofun):=zb nofun;generalize aL[0]'nofun=x at x0;obtain⟨y,hy,iy⟩:=dt ilb (i:=0) (zb nofun);have ey:y=x:=by rw[x0] at hy;exact(yj hy).symm
 subst ey;obtain⟨ab,mv,qb,ev,hab,imv,_⟩:=wJ iy;have xin:y.aP∈Hw:=(bok y (zB x0)).1;obtain⟨e1,e2,e3,e4,e5⟩:=lJ xin;have av:bv[0]?=some (.ref ab):=by rw[<-ev];exact zb nofun
 cases fb (o:=some y.aP) imv with
 | ref hmv=>
 rename_i am;left;refine join (fun σ H'=>au H3 H'/\∃(upb:Option (Int×Int)) (uv:V),σ=[some (.ref a),some (.int most),some (.int m),some (.ref pp),some (.ref ip),some (.int (1+n%most)),some (.ref bp),some uv,none,none,none,none,none]/\Is H' (dO dL upb) uv/\∀u,upb=some u->∃x z,aL[0]?=some x/\z∈([2,3,5]:List Int)/\u=red x.aP.1 (x.aP.2*z)) (fun N hN cc=>?_) (fun N hN cc=>?_) ?_
 ·left
  refine⟨bp,bv,0,_,rfl,rfl,aI.of hbp,bz av,?_⟩;exists bp,bv,0,_,rfl,rfl,aI.of hbp,bz av,?_;exists by show 3<=sizeLine;omega,?_
  intros p4 H4 s4 h4;have g0:0<=m/64%3:=zv _ ∅;have g1:m/64%3<3:=zr _ ∅;obtain⟨jj,hjj⟩:∃j:Nat,m/64%3=(j:Int):=⟨(m/64%3).toNat,nofun⟩
  obtain⟨z,hz,zi⟩:∃z:Int,[V.int 2,V.int 3,V.int 5][jj]?=some (.int z)/\z∈([2,3,5]:List Int):=by
   have:jj<3:=nofun
   match jj,this with
   | 0,_=>exact⟨2,rfl,∅⟩
   | 1,_=>exact⟨3,rfl,∅⟩
   | 2,_=>exact⟨5,rfl,∅⟩
  have z1:2<=z/\z<=5:=by
   simp only[zC,zD,or_false] at zi;omega
  exists p4,_,m/64%3,.int z,rfl,rfl,aI.of h4,(by rw[hjj];exact bz hz),?_;exists .inl ⟨nofun,nofun⟩,?_;have p1:0<y.aP.2*z:=Int.mul_pos nofun nofun;have p2:y.aP.2*z<=32*5:=Int.mul_le_mul e5 z1.2 nofun ∅;refine⟨_,_,rfl,nofun,p1,(dj (n:=10) nofun nofun).mono ∅,fun p5 H5 s5 h5=>?_⟩;change hN _ _ ⟨s4.trans s5,some (red y.aP.1 (y.aP.2*z)),.ref p5,rfl,iG h5,fun u q=>by cases q;exact⟨y,z,x0,zi,rfl⟩⟩
 ·left
  exact hN _ _ ⟨au.refl _,none,.bC,rfl,by unfold dO Is;rfl,fun u z=>by cases z⟩
 rintro σ4 H4 ⟨s4,upb,uv,rfl,iuv,uok⟩;have s04:=s03.trans s4;exists a,ns,1,rfl,s04.seq hS,(by decide),nl,fun c5=>?_;left;have s14:=(s2.trans s3).trans s4;have s24:=s3.trans s4;refine⟨c5,_,pp,ip,ps,ins,iv,rfl,s14 _ _ hpp,s24 _ _ hip,ili.mono s24,nofun,by have:=iok.1;omega,nofun,fun hs hp hv H5 hsub hrow s5 hhp rlh=>?_⟩;have s05:=s04.trans s5;exists a,ns,3,rfl,s05.seq hS,(by decide),nl,fun c6=>?_;left;have s15:=s14.trans s5;have s25:=s24.trans s5;have s35:=s4.trans s5;refine⟨c6,pp,bp,{players:=ps,aL:=aL,aE:=upb},bv,uv,rfl,s15 _ _ hpp,s35 _ _ hbp,ilb.mono s35,iuv.mono s5,by show ps.length<=9;omega,pok.2,by show aL.length<=200;omega,bok,F2 rfl rfl bok uok,fun nts np nv H6 nok nlen s6 hnp rln=>?_⟩;have s06:=s05.trans s6;exists a,ns,4,rfl,s06.seq hS,(by decide),nl,fun c7=>?_;exists c7,_,rfl,nofun,fun rs rp rv H7 rok s7 hrp ilr=>?_;have s07:=s06.trans s7;exists a,ns,4,rfl,s07.seq hS,(by decide),nl,fun c8=>?_;left;have rsl:OO H7 rp rs:=⟨by have:=rok.1;omega,fun r hr'=>by have:=(rok.2.1 r hr').2.2.2.2.2.2.1;omega,rv,hrp,ilr⟩
 refine⟨c8,_,rp,rs,rfl,rsl,rok,nofun,nofun,fun jo jv H8 jok s8 ij=>?_⟩;have s08:=s07.trans s8;exists a,ns,0,rfl,s08.seq hS,(by decide),nl,fun c9=>?_;left;have s18:=((s15.trans s6).trans s7).trans s8;refine⟨c9,pp,ps,rfl,s18 _ _ hpp,pok.2,nofun,fun sts sp sv H9 stok s9 hsp ils=>?_⟩;exists by show 9<=sizeLine;omega,?_
 intros pa Ha sa ha;have s9a:=sa;have s8a:=s9.trans sa;have s7a:=s8.trans s8a;have s6a:=s7.trans s7a;have s5a:=s6.trans s6a;have s4a:=s5.trans s5a;have s3a:=s4.trans s4a;have s2a:=s3.trans s3a;have s1a:=s2.trans s2a;refine kk ⟨ps,ins,sts,aL,upb,hs,nts,rs,jo⟩ pa Ha ?_ (s08.trans s8a) ?_
 ·exact⟨QW.1,QW.2,pok,iok,stok,by show 1<=aL.length;omega,by show(aL.length:Int)<=most;omega,bok,uok,hsub,fun x hx=>by show Jn (ins.map (·.1)) aL.length x.2;rw[bl2];exact hrow x hx,nok,nlen,by show Cy aL.length rs;rw[bl2];exact rok,fun j hj=>by show Oi aL.length rs j;rw[bl2];exact jok j hj⟩
 ·exact⟨pp,ip,sp,bp,hp,np,rp,uv,jv,iv,sv,bv,hv,nv,rv,ha,s1a _ _ hpp,⟨s2a _ _ hip,ili.mono s2a⟩,⟨s9a _ _ hsp,ils.mono s9a⟩,⟨s3a _ _ hbp,ilb.mono s3a⟩,iuv.mono s4a,⟨s5a _ _ hhp,rlh.imp fun x v z=>z.mono s5a⟩,⟨s6a _ _ hnp,rln.imp fun x v z=>z.mono s6a⟩,⟨s7a _ _ hrp,ilr.mono s7a⟩,ij.mono s8a⟩
def nZ {n:Str} (h:gf n):n.length<=12:=by
 unfold gf cE at h;split at h
 ·cases h
 ·split at h
  ·cases h
  ·omega
def F8 {n:Int} (h:NB n):(dec n).length<=5:=bg (by have:=h.1;omega) (by have:=h.2;omega)
theorem EE:∀es:List Sc.End,GX es=((es.map (·.2)).flatten).length
 | []=>rfl
 | e::r=>by rw[zh,z9,zg,<-EE r];rfl
theorem E6 {n:Nat} (hn:n<=999):∀{l rs:List Rep},(rs++l).Pairwise (fun a b=>a.last<b.first)->(∀r∈l,En n r)->wU n rs l
 | [],_,_,_=>trivial
 | r::l,rs,asc,ok=>by
  obtain⟨h1,h2,h3,h4,h5,e1,e2,e3,e4,e5⟩:=ok r zp;refine⟨fun b hb=>?_,?_,⟨by rw[EE];omega,nofun,nofun,nofun⟩,E6 hn (by rw[zE];exact asc) fun x hx=>ok x (zm _ hx)⟩
  ·rcases zF.mp hb with z | z
   ·simp only[zC,zD,or_false] at z
    rcases z with z | z <;> omega
   ·obtain⟨e,he,rfl⟩:=zG.mp z
    have:=(e3 e he).2.1;omega
  ·have fin:(decide (r.first<=r.last)&&fX r)=true:=by rw[ze h2];exact e1
   unfold lB;cases q:rs.getLast? with
   | none=>exact fin
   | some p=>
    have:=(zT.mp asc).2.2 p (List.mem_of_getLast? q) r zp;dsimp only;rw[if_neg nofun];exact fin
def N5 {most:Int} {S:cG} (hm:most<=24) (D:Er most S):Ta S:=by
 have bl:=D.bl;have b1:=D.b1;have pl:=D.pl;obtain⟨i1,i2,i3⟩:=D.ins;obtain⟨t1,t2,t3,t4⟩:=D.st;have nl:=D.nl;obtain⟨r1,r2,r3⟩:=D.rp;have hl:=D.hs.length_le;rw[za] at hl;refine⟨D.pn.2,nofun,i2.2,nofun,t2.2,t3,fun x hx=>(t4 x hx).2.2,fun x hx=>by have:=(t4 x hx).2.1;omega,nofun,nofun,fun b hb=>?_,fun u hu=>?_,D.hs.nodup D.pn.2,nofun,fun x hx=>?_,D.no.1,nofun,fun x hx=>?_,E6 nofun (by rw[List.nil_append];exact r3) r2,nofun,fun r hr=>?_,fun j hj=>?_⟩
 ·obtain⟨m1,m2,m3,m4,m5⟩:=lJ (D.bd b hb).1
  exact⟨nofun,nofun,nofun,nofun⟩
 ·obtain⟨x,z,e1,e2,e3⟩:=D.up u hu
  have xin:=(D.bd x (zB e1)).1;obtain⟨m1,m2,m3,m4,m5⟩:=lJ xin;refine⟨nofun,?_,?_⟩
  ·unfold cG.aP
   rw[e1,e3];exact K4 x.aP xin z e2
  ·have z1:2<=z/\z<=5:=by
    simp only[zC,zD,or_false] at e2;omega
   have p1:0<x.aP.2*z:=Int.mul_pos nofun nofun;have p2:x.aP.2*z<=32*5:=Int.mul_le_mul m5 z1.2 nofun ∅;obtain⟨q1,q2,q3,q4⟩:=HA (t:=x.aP.1) (b:=x.aP.2*z) nofun nofun p1 nofun;obtain⟨_,q5,_⟩:=q1.pos;rw[e3];exact⟨(dj (n:=10) nofun nofun).mono ∅,(dj (n:=10) nofun nofun).mono ∅⟩
 ·obtain⟨h1,h2,h3,h4⟩:=D.hr x hx
  exact⟨h1,nofun,h3,D.hs.subset (zO (f:=fun y:Str×List (Int×Str)=>y.1) hx),fun h hh=>⟨(h4 h hh).2.1,(h4 h hh).2.2⟩⟩
 ·obtain⟨h1,h2,h3,h4,h5,h6,h7⟩:=D.no.2 x hx
  exact⟨h1,h2,h3,h4,fun it hit=>(h5 it hit).1,h6⟩
 ·have:=(r2 r hr).2.2.2.2.2.2.1
  omega
 ·obtain⟨j1,j2,j3,j4,j5⟩:=D.ju j hj
  refine⟨fun b hb=>?_,j1⟩;rcases zF.mp hb with z | z
  ·simp only[zC,zD,or_false] at z
   rcases z with z | z | z <;> omega
  ·cases q:j.gy with
   | none=>rw[q] at z;cases z
   | some c=>
    rw[q] at z;have:b=c:=by simpa using z
    have:=(j5 c q).2;omega
def Co {many:Int} {r:Rep} (hm:many<=200) (h:En many r):KH r:=by
 obtain⟨h1,h2,h3,h4,h5,e1,e2,e3,e4,e5⟩:=h;exact⟨⟨⟨h1,nofun⟩,⟨nofun,nofun⟩,h4,h5,fun e he=>⟨by have:=(e3 e he).1;omega,by have:=(e3 e he).2.1;omega,(e3 e he).2.2.1,(e3 e he).2.2.2.2⟩⟩,e2,fun e he=>(e3 e he).2.2.2.1⟩
def MF {most:Int} {S:cG} (hm:most<=24) (D:Er most S):∀t∈eG S,TD t:=by
 have bl:=D.bl;have b1:=D.b1;have pl:=D.pl;obtain⟨i1,i2,i3⟩:=D.ins;obtain⟨t1,t2,t3,t4⟩:=D.st;obtain⟨r1,r2,r3⟩:=D.rp;have pnm:∀p∈S.players,gf p:=D.pn.1;have inm:∀p∈S.ak.map (·.1),gf p:=i2.1;intro t ht;unfold eG at ht;simp only[zF] at ht;rcases ht with((((((ht | ht) | ht) | ht) | ht) | ht) | ht) | (ht | ht)
 ·obtain⟨n,hn,rfl⟩:=zG.mp ht
  refine⟨pnm n hn,by show 2<=100;decide,fun w hw=>?_⟩;simp only[Sc.wordsOf,zC,zD,or_false] at hw;rcases hw with rfl | rfl
  ·decide
  ·have:=nZ (pnm _ hn);omega
 ·obtain⟨x,hx,rfl⟩:=zG.mp ht
  obtain⟨q1,q2,q3,q4,q5,q6⟩:=i3 x hx;have nx:=inm x.1 (zO (f:=fun y:Str×(Int×Int)×(Int×Int)=>y.1) hx);obtain⟨p1,p2,_⟩:=q4.pos;refine⟨⟨nx,q1,q2,q3,q4,q5,q6⟩,by show 5<=100;decide,fun w hw=>?_⟩;simp only[Sc.wordsOf,zC,zD,or_false] at hw;obtain⟨o1,o2,o3,o4,_⟩:=q1;rcases hw with rfl | rfl | rfl | rfl | rfl
  ·decide
  ·have:=nZ nx;omega
  ·have:=bg (n:=x.2.1.1) nofun nofun;omega
  ·have:=bg (n:=x.2.1.2) nofun nofun;omega
  ·have:=kM (x:=x.2.2) nofun q5 nofun q6;omega
 ·obtain⟨x,hx,rfl⟩:=zG.mp ht
  obtain⟨q1,q2,q3⟩:=t4 x hx;have nx:=t2.1 x.1 (zO (f:=fun y:Str×List Str=>y.1) hx);refine⟨⟨nx,q1,fun p hp=>pnm p (q3 p hp)⟩,by show x.2.length+1+1<=100;omega,fun w hw=>?_⟩;simp only[Sc.wordsOf,zC] at hw;rcases hw with rfl | rfl | hw
  ·decide
  ·have:=nZ nx;omega
  ·have:=nZ (pnm w (q3 w hw));omega
 ·obtain⟨b,hb,rfl⟩:=zG.mp ht
  obtain⟨q1,q2,q3,q4,q5⟩:=D.bd b hb;obtain⟨m1,m2,m3,m4,m5⟩:=lJ q1;refine⟨⟨m1,nofun,m3,q2,q3,q4⟩,by show b.marks.length+1+1+1<=100;omega,fun w hw=>?_⟩;simp only[Sc.wordsOf,zC] at hw;rcases hw with rfl | rfl | rfl | hw
  ·decide
  ·have l1:=bg (n:=b.aP.1) nofun nofun
   have l2:=bg (n:=b.aP.2) nofun nofun;rw[len_app,len_app];have:("/": Str).length=1:=rfl;omega
  ·have:=bg (n:=b.key) nofun nofun;omega
  ·have:=nZ (q4 w hw);omega
 ·obtain⟨u,hu,rfl⟩:=zG.mp ht
  have hu':S.aE=some u:=by
   cases q:S.aE with
   | none=>rw[q] at hu;cases hu
   | some v=>
    rw[q] at hu;have:u=v:=by simpa using hu
    rw[this]
  have ln:=F2 (S:=S) rfl rfl D.bd D.up 0 nofun;have el:S.len 0=u:=by unfold cG.len;rw[hu'];rfl
  rw[el] at ln;obtain⟨l1,l2,l3,l4⟩:=ln;obtain⟨p1,p2,_⟩:=l1.pos;refine⟨⟨l1,l2,nofun,nofun⟩,by show 2<=100;decide,fun w hw=>?_⟩;simp only[Sc.wordsOf,zC,zD,or_false] at hw;rcases hw with rfl | rfl
  ·decide
  ·have:=kM (x:=u) nofun nofun nofun nofun;omega
 ·obtain⟨l,hl,ht⟩:=List.mem_flatten.mp ht
  obtain⟨x,hx,rfl⟩:=zG.mp hl;obtain⟨h,hh,rfl⟩:=zG.mp ht;obtain⟨h1,h2,h3,h4⟩:=D.hr x hx;have np:=pnm x.1 (D.hs.subset (zO (f:=fun y:Str×List (Int×Str)=>y.1) hx));have nb:NB h.1:=⟨(h4 h hh).1,by have:=(h4 h hh).2.1;omega⟩
  have ni:=inm h.2 (h4 h hh).2.2;refine⟨⟨np,nb,ni⟩,by show 4<=100;decide,fun w hw=>?_⟩;simp only[Sc.wordsOf,zC,zD,or_false] at hw;rcases hw with rfl | rfl | rfl | rfl
  ·decide
  ·have:=nZ np;omega
  ·have:=F8 nb;omega
  ·have:=nZ ni;omega
 ·obtain⟨x,hx,rfl⟩:=zG.mp ht
  obtain⟨h1,h2,h3,h4,h5,h6,h7⟩:=D.no.2 x hx;have nb:NB x.1.1:=⟨h1,nofun⟩
  refine⟨⟨nb,pnm _ h3,h5,h7⟩,by show(x.2.map qF).length+1+1+1<=100;rw[za];omega,fun w hw=>?_⟩;simp only[Sc.wordsOf,zC] at hw;rcases hw with rfl | rfl | rfl | hw
  ·decide
  ·have:=F8 nb;omega
  ·have:=nZ (pnm _ h3);omega
  ·obtain⟨it,hit,rfl⟩:=zG.mp hw
   have:=J5 (h5 it hit);omega
 ·obtain⟨r,hr,rfl⟩:=zG.mp ht
  obtain⟨⟨q1,q2,q3,q4,q5⟩,q6,q7⟩:=Co nofun (r2 r hr);refine⟨⟨q1,q2,q3,q4,q5⟩,by show(r.ends.map oY).length+1+1+1+1<=100;rw[za];omega,fun w hw=>?_⟩;simp only[Sc.wordsOf,zC] at hw;rcases hw with rfl | rfl | rfl | rfl | hw
  ·decide
  ·have:=F8 q1;omega
  ·have:=F8 q2;omega
  ·have:=bg (n:=r.times) nofun nofun;omega
  ·obtain⟨e,he,rfl⟩:=zG.mp hw
   have:=FZ (q5 e he) (q7 e he);omega
 ·obtain⟨j,hj,rfl⟩:=zG.mp ht
  have hj':S.bZ=some j:=by
   cases q:S.bZ with
   | none=>rw[q] at hj;cases hj
   | some v=>
    rw[q] at hj;have:j=v:=by simpa using hj
    rw[this]
  obtain⟨j1,j2,j3,j4,j5⟩:=D.ju j hj';have n1:NB j.wL:=⟨j2.1,nofun⟩
  have n2:NB j.AS:=⟨j3.1,nofun⟩
  have n3:NB j.dr:=⟨j4.1,nofun⟩
  have n4:∀c,j.gy=some c->NB c:=fun c hc=>⟨(j5 c hc).1,by have:=(j5 c hc).2;omega⟩
  refine⟨⟨n1,n2,n3,n4⟩,by show 5<=100;decide,fun w hw=>?_⟩;simp only[Sc.wordsOf,zC,zD,or_false] at hw;rcases hw with rfl | rfl | rfl | rfl | rfl
  ·decide
  ·have:=F8 n1;omega
  ·have:=F8 n2;omega
  ·have:=F8 n3;omega
  ·unfold ctxt
   cases q:j.gy with
   | none=>decide
   | some c=>have:=F8 (n4 c q);dsimp only;omega
theorem Jb {α:Type} {k:Nat}:∀{l:List (List α)},(∀x∈l,x.length<=k)->l.flatten.length<=k*l.length
 | [],_=>by simp
 | x::r,h=>by
  have ih:=Jb (l:=r) fun y hy=>h y (zm _ hy);have:=h x zp;rw[z9,zg,zt,Nat.mul_succ];omega
def Kg {most:Int} {S:cG} (hm:most<=24) (D:Er most S):(eG S).length<=1000/\eG S≠[]:=by
 have bl:=D.bl;have b1:=D.b1;have pl:=D.pl;have QW:=D.QW;have i1:=D.ins.1;have t1:=D.st.1;have r1:=D.rp.1;have nl:=D.nl;have hl:=D.hs.length_le;rw[za] at hl;have f:=Jb (k:=4) (l:=S.holds.map fun x=>x.2.map fun h=>Told.holds x.1 h.1 h.2) fun y hy=>by
  obtain⟨x,hx,rfl⟩:=zG.mp hy;rw[za];exact(D.hr x hx).2.1
 rw[za] at f;have u:S.aE.toList.length<=1:=by cases S.aE <;> simp
 have j:S.bZ.toList.length<=1:=by cases S.bZ <;> simp
 refine⟨?_,fun z=>?_⟩
 ·unfold eG
  simp only[zg,za];omega
 ·have:=congrArg List.length z
  unfold eG at this;simp only[zg,za,List.length_nil] at this;omega
inductive Lq (K:yA) (vs:List V) (H:Hp) (Q:VK) (E:XK):Prop
 | mk (a:Addr) (ns:List Int) (_:vs=[.ref a]) (_:aI K H a (ns.map V.int)) (_:ns.length<=63) (_:∀H':Hp,Q (.bl true) H')
def pY:aA ["_law_script","_law_s","_law_score","_law_player","_law_bar","_law_due","_law_found"] ["_law_script"] (ao Ox):=dC
def PQ (B:Dk P w K T) (F:Cf K T.lR):di P w base 9 T.SF (Lq K):=by
 nomatch T.SF,pY
 obtain⟨a,ns,rfl,hS,nl,kk⟩:=h;have sl:=yB;refine⟨_,(ag (bS 1 pY.nd (bM (tT T) hr T.kA (aa (pv 0) (aa ae af))))
  (ag (bS 2 pY.nd (bM (Be T B F) hr T.qo (aa (bM (qB T) hr T.g9 (aa (pv 1) af)) af)))
  (ag (cB PassesOwn.never rfl (bo (bN (pv 1) ae)) (jP 3 pY.nd)
  (aj (cB PassesOwn.never rfl (cM (by rfl) T.dA (aa (eQ aB T.bu (aa (bN (pv 1) ae) af)) af)) (jP 4 pY.nd)
   (ag (bS 5 pY.nd (bM (qE T) hr T.hX (aa (pv 1) (aa (pv 3) (aa (pv 4) af)))))
    (ag (bS 6 pY.nd (bM (tS T F) hr T.ki (aa (pv 2) (aa (pv 3) (aa (pv 4) af)))))
    (ag (aF (PW.pt (cT (bq (cy (pv 5))) (cH (bq (fq (pv 6))))))
    (aj (aq nV))
    ax)
    (aj (aF (PW.pt (cT (bq (fq (pv 5))) (cH (PW.pt (eC (fw (cU (PF .str (by decide +kernel) (pv 6) T.Du T.eZ))) (dq (ptr jQ (pv 6) (pv 5))))))))
    (aj (aq nV))
    ax))))))))
  (aj (aq nV))))),?_⟩
 ac_rfl;exists a,ns,24,rfl,hS,nofun,(by decide),(by decide),fun S p H1 D s1 la=>?_;have vok:=N5 ∅ D;have td:=MF ∅ D;obtain⟨tl,tne⟩:=Kg ∅ D;have rok:∀r∈S.repeats,KH r:=fun r hr'=>Co (by have:=D.bl;omega) (D.rp.2.1 r hr');exists p,S,rfl,la,td,tl,rok,(by have:=D.rp.1;omega),fun H2 s2=>?_;exists _,eG S,S,rfl,text_len td tl,Nt tne td,Lw vok,fun sa o H3 sc s3 ow=>?_;have la3:=(la.mono s2).mono s3;obtain⟨pl,il,st,bl,hl,nl',rl,ub,jm,iv,sv,bv,hv,nv,rv,h1,h2,_,_,⟨h5,ilb⟩,_,_,_,_,_⟩:=la3.at';have bvl:=aO ilb;exists⟨_,aI.of h2⟩,?_;refine dP (K:=K) (a:=pl) (xs:=S.players.map V.str) (fun i σ H'=>au H3 H'/\∃(w3 w4 w5 w6:Option V),σ=[some (.ref a),some (.ref p),some (.ref sa),w3,w4,w5,w6]) ⟨au.refl _,none,none,none,none,rfl⟩ (fun i σ H' _ h=>aI.of (h.1 _ _ h2)) ?_ ?_
 ·rintro i x σ H4 hx ⟨s4,w3,w4,w5,w6,rfl⟩
  rw[zJ] at hx;cases qr:S.players[i]? with
  | none=>rw[qr] at hx;cases hx
  | some pn=>
  rw[qr] at hx;simp only[Option.map_some,Option.some.injEq] at hx;subst hx;have pin:=zB qr;have h14:=s4 _ _ h1;exists bl,bv,rfl,.inl (aI.of (s4 _ _ h5)),?_;rw[bvl];have b24:=D.bl;exists by omega,nofun,?_
  rw[show((S.aL.length:Int)).toNat=S.aL.length from by omega];refine gq (fun j σ H'=>au H3 H'/\∃(w4 w5 w6:Option V),σ=[some (.ref a),some (.ref p),some (.ref sa),some (.str pn),w4,w5,w6]) ⟨s4,w4,w5,w6,rfl⟩ ?_ ?_
  ·rintro j σ H5 hj ⟨s5,w4,w5,w6,rfl⟩
   exists p,S,pn,_,rfl,la3.mono s5,?_;rw[Ml vok.hn];exists sa,S,o,pn,_,rfl,sc.mono s5,pin,nofun,nofun,fun H6 s6=>?_;have s36:=s5.trans s6;generalize yY S pn (0+(j:Int))=r;cases r with
   | none=>
    change⟨s36,_,_,_,rfl⟩
   | some x=>
    left;refine cm (by show(!decide (V.str x=V.str x))=false;rw[ze rfl];rfl) ?_;change⟨s36,_,_,_,rfl⟩
  ·rintro σ H5 ⟨s5,w4,w5,w6,rfl⟩
   exact⟨s5,_,_,_,_,rfl⟩
 ·rintro σ H4 ⟨s4,w3,w4,w5,w6,rfl⟩
  change kk _
end
def l1 {α:Type} {n:Nat} {P:List α->Prop} {us:List α} (h:us.length=n+1) (k:∀u r,r.length=n->P (u::r)):P us:=match us,h with
 | u::r,h=>k u r (Nat.succ.inj h)
def l0 {α:Type} {P:List α->Prop} {us:List α} (h:us.length=0) (k:P []):P us:=match us,h with
 | [],_=>k
def oj {K:yA} {h:Heap} {mg:Str->Option Value} {x:Str} {st:Stmt} {f:Addr} {od an:Option Addr} {sl:Array (Option Value)} {oc kV dc pm cd ct:Value} {p0:Str} (X:K.In h) (G:h.Ns mainGlobals mg) (a:PySem.W.nsIn K mainGlobals x=some (some (.ref f))<|>qn_) (l:K.lookup f=some ⟨oc,od,.func (PySem.W.fnOf x x (cX st) (cq st) (ao st) .none kV dc pm an cd ct),sl⟩<|>qn_) (c:PySem.W.codeIn K cd x=true<|>qn_) (k:PySem.W.keepIn K (.ref f)=true<|>qn_)
  (hb:(∀(kV dc pm:Value) (an:Option Addr) (cd ct u0:Value),bindArgs (PySem.W.fnOf x x (cX st) (cq st) (ao st) .none kV dc pm an cd ct) ⟨[u0],[]⟩=pure [(p0,u0)])<|>qo_) :
  Df K mg x st f (PySem.W.fnOf x x (cX st) (cq st) (ao st) .none kV dc pm an cd ct) [p0]:=
 ⟨km l c k,PySem.W.mg_of X G a,(km l c k).binds (ps:=[p0]) fun kV dc pm an cd ct us hl=>by
  apply l1 hl;intro u0 r h;apply l0 h;exact hb kV dc pm an cd ct u0⟩
def kX {K:yA} {h:Heap} {mg:Str->Option Value} {x:Str} {st:Stmt} {f:Addr} {od an:Option Addr} {sl:Array (Option Value)} {oc kV dc pm cd ct:Value} {p0 p1:Str} (X:K.In h) (G:h.Ns mainGlobals mg) (a:PySem.W.nsIn K mainGlobals x=some (some (.ref f))<|>qn_) (l:K.lookup f=some ⟨oc,od,.func (PySem.W.fnOf x x (cX st) (cq st) (ao st) .none kV dc pm an cd ct),sl⟩<|>qn_) (c:PySem.W.codeIn K cd x=true<|>qn_) (k:PySem.W.keepIn K (.ref f)=true<|>qn_)
  (hb:(∀(kV dc pm:Value) (an:Option Addr) (cd ct u0 u1:Value),bindArgs (PySem.W.fnOf x x (cX st) (cq st) (ao st) .none kV dc pm an cd ct) ⟨[u0,u1],[]⟩=pure [(p0,u0),(p1,u1)])<|>qo_) :
  Df K mg x st f (PySem.W.fnOf x x (cX st) (cq st) (ao st) .none kV dc pm an cd ct) [p0,p1]:=
 ⟨km l c k,PySem.W.mg_of X G a,(km l c k).binds (ps:=[p0,p1]) fun kV dc pm an cd ct us hl=>by
  apply l1 hl;intro u0 r h;apply l1 h;intro u1 r h;apply l0 h;exact hb kV dc pm an cd ct u0 u1⟩
def OM {K:yA} {h:Heap} {mg:Str->Option Value} {x:Str} {st:Stmt} {f:Addr} {od an:Option Addr} {sl:Array (Option Value)} {oc kV dc pm cd ct:Value} {p0 p1 p2:Str} (X:K.In h) (G:h.Ns mainGlobals mg) (a:PySem.W.nsIn K mainGlobals x=some (some (.ref f))<|>qn_) (l:K.lookup f=some ⟨oc,od,.func (PySem.W.fnOf x x (cX st) (cq st) (ao st) .none kV dc pm an cd ct),sl⟩<|>qn_) (c:PySem.W.codeIn K cd x=true<|>qn_) (k:PySem.W.keepIn K (.ref f)=true<|>qn_)
  (hb:(∀(kV dc pm:Value) (an:Option Addr) (cd ct u0 u1 u2:Value),bindArgs (PySem.W.fnOf x x (cX st) (cq st) (ao st) .none kV dc pm an cd ct) ⟨[u0,u1,u2],[]⟩=pure [(p0,u0),(p1,u1),(p2,u2)])<|>qo_) :
  Df K mg x st f (PySem.W.fnOf x x (cX st) (cq st) (ao st) .none kV dc pm an cd ct) [p0,p1,p2]:=
 ⟨km l c k,PySem.W.mg_of X G a,(km l c k).binds (ps:=[p0,p1,p2]) fun kV dc pm an cd ct us hl=>by
  apply l1 hl;intro u0 r h;apply l1 h;intro u1 r h;apply l1 h;intro u2 r h;apply l0 h;exact hb kV dc pm an cd ct u0 u1 u2⟩
def SS {K:yA} {h:Heap} {mg:Str->Option Value} {x:Str} {st:Stmt} {f:Addr} {od an:Option Addr} {sl:Array (Option Value)} {oc kV dc pm cd ct:Value} {p0 p1 p2 p3:Str} (X:K.In h) (G:h.Ns mainGlobals mg) (a:PySem.W.nsIn K mainGlobals x=some (some (.ref f))<|>qn_) (l:K.lookup f=some ⟨oc,od,.func (PySem.W.fnOf x x (cX st) (cq st) (ao st) .none kV dc pm an cd ct),sl⟩<|>qn_) (c:PySem.W.codeIn K cd x=true<|>qn_) (k:PySem.W.keepIn K (.ref f)=true<|>qn_)
  (hb:(∀(kV dc pm:Value) (an:Option Addr) (cd ct u0 u1 u2 u3:Value),bindArgs (PySem.W.fnOf x x (cX st) (cq st) (ao st) .none kV dc pm an cd ct) ⟨[u0,u1,u2,u3],[]⟩=pure [(p0,u0),(p1,u1),(p2,u2),(p3,u3)])<|>qo_) :
  Df K mg x st f (PySem.W.fnOf x x (cX st) (cq st) (ao st) .none kV dc pm an cd ct) [p0,p1,p2,p3]:=
 ⟨km l c k,PySem.W.mg_of X G a,(km l c k).binds (ps:=[p0,p1,p2,p3]) fun kV dc pm an cd ct us hl=>by
  apply l1 hl;intro u0 r h;apply l1 h;intro u1 r h;apply l1 h;intro u2 r h;apply l1 h;intro u3 r h;apply l0 h;exact hb kV dc pm an cd ct u0 u1 u2 u3⟩
def walk {l:PySem.W.OpenLaw} {q:Program} {loose:List Str} {XP:(Str->Option Value)->Heap->Prop} {YP:World->Heap->Prop} {d:DefRec} {K:Params->yA} (hn:l.most=some 63) (hdf:d.params.defaults=[]) (hdn:d.name ="law")
  (hY:∀(w:World) (h:Heap),YP w h->(K w.params).In h)
  (F:∀(w:World) (mg:Str->Option Value) (h:Heap),(K w.params).In h->h.Ns mainGlobals mg->
   ∃T:Txt (K w.params) mg,Dk l.prog w (K w.params) T/\∀(s:Shared) (v:Value),BindsTo s T.MJ ⟨[v],[]⟩ [("_law_script",v)]) :
  PySem.W.WalkO q loose XP YP l.row.toRowW d [] (fun f vs=>PySem.call f vs):=
 L2.Nb (n:=63) (k:=9) (x:="_law_script") (CX:=fun _=>GJ) (sp:=fun w=>Lq (K w.params)) hn ∅ hdf ⟨rfl,∅,∅⟩ hY
  (fun w mg fa h kx hns hm=>by
   obtain⟨T,B,hb⟩:=F w mg h kx hns;rw[hdn] at hm;have e:=hm.symm.trans T.SF.g;cases e;exact⟨T.MJ,hb,fun base _ _=>PQ T B T.cf⟩) (fun _ _ a ns hl _ hS=>⟨a,ns,rfl,hS,hl,fun _=>rfl⟩) fun _ _ _ _ _ z=>z
def S8 {P:Program} {w:World} {K:yA} {a:Addr} {n:Nat} {t0 t1 t2 t3 t4 t5 t6 t7 t8:Tok} {f0 f1 f2 f3 f4 f5 f6 f7 f8:Addr} {s0 s1 s2 s3 s4 s5 s6 s7 s8:Str} (r:K.lookup a=some {cls:=.type "dict",data:=.dict #[⟨PyData.keyHash w.params s0,.str s0 t0,.ref f0⟩,⟨PyData.keyHash w.params s1,.str s1 t1,.ref f1⟩,⟨PyData.keyHash w.params s2,.str s2 t2,.ref f2⟩,⟨PyData.keyHash w.params s3,.str s3 t3,.ref f3⟩,⟨PyData.keyHash w.params s4,.str s4 t4,.ref f4⟩,⟨PyData.keyHash w.params s5,.str s5 t5,.ref f5⟩,⟨PyData.keyHash w.params s6,.str s6 t6,.ref f6⟩,⟨PyData.keyHash w.params s7,.str s7 t7,.ref f7⟩,⟨PyData.keyHash w.params s8,.str s8 t8,.ref f8⟩] n}) (y:(a == sysModules)=false) (nd:List.Nodup [s0,s1,s2,s3,s4,s5,s6,s7,s8]) :
  KD P w K a [(s0,.ref f0),(s1,.ref f1),(s2,.ref f2),(s3,.ref f3),(s4,.ref f4),(s5,.ref f5),(s6,.ref f6),(s7,.ref f7),(s8,.ref f8)]:=Q5 (l:=[(s0,t0,f0),(s1,t1,f1),(s2,t2,f2),(s3,t3,f3),(s4,t4,f4),(s5,t5,f5),(s6,t6,f6),(s7,t7,f7),(s8,t8,f8)]) r y nd
def Tr {K:yA} {a:Addr} {rd:Option Addr} {rs:Array (Option Value)} {rn:Nat} {t0 t1 t2 t3 t4 t5:Tok} {x0 x1 x2 x3 x4 x5:Int} (r:K.lookup a=some ⟨.type "tuple",rd,.seq #[.int x0 t0,.int x1 t1,.int x2 t2,.int x3 t3,.int x4 t4,.int x5 t5] rn,rs⟩) (H:Hp):du K H a [.int x0,.int x1,.int x2,.int x3,.int x4,.int x5]:=
 .inr ⟨_,_,_,r,rfl,rfl,by show 6<=sizeLine;decide,.cons ⟨_,rfl⟩ (.cons ⟨_,rfl⟩ (.cons ⟨_,rfl⟩ (.cons ⟨_,rfl⟩ (.cons ⟨_,rfl⟩ (.cons ⟨_,rfl⟩ (.nil))))))⟩
def Tu {K:yA} {x y:Str} {st:Stmt} {f:Addr} {od an:Option Addr} {sl:Array (Option Value)} {oc kV dc pm cd ct:Value} {p:Str} (l:K.lookup f=some ⟨oc,od,.func (PySem.W.fnOf x y (cX st) (cq st) (ao st) .none kV dc pm an cd ct),sl⟩<|>qn_) (c:PySem.W.codeIn K cd y=true<|>qn_) (k:PySem.W.keepIn K (.ref f)=true<|>qn_)
  (hb:(∀(kV dc pm:Value) (an:Option Addr) (cd ct u:Value),bindArgs (PySem.W.fnOf x y (cX st) (cq st) (ao st) .none kV dc pm an cd ct) ⟨[u],[]⟩=pure [(p,u)])<|>qo_):Th K x y st f (PySem.W.fnOf x y (cX st) (cq st) (ao st) .none kV dc pm an cd ct) [p]:=
 ⟨km l c k,(km l c k).binds (ps:=[p]) fun kV dc pm an cd ct us hl=>match us,hl with | [u],_=>hb kV dc pm an cd ct u⟩
def NR {K:yA} {C:Addr} {f:Str} (e:PySem.W.findIn K (.ref C) f=some none<|>qn_):eP K C f:=e
def wI {K:yA} {h:Heap} {mg:Str->Option Value} {x:Str} {v:Value} (X:K.In h) (G:h.Ns mainGlobals mg) (e:PySem.W.nsIn K mainGlobals x=some (some v)<|>qn_):mg x=some v:=PySem.W.mg_of X G e
def GL {K:yA} {h:Heap} {mg:Str->Option Value} {x:Str} (X:K.In h) (G:h.Ns mainGlobals mg) (e:PySem.W.nsIn K mainGlobals x=some none<|>qn_):mg x=none:=PySem.W.mg_none_of X G e
end K22
set_option genInjectivity false in
structure PySem.W.Fast:Prop where
 (tw4061662933380441792 tw13470551270044963875 tw8038555822525667823 tw9029307114788849380 tw1402943561656650442 tw14725702132752021214 tw13106275337150675491 tw9479589758614622186 tw12066916993520457929 tw2984635040238447862 tw13216676390850065142 tw16846207970323822949 tw10321050388235044089 tw4086475425846738337 tw12260521320381579875 tw11448298966504958397 tw11173386432737168258 tw10931570697759463297 tw5356274421384290358 tw5814733871619291537 tw18157911424084129064 tw15891452670734199559 tw17213940264620477388 tw14438186813944465220 tw7590287003293972974 tw449975383228786829 tw13614398036741807937 tw2333158470311445167 tw10122556471675623202 tw6571415466262686182 tw15479931202013244919 tw14568608792386753711 tw12688830002173852575 tw6948139315087360466 tw1933818939757128691 tw11995144028550021171 tw10465053781833089191 tw13668676862134390324 tw762909690590159880 tw17452441672291000425 tw14171312918351590421 tw9225729357264673321 tw13224227120043941970 tw6642334777062219091 tw13518942402362316024 tw4325542506734456827 tw11493688164501390496 tw2547139425465743248 tw16813070578225443581 tw9558226606186085164 tw10989306617391382764 tw7087294565127792412 tw14280946843441442781 tw15917163302742522644 tw3157263189615290660 tw10787497283435044336 tw4186030533780714089 tw9770404076489437006 tw365722788578758908 tw8208900802197040377 tw12759901814890633372 tw18167412093947341469 tw3767659032570095630 tw15778311098588098771 tw7567556373667636718 tw11509350256202191734 tw5246977762564856228 tw18146682976833505619 tw2771962825094684282 tw9856427655321468200 tw7128479374981605217 tw7330304383982776277 tw9782875892414839784 tw6705308819827557626 tw15466817590118410946 tw6926544888683089577 tw17993306610168399175 tw17130154789124543444 tw16795940074767200131 tw9788256151527928894 tw7288789519106061494 tw4786283917931063258 tw6326269883968594345 tw10152046920224871961 tw17062119969614966590 tw9226771705532229523 tw7487872801981534696 tw12936157837868417914 tw18070595429739881715 tw4234393101555679765 tw9670799310334505234 tw7960550593211226358 tw7385553331319744739 tw3227242543748328699 tw2028936894816588547 tw2366526361854269815 tw3946495025432303360 tw774123852105832418 tw17383283195397989402 tw12476612858162845925 tw91947434326248762 tw1965182017483016431 tw1822952816927355507 tw14708242394549510733 tw7454293831607024709 tw15143850718677360590 tw1250345922051464632 tw8123259287177459235 tw5590200979002359912 tw10622209517323439743 tw15741701016552766054 tw14463401388362577013 tw3587868306318549222 tw12697623779452861635 tw12758498237487695417 tw15856581999374351373 tw8426832886554705983 tw1654937057052867495 tw11341587254434415087 tw17518190302917434991 tw2966136466139660026 tw13364440183194100229 tw6166246709071316451 tw2040747456944285497 tw12381854140596439994 tw9543559775274762106 tw12017241901856781440 tw15609962121679700368 tw5089824024235428976 tw11012037193579628368 tw16440181758728299776 tw14934015277091661845 tw1051150276853819587 tw4797111031317712928 tw15040481282103706367 tw1648124410896701055 tw9532177719979113456 tw13220227017298831268 tw15460232041581486027 tw7443736957063744923 tw3301713271773522573 tw12379183838093595082 tw13002631822651117143 tw14384435792402326013 tw13079439947181651326 tw18021069858967932773 tw14071952303355098158 tw17188549502210930668 tw8172479351830320910 tw14239760520143326703 tw9485188020129995174 tw8919872109690663301 tw12854689564563635222 tw3533111158062512291 tw16421262586626751696 tw9786455832969384585 tw9096724689368984588 tw705123469997319235 tw7516959861333213439 tw16570245805200125450 tw14066419624688239571 tw12124106313143250062 tw15300354885287424219 tw7527614178445427903 tw15117739306169538420 tw6747363330569374107 tw8048903756233555099 tw4745247121218220607 tw12784620339052983915 tw913323619115016668 tw9810272428599503603 tw7447600749377832204 tw10481795871198475313 tw17858558825873390314 tw2237474212354856103 tw2024348953432383175 tw4812736523412785286 tw5076479735528041155 tw4379184653545573870 tw979054269589989312 tw1057256349066751503 tw11751220314570761476 tw8665893685364220922 tw6043260287652893675 tw8401145153504523896 tw18116466344016039709 tw14984344626926846975 tw9843242080678059885 tw10596863617592804198 tw17219038843584608259 tw16908305701550033743 tw9834679303691974841 tw223754678173411973 tw4857113494731090785 tw15119630550436088768 tw76268927803371965 tw1303541772080094712 tw4903033898242538086 tw2122277355013855514 tw3838574220989844499 tw5922422172861917333 tw7920022201310202524 tw3318654336837237947 tw3127250015410333285 tw12572084929568111722 tw2587764083679560623 tw6570902574499301891 tw1317093586384184553 tw17315952537852528657 tw7496461891751616713 tw11163990567375092099 tw15798024736735001903 tw7926365427282706824 tw6309221435097994402 tw8336518361085701813 tw5090947077514253584 tw16227928146251579374 tw73917327019590607 tw7005599638823877617 tw6938929017787853751 tw8208117601873999805 tw5256183115714887179 tw10520505260829956423 tw17114987627207238345 tw9178188330279037063 tw787667687102141865 tw9914031632197262577 tw9527558595014578618 tw11894112187697832961 tw14215242300843515322 tw17998462016258905304 tw5728794133878507597 tw11719098508568879422 tw12818336063399550511 tw895079364394806762 tw6250790412510845162 tw17571549398688866626 tw16333921074426771439 tw5962087029149024701 tw2451246517137652051 tw5959854334097740406 tw5377713705652114086 tw17947968153221089070 tw7345865954663644751 tw6439768778135346822 tw7589241006903163933 tw14291566242366565003 tw13731656022999912786 tw2387805868563308136 tw2709929221502623440 tw10618726412188878072 tw1923935576016110326 tw11343223657438014336 tw10772406281847015705 tw8594869978274509589 tw9520245707131527007 tw6489439131709573527 tw14535831434439302367 tw11064213552413545708 tw8565272273216783354 tw12401109936819755695 tw10550768125937783200 tw15914518650020379273 tw7801832245891033520 tw13842326215665849137 tw736339245893090940 tw8796954605021678638 tw16210721161810268968 tw4792340296430046481 tw14184755359569106731 tw3334280678164691003 tw8380469385413133626 tw12531381352516268558 tw11891353309291470388 tw8366054762982712519 tw8918807323799764230 tw16876251869486405576 tw5257529639678524171 tw17494710961149275574 tw12838728988680753762 tw795016316518653660 tw8683478817900653243 tw6904479001172906155 tw12993995623978148777 tw6670319201087882420 tw10738484206484254306 tw17221222911066763317 tw17727711243841987441 tw2310423992947248311 tw14939922795384860965 tw11988068314423104221 tw645536410511737656 tw13033986775718029043 tw6291444879522627324 tw1555643327343469365 tw17241048197012424247 tw15980023421506485055 tw17015900640716572633 tw10561904011728448968 tw11568833184185185347 tw7821984263415430158 tw15008138645558606102 tw7427043059792044775 tw13746256396357850179 tw2016956771878398094 tw6068421459391984348 tw8031232340897944208 tw2838137006780347809 tw12105590851527382927 tw2467102598917191347 tw6077319761435513295 tw16805089346332131976 tw10616901489044966980 tw9680578453730153258 tw10452854611911584228 tw18104134996210325926 tw7876049684909936754 tw9325535925668475614 tw8626431868180320694 tw920541071485253063 tw15416729312909883037 tw16380706212702950113 tw12149246865256250812 tw13308176404038056232 tw17224863204887529105 tw7922094693732135298 tw17937673907638666944 tw5286536394495732519 tw1860292967743381609 tw7943685124638055685 tw7223303738174654528 tw17812362830968674655 tw17536062228166178637 tw11088647216361833186 tw9663941561897860424 tw11176547034722946736 tw4566424737915458249 tw4512819091669363366 tw8583691533810019862 tw4589973300732825574 tw12744947161133979748 tw18345552233752791518 tw17976803799974895820 tw6985392027303307765 tw12107114844980811261 tw8799767597509685171 tw8718157348661096346 tw2923719812929330533 tw2577729567120484737 tw15088670941916098407 tw190110224034068351 tw12880415595941056662 tw7693441198332908883 tw3147456851560812963 tw7273690659860707627 tw16333200479747833070 tw11821533968479557862 tw16609413086630042052 tw18401995494050431185 tw15961695552074651569 tw2282592208378292997 tw8458189944082161059 tw8667349913992546665 tw2040396812174613617 tw14302373422789644517 tw1451985266823061780 tw13540680189540511397 tw11514653879293766021 tw2823802656055638613 tw13045607243051045245 tw2784490371675889665 tw1137221502608256770 tw9475727238556757285 tw2067218467009682302 tw12886373475781623552 tw14710129330692258631 tw7339656210830256856 tw4977293166225756072 tw10468841320799748834 tw7811268190664409858 tw15507171946428927055 tw1218956417102892529 tw7973892354009632854 tw14382392963826217120 tw5749217580800629846 tw18006331879174951366 tw4718794664691209106 tw16547793457457575265 tw11930973052548576560 tw18363332711779574113 tw15249155054227446148 tw4102790337670805503 tw14312890723050633453 tw677001143709041146 tw7157779062527034843 tw457388135903707925 tw10811618604206944053 tw13817830202014293432 tw14792579725694376872 tw5023543926621450630 tw14655012109724540259 tw7918285531899748019 tw16140049670234540579 tw7186622358214541031 tw1789121226456771098 tw16719722961898921972 tw4452767104451194372 tw759628967321405928 tw11130570650978584361 tw12033611799953334964 tw13044755766487553574 tw14880002194190723991 tw10393761213533738816 tw6700598440062475664 tw3511571549800879954 tw5937623722532587167 tw2981528750900833138 tw17391741691777944939 tw10067772390275486670 tw15063211744481117673 tw14451249117692770670 tw5357973463464100771 tw5137741621282182899 tw12912150362464921046 tw15286774462841746785 tw5905423803392509083 tw1958264904767968334 tw7170837916477838053 tw7977193813711306726 tw14685962985574480146 tw14590225932864854785 tw468286857735073055 tw10938732957763343667 tw11998301327990521397 tw16596920889314671089 tw9417983777425381862 tw7602749359786534916 tw7123216801793415274 tw7164727561983375430 tw933954271692978161 tw14980386453064123725 tw223784811574951355 tw4748786251451543671 tw8583290692909058692 tw6191684503867837331 tw7368055880954972312 tw16861773476622656986 tw15612796223696216696 tw6680368893858976537 tw12963246603036279862 tw15979686003445682706 tw9765088565509994740 tw13371091720352358126 tw13778013812483911449 tw5587393610976879581 tw17066451734207819533 tw1709849524492009143 tw13124446297124081292 tw11273844119891529186 tw15429338537542998364 tw2555987299677720105 tw15649179023399257980 tw13207449586098864681 tw1479267225582166691 tw16459801861585690452 tw1230466337258026644 tw13189297070823748725 tw12985748653829237242 tw10836812123549824178 tw1302634937171874704 tw12074839969777900397 tw2227854152627930825 tw2585627553870617600 tw5723897420827734108 tw4133152074036120331 tw16802681512292061638 tw15522228564469657775 tw5125362822686946339 tw18061081891514963691 tw9772563528919871808 tw8835552307933788730 tw58756348399494846 tw1382717439897499840 tw16578207862530792478 tw3126101862008027659 tw4068937879396483022 tw279091944199746757 tw11738473978337864368 tw3570088598187380840 tw4378918194164879026 tw4833808377692160504 tw13259751368167753785 tw11607881619972749420 tw764133663992207665 tw16572169635016645456 tw1933449182586463217 tw14156279984906640956 tw4818037399305976576 tw18198397915472050199 tw16026575053636937415 tw12521597533953710849 tw15978691411001877886 tw5290826157012150854 tw16796197726197775530 tw18033584066678825417 tw17149335981617340267 tw1560981505974720529 tw10311439980371708630 tw15094755995684633998 tw15760975439440387889 tw10867307174586453108 tw4255422769692628203 tw785530398109909831 tw5249895163862871992 tw578185489094586838 tw6532456004704761114 tw13157613157358139243 tw12871370814758556909 tw17799610478030109829 tw10352032372343571191 tw14204315692351198184 tw15541171526335683895 tw15924753358345794010 tw11908990535401329461 tw130909582561450199 tw11758354101356000480 tw46566726378819196 tw17658686859271608594 tw2150956764787150973 tw5494659295382900545 tw5922492435529275628 tw17789975005808577198 tw4173613066177970049 tw17585255845030581130 tw12410721539446248449 tw17542374468207603838 tw2259826186389105595 tw8563919349993789381 tw6128362546927268236 tw11240202161755560556 tw7292314827251004847 tw7828586440606169301 tw9440157399023698550 tw17968704330704000410 tw5606830722291834724 tw8882066787639845982 tw4281716374898563390 tw4176238115602810368 tw8427430371805749123 tw3278944191461043208 tw15731238444157957626 tw17316543233501043046 tw11180461905417648582 tw8131480836230728086 tw6849499469385472478 tw9152058017644563765 tw17484115451999691904 tw5111331999236332887 tw8017578307190539884 tw909250598456609259 tw10254970481659907485 tw8176535609880174019 tw10416568870326562803 tw10758107324336432622 tw3149649514724276398 tw15383170557902803223 tw15288288830676768973 tw10761162787025852258 tw10406588965104119147 tw17801844720917138343 tw6547406869926970774 tw7333053197684395216 tw3660167683958170729 tw13933032752813512426 tw3509213446191464574 tw960859687984268903 tw11955552986266371880 tw11238279133254844923 tw16241149934809357062 tw11272418688343985816 tw6446617904385127009 tw15594029073242686310 tw457717466615316339 tw9465911965491921937 tw9519915710446384619 tw12761710324449583859 tw10767745341108689559 tw13117767887292030752 tw5070267101909041386 tw13032000490329803009 tw3020545947110764160 tw6979131976354913585 tw14483487596671669555 tw7433581159480038281 tw13966851433059523969 tw15064169321174297339 tw13120345806145966678 tw6525354316064435224 tw16915110184713896560 tw6480861336148781730 tw16774264093288971106 tw2835155185549267212 tw14233057485162333376 tw5643954070621420709 tw9247844478561701134:True)
open PySem PySem.W PyProof.Rows L2 Sc K22
set_option maxRecDepth 100000 in
set_option maxHeartbeats 0 in
theorem PySem.Challenge.cw_partsmith_k22_instruments_holds : PySem.Challenge.rw_partsmith_k22_instruments.Holds := by
  w_on; o_law; k_head; (case hw => w_witness2)
  k_fill
  refine K22.walk (l := PySem.Challenge.rw_partsmith_k22_instruments) rfl rfl rfl (fun w h Y => PySem.W.kIn_of Y) ?F
  case F =>
    intro w mg h X G
    exact ⟨⟨_, _, _, _, _, _, _, _, _, _, _, _, _, _, _, _, _, _, _, _, _, _, _, _, _, _, _, _, _, _, _, _, _, _, _, _, _, _, _, _, _, _, _, _, _, _, _, _, _, _, _, _, _, _, _, _, _, _, _, _, _, _, _, _, _, _, _, _, _, _, _, _, _, _, _, _, _, _, _, _, _, _, _, _, _, _, _, _, _, _, _, _, _, _, _, _, _, _, _, _, _, _, _, _, _, _, _, _, _, _, _, _, _, _, _, _, _, _, _, _, _, _, _, _, _, _, _, _, _, _, _, _, _, _, _, _, _, _, _, _, _, _, _, _, _, _, _, _, _, _, _, _, _, _, _, _, _, _, _, _, _, _, _, _, _, _, _, _, _, _, _, _, _, _, _, _, _, _, _, _, _, _, _, _, _, _, _, _, _, _, _, _, _, _, _, _, _, _, kX X G, kX X G, kX X G, kX X G, kX X G, kX X G, oj X G, kX X G, oj X G, oj X G, oj X G, oj X G, oj X G, oj X G, OM X G, oj X G, kX X G, oj X G, oj X G, oj X G, oj X G, oj X G, oj X G, oj X G, oj X G, oj X G, oj X G, oj X G, oj X G, oj X G, oj X G, oj X G, oj X G, kX X G, kX X G, kX X G, kX X G, kX X G, OM X G, kX X G, kX X G, kX X G, oj X G, kX X G, kX X G, kX X G, kX X G, kX X G, kX X G, kX X G, kX X G, kX X G, kX X G, OM X G, kX X G, OM X G, oj X G, kX X G, kX X G, OM X G, kX X G, kX X G, kX X G, kX X G, oj X G, kX X G, kX X G, OM X G, SS X G, SS X G, SS X G, kX X G, kX X G, kX X G, OM X G, oj X G, kX X G, kX X G, oj X G, oj X G, oj X G, oj X G, oj X G, oj X G, OM X G, oj X G, wI X G, ⟨by k_is, by k_is, by k_is, by k_is⟩, Tu, wI X G, wI X G, wI X G, wI X G, wI X G, wI X G, wI X G, wI X G, wI X G, wI X G, wI X G, wI X G, Tr (by k_is), wI X G, wI X G, wI X G, wI X G, wI X G, wI X G, wI X G, wI X G, wI X G, wI X G, GL X G, GL X G, GL X G, GL X G, GL X G, GL X G, GL X G, GL X G, GL X G, GL X G, GL X G, GL X G, GL X G, GL X G, GL X G, GL X G, by k_is, by k_exc, wI X G, ⟨⟨by k_is, by k_is, by k_is, by k_is⟩, NR, NR, NR, NR, NR, NR, NR, NR, NR⟩⟩, ⟨S8 (by k_is) (by rfl) (show List.Nodup [("player" : Str), ("instrument" : Str), ("staff" : Str), ("bar" : Str), ("upbeat" : Str), ("holds" : Str), ("notes" : Str), ("repeat" : Str), ("jump" : Str)] by decide +kernel), S8 (by k_is) (by rfl) (show List.Nodup [("player" : Str), ("instrument" : Str), ("staff" : Str), ("bar" : Str), ("upbeat" : Str), ("holds" : Str), ("notes" : Str), ("repeat" : Str), ("jump" : Str)] by decide +kernel)⟩, fun s v => .of_eq rfl⟩
