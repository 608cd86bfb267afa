import PyProof.Rows.All
import KE.KNestM
import Wide.FinOn
import PyProof.EqAt
import PyProof.EqKinds
import PyProof.TupleCall
import PyProof.ZipIter
import PyProof.WalksMore
import PyProof.CompFree
import PyProof.NeKinds
import KE.KRevIter
import PyProof.Rows.Range3
import KE.KIntText
import OpenK.KOwn
import PyProof.NsDelKeeps
import KE.KIsAll
import PyProof.CompMap
import PyProof.Cells
import PyProof.ConsumeWalk
import PyProof.SumWalk
import PyProof.Rows.SortShell
import PyProof.MeetsStr
import PyProof.StrOps2
import PyProof.DictWalks
import PyProof.Rows.SetFrom
import PyProof.SetRoads
import PyProof.ListRange
import PyProof.ListNew
import PySem.Challenge.RW_partsmith_k18_played_without_jump
local macro_rules|`(tactic|omega)=>`(tactic|lia)
local macro_rules|`(nofun)=>`(by omega)
local macro_rules|`(∅)=>`(by decide)
local macro_rules|`(↑$s)=>`(($s).heap.objs.size)
local macro_rules|`($a <|> $b)=>`(autoParam $a $b)
local macro_rules (kind:=«term{_}»)|`({$xs,*})=>`(⟨$xs,*⟩)
local macro_rules|`(⇑$x)=>`(($x).length)
def tpt:Nat->Lean.Term->Lean.MacroM (Lean.TSyntax `rcasesPat)
|0,_=>Lean.Macro.throwUnsupported
|n+1,p=>match p with
 |`(⟨$ps,*⟩)=>do let qs<-ps.getElems.mapM (tpt n);`(rcasesPat|⟨$[$qs],*⟩)
 |`($i:ident)=>`(rcasesPat|$i:ident)
 |_=>`(rcasesPat|_)
local macro_rules|`(tactic|let $d:letDecl)=>`(tactic|have $d:letDecl)
local macro_rules|`(tactic|let $p:term:=$v:term)=>do let q<-tpt 9 p;`(tactic|obtain $q:rcasesPat:=$v)
set_option compiler.extract_closed false
set_option Elab.async false
set_option linter.all false
set_option maxRecDepth 100000
set_option maxHeartbeats 8000000
def qa_1(h:True:=by first | exact .inl rfl | exact .inr rfl | assumption):=h
def qa_:=qa_1._auto_1
def qb_1(h:True:=by decide):=h
def qb_:=qb_1._auto_1
def qc_1(h:True:=by first | exact FQ _ (by decide) (by decide) | rfl):=h
def qc_:=qc_1._auto_1
def qd_1(h:True:=by intro _;rfl):=h
def qd_:=qd_1._auto_1
def qe_1(h:True:=by rfl):=h
def qe_:=qe_1._auto_1
def qf_1(h:True:=by with_unfolding_all rfl):=h
def qf_:=qf_1._auto_1
def qg_1(h:True:=by first | exact Or.inl rfl | exact Or.inr (Or.inl rfl) | exact Or.inr (Or.inr rfl)):=h
def qg_:=qg_1._auto_1
def qh_1(h:True:=by repeat constructor):=h
def qh_:=qh_1._auto_1
def qi_1(h:True:=by first | exact Or.inl rfl | exact Or.inr rfl):=h
def qi_:=qi_1._auto_1
def qj_1(h:True:=by exact fun _ _=>rfl):=h
def qj_:=qj_1._auto_1
def qk_1(h:True:=by intro vs H Q E h;first | (obtain⟨_,rfl,_⟩:=h;rfl) | (cases h;subst_vars;rfl)):=h
def qk_:=qk_1._auto_1
def ql_1(h:True:=by decide +kernel):=h
def ql_:=ql_1._auto_1
def qm_1(h:True:=by repeat' (first | exact trivial | exact .inl rfl | exact rfl | constructor)):=h
def qm_:=qm_1._auto_1
def qn_1(h:True:=by k_is):=h
def qn_:=qn_1._auto_1
def qo_1(h:True:=by intros;rfl):=h
def qo_:=qo_1._auto_1
def za:=@List.length_map
def zd:=@List.getElem?_eq_getElem
def ze:=@decide_eq_false
def zg:=@decide_eq_true
def zh:=@List.length_append
def zj:=@List.map_cons
def zk:=@List.map_append
def zm:=@Nat.le_refl
def zp:=@List.mem_cons_of_mem
def zr:=@List.mem_cons_self
def zt:=@Int.emod_lt_of_pos
def zv:=@List.length_cons
def zw:=@Int.emod_nonneg
def zy:=@List.getElem?_eq_some_iff
def zA:=@List.mem_singleton
def zB:=@List.map_map
def zC:=@List.mem_of_getElem?
def zD:=@List.mem_cons
def zE:=@List.not_mem_nil
def zF:=@List.append_assoc
def zG:=@List.mem_append
def zH:=@List.mem_map
def zI:=@List.mem_append_right
def zJ:=@List.mem_append_left
def zK:=@List.getElem?_map
def zL:=@Bool.false_ne_true
def zM:=@Nat.le_trans
def zN:=@List.take_length
def zO:=@Bool.and_eq_true
def zP:=@List.mem_map_of_mem
def zQ:=@List.length_take
def zR:=@List.length_range
def zT:=@List.nodup_append
def zU:=@List.pairwise_append
def zV:=@List.append_nil
def zW:=@Int.ediv_nonneg
def zX:=@Int.ediv_le_self
def zY:=@List.foldl_append
def zZ:=@List.take_append_drop
def z9:=@List.getElem?_append_right
def ya:=@List.flatten_cons
def yb:=@List.size_toArray
def yc:=@Nat.lt_of_lt_of_le
def yd:=@List.nodup_cons
def ye:=@of_decide_eq_true
def yf:=@Nat.lt_irrefl
def yg:=@Nat.zero_le
def yh:=@Nat.le_of_lt
def yi:=@Nat.ne_of_gt
def yj:=@Nat.ne_of_lt
def yk:=@Option.some.inj
def ym:=@List.getElem_mem
def yn:=@List.map_nil
def yo:=@List.any_eq_true
def yp:=@List.all_eq_true
def yq:=@List.lookup_cons
def yr:=@List.length_pos_iff
def yt:=@List.length_eq_zero_iff
def yu:=@PySem.wpAny_bind
def yv:=@PySem.Heap.get?_push_of_some
def yw:=@PySem.wpAny_pure
def yx:=@PySem.Heap.get?_push_size
def yy:=@PySem.Heap.lt_size
def yz:=@PySem.Heap.get?_update_other
def yA:=@PySem.Heap.get?_update_self
abbrev yB:=PySem.W.Frag
def yC:=@PySem.sizeLine_eq
def yD:=@PySem.F.plainAttrs_list
def yE:=@PySem.F.type_list_append
def yF:=@PySem.F.slot_list_append
def yG:=@PySem.F.plainAttrs_str
def yH:=@PySem.F.type_str_join
def yI:=@PySem.F.slot_str_join
def yJ:=@PySem.F.type_str_split
def yK:=@PySem.F.slot_str_split
def yL:=@Int.eq_ofNat_of_zero_le
def yM:=@PyProof.Rows.callWith_type1
namespace L2
open PySem PySem.Spec PyProof.Rows
abbrev Key:=Sum Int Str
def BF:Key->Value->Bool
 | .inl k,v=>Value.isInt k v
 | .inr x,v=>Value.isStrOf x v
def Ub (w:World):Key->Int
 | .inl k=>hashInt k
 | .inr x=>hashStr w x
def di:∀{k:Key} {v:Value},BF k v=true->(∃i t,k=Sum.inl i/\v=Value.int i t)\/(∃x t,k=Sum.inr x/\v=Value.str x t)
 | .inl i,v,h=>by
  let⟨t,e⟩:=Value.isInt_shape (k:=i) (v:=v) h;exact .inl {(i),t,rfl,e}
 | .inr x,v,h=>by
  let⟨t,e⟩:=Value.isStrOf_shape (x:=x) (v:=v) h;exact .inr {(x),t,rfl,e}
def Kv (i:Int) (t:Tok):BF (.inl i) (.int i t)=true:=by simp[BF,Value.isInt]
def nV (x:Str) (t:Tok):BF (.inr x) (.str x t)=true:=by simp[BF,Value.isStrOf]
def QW (a b:Int):decide ((Sum.inl a:Key)=Sum.inl b)=(a == b):=by
 by_cases e:a=b
 ·subst e;simp
 ·let h:¬(Sum.inl a:Key)=Sum.inl b:=λq=>e (Sum.inl.inj q)
  rw[ze h];exact(beq_eq_false_iff_ne.mpr e).symm
def QT (a b:Str):decide ((Sum.inr a:Key)=Sum.inr b)=decide (a=b):=by
 by_cases e:a=b
 ·subst e;simp
 ·let h:¬(Sum.inr a:Key)=Sum.inr b:=λq=>e (Sum.inr.inj q)
  rw[ze h,ze e]
def QV (a:Int) (b:Str):decide ((Sum.inl a:Key)=Sum.inr b)=false:=ze (λq=>nomatch q)
def QU (a:Str) (b:Int):decide ((Sum.inr a:Key)=Sum.inl b)=false:=ze (λq=>nomatch q)
def df (prog:Program) (w:World):PySem.KeyKind prog w Key where
 is:=BF
 hash:=Ub w
 inj:=λv a b ha hb=>by
  rcases di ha with⟨i,t,rfl,rfl⟩ | ⟨x,t,rfl,rfl⟩
  ·rcases di hb with⟨j,u,rfl,e⟩ | ⟨y,u,rfl,e⟩
   ·injection e with e1 _;rw[e1]
   ·exact nomatch e
  ·rcases di hb with⟨j,u,rfl,e⟩ | ⟨y,u,rfl,e⟩
   ·exact nomatch e
   ·injection e with e1 _;rw[e1]
 byValue:=λk v h=>by
  rcases di h with⟨i,t,rfl,rfl⟩ | ⟨x,t,rfl,rfl⟩ <;> rfl
 pyHash:=λhv h=>by
  rcases di hv with⟨i,t,rfl,rfl⟩ | ⟨x,t,rfl,rfl⟩
  ·exact wpAny_pyHash_int h
  ·exact wpAny_pyHash_str h
 eqBool:=λhu hv h=>by
  rcases di hu with⟨i,t,rfl,rfl⟩ | ⟨x,t,rfl,rfl⟩
  ·rcases di hv with⟨j,u,rfl,rfl⟩ | ⟨y,u,rfl,rfl⟩
   ·rw[QW] at h;exact wpAny_eqBool_int h
   ·rw[QV] at h;exact SeqAt.EqAt.int_str i t y u _ _ _ _ h
  ·rcases di hv with⟨j,u,rfl,rfl⟩ | ⟨y,u,rfl,rfl⟩
   ·rw[QU] at h;exact SeqAt.EqAt.str_int x t j u _ _ _ _ h
   ·rw[QT] at h;exact wpAny_eqBool_str h
 «strs»:=λk x t v h=>by
  rcases di h with⟨i,u,rfl,e⟩ | ⟨y,u,rfl,e⟩
  ·exact nomatch e
  ·injection e with e1 _
   subst e1;cases v <;> rfl
def FT (prog:Program) (w:World) (i:Int) (t:Tok):(df prog w).is (.inl i) (.int i t)=true:=Kv i t
def uc (prog:Program) (w:World) (x:Str) (t:Tok):(df prog w).is (.inr x) (.str x t)=true:=nV x t
end L2
namespace L2
open PySem PySem.Spec PyProof.Rows
inductive V where
 | bI | bl (b:Bool) | int (i:Int) | str (x:Str) | JF (b:Array UInt8) | OW (b:UInt64) | ref (a:Addr) | ty (n:String)
 deriving DecidableEq
def RelV:V->Value->Prop
 | .bI,u=>u=Value.none
 | .bl b,u=>u=Value.bool b
 | .int i,u=>∃t,u=Value.int i t
 | .str x,u=>∃t,u=Value.str x t
 | .JF b,u=>∃t,u=Value.bytes b t
 | .OW b,u=>∃t,u=Value.float b t
 | .ref a,u=>u=Value.ref a
 | .ty n,u=>u=Value.type n
abbrev Vals:List V->List Value->Prop:=Paired RelV
theorem Vals.length (r:Vals xs us):⇑xs=⇑us:=Paired.length r
theorem Vals.get:∀{xs:List V} {us:List Value} {i:Nat} {x:V},Vals xs us->xs[i]?=some x->∃u,us[i]?=some u/\RelV x u
 | _,_,_,_,.nil,e=>by simp at e
 | _,_,0,_,.cons r _,e=>by simp at e;subst e;exact{_,rfl,r}
 | _,_,i+1,x,.cons _ t,e=>by
  let⟨u,h1,h2⟩:=Vals.get (i:=i) (x:=x) t (by simpa using e);exact{u,by simpa using h1,h2}
theorem Vals.append:∀{xs ys:List V} {us ws:List Value},Vals xs us->Vals ys ws->Vals (xs++ys) (us++ws)
 | _,_,_,_,.nil,s=>s
 | _,_,_,_,.cons r t,s=>.cons r (Vals.append t s)
theorem Vals.take:∀{xs:List V} {us:List Value} (n:Nat),Vals xs us->Vals (xs.take n) (us.take n)
 | _,_,0,_=>.nil
 | _,_,_+1,.nil=>.nil
 | _,_,n+1,.cons r t=>.cons r (Vals.take n t)
theorem Vals.drop:∀{xs:List V} {us:List Value} (n:Nat),Vals xs us->Vals (xs.drop n) (us.drop n)
 | _,_,0,r=>r
 | _,_,_+1,.nil=>.nil
 | _,_,n+1,.cons _ t=>Vals.drop n t
def lT:Option V->Option Value->Prop
 | some v,some u=>RelV v u
 | none,none=>True
 | _,_=>False
def KV:List (κ×V)->List (κ×Value)->Prop:=Paired λ(p:κ×V) (q:κ×Value)=>p.1=q.1/\RelV p.2 q.2
def kV:Key->V
 | .inl i=>.int i
 | .inr x=>.str x
inductive HO where
 | lst (xs:List V)
 | tup (xs:List V)
 | dK (kvs:List (Key×V)) | dT (kvs:List (List Key×V))
 | set (S:Int->Bool) (n:Nat)
 | ins (C dx:Addr) (fs:List (Str×V))
 | own (x:Addr)
 | xd (fs:List (Str×V))
 | met (f x:Addr)
 | Kd (lo hi:Int)
 | mI (o:Obj) (u:HO)
 | LK (ps:Array Value)
 | ext (φ:Heap->Prop)
abbrev Hp:=Addr->Option HO
def upd (H:Hp) (a:Addr) (o:HO):Hp:=λb=>if b=a then some o else H b
def aB:upd H a o a=some o:=by unfold upd;rw[if_pos rfl]
def aC (h:b≠a):upd H a o b=H b:=by unfold upd;rw[if_neg h]
def bf {H:Hp} {a b:Addr} {o u:HO} (h:H a=some o) (h':H b=some u) (d:o≠u):a≠b:=by
 intro e;subst e;rw[h] at h';exact d (yk h')
def bB {H:Hp} {a b:Addr} {o:HO} (h:H a=some o) (h':H b=none):a≠b:=by
 intro e;subst e;rw[h] at h';cases h'
section
variable (P:Program) (w:World)
def cB (H:Hp) (h:Heap) (a:Addr):HO->Prop
 | .lst xs=>⇑xs<=sizeLine/\∃(its:List Value) (n:Nat),Vals xs its/\h.get? a=some {cls:=.type "list",data:=.seq its.toArray n}
 | .tup xs=>⇑xs<=sizeLine/\∃its:List Value,Vals xs its/\IsTup h a its.toArray
 | .dK kvs=>⇑kvs<=sizeLine/\(a == sysModules)=false/\∃vs,KV kvs vs/\h.DictOf (df P w) a vs
 | .dT kvs=>⇑kvs<=sizeLine/\(a == sysModules)=false/\∃xs:List (List Key×Addr×Value),
   Paired (λ(p:List Key×V) (q:List Key×Addr×Value)=>p.1=q.1/\H q.2.1=some (.tup (p.1.map kV))/\RelV p.2 q.2.2) kvs xs/\
   ∃o es ep,h.get? a=some o/\o.ExactDict/\o.data=.dict es ep/\es.toList=xs.map (entryOfKey (tupleKind (df P w)))/\(xs.map (·.1)).Nodup
 | .set S n=>h.SetOf (intKind P w) a S n
 | .ins C dx fs=>H dx=some (.own a)/\⇑fs<=1000/\dx≠a/\h.get? a=some (PySem.W.instObj C dx)/\
   ∃mA,h.Ns1 dx mA/\(∀f,lT (fs.lookup f) (mA f))/\PySem.Within mA (fs.map (·.1))
 | .own _=>∃o,h.get? a=some o
 | .xd fs=>∃mA,h.Ns1 a mA/\∀f,lT (fs.lookup f) (mA f)
 | .Kd lo hi=>∃t u v,h.get? a=some {cls:=.type "range",data:=.fields #[.int lo t,.int hi u,.int 1 v]}
 | .mI o u=>h.get? a=some o/\cB H h a u
 | .LK ps=>h.get? a=some {cls:=.none,data:=.fields ps}
 | .met f x=>h.get? a=some (PySem.W.methodObj (.ref f) (.ref x))
 | .ext φ=>φ h/\(∃o,h.get? a=some o)/\∀h1 h2:Heap,φ h1->(∀o,h1.get? a=some o->h2.get? a=some o)->φ h2
def pS (H:Hp) (h:Heap):Prop:=∀a o,H a=some o->cB P w H h a o
end
section
variable {P:Program} {w:World} {H H':Hp} {h h':Heap} {a:Addr} {o:HO}
theorem cB.lt (x:cB P w H h a o):a<h.objs.size:=by
 cases o with
 | lst xs=>let⟨_,_,_,_,e⟩:=x;exact yy e
 | tup xs=>let⟨_,_,_,p⟩:=x;exact p.lt
 | dK kvs=>let⟨_,_,_,_,o,_,_,e,_⟩:=x;exact yy e
 | dT kvs=>let⟨_,_,_,_,o,_,_,e,_⟩:=x;exact yy e
 | set S n=>let⟨o,_,_,_,e,_⟩:=x;exact yy e
 | ins C dx fs=>let⟨_,_,_,e,_⟩:=x;exact yy e
 | own y=>let⟨_,e⟩:=x;exact yy e
 | xd fs=>let⟨_,⟨_,_,_,e,_⟩,_⟩:=x;exact yy e
 | Kd lo hi=>let⟨_,_,_,e⟩:=x;exact yy e
 | mI ob u=>let⟨e,_⟩:=x;exact yy e
 | LK ps=>exact yy (show h.get? a=some _ from x)
 | met f y=>exact yy (show h.get? a=some _ from x)
 | ext φ=>let⟨_,⟨_,e⟩,_⟩:=x;exact yy e
theorem Paired.QP:∀{l₁:List α} {l₂:List β},Paired F l₁ l₂->(∀a b,F a b->G a b)->Paired G l₁ l₂
 | _,_,.nil,_=>.nil
 | _,_,.cons r t,f=>.cons (f _ _ r) (Paired.QP t f)
def cB.kQ (x:cB P w H h a o) (k:∀b u,(b=a\/H b=some (.own a))->h.get? b=some u->h'.get? b=some u)
  (ho:∀b,H b=some (.own a)->H' b=some (.own a)) (ht:∀b xs,H b=some (.tup xs)->H' b=some (.tup xs)):cB P w H' h' a o:=by
 induction o with
 | lst xs=>let⟨z,its,n,r,e⟩:=x;exact{z,its,n,r,k _ _ (.inl rfl) e}
 | tup xs=>let⟨z,its,r,ob,e,c⟩:=x;exact{z,its,r,ob,k _ _ (.inl rfl) e,c}
 | dK kvs=>let⟨z,y,vs,r,ob,es,ep,e,c⟩:=x;exact{z,y,vs,r,ob,es,ep,k _ _ (.inl rfl) e,c}
 | dT kvs=>
  let⟨z,y,xs,r,ob,es,ep,e,c⟩:=x;exact{z,y,xs,Paired.QP r λp q z=>{z.1,ht _ _ z.2.1,z.2.2},ob,es,ep,k _ _ (.inl rfl) e,c}
 | set S n=>let⟨ob,es,ep,t,e,c⟩:=x;exact{ob,es,ep,t,k _ _ (.inl rfl) e,c}
 | ins C dx fs=>
  let⟨d,z,ne,e,mA,⟨od,es,ep,e2,c⟩,r⟩:=x;exact{ho _ d,z,ne,k _ _ (.inl rfl) e,mA,{od,es,ep,k _ _ (.inr d) e2,c},r}
 | own y=>let⟨ob,e⟩:=x;exact{ob,k _ _ (.inl rfl) e}
 | xd fs=>let⟨mA,⟨od,es,ep,e,c⟩,r⟩:=x;exact{mA,{od,es,ep,k _ _ (.inl rfl) e,c},r}
 | Kd lo hi=>let⟨t,u,v,e⟩:=x;exact{t,u,v,k _ _ (.inl rfl) e}
 | mI ob u ih=>let⟨e,q⟩:=x;exact{k _ _ (.inl rfl) e,ih q}
 | LK ps=>
  let e:h.get? a=some {cls:=.none,data:=.fields ps}:=x;show h'.get? a=some {cls:=.none,data:=.fields ps};exact k a _ (.inl rfl) e
 | met f y=>
  let e:h.get? a=some (PySem.W.methodObj (.ref f) (.ref y)):=x;show h'.get? a=some (PySem.W.methodObj (.ref f) (.ref y));exact k a _ (.inl rfl) e
 | ext φ=>let⟨p,⟨o,e⟩,st⟩:=x;exact{st _ _ p λo q=>k _ _ (.inl rfl) q,{o,k _ _ (.inl rfl) e},st}
theorem pS.lt (x:pS P w H h) (e:H a=some o):a<h.objs.size:=(x a o e).lt
def pS.fresh (x:pS P w H h) (e:h.objs.size<=a):H a=none:=by
 cases q:H a with
 | none=>rfl
 | some u=>exact absurd (yc (x.lt q) e) (yf _)
def pS.kept (x:pS P w H h) (k:∀b u,h.get? b=some u->h'.get? b=some u):pS P w H h':=λa o e=>
 (x a o e).kQ (λb u _ q=>k b u q) (λ_ q=>q) λ_ _ q=>q
def pS.laid (x:pS P w H h) (k:∀b u,h.get? b=some u->h'.get? b=some u) (hp:h.objs.size<=a) (new:cB P w (upd H a o) h' a o):pS P w (upd H a o) h':=λb u e=>by
 let hn:=x.fresh hp
 by_cases hb:b=a
 ·subst hb;rw[aB] at e;cases e;exact new
 ·rw[aC hb] at e
  exact(x b u e).kQ (λc v _ q=>k c v q) (λc q=>by rw[aC (bB q hn)];exact q) λc xs q=>by rw[aC (bB q hn)];exact q
end
def Rd (H:Hp) (a:Addr) (u:HO):Prop:=H a=some u\/∃o,H a=some (.mI o u)
def Rd.ok (r:Rd H a u) (x:pS P w H h):cB P w H h a u:=by
 rcases r with r | ⟨o,r⟩
 ·exact x a u r
 ·let⟨_,q⟩:=x a _ r
  exact q
def SE:Option HO->Prop
 | some (.lst _)=>True
 | some (.dK _)=>True
 | some (.dT _)=>True
 | some (.set _ _)=>True
 | some (.ins _ _ _)=>True
 | some (.ext _)=>True
 | _=>False
section
variable {P:Program} {w:World} {H:Hp} {h h':Heap} {x e:Addr} {o':HO}
def pS.write (ok:pS P w H h) (mu:SE (H x)) (he:e=x\/H e=some (.own x)) (k:∀b u,b≠e->h.get? b=some u->h'.get? b=some u) (heo:∃u,h'.get? e=some u)
  (new:cB P w (upd H x o') h' x o'):pS P w (upd H x o') h':=λb u q=>by
 let nown:∀c y,H c=some (.own y)->c≠x:=λc y r z=>by subst z;rw[r] at mu;exact mu
 let ntup:∀c xs,H c=some (.tup xs)->c≠x:=λc xs r z=>by subst z;rw[r] at mu;exact mu
 by_cases hb:b=x
 ·subst hb;rw[aB] at q;cases q;exact new
 ·rw[aC hb] at q
  by_cases hbe:b=e
  ·let q':H b=some (.own x):=by
    rcases he with z | z
    ·exact absurd (hbe.trans z) hb
    ·rw[hbe];exact z
   rw[q] at q';cases q';let⟨v,hv⟩:=heo;exact{v,by rw[hbe];exact hv}
  ·refine(ok b u q).kQ (λc v hc r=>k c v ?_ r) (λc r=>by rw[aC (nown c b r)];exact r) λc xs r=>by rw[aC (ntup c xs r)];exact r
   rcases hc with rfl | hc
   ·exact hbe
   ·rintro rfl
    rcases he with z | z
    ·exact nown c b hc z
    ·rw[hc] at z;cases z;exact hb rfl
end
structure Un (fs ex:List Addr) (H H':Hp) (h h':Heap):Prop where
 keep:∀b o,h.get? b=some o->H b=none->b∉fs->b∉ex->h'.get? b=some o
 slot:∀b o,h.get? b=some o->H b=none->b∈fs->b∉ex->∃sl,h'.get? b=some {o with slots:=sl}
 free:∀b o,h.get? b=some o->H b=none->b∉ex->H' b=none
 there:∀b o,h.get? b=some o->b∉ex->∃o',h'.get? b=some o'
 oj:∀b xs,H b=some (.tup xs)->H' b=some (.tup xs)
 mE:∀b o u,H b=some (.mI o u)->H' b=some (.mI o u)
 om:∀b ps,H b=some (.LK ps)->∃more,H' b=some (.LK (ps++more))
section
variable {fs fs' ex ex':List Addr} {H H1 H2:Hp} {h h1 h2 h':Heap} {a x e:Addr} {o:HO}
def Un.any (u:Un fs ex H H1 h h1) (q:h.get? b=some ob) (n:H b=none) (hx:b∉ex):∃sl,h1.get? b=some {ob with slots:=sl}:=by
 by_cases hb:b∈fs
 ·exact u.slot b ob q n hb hx
 ·exact{ob.slots,u.keep b ob q n hb hx}
def Un.kept (k:∀b u,h.get? b=some u->h'.get? b=some u):Un fs ex H H h h':=
 {λb ob q _ _ _=>k b ob q,λb ob q _ _ _=>{ob.slots,k b ob q},λ_ _ _ n _=>n,λb ob q _=>{ob,k b ob q},λ_ _ q=>q,λ_ _ _ q=>q,λ_ ps q=>{#[],by rw[q];simp}}
def Un.refl:Un fs ex H H h h:=Un.kept λ_ _ q=>q
def Un.laid (k:∀b u,h.get? b=some u->h'.get? b=some u) (hp:h.objs.size<=a) (hn:H a=none):Un fs ex H (upd H a o) h h' where
 keep:=λb u q _ _ _=>k b u q
 slot:=λb u q _ _ _=>{u.slots,k b u q}
 free:=λb u q n _=>by rw[aC (yj (yc (yy q) hp))];exact n
 there:=λb u q _=>{u,k b u q}
 oj:=λb xs q=>by rw[aC (bB q hn)];exact q
 mE:=λb u xs q=>by rw[aC (bB q hn)];exact q
 om:=λb ps q=>{#[],by rw[aC (bB q hn),q];simp}
def Un.write (mu:SE (H x)) (he:e=x\/H e=some (.own x)) (k:∀b u,b≠e->h.get? b=some u->h'.get? b=some u) (heo:∃u,h'.get? e=some u):Un fs ex H (upd H x o) h h':=by
 let hx:∀b,H b=none->b≠x:=λb n z=>by subst z;rw[n] at mu;exact mu
 let hb:∀b,H b=none->b≠e:=λb n z=>by
  subst z;rcases he with r | r
  ·exact hx b n r
  ·rw[n] at r;cases r
 let hm:∀b u,H b=some u->¬SE (some u)->b≠x:=λb u q nm z=>by subst z;rw[q] at mu;exact nm mu
 refine{λb u q n _ _=>k b u (hb b n) q,λb u q n _ _=>{u.slots,k b u (hb b n) q},λb u q n _=>by rw[aC (hx b n)];exact n,λb u q _=>?_,
  λb xs q=>by rw[aC (hm b _ q λz=>z)];exact q,λb u xs q=>by rw[aC (hm b _ q λz=>z)];exact q,λb ps q=>{#[],by rw[aC (hm b _ q λz=>z),q];simp}}
 by_cases hbe:b=e
 ·subst hbe;exact heo
 ·exact{u,k b u hbe q}
end
def SR (h:Heap) (H:Hp):List Addr:=(List.range h.objs.size).filter λa=>(H a).isSome
def Dl (h:Heap) (H:Hp):Heap:=PySem.W.hideAll h (SR h H)
def KA (h:Heap) (H:Hp):(Dl h H).objs.size=h.objs.size:=PySem.W.hideAll_size _ _
def M4 (e:h.get? b=some o) (n:H b=none):(Dl h H).get? b=some o:=
 PySem.W.hideAll_get _ e λhm=>by
  let q:(H b).isSome=true:=(List.mem_filter.mp hm).2;rw[n] at q;simp at q
def OJ (e:(Dl h H).get? b=some o):h.get? b=some o/\H b=none:=by
 let e':h.get? b=some o:=PySem.W.of_hideAll (SR h H) e;refine{e',?_};cases q:H b with
 | none=>rfl
 | some x=>
  let hm:b∈SR h H:=List.mem_filter.mpr {List.mem_range.mpr (yy e'),by simp[q]};let z:(Dl h H).get? b=none:=PySem.W.hideAll_none (SR h H) hm;rw[z] at e;cases e
end L2
namespace L2
open PySem PySem.Spec PyProof.Rows
structure Mod (K:yB) (mg:Str->Option Value) (base:Heap):Prop where
 QS:K.In base
 glob:base.Ns mainGlobals mg
 blt:∃mb,base.Ns builtinsNs mb/\∀x:Str,x≠ "__name__"->mb x=bootBuiltins x
 nolimit:base.NoLimit
set_option genInjectivity false in
structure Cx where
 prog:Program
 w:World
 K:yB
 mg:Str->Option Value
 base:Heap
 A:Around
 N:List Str
 s₀:Shared
 H₀:Hp
 env:Env
 outer:List Env
 stack:List Env
 ex:List Addr
 fn:Str->Bool
 calm:Bool
 pn:List (Addr×Obj)
 xe:Value->Shared->Prop
def oF (l:List Env):List Addr:=l.filterMap (·.frame)
abbrev Cx.fs (X:Cx):List Addr:=oF X.outer
def Rk (sc:Scope) (x:Str):Prop:=sc.names.lookup x=some .local\/sc.names.lookup x=some .cell\/sc.names.lookup x=some .free
def Loc (sc:Scope) (x:Str):Prop:=sc.names.lookup x=some .local\/sc.names.lookup x=some .cell
def Look (env:Env) (h:Heap) (m:Str->Option Value) (x:Str) (u:Value):Prop:=
 (env.kindOf x=some .local/\m x=some u)\/((env.kindOf x=some .cell\/env.kindOf x=some .free)/\∃c,env.cells.lookup x=some c/\h.IsCell c (some u))
structure Cx.Ok (X:Cx):Prop where
 mod:Mod X.K X.mg X.base
 kind:X.env.scope.kind=.function
 glob:X.env.globals=mainGlobals
 blt:X.env.builtins=builtinsNs
 above:X.s₀.heap.objs.size<=X.env.locals
 inj:∀x y c,X.env.cells.lookup x=some c->X.env.cells.lookup y=some c->x=y
 has:∀x,(X.env.kindOf x=some .cell\/X.env.kindOf x=some .free)->∃c,X.env.cells.lookup x=some c
 Rh:∀x c,X.fn x=true->X.env.cells.lookup x=some c->X.s₀.heap.objs.size<=c
 hd:X.calm=true->X.A.handled=none
 frames:X.A.frames=some X.stack
 Rr:X.stack=X.outer\/(X.stack=X.env::X.outer/\X.env.frame=some X.env.locals)
 SW:∀b∈X.ex,b≠X.env.locals/\∀x c,X.env.cells.lookup x=some c->c≠b
 bs:∀b o,X.base.get? b=some o->X.s₀.heap.get? b=some o/\X.H₀ b=none
 Lq:X.base.objs.size<=X.s₀.heap.objs.size
 uY:∀b o,X.base.get? b=some o->b∉X.ex
 Ia:∀b∈X.ex,b∉X.fs
 ox:X.s₀.heap.FunFrames X.base X.outer
 F1:∀b∈X.fs,X.H₀ b=none
structure Inv (X:Cx) (pins:List (Addr×Obj)) (U:List (Option V)) (H:Hp) (s:Shared):Prop where
 ok:X.Ok
 os:s.os=X.s₀.os
 bare:AllBare s.gens
 base:Un X.fs X.ex X.H₀ H X.s₀.heap s.heap
 loc:∃m,s.heap.Ns X.env.locals m/\∀(i:Nat) (x:Str) (v:V),X.N[i]?=some x->U[i]?=some (some v)->Rk X.env.scope x->∃u,RelV v u/\Look X.env s.heap m x u
 cell:∀x c,X.env.cells.lookup x=some c->∃v,s.heap.IsCell c v
 free:H X.env.locals=none
 jO:∀x c,X.env.cells.lookup x=some c->H c=none
 pin:∀p∈X.pn++pins,s.heap.get? p.1=some p.2/\H p.1=none/\p.1≠X.env.locals/\p.1∉X.fs/\∀v,p.2.data≠.cell v
 b7:pS X.prog X.w H s.heap
 len:U.length=⇑X.N
section
variable {X:Cx} {pins:List (Addr×Obj)} {U:List (Option V)} {H H':Hp} {s:Shared} {h':Heap}
def Cx.Ok.T9 (ok:X.Ok) (e:X.base.get? b=some o):b∉X.fs:=λhb=>by
 have:=(ok.ox.mem hb).1;rw[e] at this;cases this
theorem Inv.bs (I:Inv X pins U H s):∀b o,X.base.get? b=some o->s.heap.get? b=some o/\H b=none:=λb o e=>
 {I.base.keep b o (I.ok.bs b o e).1 (I.ok.bs b o e).2 (I.ok.T9 e) (I.ok.uY b o e),I.base.free b o (I.ok.bs b o e).1 (I.ok.bs b o e).2 (I.ok.uY b o e)}
def Inv.bk (I:Inv X pins U H s):∀b o,X.base.get? b=some o->s.heap.get? b=some o:=λb o e=>(I.bs b o e).1
theorem Inv.mod (I:Inv X pins U H s):Mod X.K X.mg X.base:=I.ok.mod
def Inv.qW (I:Inv X pins U H s):X.K.In s.heap:=I.ok.mod.QS.keeps I.bk
theorem Inv.lt (I:Inv X pins U H s):X.env.locals<↑s:=let ⟨_,hn,_⟩:=I.loc;hn.lt
def Inv.sz (I:Inv X pins U H s):X.s₀.heap.objs.size<=↑s:=zM I.ok.above (yh I.lt)
def Inv.R5 (I:Inv X pins U H s) (h:↑s<=a):a∉X.fs:=λhb=>by
 let⟨_,o,ho,_⟩:=I.ok.ox.mem hb;exact absurd (yc (yy ho) (zM I.sz h)) (yf _)
def Inv.NU (I:Inv X pins U H s):∀x c,X.env.cells.lookup x=some c->c≠X.env.locals:=λx c e z=>by
 let⟨v,o,ho,hd⟩:=I.cell x c e;let⟨m,⟨o',es,ep,ho',hd',_⟩,_⟩:=I.loc;rw[z,ho'] at ho;cases ho;rw[hd'] at hd;cases hd
theorem Inv.ox (I:Inv X pins U H s):s.heap.FunFrames X.base X.outer:=by
 let all:∀(l:List Env),(∀b∈oF l,b∈X.fs)->X.s₀.heap.FunFrames X.base l->s.heap.FunFrames X.base l:=by
  intro l
  induction l with
  | nil=>intro _ _;trivial
  | cons env r ih=>
   intro hs hl;let⟨hk,⟨L,o,hf,hn,ho,hd⟩,hr⟩:=hl;let hL:L∈X.fs:=hs L (by unfold oF;rw[List.filterMap_cons,hf];exact zr);let⟨sl,e⟩:=I.base.slot L o ho (I.ok.F1 L hL) hL λz=>I.ok.Ia L z hL;exact{hk,{L,_,hf,hn,e,hd},ih (λb hb=>hs b (by unfold oF;rw[List.filterMap_cons,hf];exact zp _ hb)) hr}
 exact all X.outer (λ_ hb=>hb) I.ok.ox
theorem Inv.stack (I:Inv X pins U H s):s.heap.FunFrames X.base X.stack:=by
 rcases I.ok.Rr with e | ⟨e,hf⟩
 ·rw[e];exact I.ox
 ·rw[e]
  let⟨m,hn,_⟩:=I.loc;refine .cons (by rw[I.ok.kind];decide) hf hn ?_ I.ox;exact Heap.get?_none_of_le (zM I.ok.Lq I.ok.above)
def Inv.Cg (I:Inv X pins U H s):∀b∈oF X.stack,b∈X.env.locals::X.fs:=λb hb=>by
 rcases I.ok.Rr with e | ⟨e,hf⟩
 ·rw[e] at hb;exact zp _ hb
 ·rw[e] at hb
  unfold oF at hb;rw[List.filterMap_cons,hf] at hb;exact hb
def Inv.pY (I:Inv X pins U H s):∀b∈oF X.stack,H b=none:=λb hb=>by
 rcases zD.mp (I.Cg b hb) with e | hb
 ·rw[e];exact I.free
 ·let⟨_,o,ho,_⟩:=I.ok.ox.mem hb
  exact I.base.free b o ho (I.ok.F1 b hb) λz=>I.ok.Ia b z hb
def Inv.step {g':Array GenState} {t':Nat} {d':Drawn} {ch:List Addr} (I:Inv X pins U H s)
  (hch:∀b∈ch,(b∈X.ex\/X.s₀.heap.objs.size<=b)/\b≠X.env.locals/\(∀x c,X.env.cells.lookup x=some c->c≠b)/\∀p∈X.pn++pins,p.1≠b)
  (keep:∀b o,b≠X.env.locals->b∉X.fs->b∉ch->s.heap.get? b=some o->H b=none->h'.get? b=some o)
  (slot:∀b o,b≠X.env.locals->b∈X.fs->b∉ch->s.heap.get? b=some o->H b=none->∃sl,h'.get? b=some {o with slots:=sl}) (free:∀b o,b∉ch->s.heap.get? b=some o->H b=none->H' b=none)
  (there:∀b o,b∉ch->s.heap.get? b=some o->∃o',h'.get? b=some o')
  (oj:∀b xs,H b=some (.tup xs)->H' b=some (.tup xs)) (mE:∀b o u,H b=some (.mI o u)->H' b=some (.mI o u)) (om:∀b ps,H b=some (.LK ps)->∃more,H' b=some (.LK (ps++more)))
  (ns:∀m,s.heap.Ns X.env.locals m->h'.Ns X.env.locals m) (b7:pS X.prog X.w H' h') (hg:AllBare g') :
  Inv X pins U H' {s with heap:=h',gens:=g',drawn:=d',toks:=t'}:=by
 let neL:∀b o,X.s₀.heap.get? b=some o->b≠X.env.locals:=λb o e=>yj (yc (yy e) I.ok.above);let neC:∀b o,X.s₀.heap.get? b=some o->b∉X.ex->b∉ch:=λb o e hx hb=>by
  rcases(hch b hb).1 with z | z
  ·exact hx z
  ·exact absurd (yc (yy e) z) (yf _)
 let cellK:∀x c,X.env.cells.lookup x=some c->∀v,s.heap.IsCell c v->h'.IsCell c v:=λx c e v ⟨o,ho,hd⟩=>by
  let nch:c∉ch:=λz=>(hch c z).2.2.1 x c e rfl
  by_cases hc:c∈X.fs
  ·let⟨sl,q⟩:=slot c o (I.NU x c e) hc nch ho (I.jO x c e)
   exact{_,q,hd}
  ·exact{o,keep c o (I.NU x c e) hc nch ho (I.jO x c e),hd}
 refine{I.ok,I.os,hg,{λb o e n hb hx=>?_,λb o e n hb hx=>?_,λb o e n hx=>?_,λb o e hx=>?_,λb xs e=>oj b xs (I.base.oj b xs e),λb o xs e=>mE b o xs (I.base.mE b o xs e),λb ps e=>?_},?_,λx c e=>?_,?_,λx c e=>?_,λp hp=>?_,b7,I.len}
 ·exact keep b o (neL b o e) hb (neC b o e hx) (I.base.keep b o e n hb hx) (I.base.free b o e n hx)
 ·let⟨sl,e1⟩:=I.base.slot b o e n hb hx
  let⟨sl',e2⟩:=slot b _ (neL b o e) hb (neC b o e hx) e1 (I.base.free b o e n hx);exact{(sl'),e2}
 ·let⟨o',e1⟩:=I.base.there b o e hx
  exact free b o' (neC b o e hx) e1 (I.base.free b o e n hx)
 ·let⟨o',e1⟩:=I.base.there b o e hx
  exact there b o' (neC b o e hx) e1
 ·let⟨m1,e1⟩:=I.base.om b ps e
  let⟨m2,e2⟩:=om b _ e1;exact{m1++m2,by rw[e2,Array.append_assoc]}
 ·let⟨m,hn,hl⟩:=I.loc
  refine{m,ns m hn,λi x v e1 e2 e3=>?_};let⟨u,r,l⟩:=hl i x v e1 e2 e3;refine{u,r,?_};rcases l with l | ⟨k,c,e,z⟩
  ·exact .inl l
  ·exact .inr {k,c,e,cellK x c e _ z}
 ·let⟨v,z⟩:=I.cell x c e
  exact{v,cellK x c e v z}
 ·let⟨m,⟨o,_,_,ho,_⟩,_⟩:=I.loc
  exact free _ o (λz=>(hch _ z).2.1 rfl) ho I.free
 ·let⟨v,o,ho,hd⟩:=I.cell x c e
  exact free c o (λz=>(hch c z).2.2.1 x c e rfl) ho (I.jO x c e)
 ·let⟨e,n,ne,nf,d⟩:=I.pin p hp
  let nch:p.1∉ch:=λz=>(hch p.1 z).2.2.2 p hp rfl;exact{keep p.1 p.2 ne nf nch e n,free p.1 p.2 nch e n,ne,nf,d}
def Inv.un {t':Nat} (I:Inv X pins U H s) (u:Un X.fs [] H H' s.heap h') (b7:pS X.prog X.w H' h'):Inv X pins U H' {s with heap:=h',toks:=t'}:=by
 let⟨m,⟨o,es,ep,ho,r⟩,_⟩:=id I.loc;let⟨sl,hL⟩:=u.any ho I.free (by simp);exact I.step (g':=s.gens) (d':=s.drawn) (ch:=[]) (λ_ z=>nomatch z) (λb o _ hb _ e n=>u.keep b o e n hb (by simp)) (λb o _ hb _ e n=>u.slot b o e n hb (by simp)) (λb o _ e n=>u.free b o e n (by simp)) (λb o _ e=>u.there b o e (by simp)) u.oj u.mE u.om (λm' hm=>by
  let⟨o',es',ep',ho',r'⟩:=hm;rw[ho] at ho';cases ho';exact{_,es',ep',hL,r'}) b7 I.bare
def Inv.call {g':Array GenState} {t':Nat} {d':Drawn} {ch:List Addr} (I:Inv X pins U H s) (u:Un (oF X.stack) ch H H' s.heap h') (b7:pS X.prog X.w H' h') (hg:AllBare g')
  (hch:∀b∈ch,(b∈X.ex\/X.s₀.heap.objs.size<=b)/\b≠X.env.locals/\(∀x c,X.env.cells.lookup x=some c->c≠b)/\∀p∈X.pn++pins,p.1≠b) :
  Inv X pins U H' {s with heap:=h',gens:=g',drawn:=d',toks:=t'}:=by
 let⟨m,⟨o,es,ep,ho,r⟩,_⟩:=id I.loc;let⟨sl,hL⟩:=u.any ho I.free λz=>(hch _ z).2.1 rfl;exact I.step (ch:=ch) hch (λb o hL hb hc e n=>u.keep b o e n (λz=>(zD.mp (I.Cg b z)).elim hL hb) hc) (λb o _ _ hc e n=>u.any e n hc) (λb o hc e n=>u.free b o e n hc) (λb o hc e=>u.there b o e hc) u.oj u.mE u.om (λm' hm=>by
  let⟨o',es',ep',ho',r'⟩:=hm;rw[ho] at ho';cases ho';exact{_,es',ep',hL,r'}) b7 hg
def Inv.turned {t':Nat} {it:Addr} (I:Inv X pins U H s) (k:∀b o,b≠it->s.heap.get? b=some o->h'.get? b=some o) (hn:H it=none) (hL:it≠X.env.locals)
  (h1:it∈X.ex\/X.s₀.heap.objs.size<=it) (h2:∀x c,X.env.cells.lookup x=some c->c≠it) (h3:∀p∈X.pn++pins,p.1≠it):Inv X pins U H {s with heap:=h',toks:=t'}:=by
 let nit:∀b u,H b=some u->b≠it:=λb u e z=>by rw[z,hn] at e;cases e
 refine I.step (g':=s.gens) (d':=s.drawn) (ch:=[it]) (λb hb=>?_) (λb o _ _ hc e _=>k b o (λz=>hc (by simp[z])) e) (λb o _ _ hc e _=>{o.slots,k b o (λz=>hc (by simp[z])) e}) (λ_ _ _ _ n=>n)
  (λb o hc e=>{o,k b o (λz=>hc (by simp[z])) e}) (λ_ _ e=>e) (λ_ _ _ e=>e) (λb ps e=>{#[],by rw[e];simp}) (λm hm=>?_) (λb u e=>?_) I.bare
 ·let e:b=it:=by simpa using hb
  subst e;exact{(h1),hL,h2,h3}
 ·let⟨o,es,ep,ho,r⟩:=hm
  exact{o,es,ep,k _ o (Ne.symm hL) ho,r}
 ·refine(I.b7 b u e).kQ (λc v hc q=>k c v ?_ q) (λ_ q=>q) λ_ _ q=>q
  rcases hc with z | z
  ·rw[z];exact nit b u e
  ·exact nit c _ z
def Inv.tok (I:Inv X pins U H s) (t:Nat):Inv X pins U H {s with toks:=t}:=I.un (h':=s.heap) (t':=t) Un.refl I.b7
theorem Inv.kept (I:Inv X pins U H s) (k:∀b u,s.heap.get? b=some u->h'.get? b=some u):Inv X pins U H {s with heap:=h',toks:=t'}:=I.un (Un.kept k) (I.b7.kept k)
theorem Inv.laid (I:Inv X pins U H s) (k:∀b u,s.heap.get? b=some u->h'.get? b=some u) (hp:↑s<=a) (new:cB X.prog X.w (upd H a o) h' a o) :
  Inv X pins U (upd H a o) {s with heap:=h',toks:=t'}:=I.un (Un.laid k hp (I.b7.fresh hp)) (I.b7.laid k hp new)
theorem Inv.write (I:Inv X pins U H s) (mu:SE (H x)) (he:e=x\/H e=some (.own x)) (k:∀b u,b≠e->s.heap.get? b=some u->h'.get? b=some u) (heo:∃u,h'.get? e=some u)
  (new:cB X.prog X.w (upd H x o) h' x o):Inv X pins U (upd H x o) {s with heap:=h',toks:=t'}:=I.un (Un.write mu he k heo) (I.b7.write mu he k heo new)
def Inv.nP (I:Inv X pins U H s) (h:∀p∈pins',s.heap.get? p.1=some p.2/\H p.1=none/\p.1≠X.env.locals/\p.1∉X.fs/\∀v,p.2.data≠.cell v):Inv X pins' U H s:=
 {I.ok,I.os,I.bare,I.base,I.loc,I.cell,I.free,I.jO,λp hp=>(zG.mp hp).elim (λz=>I.pin p (zJ _ z)) (h p),I.b7,I.len}
def FO {N:List Str} (hN:N.Nodup) {i j:Nat} {x:Str} (a:N[i]?=some x) (b:N[j]?=some x):i=j:=by
 let⟨h1,e1⟩:=zy.mp a;let⟨h2,e2⟩:=zy.mp b;exact(List.getElem_inj hN).mp (e1.trans e2.symm)
def Bs {M:Model} {A:Around} {E:Value->Shared->Prop} {i:Nat} {x:Str} {v:V} {u:Value} {Q:Unit->Shared->Prop} (I:Inv X pins U H s) (hN:X.N.Nodup) (hi:X.N[i]?=some x) (hx:Loc X.env.scope x) (r:RelV v u)
  (h:∀s',Inv X pins (U.set i (some v)) H s'->(∃a,Heap.SameBut a s.heap s'.heap/\(a=X.env.locals\/X.env.cells.lookup x=some a))->Q () s') (hf:X.fn x=true\/X.env.scope.names.lookup x=some .local<|>qa_):wpAny M A (storeName X.env x u) Q E s:=by
 let⟨m,hn,hl⟩:=id I.loc;let hcls:(X.env.scope.kind == .class||(X.env.scope.kind == .module&&X.env.locals != X.env.globals))=false:=by rw[I.ok.kind];rfl
 let hiU:i<U.length:=by rw[I.len];exact(zy.mp hi).1
 let NU:=I.NU;let tracked:∀{a:Addr} {h':Heap},(∃o,s.heap.get? a=some o/\H a=none)->Heap.SameBut a s.heap h'->pS X.prog X.w H h':=λ{a h'} ha hs b ob e=>by
  let⟨_,_,hfree⟩:=ha;refine(I.b7 b ob e).kQ (λc w' hc q=>(hs.2 c ?_).trans q) (λ_ q=>q) λ_ _ q=>q;rintro rfl;rcases hc with rfl | hc
  ·rw[hfree] at e;cases e
  ·rw[hfree] at hc;cases hc
 rcases hx with hk | hk
 ·refine wpAny_storeName_local hk hn (λh' hn' hs=>?_) hcls
  let⟨oL,_,_,hoL,_⟩:=id hn;refine h _ {I.ok,I.os,I.bare,{λb o e n hb hx=>?_,λb o e n hb hx=>?_,I.base.free,λb o e hx=>?_,I.base.oj,I.base.mE,I.base.om},{_,hn',λj y v' e1 e2 e3=>?_},λy c e=>?_,I.free,I.jO,λp hp=>?_,tracked {(oL),hoL,I.free} hs,by simpa using I.len} {_,hs,.inl rfl}
  ·exact(hs.2 b (yj (yc (yy e) I.ok.above))).trans (I.base.keep b o e n hb hx)
  ·let⟨sl,e1⟩:=I.base.slot b o e n hb hx
   exact{sl,(hs.2 b (yj (yc (yy e) I.ok.above))).trans e1}
  ·let⟨o',e1⟩:=I.base.there b o e hx
   exact{o',(hs.2 b (yj (yc (yy e) I.ok.above))).trans e1}
  ·by_cases hj:j=i
   ·subst hj
    rw[hi] at e1;cases e1;rw[List.getElem?_set_self hiU] at e2;cases e2;exact{u,r,.inl {hk,by simp}}
   ·rw[List.getElem?_set_ne (Ne.symm hj)] at e2
    let⟨u',r',q⟩:=hl j y v' e1 e2 e3;refine{u',r',?_};rcases q with⟨k,e⟩ | ⟨k,c,e,z⟩
    ·refine .inl {k,?_}
     have:y≠x:=λe=>hj (FO hN e1 (e▸hi));simp[this,e]
    ·exact .inr {k,c,e,z.sameBut hs (NU y c e)}
  ·let⟨w',z⟩:=I.cell y c e
   exact{w',z.sameBut hs (NU y c e)}
  ·let⟨e,n,ne,nf,d⟩:=I.pin p hp
   exact{(hs.2 p.1 ne).trans e,n,ne,nf,d}
 ·let hfn:X.fn x=true:=by
   rcases hf with z | z
   ·exact z
   ·rw[z] at hk;cases hk
  let⟨c,hc⟩:=I.ok.has x (.inl hk);let⟨w',z⟩:=I.cell x c hc;refine wpAny_storeName_cell I.ok.kind hk hc z (λh' hc' hs=>?_);let⟨oc,hoc,hocd⟩:=id z;refine h {s with heap:=h'} {I.ok,I.os,I.bare,{λb o e n hb hx=>?_,λb o e n hb hx=>?_,I.base.free,λb o e hx=>?_,I.base.oj,I.base.mE,I.base.om},{m,hn.sameBut hs (Ne.symm (NU x c hc)),λj y v' e1 e2 e3=>?_},λy c' e=>?_,I.free,I.jO,λp hp=>?_,tracked {oc,hoc,I.jO x c hc} hs,by simpa using I.len} {c,hs,.inr hc}
  ·exact(hs.2 b (yj (yc (yy e) (I.ok.Rh x c hfn hc)))).trans (I.base.keep b o e n hb hx)
  ·let⟨sl,e1⟩:=I.base.slot b o e n hb hx
   exact{sl,(hs.2 b (yj (yc (yy e) (I.ok.Rh x c hfn hc)))).trans e1}
  ·let⟨o',e1⟩:=I.base.there b o e hx
   exact{o',(hs.2 b (yj (yc (yy e) (I.ok.Rh x c hfn hc)))).trans e1}
  ·by_cases hj:j=i
   ·subst hj
    rw[hi] at e1;cases e1;rw[List.getElem?_set_self hiU] at e2;cases e2;exact{u,r,.inr {.inl hk,c,hc,hc'}}
   ·rw[List.getElem?_set_ne (Ne.symm hj)] at e2
    let⟨u',r',q⟩:=hl j y v' e1 e2 e3;refine{u',r',?_};rcases q with q | ⟨k,c',e,z'⟩
    ·exact .inl q
    ·refine .inr {k,c',e,z'.sameBut hs ?_}
     rintro rfl;exact hj (FO hN e1 (I.ok.inj _ _ _ e hc▸hi))
  ·by_cases hcc:c'=c
   ·subst hcc;exact{_,hc'}
   ·let⟨w2,z2⟩:=I.cell y c' e
    exact{w2,z2.sameBut hs hcc}
  ·let⟨e,n,ne,nf,d⟩:=I.pin p hp
   refine{(hs.2 p.1 ?_).trans e,n,ne,nf,d};intro q;rw[q,hoc] at e;let q':oc=p.2:=yk e;exact d w' (by rw[<-q'];exact hocd)
def mM (I:Inv X pins U H s) (hN:X.N.Nodup) (hi:X.N[i]?=some x) (hx:Loc X.env.scope x) (r:RelV v u)
  (h:∀s',Inv X pins (U.set i (some v)) H s'->Q () s') (hf:X.fn x=true\/X.env.scope.names.lookup x=some .local<|>qa_):wpAny M A (storeName X.env x u) Q E s:=
 Bs I hN hi hx r (λs' I' _=>h s' I') hf
def Inv.Nx (I:Inv X pins U H s) (ho:s'.os=s.os) (u:Un (oF X.stack) ch H H' s.heap s'.heap) (b7:pS X.prog X.w H' s'.heap) (hg:AllBare s'.gens)
  (hch:∀b∈ch,(b∈X.ex\/X.s₀.heap.objs.size<=b)/\b≠X.env.locals/\(∀x c,X.env.cells.lookup x=some c->c≠b)/\∀p∈X.pn++pins,p.1≠b):Inv X pins U H' s':=by
 let⟨h',g',d',t',o'⟩:=s';let e:o'=s.os:=ho;subst e;exact I.call (g':=g') (t':=t') (d':=d') u b7 hg hch
end
abbrev XK:=Value->Option Addr->Hp->Prop
abbrev St:=List (Option V)
abbrev VK:=V->Hp->Prop
abbrev TE:=St->Hp->VK->Prop
abbrev TT:=St->Hp->(Bool->Hp->Prop)->Prop
abbrev TA:=St->Hp->(List V->Hp->Prop)->Prop
structure Ends where
 nx:St->Hp->Prop
 rt:VK
 bk:St->Hp->Prop:=λ_ _=>False
 ct:St->Hp->Prop:=λ_ _=>False
abbrev TS:=Ends->St->Hp->Prop
def EP (X:Cx) (pins:List (Addr×Obj)) (U:St) (Q:VK) (u:Value) (s':Shared):Prop:=∃v H',Inv X pins U H' s'/\RelV v u/\Q v H'
def TP (X:Cx) (pins:List (Addr×Obj)) (U:St) (Q:Bool->Hp->Prop) (b:Bool) (s':Shared):Prop:=∃H',Inv X pins U H' s'/\Q b H'
def AP (X:Cx) (pins:List (Addr×Obj)) (U:St) (Q:List V->Hp->Prop) (us:List Value) (s':Shared):Prop:=∃vs H',Inv X pins U H' s'/\Vals vs us/\Q vs H'
def SP (X:Cx) (pins:List (Addr×Obj)) (D:Ends) (f:Flow) (s':Shared):Prop:=
 match f with
 | .next=>∃U' H',Inv X pins U' H' s'/\D.nx U' H'
 | .brk=>∃U' H',Inv X pins U' H' s'/\D.bk U' H'
 | .cont=>∃U' H',Inv X pins U' H' s'/\D.ct U' H'
 | .ret u=>∃v U' H',Inv X pins U' H' s'/\RelV v u/\D.rt v H'
def PE (X:Cx) (e:Expr) (t:TE):Prop:=
 ∀(pins:List (Addr×Obj)) (s:Shared) (U:St) (H:Hp) (Q:VK),Inv X pins U H s->t U H Q->wpAny (model X.prog X.w) X.A (eval e X.env) (EP X pins U Q) X.xe s
def PT (X:Cx) (e:Expr) (t:TT):Prop:=
 ∀(pins:List (Addr×Obj)) (s:Shared) (U:St) (H:Hp) (Q:Bool->Hp->Prop),Inv X pins U H s->t U H Q->wpAny (model X.prog X.w) X.A (isTrue e X.env (eval e X.env)) (TP X pins U Q) X.xe s
def PW (X:Cx) (e:Expr) (t:TT):Prop:=
 ∀(whole:Sem Value) (pins:List (Addr×Obj)) (s:Shared) (U:St) (H:Hp) (Q:Bool->Hp->Prop),Inv X pins U H s->t U H Q->wpAny (model X.prog X.w) X.A (isTrue e X.env whole) (TP X pins U Q) X.xe s
def PW.pt (h:PW X e t):PT X e t:=h _
def PA (X:Cx) (es:List Expr) (t:TA):Prop:=
 ∀(pos:Pos) (pins:List (Addr×Obj)) (s:Shared) (U:St) (H:Hp) (Q:List V->Hp->Prop),Inv X pins U H s->t U H Q->wpAny (model X.prog X.w) X.A (spliced (backTo pos (starEach es X.env))) (AP X pins U Q) X.xe s
def PS (X:Cx) (st:Stmt) (t:TS):Prop:=
 ∀(pins:List (Addr×Obj)) (s:Shared) (U:St) (H:Hp) (D:Ends),Inv X pins U H s->t D U H->wpAny (model X.prog X.w) X.A (exec st X.env) (SP X pins D) X.xe s
def Bk (X:Cx) (st:List Stmt) (t:TS):Prop:=
 ∀(pins:List (Addr×Obj)) (s:Shared) (U:St) (H:Hp) (D:Ends),Inv X pins U H s->t D U H->wpAny (model X.prog X.w) X.A (execs st X.env) (SP X pins D) X.xe s
def cU (h:wpAny M A t Q E s) (hQ:∀a s,Q a s->Q' a s):wpAny M A t Q' E s:=wpAny_mono h hQ λ_ _ x=>x
end L2
namespace L2
open PySem PySem.Spec PyProof.Rows
section
variable {X:Cx}
def aX (i:Nat):TE:=λU H Q=>∃v,U[i]?=some (some v)/\Q v H
def tC (v:V):TE:=λ_ H Q=>Q v H
def QD (hN:X.N[i]?=some x) (hv:Rk X.env.scope x) (hd:(x == ("__debug__": Str))=false<|>qb_) (hcd:(x == ("__classdict__": Str))=false<|>qb_):PE X (.Name x pos) (aX i):=by
 intro pins s U H Q I h;let⟨v,e,h⟩:=h;let⟨m,hn,hl⟩:=I.loc;let⟨u,r,l⟩:=hl i x v hN e hv;let fin:EP X pins U Q u s:={(v),H,I,r,h}
 rcases l with⟨hk,hm⟩ | ⟨hk,c,hc,hcell⟩
 ·exact wpAny_Name (wpAny_loadName_local I.ok.kind hk hn hm fin) hd
 ·rcases hk with hk | hk
  ·exact wpAny_Name (wpAny_loadName_cell I.ok.kind hk hc hcell fin) hd
  ·exact wpAny_Name (wpAny_loadName_free I.ok.kind hk hc hcell fin hcd) hd
def ae:PE X (.Constant (.int i) j pos) (tC (.int i)):=λ_ _ _ H _ I h=>wpAny_Constant_int {.int i,H,I.tok _,{_,rfl},h}
def ky:PE X (.Constant (.bool b) j pos) (tC (.bl b)):=λ_ _ _ H _ I h=>Constant_bool {.bl b,H,I,rfl,h}
def aR:PE X (.Constant .none j pos) (tC .bI):=λ_ _ _ H _ I h=>Constant_none {.bI,H,I,rfl,h}
def aL:PE X (.Constant (.str x) j pos) (tC (.str x)):=λ_ _ _ H _ I h=>Calls.Constant_str {.str x,H,I.tok _,{_,rfl},h}
def Gl (X:Cx) (x:Str):Prop:=X.env.kindOf x=some .globalImplicit
def jL (I:Inv X pins U H s) (hg:Gl X x) (hm:X.mg x=some u) (h:Q u s)
  (hd:(x == ("__debug__": Str))=false<|>qb_):wpAny (model X.prog X.w) X.A (eval (.Name x pos) X.env) Q E s:=
 Calls.Name_function_global I.ok.kind hg (Calls.loadGlobal_global (by rw[I.ok.glob];exact I.mod.glob.keeps I.bk) hm h) hd
def je (I:Inv X pins U H s) (hg:Gl X x) (hm:X.mg x=none) (hv:bootBuiltins x=some u) (h:Q u s)
  (hn:x≠ "__name__"<|>qb_) (hd:(x == ("__debug__": Str))=false<|>qb_):wpAny (model X.prog X.w) X.A (eval (.Name x pos) X.env) Q E s:=by
 let⟨mb,h1,h2⟩:=I.mod.blt;exact Calls.Name_function_global I.ok.kind hg (Calls.loadGlobal_builtin (by rw[I.ok.glob];exact I.mod.glob.keeps I.bk) hm (by rw[I.ok.blt];exact h1.keeps I.bk) ((h2 x hn).trans hv) h) hd
def bX (hg:Gl X x) (hm:X.mg x=some u) (r:RelV v u) (hd:(x == ("__debug__": Str))=false<|>qb_):PE X (.Name x pos) (tC v):=
 λ_ _ _ H _ I h=>jL I hg hm {(v),H,I,r,h} hd
def OC (hg:Gl X x) (hm:X.mg x=none) (hv:bootBuiltins x=some u) (r:RelV v u) (hn:x≠ "__name__"<|>qb_) (hd:(x == ("__debug__": Str))=false<|>qb_):PE X (.Name x pos) (tC v):=
 λ_ _ _ H _ I h=>je I hg hm hv {(v),H,I,r,h} hn hd
variable {a b:Expr} {ta tb:TE} {pos:Pos}
def PC (X:Cx) (op:CmpOp) (a b:Expr) (t:TE):Prop:=
 ∀(pins:List (Addr×Obj)) (s:Shared) (U:St) (H:Hp) (Q:VK),Inv X pins U H s->t U H Q->
  wpAny (model X.prog X.w) X.A (eval a X.env) (λv s₁=>wpAny (model X.prog X.w) X.A (eval b X.env) (λu s₂=>wpAny (model X.prog X.w) X.A (compareOp op v u) (EP X pins U Q) X.xe s₂) X.xe s₁) X.xe s
def FQ (b:Expr) (h:op≠.In) (h2:op≠.NotIn):behindInMarks op b=false:=by
 let e1:(op == CmpOp.In)=false:=by cases op <;> first | rfl | exact absurd rfl h
 let e2:(op == CmpOp.NotIn)=false:=by cases op <;> first | rfl | exact absurd rfl h2
 cases b <;> simp[behindInMarks,e1,e2]
def LP (ta:TE):TE:=λU H Q=>ta U H λx H1=>Q (.bl (decide (x=.bI))) H1
def LN (ta:TE):TE:=λU H Q=>ta U H λx H1=>Q (.bl (!decide (x=.bI))) H1
def RelV.FN (r:RelV x v):(v == Value.none)=decide (x=.bI):=by
 cases x with
 | bI=>cases r;rfl
 | bl _=>cases r;rfl
 | int _=>let⟨t,rfl⟩:=r;rfl
 | str _=>let⟨t,rfl⟩:=r;rfl
 | JF _=>let⟨t,rfl⟩:=r;rfl
 | OW _=>let⟨t,rfl⟩:=r;rfl
 | ref _=>cases r;rfl
 | ty _=>cases r;rfl
def cu (ha:PE X a ta):PC X .Is a (.Constant .none j pos') (LP ta):=by
 intro pins s U H Q I h;refine cU (ha pins s U H _ I h) λv s1 zz=>?_;let⟨x,H1,I1,r1,q1⟩:=zz;exact Constant_none (is_none_gen {.bl _,H1,I1,by rw[r1.FN];rfl,q1})
def fM (ha:PE X a ta):PC X .IsNot a (.Constant .none j pos') (LN ta):=by
 intro pins s U H Q I h;refine cU (ha pins s U H _ I h) λv s1 zz=>?_;let⟨x,H1,I1,r1,q1⟩:=zz;exact Constant_none (isnot_none_gen {.bl _,H1,I1,by rw[r1.FN];rfl,q1})
def tB (t:TE):TT:=λU H Q=>t U H λx H1=>∃c,x=.bl c/\Q c H1
def sO (h:PC X op a b t) (h1:behindInMarks op b=false<|>qc_):PE X (.Compare a [op] [b] pos) t:=λpins s U H Q I hw=>wpAny_Compare1 (h pins s U H Q I hw) h1
def bE (h:PC X op a b t) (h1:behindInMarks op b=false<|>qc_):PT X (.Compare a [op] [b] pos) (tB t):=by
 intro pins s U H Q I hw;refine wpAny_isTrue_Compare1 (cU (h pins s U H _ I hw) λv s1 h1=>cU h1 λu s2 h2=>cU h2 λc s3 ⟨x,H1,I1,r1,q1⟩=>?_) h1;let⟨d,rfl,q⟩:=q1;cases r1;exact wpAny_truthy_bool {(H1),I1,q}
def cI (h:PE X e t) (he:(∀whole,isTrue e X.env whole=(do let v <-whole;standAt e.pos;holding [v] (truthy v)))<|>qd_):PT X e (tB t):=by
 intro pins s U H Q I hw;refine isTrue_plain (cU (h pins s U H _ I hw) λv s1 ⟨x,H1,I1,r1,q1⟩=>?_) (he _);let⟨d,rfl,q⟩:=q1;cases r1;exact wpAny_truthy_bool {(H1),I1,q}
variable {tA tB':TT} {rest:List Expr}
def Qo (t u:TT):TT:=λU H Q=>t U H λc H1=>if c=true then u U H1 Q else Q false H1
def TL (t u:TT):TT:=λU H Q=>t U H λc H1=>if c=true then Q true H1 else u U H1 Q
def N4 (t:TT):TT:=λU H Q=>t U H λc H1=>Q (!c) H1
def cQ (ha:PT X a tA):PW X (.BoolOp .And [a] pos) tA:=by
 intro wh pins s U H Q I h;refine isTrue_and (cU (ha pins s U H Q I h) λc s1 e=>?_);cases c with
 | true=>exact isTrue_and_nil e
 | false=>exact e
def dw (ha:PT X a tA):PW X (.BoolOp .Or [a] pos) tA:=by
 intro wh pins s U H Q I h;refine isTrue_or (cU (ha pins s U H Q I h) λc s1 e=>?_);cases c with
 | false=>exact isTrue_or_nil e
 | true=>exact e
def dn (ha:PT X a tA) (hb:PW X (.BoolOp .And (b::rest) pos) tB'):PW X (.BoolOp .And (a::b::rest) pos) (Qo tA tB'):=by
 intro wh pins s U H Q I h;refine isTrue_and (cU (ha pins s U H _ I h) λc s1 ⟨H1,I1,q1⟩=>?_);cases c with
 | true=>exact hb wh pins s1 U H1 Q I1 q1
 | false=>exact{(H1),I1,q1}
def dY (ha:PT X a tA) (hb:PW X (.BoolOp .Or (b::rest) pos) tB'):PW X (.BoolOp .Or (a::b::rest) pos) (TL tA tB'):=by
 intro wh pins s U H Q I h;refine isTrue_or (cU (ha pins s U H _ I h) λc s1 ⟨H1,I1,q1⟩=>?_);cases c with
 | true=>exact{(H1),I1,q1}
 | false=>exact hb wh pins s1 U H1 Q I1 q1
def eI (ha:PT X a tA):PT X (.UnaryOp .Not a pos) (N4 tA):=by
 intro pins s U H Q I h;exact isTrue_not (ha pins s U H (λc H1=>Q (!c) H1) I h)
def Pt (ta tb:TE):TE:=λU H Q=>ta U H λx H1=>∃c,x=.bl c/\if c=true then tb U H1 Q else Q (.bl false) H1
def RM (ta tb:TE):TE:=λU H Q=>ta U H λx H1=>∃c,x=.bl c/\if c=true then Q (.bl true) H1 else tb U H1 Q
def Pp (ta:TE):TE:=λU H Q=>ta U H λx H1=>∃c,x=.bl c/\Q (.bl (!c)) H1
def mW (h:PE X a t):PE X (.BoolOp op [a] pos) t:=λpins s U H Q I hw=>BoolOp_one (h pins s U H Q I hw)
def pf (ha:PE X a ta) (hb:PE X (.BoolOp .And (b::rest) pos) tb):PE X (.BoolOp .And (a::b::rest) pos) (Pt ta tb):=by
 intro pins s U H Q I h;refine BoolOp_and (cU (ha pins s U H _ I h) λv s1 zz=>?_);let⟨x,H1,I1,r1,q1⟩:=zz;let⟨c,rfl,q1⟩:=q1;cases r1;refine wpAny_truthy_bool ?_;cases c with
 | true=>exact hb pins s1 U H1 Q I1 q1
 | false=>exact{.bl false,H1,I1,rfl,q1}
def Mz (ha:PE X a ta) (hb:PE X (.BoolOp .Or (b::rest) pos) tb):PE X (.BoolOp .Or (a::b::rest) pos) (RM ta tb):=by
 intro pins s U H Q I h;refine BoolOp_or (cU (ha pins s U H _ I h) λv s1 zz=>?_);let⟨x,H1,I1,r1,q1⟩:=zz;let⟨c,rfl,q1⟩:=q1;cases r1;refine wpAny_truthy_bool ?_;cases c with
 | false=>exact hb pins s1 U H1 Q I1 q1
 | true=>exact{.bl true,H1,I1,rfl,q1}
def QF (ha:PE X a ta):PE X (.UnaryOp .Not a pos) (Pp ta):=by
 intro pins s U H Q I h;refine UnaryOp_ (cU (ha pins s U H _ I h) λv s1 zz=>?_);let⟨x,H1,I1,r1,q1⟩:=zz;let⟨c,rfl,q1⟩:=q1;cases r1;exact not_of (wpAny_truthy_bool {.bl (!c),H1,I1,rfl,q1})
def Uu (t:TT) (ta tb:TE):TE:=λU H Q=>t U H λc H1=>if c=true then ta U H1 Q else tb U H1 Q
def Fq (hc:PT X c tA) (ha:PE X a ta) (hb:PE X b tb):PE X (.IfExp c a b pos) (Uu tA ta tb):=by
 intro pins s U H Q I h;refine wpAny_IfExp (cU (hc pins s U H _ I h) λd s1 ⟨H1,I1,q1⟩=>?_);cases d with
 | true=>exact ha pins s1 U H1 Q I1 q1
 | false=>exact hb pins s1 U H1 Q I1 q1
end
end L2
namespace L2
open PySem PySem.Spec PyProof.Rows
def aH (K:yB) (H:Hp) (a:Addr) (xs:List V):Prop:=
 Rd H a (.lst xs)\/
  ∃(o:Obj) (its:Array Value) (n:Nat),K.lookup a=some o/\o.cls=.type "list"/\o.dict=none/\o.data=.seq its n/\its.size<=sizeLine/\Vals xs its.toList
def cY (K:yB) (H:Hp) (a:Addr) (xs:List V):Prop:=
 Rd H a (.tup xs)\/
  ∃(o:Obj) (its:Array Value) (n:Nat),K.lookup a=some o/\o.cls=.type "tuple"/\o.data=.seq its n/\its.size<=sizeLine/\Vals xs its.toList
def Uo:Value->Option V
 | .none=>some .bI
 | .bool b=>some (.bl b)
 | .int i _=>some (.int i)
 | .str x _=>some (.str x)
 | .bytes b _=>some (.JF b)
 | .float b _=>some (.OW b)
 | .ref a=>some (.ref a)
 | .type n=>some (.ty n)
 | _=>none
def RelV.abs (r:RelV x u):Uo u=some x:=by
 cases x with
 | bI=>cases r;rfl
 | bl _=>cases r;rfl
 | int _=>let⟨t,rfl⟩:=r;rfl
 | str _=>let⟨t,rfl⟩:=r;rfl
 | JF _=>let⟨t,rfl⟩:=r;rfl
 | OW _=>let⟨t,rfl⟩:=r;rfl
 | ref _=>cases r;rfl
 | ty _=>cases r;rfl
def RelV.inj (r:RelV x u) (q:RelV y u):x=y:=yk (r.abs.symm.trans q.abs)
theorem Vals.inj:∀{xs ys:List V} {us:List Value},Vals xs us->Vals ys us->xs=ys
 | _,_,_,.nil,.nil=>rfl
 | _,_,_,.cons r t,.cons r' t'=>by rw[r.inj r',Vals.inj t t']
section
variable {X:Cx} {pins:List (Addr×Obj)} {U:St} {H:Hp} {s:Shared} {a:Addr} {xs ys:List V}
def aH.of {K:yB} (h:H a=some (.lst xs)):aH K H a xs:=.inl (.inl h)
def cY.of {K:yB} (h:H a=some (.tup xs)):cY K H a xs:=.inl (.inl h)
def Inv.list (I:Inv X pins U H s) (h:aH X.K H a xs):∃its:List Value,Vals xs its/\PlainL s.heap a its.toArray/\⇑xs<=sizeLine:=by
 rcases h with h | ⟨o,its,n,hk,hc,hd,hs,hz,r⟩
 ·let⟨z,its,n,r,e⟩:=h.ok I.b7
  exact{its,r,{_,n,e,rfl,rfl,rfl},z}
 ·refine{its.toList,r,{o,n,I.qW a o hk,hc,hd,by simpa using hs},?_}
  let e:=⇑r;simp only[Array.length_toList] at e;omega
def Inv.tuple (I:Inv X pins U H s) (h:cY X.K H a xs):∃its:List Value,Vals xs its/\IsTup s.heap a its.toArray/\⇑xs<=sizeLine:=by
 rcases h with h | ⟨o,its,n,hk,hc,hs,hz,r⟩
 ·let⟨z,its,r,p⟩:=h.ok I.b7
  exact{(its),r,p,z}
 ·refine{its.toList,r,{o,I.qW a o hk,hc,n,by simpa using hs},?_}
  let e:=⇑r;simp only[Array.length_toList] at e;omega
def Inv.xg (I:Inv X pins U H s) (h:aH X.K H a xs) (h':aH X.K H a ys):xs=ys:=by
 let⟨its,r,⟨o,n,e,_,_,d⟩,_⟩:=I.list h;let⟨its',r',⟨o',n',e',_,_,d'⟩,_⟩:=I.list h';rw[e] at e';cases e';rw[d] at d';injection d' with d1 _;have:its=its':=by simpa using congrArg Array.toList d1
 subst this;exact r.inj r'
def Inv.Bq (I:Inv X pins U H s) (h:cY X.K H a xs) (h':cY X.K H a ys):xs=ys:=by
 let⟨its,r,⟨o,e,_,n,d⟩,_⟩:=I.tuple h;let⟨its',r',⟨o',e',_,n',d'⟩,_⟩:=I.tuple h';rw[e] at e';cases e';rw[d] at d';injection d' with d1 _;have:its=its':=by simpa using congrArg Array.toList d1
 subst this;exact r.inj r'
end
abbrev Cx.pU (X:Cx) (E:Value->Shared->Prop):Cx:={X with xe:=E}
abbrev Cx.HN (X:Cx):Cx:=X.pU λ_ _=>False
theorem Cx.Ok.pU {X:Cx} (ok:X.Ok) (E:Value->Shared->Prop):(X.pU E).Ok:=
 {(ok.mod),ok.kind,ok.glob,ok.blt,ok.above,ok.inj,ok.has,ok.Rh,ok.hd,ok.frames,ok.Rr,ok.SW,ok.bs,ok.Lq,ok.uY,ok.Ia,ok.ox,ok.F1}
def Cx.Ok.gS {X:Cx} {E:Value->Shared->Prop} (ok:(X.pU E).Ok):X.Ok:=
 {(ok.mod),ok.kind,ok.glob,ok.blt,ok.above,ok.inj,ok.has,ok.Rh,ok.hd,ok.frames,ok.Rr,ok.SW,ok.bs,ok.Lq,ok.uY,ok.Ia,ok.ox,ok.F1}
section
variable {X:Cx} {pins:List (Addr×Obj)} {U:St} {H:Hp} {s:Shared} {E:Value->Shared->Prop}
theorem Inv.pU (I:Inv X pins U H s) (E:Value->Shared->Prop):Inv (X.pU E) pins U H s:={I.ok.pU E,I.os,I.bare,I.base,I.loc,I.cell,I.free,I.jO,I.pin,I.b7,I.len}
theorem Inv.gS (I:Inv (X.pU E) pins U H s):Inv X pins U H s:={(I.ok.gS),I.os,I.bare,I.base,I.loc,I.cell,I.free,I.jO,I.pin,I.b7,I.len}
theorem SP.gS (h:SP (X.pU E) pins D f s'):SP X pins D f s':=by
 cases f with
 | next=>let⟨U',H',I,q⟩:=h;exact{U',H',I.gS,q}
 | brk=>let⟨U',H',I,q⟩:=h;exact{U',H',I.gS,q}
 | cont=>let⟨U',H',I,q⟩:=h;exact{U',H',I.gS,q}
 | ret u=>let⟨v,U',H',I,r,q⟩:=h;exact{v,U',H',I.gS,r,q}
theorem Bk.HN {st:List Stmt} {t:TS} (h:Bk X.HN st t):Bk X st t:=λpins s U H D I hw=>
 wpAny_mono (h pins s U H D (I.pU _) hw) (λ_ _ q=>q.gS) λ_ _ z=>False.elim z
end
section
variable {X:Cx} {st:Stmt} {rest:List Stmt} {t u:TS} {e:Expr} {te:TE} {pos:Pos}
def Pq:TS:=λD U H=>D.nx U H
def Qc (t u:TS):TS:=λD U H=>t {D with nx:=u D} U H
def ax:Bk X [] Pq:=λ_ _ U H _ I h=>wpAny_execs_nil {U,H,I,h}
def af (h1:PS X st t) (h2:Bk X rest u):Bk X (st::rest) (Qc t u):=by
 intro pins s U H D I h;refine wpAny_execs_cons (cU (h1 pins s U H {D with nx:=u D} I h) λf s1 q=>?_);cases f with
 | next=>
  let⟨U',H',I',q⟩:=q;exact h2 pins s1 U' H' D I' q
 | ret v=>exact q
 | brk=>exact q
 | cont=>exact q
def aj (h1:PS X st t):Bk X [st] t:=by
 intro pins s U H D I h;refine wpAny_execs_cons (cU (h1 pins s U H D I h) λf s1 q=>?_);cases f with
 | next=>exact wpAny_execs_nil q
 | ret v=>exact q
 | brk=>exact q
 | cont=>exact q
def Qn:TS:=λD U H=>D.bk U H
def Mu:PS X (.Break pos) Qn:=λ_ _ U H _ I h=>wpAny_Break {U,H,I,h}
def Inv.quiet (I:Inv X pins U H s):interactive X.env=false:=by simp[interactive,I.ok.kind]
def Pr (te:TE):TS:=λD U H=>te U H λ_ H1=>D.nx U H1
def bw (he:PE X e te) (hs:swapsWith e none pos.line X.env=pure false<|>qe_):PS X (.Expr e pos) (Pr te):=by
 intro pins s U H D I h;exact wpAny_Expr_any (cU (he pins s U H _ I h) λv s1 ⟨x,H1,I1,r1,q1⟩=>{U,H1,I1,q1}) I.quiet hs
def Qd (te:TE):TS:=λD U H=>te U H D.rt
def ao (he:PE X e te):PS X (.Return (some e) pos) (Qd te):=by
 intro pins s U H D I h;exact wpAny_Return_some (cU (he pins s U H _ I h) λv s1 ⟨x,H1,I1,r1,q1⟩=>{x,U,H1,I1,r1,q1})
def N5 (c:TT) (t u:TS):TS:=λD U H=>c U H λb H1=>if b=true then t D U H1 else u D U H1
def aG (hc:PT X c tc) (ha:Bk X a t) (hb:Bk X b u):PS X (.If c a b pos) (N5 tc t u):=by
 intro pins s U H D I h;refine wpAny_If (cU (hc pins s U H _ I h) λd s1 ⟨H1,I1,q1⟩=>?_);cases d with
 | true=>exact ha pins s1 U H1 D I1 q1
 | false=>exact hb pins s1 U H1 D I1 q1
def LO:TS:=λ_ _ _=>False
def Ms:PS X st LO:=λ_ _ _ _ _ _ h=>h.elim
def By {sts:List Stmt}:Bk X sts LO:=λ_ _ _ _ _ _ h=>h.elim
end
abbrev TG:=V->St->Hp->(St->Hp->Prop)->Prop
abbrev SA:=List V->St->Hp->(St->Hp->Prop)->Prop
def PG (X:Cx) (target:Expr) (t:TG):Prop:=
 ∀(pins:List (Addr×Obj)) (s:Shared) (U:St) (H:Hp) (v:V) (u:Value) (Q:St->Hp->Prop),Inv X pins U H s->RelV v u->t v U H Q->
  wpAny (model X.prog X.w) X.A (assign target X.env u) (λ_ s'=>∃U' H',Inv X pins U' H' s'/\Q U' H') X.xe s
def S6 (X:Cx) (ts:List Expr) (t:SA):Prop:=
 ∀(pins:List (Addr×Obj)) (s:Shared) (U:St) (H:Hp) (vs:List V) (us:List Value) (Q:St->Hp->Prop),Inv X pins U H s->Vals vs us->t vs U H Q->
  wpAny (model X.prog X.w) X.A (assignInOrder ((assignEach ts X.env).map (·.2)) us) (λ_ s'=>∃U' H',Inv X pins U' H' s'/\Q U' H') X.xe s
section
variable {X:Cx} {pos:Pos}
def bS (i:Nat):TG:=λv U H Q=>Q (U.set i (some v)) H
def Jl (hN:X.N.Nodup) (hi:X.N[i]?=some x) (hx:Loc X.env.scope x) (hf:X.fn x=true\/X.env.scope.names.lookup x=some .local<|>qa_):PG X (.Name x pos) (bS i):=by
 intro pins s U H v u Q I r h;exact wpAny_assign_Name (mM I hN hi hx r (λs' I'=>{_,H,I',h}) hf)
def Dq:SA:=λvs U H Q=>vs=[]/\Q U H
def fm (t:TG) (u:SA):SA:=λvs U H Q=>∃v r,vs=v::r/\t v U H λU' H'=>u r U' H' Q
def de:S6 X [] Dq:=by
 intro pins s U H vs us Q I r h;let⟨e,h⟩:=h;subst e;cases r;exact assignInOrder_nil {U,H,I,h}
def aM (h1:PG X e t) (h2:S6 X es u)
  (hs:(assignEach (e::es) X.env).map (·.2)=assign e X.env::(assignEach es X.env).map (·.2)<|>qe_):S6 X (e::es) (fm t u):=by
 intro pins s U H vs us Q I r h;let⟨v,vr,e1,h⟩:=h;subst e1;cases r with
 | cons r rr=>
  rw[hs];refine assignInOrder_cons (cU (h1 pins s U H _ _ _ I r h) λ_ s1 ⟨U1,H1,I1,q1⟩=>?_);exact h2 pins s1 U1 H1 _ _ Q I1 rr q1
def Dp (K:yB) (n:Nat) (t:SA):TG:=λv U H Q=>∃a xs,v=.ref a/\cY K H a xs/\⇑xs=n/\t xs U H Q
def dP (hc:X.calm=true) (h:S6 X es t)
  (hn:⇑(assignEach es X.env)=n<|>qe_) (hst:(assignEach es X.env).findIdx? (·.1)=none<|>qe_):PG X (.Tuple es k pos) (Dp X.K n t):=by
 intro pins s U H v u Q I r hw;let⟨a,xs,e1,hq,hl,hw⟩:=hw;subst e1;cases r;let⟨its,rv,ht,hz⟩:=I.tuple hq;refine assign_Tuple_tuple (I.ok.hd hc) ht (by simp[hn,<-hl,⇑rv]) hst λh' hx=>?_;let I1:Inv X pins U H {s with heap:=h'}:=I.kept (t':=s.toks) λb o e=>hx b o (yj (yy e)) e;exact h pins _ U H xs _ Q I1 (by simpa using rv) hw
def EL (te:TE) (g:TG):TS:=λD U H=>te U H λx H1=>g x U H1 D.nx
def Mq (hN:X.N.Nodup) (hi:X.N[i]?=some x) (hx:Loc X.env.scope x) (he:PE X e te) (hs:swapsWith e (some (.Name x pos')) pos.line X.env=pure false<|>qe_) (hf:X.fn x=true\/X.env.scope.names.lookup x=some .local<|>qa_) :
  PS X (.Assign [.Name x pos'] e pos) (EL te (bS i)):=by
 intro pins s U H D I h;refine wpAny_Assign_Name (cU (he pins s U H _ I h) λv s1 ⟨y,H1,I1,r1,q1⟩=>?_) hs;exact mM I1 hN hi hx r1 (λs2 I2=>{_,H1,I2,q1}) hf
def TK (i j:Nat) (ta:TA):TS:=λD U H=>ta U H λvs H1=>∃v w,vs=[v,w]/\D.nx ((U.set i (some v)).set j (some w)) H1
def Mr (hc:X.calm=true) (hN:X.N.Nodup) (hi:X.N[i]?=some x) (hj:X.N[j]?=some y) (hij:i≠j)
  (hx:X.env.scope.names.lookup x=some .local) (hy:X.env.scope.names.lookup y=some .local) (ha:PA X [a,b] ta)
  (hw:swappedStores [.Tuple [.Name x px,.Name y py] kt pt] (.Tuple [a,b] k2 pt2) X.env=pure (some [x,y]))
  (hs:swapsWithSole [.Tuple [.Name x px,.Name y py] kt pt] (.Tuple [a,b] k2 pt2) pos.line X.env=pure false<|>qe_) :
  PS X (.Assign [.Tuple [.Name x px,.Name y py] kt pt] (.Tuple [a,b] k2 pt2) pos) (TK i j ta):=by
 intro pins s U H D I h;rw[exec_Assign_arm];refine yu (wpAny_standAt ?_);rw[hs];refine yu (yw ?_);rw[if_neg ∅];refine yu (Tuple_ (cU (ha _ pins s U H _ I h) λus s1 zz=>?_));let⟨vs,H1,I1,r1,q1⟩:=zz;let⟨v,w,e1,q1⟩:=q1;subst e1;obtain⟨u1,u2,rfl,rv,rw'⟩:∃u1 u2,us=[u1,u2]/\RelV v u1/\RelV w u2:=by
  cases r1 with
  | cons p q=>
   cases q with
   | cons p' q'=>
    cases q';exact{_,_,rfl,p,p'}
 refine wpAny_newObj_type ?_ (by show 2<=sizeLine;decide);let I2:Inv X pins U H1 {s1 with heap:=s1.heap.push {cls:=.type "tuple",data:=.seq [u1,u2].toArray}}:=I1.kept (t':=s1.toks) λb o e=>yv _ e;rw[hw];refine yu (yw ?_);show wpAny (model X.prog X.w) X.A (do rule "assign.swapped-stores";let items <-unpackItems (.ref ↑s1) 2 none;assignInOrder [λv=>bindName X.env y v,λv=>bindName X.env x v] items.reverse;pure Flow.next) _ _ _;refine yu (wpAny_rule (yu (unpackItems_tuple (items:=#[u1,u2]) (I.ok.hd hc) (IsTup.new s1.heap _) λh' hx'=>?_)));let I3:=I2.kept (h':=h') (t':=s1.toks) λb o e=>hx' b o (yj (yy e)) e;show wpAny _ _ (assignInOrder [λv=>bindName X.env y v,λv=>bindName X.env x v] [u2,u1] >>= λ_=>pure Flow.next) _ _ _;refine yu (assignInOrder_cons (wpAny_bindName (mM I3 hN hj (.inl hy) rw' (λs2 I4=>?_) (.inr hy))));refine assignInOrder_cons (wpAny_bindName (mM I4 hN hi (.inl hx) rv (λs3 I5=>assignInOrder_nil (yw ?_)) (.inr hx)));rw[List.set_comm _ _ (Ne.symm hij)] at I5;exact{_,H1,I5,q1}
end
section
variable {X:Cx} {pos:Pos}
def LL (c:TT) (tb:TS):TS:=λD U H=>∃W:Nat->St->Hp->Prop,(∃m,W m U H)/\∀m U H,W m U H->
 c U H λb H1=>if b=true then∃N:St->Hp->Prop,(∀U' H',N U' H'->∃m',m'<m/\W m' U' H')/\tb {D with nx:=N,ct:=N,bk:=D.nx} U H1 else D.nx U H1
def mU (hp:PassesOwn (model X.prog X.w) X.A X.env X.xe) (hc:PT X c tc) (hb:Bk X body tb):PS X (.While c body [] pos) (LL tc tb):=by
 intro pins s U H D I h;let⟨W,⟨m0,w0⟩,turn⟩:=h;refine wpAny_While (codeAny_whileLoop (λn s'=>∃U' H',Inv X pins U' H' s'/\W n U' H') ?_ m0 {U,H,I,w0});rintro n s1 ⟨U1,H1,I1,w1⟩;refine wpAny_passesOwn hp (cU (hc pins s1 U1 H1 _ I1 (turn n U1 H1 w1)) λb s2 ⟨H2,I2,q2⟩=>?_);cases b with
 | true=>
  let⟨N,hN,q2⟩:=q2;rw[if_pos rfl];refine wpAny_passesOwn hp (cU (hb pins s2 U1 H2 _ I2 q2) λf s3 q3=>?_);cases f with
  | next=>
   let⟨U3,H3,I3,n3⟩:=q3;let⟨m',hm,w3⟩:=hN U3 H3 n3;exact{m',hm,U3,H3,I3,w3}
  | cont=>
   let⟨U3,H3,I3,n3⟩:=q3;let⟨m',hm,w3⟩:=hN U3 H3 n3;exact{m',hm,U3,H3,I3,w3}
  | brk=>exact q3
  | ret v=>exact q3
 | false=>
  rw[if_neg zL];exact wpAny_execs_nil {U1,H2,I2,q2}
end
structure It where
 go:Nat->Hp->Prop
 JR:Nat->Hp->V->Hp->Prop
 stop:Nat->Hp->Prop
def pT (X:Cx) (pins:List (Addr×Obj)) (H:Hp) (b:Addr):Prop:=
 H b=none/\b≠X.env.locals/\b∉X.fs/\(b∈X.ex\/X.s₀.heap.objs.size<=b)/\(∀x c,X.env.cells.lookup x=some c->c≠b)/\∀p∈X.pn++pins,p.1≠b
def Inv.u9 (I:Inv X pins U H s) (hb:↑s<=b) (hn:H' b=none):pT X pins H' b:=by
 refine{hn,yi (yc I.lt hb),I.R5 hb,.inr (zM I.sz hb),λx c e z=>?_,λp hp z=>?_}
 ·let⟨v,q⟩:=I.cell x c e
  exact absurd (yc q.lt (by rw[z];exact hb)) (yf _)
 ·exact absurd (yc (yy (I.pin p hp).1) (by rw[z];exact hb)) (yf _)
structure Turn (P:Program) (w:World) (K:yB) (tg:Expr) (J:It) (fp:List Addr) (it:Addr) (tn:Nat->Heap->Prop):Prop where
 mem:it∈fp
 obj:∀i h,tn i h->∀b∈fp,∃o,h.get? b=some o/\∀v,o.data≠.cell v
 keep:∀i h h',tn i h->(∀b∈fp,∀o,h.get? b=some o->h'.get? b=some o)->tn i h'
 item:∀(X:Cx),X.prog=P->X.w=w->X.K=K->X.calm=true->∀(i:Nat) (pins:List (Addr×Obj)) (s:Shared) (U:St) (H:Hp) (E:Value->Shared->Prop),Inv X pins U H s->(∀b∈fp,pT X pins H b)->tn i s.heap->J.go i H->
  wpAny (model P w) X.A (pyNext (.ref it)) (λr s1=>∃u,r=some u/\
   wpAny (model P w) X.A (letOwnedTupleGo tg (.ref it) u) (λ_ s2=>∃x H',Inv X pins U H' s2/\RelV x u/\J.JR i H x H'/\tn (i+1) s2.heap/\∀b∈fp,H' b=none) E s1) E s
 done:∀(X:Cx),X.prog=P->X.w=w->X.K=K->X.calm=true->∀(i:Nat) (pins:List (Addr×Obj)) (s:Shared) (U:St) (H:Hp) (E:Value->Shared->Prop),Inv X pins U H s->(∀b∈fp,pT X pins H b)->tn i s.heap->J.stop i H->
  wpAny (model P w) X.A (pyNext (.ref it)) (λr s1=>r=none/\Inv X pins U H s1) E s
 self:∀(A:Around) (i:Nat) (s:Shared) (Q:Value->Shared->Prop) (E:Value->Shared->Prop),tn i s.heap->Q (.ref it) s->wpAny (model P w) A (pyIter (.ref it)) Q E s
abbrev TI:=St->Hp->(It->Hp->Prop)->Prop
def UB (X:Cx) (pins:List (Addr×Obj)) (U:St) (tg:Expr) (R:It->Hp->Prop) (itv:Value) (s2:Shared):Prop:=
 ∃(it:Addr) (fp:List Addr) (tn:Nat->Heap->Prop) (J:It) (H':Hp),itv=.ref it/\Inv X pins U H' s2/\Turn X.prog X.w X.K tg J fp it tn/\tn 0 s2.heap/\(∀b∈fp,pT X pins H' b)/\R J H'
def PI (X:Cx) (tg iter:Expr) (wi:TI):Prop:=
 ∀(pins:List (Addr×Obj)) (s:Shared) (U:St) (H:Hp) (R:It->Hp->Prop),Inv X pins U H s->wi U H R->
  wpAny (model X.prog X.w) X.A (eval iter X.env) (λv s1=>wpAny (model X.prog X.w) X.A (pyIter v) (UB X pins U tg R) X.xe s1) X.xe s
def BO (ho:s.heap.get? it=some o) (hc:o.cls=.type n) (hd:o.data=.fields vs)
    (hn:["enumerate","zip","dict_itemiterator","dict_reverseitemiterator","odict_iterator","itertools.zip_longest","itertools.pairwise"].contains n=false) (hQ:Q () s):wpAny M A (letOwnedTupleGo tg (.ref it) u) Q E s:=by
  unfold letOwnedTupleGo;cases tg <;> first
    | exact yw hQ
    | (cases u <;> first
        | exact yw hQ
        | (refine yu (wpAny_load ho ?_)
           rw[hc,hd];show wpAny M A (if(["enumerate","zip","dict_itemiterator","dict_reverseitemiterator","odict_iterator","itertools.zip_longest","itertools.pairwise"].contains n&&vs[0]? == some (rawInt _))=true then _ else _) Q E s;rw[if_neg (by intro h;rw[hn,Bool.false_and] at h;cases h)];exact yw hQ))
def Lh (K:yB) (a:Addr):It:=
 {λi H=>∃xs x,aH K H a xs/\xs[i]?=some x,λi H x H'=>H'=H/\∀xs,aH K H a xs->xs[i]?=some x,λi H=>∃xs,aH K H a xs/\⇑xs<=i}
def Ph (K:yB) (a:Addr):It:=
 {λi H=>∃xs x,cY K H a xs/\xs[i]?=some x,λi H x H'=>H'=H/\∀xs,cY K H a xs->xs[i]?=some x,λi H=>∃xs,cY K H a xs/\⇑xs<=i}
def NP (lo:Int) (n:Nat):It:={λi _=>i<n,λi H x H'=>H'=H/\x=.int (lo+i),λi _=>n<=i}
def JT {P:Program} {w:World} {K:yB} {tg:Expr} (a it:Addr):Turn P w K tg (Lh K a) [it] it (λi h=>h.IsListIter it a i) where
 mem:=by simp
 obj:=λi h st b hb=>by
  let e:b=it:=by simpa using hb
  subst e;let⟨o,e,c,d⟩:=st;exact{o,e,λv z=>by rw[d] at z;cases z}
 keep:=λi h h' st k=>st.at λo e=>k it (by simp) o e
 item:=by
  intro X hP hw hK hc i pins s U H E I hf st hg;subst hP hw hK;let⟨xs,x,hq,hx⟩:=hg;let⟨its,rv,p,hz⟩:=I.list hq;let⟨u,hu,ru⟩:=rv.get hx;let⟨f0,f1,f2,f3,f4,f5⟩:=hf it (by simp);refine wpAny_pyNext_list_item st p.isList (x:=u) (by simpa using hu) λh' st' sb=>?_;let I1:Inv X pins U H {s with heap:=h'}:=I.turned (t':=s.toks) (λb o hb e=>(sb.2 b hb).trans e) f0 f1 f3 f4 f5;let⟨o,e,c,d⟩:=id st';exact{u,rfl,BO (s:={s with heap:=h'}) e c d ∅ {x,H,I1,ru,{rfl,λys hy=>by rw[I.xg hy hq];exact hx},st',λb hb=>(hf b hb).1}}
 done:=by
  intro X hP hw hK hc i pins s U H E I hf st hg;subst hP hw hK;let⟨xs,hq,hx⟩:=hg;let⟨its,rv,p,hz⟩:=I.list hq;let⟨f0,f1,f2,f3,f4,f5⟩:=hf it (by simp);let hl:=⇑rv;exact wpAny_pyNext_list_end (I.ok.hd hc) st p.isList (by simp;omega) λh' eb=>{rfl,I.turned (t':=s.toks) (λb o hb e=>eb b o hb e) f0 f1 f3 f4 f5}
 self:=λ_ _ _ _ _ st h=>wpAny_pyIter_listiter st h
def G4 {P:Program} {w:World} {K:yB} {tg:Expr} (a it:Addr):Turn P w K tg (Ph K a) [it] it (λi h=>h.IsTupleIter it a i) where
 mem:=by simp
 obj:=λi h st b hb=>by
  let e:b=it:=by simpa using hb
  subst e;let⟨o,e,c,d⟩:=st;exact{o,e,λv z=>by rw[d] at z;cases z}
 keep:=λi h h' st k=>st.at λo e=>k it (by simp) o e
 item:=by
  intro X hP hw hK hc i pins s U H E I hf st hg;subst hP hw hK;let⟨xs,x,hq,hx⟩:=hg;let⟨its,rv,p,hz⟩:=I.tuple hq;let⟨u,hu,ru⟩:=rv.get hx;let⟨f0,f1,f2,f3,f4,f5⟩:=hf it (by simp);refine wpAny_pyNext_tuple_item st (show s.heap.IsTuple a its.toArray from p) (x:=u) (by simpa using hu) λh' st' sb=>?_;let I1:Inv X pins U H {s with heap:=h'}:=I.turned (t':=s.toks) (λb o hb e=>(sb.2 b hb).trans e) f0 f1 f3 f4 f5;let⟨o,e,c,d⟩:=id st';exact{u,rfl,BO (s:={s with heap:=h'}) e c d ∅ {x,H,I1,ru,{rfl,λys hy=>by rw[I.Bq hy hq];exact hx},st',λb hb=>(hf b hb).1}}
 done:=by
  intro X hP hw hK hc i pins s U H E I hf st hg;subst hP hw hK;let⟨xs,hq,hx⟩:=hg;let⟨its,rv,p,hz⟩:=I.tuple hq;let⟨f0,f1,f2,f3,f4,f5⟩:=hf it (by simp);let hl:=⇑rv;exact wpAny_pyNext_tuple_end (I.ok.hd hc) st (show s.heap.IsTuple a its.toArray from p) (by simp;omega) λh' eb=>{rfl,I.turned (t':=s.toks) (λb o hb e=>eb b o hb e) f0 f1 f3 f4 f5}
 self:=λ_ _ _ _ _ st h=>wpAny_pyIter_tupleiter st h
def G5 {P:Program} {w:World} {K:yB} {tg:Expr} (it:Addr) (lo:Int) (n:Nat):Turn P w K tg (NP lo n) [it] it (λi h=>IsRangeIter h it (lo+(i:Nat)*1) ((n:Int)-(i:Nat)) 1) where
 mem:=by simp
 obj:=λi h st b hb=>by
  let e:b=it:=by simpa using hb
  subst e;exact{_,st,λv z=>by
   let z':Data.fields _=Data.cell v:=z;cases z'}
 keep:=λi h h' st k=>k it (by simp) _ st
 item:=by
  intro X hP hw hK hc i pins s U H E I hf st hg;subst hP hw hK;let⟨f0,f1,f2,f3,f4,f5⟩:=hf it (by simp);let W:=Walks.range (prog:=X.prog) (w:=X.w) (I.ok.hd hc) it lo 1 n;refine W.item i s _ _ hg st λv h' tk hv st' kk=>?_;let⟨t,rfl⟩:=hv;let I1:Inv X pins U H {s with heap:=h',toks:=tk}:=I.turned (λb o hb e=>kk b o (by simpa using hb) e) f0 f1 f3 f4 f5;refine{_,rfl,BO (s:={s with heap:=h',toks:=tk}) (n:="range_iterator") st' rfl rfl ∅ {.int (lo+i),H,I1,{t,?_},{(rfl),rfl},st',λb hb=>(hf b hb).1}};rw[Int.mul_one]
 done:=by
  intro X hP hw hK hc i pins s U H E I hf st hg;subst hP hw hK;let⟨f0,f1,f2,f3,f4,f5⟩:=hf it (by simp);exact wpAny_pyNext_range_end (I.ok.hd hc) st (by have:n<=i:=hg;omega) λh' eb=>{rfl,I.turned (t':=s.toks) (λb o hb e=>eb b o hb e) f0 f1 f3 f4 f5}
 self:=λ_ _ _ _ _ st h=>wpAny_pyIter_rangeiter st h
end L2
namespace L2
open PySem PySem.Spec PyProof.Rows
section
variable {X:Cx} {tg:Expr}
def Jt (K:yB) (tl:TE):TI:=λU H R=>tl U H λx H1=>∃a,x=.ref a/\(∃xs,aH K H1 a xs)/\R (Lh K a) H1
def Ue (K:yB) (tl:TE):TI:=λU H R=>tl U H λx H1=>∃a,x=.ref a/\(∃xs,cY K H1 a xs)/\R (Ph K a) H1
def aZ {l:Expr} {tl:TE} (hl:PE X l tl):PI X tg l (Jt X.K tl):=by
 intro pins s U H R I h;refine cU (hl pins s U H _ I h) λv s1 zz=>?_;let⟨x,H1,I1,r1,q1⟩:=zz;let⟨a,e,⟨xs,hq⟩,q⟩:=q1;subst e;cases r1;let⟨its,rv,p,hz⟩:=I1.list hq;refine wpAny_pyIter_list p.isList ?_;refine{↑s1,[↑s1],_,_,H1,rfl,I1.kept (t':=s1.toks) λb o e=>yv _ e,JT a _,{_,yx _ rfl,rfl,rfl},λb hb=>?_,q};let e:b=↑s1:=by simpa using hb
 subst e;exact I1.u9 (zm _) (I1.b7.fresh (zm _))
def iY {l:Expr} {tl:TE} (hl:PE X l tl):PI X tg l (Ue X.K tl):=by
 intro pins s U H R I h;refine cU (hl pins s U H _ I h) λv s1 zz=>?_;let⟨x,H1,I1,r1,q1⟩:=zz;let⟨a,e,⟨xs,hq⟩,q⟩:=q1;subst e;cases r1;let⟨its,rv,p,hz⟩:=I1.tuple hq;refine wpAny_pyIter_tuple (show s1.heap.IsTuple a its.toArray from p) ?_;refine{↑s1,[↑s1],_,_,H1,rfl,I1.kept (t':=s1.toks) λb o e=>yv _ e,G4 a _,{_,yx _ rfl,rfl,rfl},λb hb=>?_,q};let e:b=↑s1:=by simpa using hb
 subst e;exact I1.u9 (zm _) (I1.b7.fresh (zm _))
def Fl {pins:List (Addr×Obj)} {U:St} {H:Hp} {s:Shared} {R:It->Hp->Prop} {E:Value->Shared->Prop} {lo hi:Int} {t u v:Tok} {tk:Nat} (I:Inv X pins U H s) (h1:-(2^62)<=lo) (h2:lo<2^62) (h3:-(2^62)<=hi) (h4:hi<2^62)
  (q:R (NP lo (hi-lo).toNat) H):wpAny (model X.prog X.w) X.A (pyIter (.ref ↑s)) (UB X pins U tg R) E {s with heap:=s.heap.push {cls:=.type "range",data:=.fields #[.int lo t,.int hi u,.int 1 v]},toks:=tk}:=by
 refine wpAny_pyIter_range (IsRange.new ..) (small_one h1 h2 h3 h4) ?_;let I1:Inv X pins U H {s with heap:=s.heap.push {cls:=.type "range",data:=.fields #[.int lo t,.int hi u,.int 1 v]},toks:=tk}:=I.kept λb o e=>yv _ e;refine{(s.heap.push {cls:=.type "range",data:=.fields #[.int lo t,.int hi u,.int 1 v]}).objs.size,[(s.heap.push {cls:=.type "range",data:=.fields #[.int lo t,.int hi u,.int 1 v]}).objs.size],_,_,H,rfl,
  I1.kept (t':=tk) λb o e=>yv _ e,G5 _ lo (hi-lo).toNat,?_,λb hb=>?_,q}
 ·let e1:lo+((0:Nat):Int)*1=lo:=by simp
  let e2:(((hi-lo).toNat:Nat):Int)-((0:Nat):Int)=Builtin.Range.rangeSize lo hi 1:=by rw[rangeSize_one];split <;> omega
  show IsRangeIter _ _ (lo+((0:Nat):Int)*1) ((((hi-lo).toNat:Nat):Int)-((0:Nat):Int)) 1;rw[e1,e2];exact yx _ rfl
 ·let e:b=(s.heap.push {cls:=.type "range",data:=.fields #[.int lo t,.int hi u,.int 1 v]}).objs.size:=by simpa using hb
  subst e;exact I1.u9 (zm _) (I1.b7.fresh (zm _))
def M3 (ta:TA):TI:=λU H R=>ta U H λvs H1=>∃j:Int,vs=[.int j]/\-(2^62)<=j/\j<2^62/\R (NP 0 j.toNat) H1
def Sh (ta:TA):TI:=λU H R=>ta U H λvs H1=>∃i j:Int,vs=[.int i,.int j]/\(-(2^62)<=i/\i<2^62/\-(2^62)<=j/\j<2^62)/\R (NP i (j-i).toNat) H1
def dk {a:Expr} {ta:TA} {p pos:Pos} (hg:Gl X "range") (hm:X.mg "range"= none) (ha:PA X [a] ta) (hs:starEach [a] X.env=[(false,eval a X.env)]<|>qe_):PI X tg (.Call (.Name "range" p) [a] [] pos) (M3 ta):=by
 intro pins s U H R I h;refine Call_ (je I hg hm boot_range (yM (cU (ha pos pins s U H _ I h) λus s1 ⟨vs,H1,I1,r1,q1⟩=>?_) hs rfl));let⟨j,e,q1,q2,q⟩:=q1;subst e;cases r1 with
 | cons r rr=>
  cases rr;let⟨t,rfl⟩:=r;exact call_range_1 (Fl I1 nofun nofun q1 q2 (by simpa using q))
def kr (hg:Gl X "range") (hm:X.mg "range"= none) (ha:PA X [a,b] ta) (hs:starEach [a,b] X.env=[(false,eval a X.env),(false,eval b X.env)]<|>qe_) (hs2:starEach [b] X.env=[(false,eval b X.env)]<|>qe_) :
  PI X tg (.Call (.Name "range" p) [a,b] [] pos) (Sh ta):=by
 intro pins s U H R I h;refine Call_ (je I hg hm boot_range (yM (cU (ha pos pins s U H _ I h) λus s1 ⟨vs,H1,I1,r1,q1⟩=>?_) (by rw[hs,hs2]) (by rw[hs2];rfl)));let⟨i,j,e,⟨q1,q2,q3,q4⟩,q⟩:=q1;subst e;cases r1 with
 | cons r rr=>
  cases rr with
  | cons r' rr=>
   cases rr;let⟨t,rfl⟩:=r;let⟨t',rfl⟩:=r';exact call_range_2 (Fl I1 q1 q2 q3 q4 q)
def Qh (wi:TI) (g:TG) (tb:TS):TS:=λD U H=>wi U H λJ H1=>∃W:Nat->Nat->St->Hp->Prop,(∃m,W 0 m U H1)/\∀i m U H,W i m U H->
 (J.stop i H/\D.nx U H)\/(J.go i H/\∃N:St->Hp->Prop,(∀U' H',N U' H'->∃m',m'<m/\W (i+1) m' U' H')/\∀x H',J.JR i H x H'->g x U H' λU2 H2=>tb {D with nx:=N,ct:=N,bk:=D.nx} U2 H2)
def sN (fp:List Addr) (h:Heap):List (Addr×Obj):=fp.filterMap λb=>(h.get? b).map λo=>(b,o)
def gh (hb:b∈fp) (e:h.get? b=some o):(b,o)∈sN fp h:=List.mem_filterMap.mpr {b,hb,by rw[e];rfl}
def Kn (hp:p∈sN fp h):p.1∈fp/\h.get? p.1=some p.2:=by
 let⟨b,hb,e⟩:=List.mem_filterMap.mp hp;cases q:h.get? b with
 | none=>rw[q] at e;cases e
 | some o=>
  rw[q] at e;let e':(b,o)=p:=yk e;subst e';exact{(hb),q}
def Inv.pinned (I:Inv X pins U H s) (hf:∀b∈fp,pT X pins H b) (ho:∀b∈fp,∃o,s.heap.get? b=some o/\∀v,o.data≠.cell v):Inv X (pins++sN fp s.heap) U H s:=
 I.nP λp hp=>(zG.mp hp).elim (λz=>I.pin p (zI _ z)) λz=>by
  let⟨hb,e⟩:=Kn z;let⟨f0,f1,f2,_⟩:=hf p.1 hb;let⟨o,e',d⟩:=ho p.1 hb;rw[e] at e';cases e';exact{(e),f0,f1,f2,d}
def Inv.vO (I:Inv X (pins++pl) U H s):Inv X pins U H s:=I.nP λp hp=>I.pin p (zI _ (zJ _ hp))
def b8 (hp:PassesOwn (model X.prog X.w) X.A X.env X.xe) (hc:X.calm=true) (hi:PI X tg iter wi) (hg:PG X tg g) (hb:Bk X body tb)
  (hs:(∀x,foldedSetIterable iter X.env x=pure x)<|>qd_):PS X (.For tg iter body [] pos) (Qh wi g tb):=by
 intro pins s U H D I h;refine wpAny_For (cU (hi pins s U H _ I h) λv s1 h1=>cU h1 λitv s2 h2=>?_) hs;let⟨it,fp,tn,J,H2,e,I2,T,st2,f2,W,⟨m0,w0⟩,turn⟩:=h2;subst e;let stat:∀{H':Hp},(∀b∈fp,H' b=none)->∀b∈fp,pT X pins H' b:=λhn b hb=>{hn b hb,(f2 b hb).2}
 refine codeAny_forLoop_any (λn s'=>∃i U' H',Inv X pins U' H' s'/\tn i s'.heap/\(∀b∈fp,H' b=none)/\W i n U' H') ?_ m0 {0,U,H2,I2,st2,λb hb=>(f2 b hb).1,w0};rintro n s3 ⟨i,U3,H3,I3,st3,fr3,w3⟩;rcases turn i n U3 H3 w3 with⟨stop,qn⟩ | ⟨go,N,hN,step⟩
 ·refine wpAny_passesOwn hp (cU (T.done X rfl rfl rfl hc i pins s3 U3 H3 X.xe I3 (stat fr3) st3 stop) λr s4 ⟨hr,I4⟩=>?_)
  subst hr;exact wpAny_execs_nil {U3,H3,I4,qn}
 ·refine wpAny_passesOwn hp (cU (T.item X rfl rfl rfl hc i pins s3 U3 H3 X.xe I3 (stat fr3) st3 go) λr s4 ⟨u,hr,h4⟩=>?_)
  subst hr;refine wpAny_passesOwn hp (cU h4 λ_ s5 zz=>?_);let⟨x,H5,I5,r5,y5,st5,fr5⟩:=zz;let I5':=I5.pinned (stat fr5) (T.obj _ _ st5);refine wpAny_passesOwn hp (cU (hg _ s5 U3 H5 x u _ I5' r5 (step x H5 y5)) λ_ s6 ⟨U6,H6,I6,q6⟩=>?_);refine wpAny_passesOwn hp (cU (hb _ s6 U6 H6 _ I6 q6) λf s7 q7=>?_);let again:∀{U7:St} {H7:Hp},Inv X (pins++sN fp s5.heap) U7 H7 s7->N U7 H7->∃m,m<n/\∃i U' H',Inv X pins U' H' s7/\tn i s7.heap/\(∀b∈fp,H' b=none)/\W i m U' H':=λ{U7 H7} I7 n7=>by
   let⟨m',hm,w7⟩:=hN U7 H7 n7;refine{m',hm,i+1,U7,H7,I7.vO,T.keep _ _ _ st5 λb hb o e=>(I7.pin (b,o) (zI _ (zI _ (gh hb e)))).1,λb hb=>?_,w7};let⟨o,e,d⟩:=T.obj _ _ st5 b hb;exact(I7.pin (b,o) (zI _ (zI _ (gh hb e)))).2.1
  cases f with
  | next=>let⟨U7,H7,I7,n7⟩:=q7;exact again I7 n7
  | cont=>let⟨U7,H7,I7,n7⟩:=q7;exact again I7 n7
  | brk=>let⟨U7,H7,I7,q7⟩:=q7;exact{U7,H7,I7.vO,q7}
  | ret v=>let⟨x7,U7,H7,I7,r7,q7⟩:=q7;exact{x7,U7,H7,I7.vO,r7,q7}
end
def dr {K:yB} {a:Addr} {xs:List V} {g:TG} {tb:TS} {D:Ends} {U:St} {H:Hp} (Pv:Nat->St->Hp->Prop) (h0:Pv 0 U H) (hl:∀i U H,i<=⇑xs->Pv i U H->aH K H a xs)
  (hs:∀i x U H,xs[i]?=some x->Pv i U H->g x U H λU2 H2=>tb {D with nx:=Pv (i+1),ct:=Pv (i+1),bk:=D.nx} U2 H2) (hd:∀U H,Pv ⇑xs U H->D.nx U H) :
  ∃W:Nat->Nat->St->Hp->Prop,(∃m,W 0 m U H)/\∀i m U H,W i m U H->
   ((Lh K a).stop i H/\D.nx U H)\/((Lh K a).go i H/\∃N:St->Hp->Prop,(∀U' H',N U' H'->∃m',m'<m/\W (i+1) m' U' H')/\∀x H',(Lh K a).JR i H x H'->g x U H' λU2 H2=>tb {D with nx:=N,ct:=N,bk:=D.nx} U2 H2):=by
 refine{λi m U H=>m=⇑xs-i/\i<=⇑xs/\Pv i U H,{⇑xs,by simp,yg _,h0},?_};rintro i m U H ⟨rfl,hi,p⟩;let q:=hl i U H hi p
 by_cases hlt:i<⇑xs
 ·refine .inr {{xs,xs[i],q,by simp[hlt]},Pv (i+1),λU' H' p'=>{⇑xs-(i+1),nofun,rfl,hlt,p'},λx H' y=>?_}
  let⟨e,y⟩:=y;subst e;exact hs i x U _ (y xs q) p
 ·let e:i=⇑xs:=nofun
  subst e;exact .inl {{xs,q,zm _},hd U H p}
def Jv {K:yB} {a:Addr} {xs:List V} {g:TG} {tb:TS} {D:Ends} {U:St} {H:Hp} (Pv:Nat->St->Hp->Prop) (h0:Pv 0 U H) (hl:∀i U H,i<=⇑xs->Pv i U H->cY K H a xs)
  (hs:∀i x U H,xs[i]?=some x->Pv i U H->g x U H λU2 H2=>tb {D with nx:=Pv (i+1),ct:=Pv (i+1),bk:=D.nx} U2 H2) (hd:∀U H,Pv ⇑xs U H->D.nx U H) :
  ∃W:Nat->Nat->St->Hp->Prop,(∃m,W 0 m U H)/\∀i m U H,W i m U H->
   ((Ph K a).stop i H/\D.nx U H)\/((Ph K a).go i H/\∃N:St->Hp->Prop,(∀U' H',N U' H'->∃m',m'<m/\W (i+1) m' U' H')/\∀x H',(Ph K a).JR i H x H'->g x U H' λU2 H2=>tb {D with nx:=N,ct:=N,bk:=D.nx} U2 H2):=by
 refine{λi m U H=>m=⇑xs-i/\i<=⇑xs/\Pv i U H,{⇑xs,by simp,yg _,h0},?_};rintro i m U H ⟨rfl,hi,p⟩;let q:=hl i U H hi p
 by_cases hlt:i<⇑xs
 ·refine .inr {{xs,xs[i],q,by simp[hlt]},Pv (i+1),λU' H' p'=>{⇑xs-(i+1),nofun,rfl,hlt,p'},λx H' y=>?_}
  let⟨e,y⟩:=y;subst e;exact hs i x U _ (y xs q) p
 ·let e:i=⇑xs:=nofun
  subst e;exact .inl {{xs,q,zm _},hd U H p}
def eV {lo:Int} {n:Nat} {g:TG} {tb:TS} {D:Ends} {U:St} {H:Hp} (Pv:Nat->St->Hp->Prop) (h0:Pv 0 U H)
  (hs:∀i U H,i<n->Pv i U H->g (.int (lo+i)) U H λU2 H2=>tb {D with nx:=Pv (i+1),ct:=Pv (i+1),bk:=D.nx} U2 H2) (hd:∀U H,Pv n U H->D.nx U H) :
  ∃W:Nat->Nat->St->Hp->Prop,(∃m,W 0 m U H)/\∀i m U H,W i m U H->
   ((NP lo n).stop i H/\D.nx U H)\/((NP lo n).go i H/\∃N:St->Hp->Prop,(∀U' H',N U' H'->∃m',m'<m/\W (i+1) m' U' H')/\∀x H',(NP lo n).JR i H x H'->g x U H' λU2 H2=>tb {D with nx:=N,ct:=N,bk:=D.nx} U2 H2):=by
 refine{λi m U H=>m=n-i/\i<=n/\Pv i U H,{n,by simp,yg _,h0},?_};rintro i m U H ⟨rfl,hi,p⟩
 by_cases hlt:i<n
 ·refine .inr {hlt,Pv (i+1),λU' H' p'=>{n-(i+1),nofun,rfl,hlt,p'},λx H' y=>?_}
  let⟨e,y⟩:=y;subst e y;exact hs i U _ hlt p
 ·let e:i=n:=nofun
  subst e;exact .inl {zm _,hd U H p}
end L2
namespace L2
open PySem PySem.Spec PyProof.Rows
abbrev R2:=V->V->Hp->VK->Prop
def nH (X:Cx) (f:Value->Value->Sem Value) (r:R2):Prop:=
 ∀(pins:List (Addr×Obj)) (s:Shared) (U:St) (H:Hp) (x y:V) (v u:Value) (Q:VK),Inv X pins U H s->RelV x v->RelV y u->r x y H Q->
  wpAny (model X.prog X.w) X.A (f v u) (EP X pins U Q) X.xe s
def Up (X:Cx) (f:Value->Sem Value) (r:V->Hp->VK->Prop):Prop:=
 ∀(pins:List (Addr×Obj)) (s:Shared) (U:St) (H:Hp) (x:V) (v:Value) (Q:VK),Inv X pins U H s->RelV x v->r x H Q->
  wpAny (model X.prog X.w) X.A (f v) (EP X pins U Q) X.xe s
def fo (X:Cx) (f:Value) (r:List V->Hp->VK->Prop):Prop:=
 ∀(pins:List (Addr×Obj)) (s:Shared) (U:St) (H:Hp) (xs:List V) (us:List Value) (Q:VK),Inv X pins U H s->Vals xs us->r xs H Q->
  wpAny (model X.prog X.w) X.A (call f us) (EP X pins U Q) X.xe s
def e9 (r:R2) (ta tb:TE):TE:=λU H Q=>ta U H λx H1=>tb U H1 λy H2=>r x y H2 Q
def UL (r:V->Hp->VK->Prop) (ta:TE):TE:=λU H Q=>ta U H λx H1=>r x H1 Q
def rI (C:Int->Int->Prop) (g:Int->Int->V):R2:=λx y H Q=>∃i j,x=.int i/\y=.int j/\C i j/\Q (g i j) H
def sM (g:Int->Int->V):R2:=λx y H Q=>∃i j,x=.int i/\y=.int j/\Q (g i j) H
def rU (g:Int->V):V->Hp->VK->Prop:=λx H Q=>∃i,x=.int i/\Q (g i) H
section
variable {X:Cx} {a b c:Expr} {ta tb tc:TE} {pos:Pos}
def Ri (ha:PE X a ta) (hb:PE X b tb) {pins:List (Addr×Obj)} {s:Shared} {U:St} {H:Hp} {R:V->V->Hp->Prop} (I:Inv X pins U H s)
  (h:ta U H λx H1=>tb U H1 λy H2=>R x y H2) {Q:Value->Shared->Prop} {f:Value->Value->Sem Value}
  (hf:∀v u s2 x y H2,Inv X pins U H2 s2->RelV x v->RelV y u->R x y H2->wpAny (model X.prog X.w) X.A (f v u) Q X.xe s2) :
  wpAny (model X.prog X.w) X.A (eval a X.env) (λv s₁=>wpAny (model X.prog X.w) X.A (eval b X.env) (λu s₂=>wpAny (model X.prog X.w) X.A (f v u) Q X.xe s₂) X.xe s₁) X.xe s:=by
 refine cU (ha pins s U H _ I h) λv s1 zz=>?_;let⟨x,H1,I1,r1,q1⟩:=zz;refine cU (hb pins s1 U H1 _ I1 q1) λu s2 zz=>?_;let⟨y,H2,I2,r2,q2⟩:=zz;exact hf v u s2 x y H2 I2 r1 r2 q2
def aq {op:Operator} {r:R2} (ho:nH X (binaryOp op) r) (ha:PE X a ta) (hb:PE X b tb):PE X (.BinOp a op b pos) (e9 r ta tb):=by
 intro pins s U H Q I h;exact wpAny_BinOp (Ri ha hb I h λv u s2 x y H2 I2 rx ry q=>ho pins s2 U H2 x y v u Q I2 rx ry q)
def mV (ho:Up X (unaryOp op) r) (ha:PE X a ta):PE X (.UnaryOp op a pos) (UL r ta):=by
 intro pins s U H Q I h;exact UnaryOp_ (cU (ha pins s U H _ I h) λv s1 ⟨x,H1,I1,r1,q1⟩=>ho pins s1 U H1 x v Q I1 r1 q1)
def Rv {f:Value->Value->Sem Value} {C:Int->Int->Prop} {g:Int->Int->Int}
  (rule:∀(i j:Int) (t u:Tok) (s:Shared) (Q:Value->Shared->Prop) (E:Value->Shared->Prop),C i j->Q (.int (g i j) s.toks) {s with toks:=s.toks+1}->wpAny (model X.prog X.w) X.A (f (.int i t) (.int j u)) Q E s) :
  nH X f (rI C λi j=>.int (g i j)):=by
 intro pins s U H x y v u Q I rx ry h;let⟨i,j,rfl,rfl,hc,q⟩:=h;let⟨t,rfl⟩:=rx;let⟨t',rfl⟩:=ry;exact rule i j t t' s _ _ hc {.int (g i j),H,I.tok _,{_,rfl},q}
def QL {f:Value->Value->Sem Value} {g:Int->Int->Int}
  (rule:∀(i j:Int) (t u:Tok) (s:Shared) (Q:Value->Shared->Prop) (E:Value->Shared->Prop),Q (.int (g i j) s.toks) {s with toks:=s.toks+1}->wpAny (model X.prog X.w) X.A (f (.int i t) (.int j u)) Q E s) :
  nH X f (sM λi j=>.int (g i j)):=by
 intro pins s U H x y v u Q I rx ry h;let⟨i,j,rfl,rfl,q⟩:=h;let⟨t,rfl⟩:=rx;let⟨t',rfl⟩:=ry;exact rule i j t t' s _ _ {.int (g i j),H,I.tok _,{_,rfl},q}
def OI {f:Value->Value->Sem Value} {g:Int->Int->Bool}
  (rule:∀(i j:Int) (t u:Tok) (s:Shared) (Q:Value->Shared->Prop) (E:Value->Shared->Prop),Q (.bool (g i j)) s->wpAny (model X.prog X.w) X.A (f (.int i t) (.int j u)) Q E s) :
  nH X f (sM λi j=>.bl (g i j)):=by
 intro pins s U H x y v u Q I rx ry h;let⟨i,j,rfl,rfl,q⟩:=h;let⟨t,rfl⟩:=rx;let⟨t',rfl⟩:=ry;exact rule i j t t' s _ _ {.bl (g i j),H,I,rfl,q}
def Rq (i j:Int):Prop:=0<j/\j<1073741824
def Lk (i j:Int):Prop:=(-(2^64)<i/\i<2^64)\/(-(2^64)<j/\j<2^64)
def Lk.ok (h:Lk i j):IntMulOk i j:=by
 rcases h with⟨h1,h2⟩ | ⟨h1,h2⟩
 ·exact .of_left (intBits_le_64 h1 h2)
 ·exact .of_right (intBits_le_64 h1 h2)
def G3 (k:Nat):(0:Int)<=2^k:=by
 rw[two_pow_cast];exact Int.natCast_nonneg _
def aS:nH X (binaryOp .Add) (sM λi j=>.int (i+j)):=QL λ_ _ _ _ _ _ _ q=>add_int q
def i6:nH X (binaryOp .Sub) (sM λi j=>.int (i-j)):=QL λ_ _ _ _ _ _ _ q=>sub_int q
def dQ:nH X (binaryOp .Mult) (rI Lk λi j=>.int (i*j)):=Rv λ_ _ _ _ _ _ _ hc q=>mul_int q hc.ok
def aU:nH X (binaryOp .FloorDiv) (rI Rq λi j=>.int (i/j)):=Rv λi j _ _ _ _ _ hc q=>by
 let h1:(0:Int)<j:=hc.1;let h2:j<1073741824:=hc.2;exact floordiv_int nofun (by rw[Int.fdiv_eq_ediv_of_nonneg i nofun];exact q) (.inl (PyProof.noPylong_small nofun))
def aQ:nH X (binaryOp .Mod) (rI (λ_ j=>0<j) λi j=>.int (i%j)):=Rv λi j _ _ _ _ _ hc q=>by
 let h1:(0:Int)<j:=hc;exact mod_int' nofun (by rw[Int.fmod_eq_emod_of_nonneg i nofun];exact q)
def QJ:nH X (binaryOp .RShift) (rI (λ_ j=>0<=j) λi j=>.int (i/2^j.toNat)):=Rv λi j _ _ _ _ _ hc q=>
 rshift_int hc (by rw[Int.fdiv_eq_ediv_of_nonneg i (G3 _)];exact q)
def QK:nH X (binaryOp .BitAnd) (sM λi j=>.int (Builtin.bitAnd i j)):=QL λ_ _ _ _ _ _ _ q=>and_int q
def UK {f:Value->Sem Value} {g:Int->Int}
  (rule:∀(i:Int) (t:Tok) (s:Shared) (Q:Value->Shared->Prop) (E:Value->Shared->Prop),Q (.int (g i) s.toks) {s with toks:=s.toks+1}->wpAny (model X.prog X.w) X.A (f (.int i t)) Q E s) :
  Up X f (rU λi=>.int (g i)):=by
 intro pins s U H x v Q I rx h;let⟨i,rfl,q⟩:=h;let⟨t,rfl⟩:=rx;exact rule i t s _ _ {.int (g i),H,I.tok _,{_,rfl},q}
def iT:Up X (unaryOp .USub) (rU λi=>.int (-i)):=UK λ_ _ _ _ _ q=>neg_int q
end
def Oe:V->V->Bool
 | .bI,.bI=>true | .bI,.int _=>true | .int _,.bI=>true | .bI,.bl _=>true | .bl _,.bI=>true | .bI,.str _=>true | .str _,.bI=>true
 | .int _,.int _=>true | .bl _,.bl _=>true | .str _,.str _=>true | .JF _,.JF _=>true
 | .int _,.str _=>true | .str _,.int _=>true | .bl _,.str _=>true | .str _,.bl _=>true
 | _,_=>false
def T5:R2:=λx y H Q=>Oe x y=true/\Q (.bl (decide (x=y))) H
def T3:R2:=λx y H Q=>Oe x y=true/\Q (.bl (!decide (x=y))) H
def Dv:decide (V.int i=V.int j)=(i == j):=by
 rw[Bool.eq_iff_iff];simp
def Nq:decide (V.bl i=V.bl j)=(i == j):=by
 rw[Bool.eq_iff_iff];simp
def Ds:decide (V.str i=V.str j)=(i == j):=by
 rw[Bool.eq_iff_iff];simp
def Jz:decide (V.JF i=V.JF j)=(i.toList == j.toList):=by
 rw[Bool.eq_iff_iff];cases i;cases j;simp
section
variable {X:Cx} {a b c:Expr} {ta tb tc:TE} {pos:Pos}
def cb (I:Inv X pins U H s) (q:Q (.bl k) H) (e:k=k'):EP X pins U Q (.bool k') s:=by
 subst e;exact{.bl k,H,I,rfl,q}
def cW:nH X (compareOp .Eq) T5:=by
 intro pins s U H x y v u Q I rx ry h;let⟨hs,q⟩:=h;cases x with
 | bI=>
  cases rx;cases y with
  | bI=>cases ry;exact PySem.EqNone.eq_none_none (cb I q (by simp))
  | bl j=>cases ry;exact PySem.EqNone.eq_none_bool (cb I q (by simp))
  | int j=>let⟨t',rfl⟩:=ry;exact PySem.EqNone.eq_none_int (cb I q (by simp))
  | str j=>let⟨t',rfl⟩:=ry;exact PySem.EqNone.eq_none_str (cb I q (by simp))
  | _=>exact absurd (show false=true from hs) zL
 | bl i=>
  cases rx;cases y with
  | bI=>cases ry;exact PySem.EqNone.eq_bool_none (cb I q (by simp))
  | bl j=>cases ry;exact eq_bool (cb I q Nq)
  | str j=>let⟨t',rfl⟩:=ry;exact PySem.EqMixed.eq_bool_str (cb I q (by simp))
  | _=>exact absurd (show false=true from hs) zL
 | int i=>
  let⟨t,rfl⟩:=rx;cases y with
  | bI=>cases ry;exact PySem.EqNone.eq_int_none (cb I q (by simp))
  | int j=>let⟨t',rfl⟩:=ry;exact eq_int (cb I q Dv)
  | str j=>let⟨t',rfl⟩:=ry;exact PySem.EqMixed.eq_int_str (cb I q (by simp))
  | _=>exact absurd (show false=true from hs) zL
 | str i=>
  let⟨t,rfl⟩:=rx;cases y with
  | bI=>cases ry;exact PySem.EqNone.eq_str_none (cb I q (by simp))
  | bl j=>cases ry;exact PySem.EqMixed.eq_str_bool (cb I q (by simp))
  | int j=>let⟨t',rfl⟩:=ry;exact PySem.EqMixed.eq_str_int (cb I q (by simp))
  | str j=>let⟨t',rfl⟩:=ry;exact eq_str (cb I q Ds)
  | _=>exact absurd (show false=true from hs) zL
 | JF i=>
  let⟨t,rfl⟩:=rx;cases y with
  | JF j=>let⟨t',rfl⟩:=ry;exact PySem.W.eq_bytes (cb I q Jz)
  | _=>exact absurd (show false=true from hs) zL
 | _=>cases y <;> exact absurd (show false=true from hs) zL
def jG:nH X (compareOp .NotEq) T3:=by
 intro pins s U H x y v u Q I rx ry h;let⟨hs,q⟩:=h;cases x with
 | bI=>
  cases rx;cases y with
  | bI=>cases ry;exact PySem.EqNone.ne_none_none (cb I q (by simp))
  | bl j=>cases ry;exact PySem.EqNone.ne_none_bool (cb I q (by simp))
  | int j=>let⟨t',rfl⟩:=ry;exact PySem.EqNone.ne_none_int (cb I q (by simp))
  | str j=>let⟨t',rfl⟩:=ry;exact PySem.EqNone.ne_none_str (cb I q (by simp))
  | _=>exact absurd (show false=true from hs) zL
 | bl i=>
  cases rx;cases y with
  | bI=>cases ry;exact PySem.EqNone.ne_bool_none (cb I q (by simp))
  | bl j=>cases ry;exact ne_bool (cb I q (congrArg not Nq))
  | str j=>let⟨t',rfl⟩:=ry;exact PySem.EqMixed.ne_bool_str (cb I q (by simp))
  | _=>exact absurd (show false=true from hs) zL
 | int i=>
  let⟨t,rfl⟩:=rx;cases y with
  | bI=>cases ry;exact PySem.EqNone.ne_int_none (cb I q (by simp))
  | int j=>let⟨t',rfl⟩:=ry;exact ne_int (cb I q (congrArg not Dv))
  | str j=>let⟨t',rfl⟩:=ry;exact PySem.EqMixed.ne_int_str (cb I q (by simp))
  | _=>exact absurd (show false=true from hs) zL
 | str i=>
  let⟨t,rfl⟩:=rx;cases y with
  | bI=>cases ry;exact PySem.EqNone.ne_str_none (cb I q (by simp))
  | bl j=>cases ry;exact PySem.EqMixed.ne_str_bool (cb I q (by simp))
  | int j=>let⟨t',rfl⟩:=ry;exact PySem.EqMixed.ne_str_int (cb I q (by simp))
  | str j=>let⟨t',rfl⟩:=ry;exact ne_str (cb I q (congrArg not Ds))
  | _=>exact absurd (show false=true from hs) zL
 | JF i=>
  let⟨t,rfl⟩:=rx;cases y with
  | JF j=>let⟨t',rfl⟩:=ry;exact PySem.W.ne_bytes (cb I q (congrArg not Jz))
  | _=>exact absurd (show false=true from hs) zL
 | _=>cases y <;> exact absurd (show false=true from hs) zL
def eZ:nH X (compareOp .Lt) (sM λi j=>.bl (decide (i<j))):=OI λ_ _ _ _ _ _ _ q=>lt_int q
def fN:nH X (compareOp .LtE) (sM λi j=>.bl (decide (i<=j))):=OI λ_ _ _ _ _ _ _ q=>le_int q
def fi:nH X (compareOp .Gt) (sM λi j=>.bl (decide (j<i))):=OI λ_ _ _ _ _ _ _ q=>gt_int q
def Fy:nH X (compareOp .GtE) (sM λi j=>.bl (decide (j<=i))):=OI λ_ _ _ _ _ _ _ q=>ge_int q
def BB:nH X (compareOp .In) (λx y H Q=>∃i j,x=.str i/\y=.str j/\Q (.bl (!(Builtin.Str.occurrences j i 0 ⇑j 1).isEmpty)) H):=by
 intro pins s U H x y v u Q I rx ry h;let⟨i,j,rfl,rfl,q⟩:=h;let⟨t,rfl⟩:=rx;let⟨t',rfl⟩:=ry;exact in_str (cb I q rfl)
def gY (b:Expr) (h:op≠.In<|>qb_) (h2:op≠.NotIn<|>qb_):behindInMarks op b=false:=by
 let e1:(op == CmpOp.In)=false:=by cases op <;> first | rfl | exact absurd rfl h
 let e2:(op == CmpOp.NotIn)=false:=by cases op <;> first | rfl | exact absurd rfl h2
 cases b <;> simp[behindInMarks,e1,e2]
def dF (ho:nH X (compareOp op) r) (ha:PE X a ta) (hb:PE X b tb) (hm:behindInMarks op b=false):PE X (.Compare a [op] [b] pos) (e9 r ta tb):=by
 intro pins s U H Q I h;exact wpAny_Compare1 (Ri ha hb I h λv u s2 x y H2 I2 rx ry q=>ho pins s2 U H2 x y v u Q I2 rx ry q) hm
def ki (t:TE):TT:=λU H Q=>t U H λx H'=>∃k,x=.bl k/\Q k H'
def gB (ho:nH X (compareOp op) r) (ha:PE X a ta) (hb:PE X b tb) (hm:behindInMarks op b=false):PT X (.Compare a [op] [b] pos) (ki (e9 r ta tb)):=by
 intro pins s U H Q I h;refine wpAny_isTrue_Compare1 (cU (ha pins s U H _ I h) λv s1 ⟨x,H1,I1,r1,q1⟩=>cU (hb pins s1 U H1 _ I1 q1) λu s2 ⟨y,H2,I2,r2,q2⟩=>
  cU (ho pins s2 U H2 x y v u _ I2 r1 r2 q2) λc s3 ⟨z,H3,I3,r3,k,e,q3⟩=>?_) hm
 subst e;cases r3;exact wpAny_truthy_bool {(H3),I3,q3}
def vX (r r':R2) (ta tb tc:TE):TE:=λU H Q=>ta U H λx H1=>tb U H1 λy H2=>r x y H2 λz H3=>∃k,z=.bl k/\
 (if k=true then tc U H3 λw' H4=>r' y w' H4 Q else Q (.bl false) H3)
def Fu (ho:nH X (compareOp op) r) (ho':nH X (compareOp op') r') (ha:PE X a ta) (hb:PE X b tb) (hc:PE X c tc)
  (hm:lastMarks [op,op'] [b,c]=false<|>qf_):PE X (.Compare a [op,op'] [b,c] pos) (vX r r' ta tb tc):=by
 intro pins s U H Q I h;refine Compare_chain (cU (ha pins s U H _ I h) λv s1 ⟨x,H1,I1,r1,q1⟩=>chain_link (cU (hb pins s1 U H1 _ I1 q1) λu s2 ⟨y,H2,I2,r2,q2⟩=>
  cU (ho pins s2 U H2 x y v u _ I2 r1 r2 q2) λd s3 ⟨z,H3,I3,r3,k,e,q3⟩=>?_)) hm
 subst e;cases r3;refine wpAny_truthy_bool ?_;cases k with
 | false=>exact ite_ff {.bl false,H3,I3,rfl,q3}
 | true=>exact ite_tt (chain_last (cU (hc pins s3 U H3 _ I3 q3) λw' s4 ⟨z',H4,I4,r4,q4⟩=>ho' pins s4 U H4 y z' u w' Q I4 r2 r4 q4))
def Mp (ho:nH X (compareOp op) r) (ho':nH X (compareOp op') r') (ha:PE X a ta) (hb:PE X b tb) (hc:PE X c tc)
  (hm:lastMarks [op,op'] [b,c]=false<|>qf_):PT X (.Compare a [op,op'] [b,c] pos) (ki (vX r r' ta tb tc)):=by
 intro pins s U H Q I h;refine isTrue_chain (cU (ha pins s U H _ I h) λv s1 ⟨x,H1,I1,r1,q1⟩=>test_link (cU (hb pins s1 U H1 _ I1 q1) λu s2 ⟨y,H2,I2,r2,q2⟩=>
  cU (ho pins s2 U H2 x y v u _ I2 r1 r2 q2) λd s3 ⟨z,H3,I3,r3,k,e,q3⟩=>?_)) hm
 subst e;cases r3;refine wpAny_truthy_bool ?_;cases k with
 | false=>
  let⟨k',e',q'⟩:=q3;cases e';exact ite_ff {(H3),I3,q'}
 | true=>
  refine ite_tt (test_last (cU (hc pins s3 U H3 _ I3 q3) λw' s4 ⟨z',H4,I4,r4,q4⟩=>cU (ho' pins s4 U H4 y z' u w' _ I4 r2 r4 q4) λd' s5 zz=>?_));let⟨z2,H5,I5,r5,k2,e2,q5⟩:=zz;subst e2;cases r5;exact wpAny_truthy_bool {(H5),I5,q5}
def xh:(sizeLine:Nat)<2^63:=by rw[yC];decide
def bV:nH X (binaryOp .Add) (λx y H Q=>∃i j,x=.str i/\y=.str j/\⇑i+⇑j<=sizeLine/\Q (.str (i++j)) H):=by
 intro pins s U H x y v u Q I rx ry h;let⟨i,j,rfl,rfl,hz,q⟩:=h;let⟨t,rfl⟩:=rx;let⟨t',rfl⟩:=ry;exact add_str (λt' tk=>{.str (i++j),H,I.tok _,{_,rfl},q}) hz
def vals1 (r:Vals [x] us):∃u,us=[u]/\RelV x u:=by
 cases r with
 | cons r1 r2=>cases r2;exact{_,rfl,r1}
def vals2 (r:Vals [x,y] us):∃u w',us=[u,w']/\RelV x u/\RelV y w':=by
 cases r with
 | cons r1 r2=>
  cases r2 with
  | cons r3 r4=>cases r4;exact{_,_,rfl,r1,r3}
def Gz:fo X (.builtin "abs") (λxs H Q=>∃i,xs=[.int i]/\Q (.int (if i<0 then -i else i)) H):=by
 intro pins s U H xs us Q I r h;let⟨i,rfl,q⟩:=h;let⟨u,rfl,t,rfl⟩:=vals1 r;exact call_abs_int λu tk=>{.int (if i<0 then -i else i),H,I.tok _,{_,rfl},q}
def K1 (hc:X.calm=true):fo X (.builtin "min") (λxs H Q=>∃i j,xs=[.int i,.int j]/\Q (.int (if j<i then j else i)) H):=by
 intro pins s U H xs us Q I r h;let⟨i,j,rfl,q⟩:=h;let⟨u,w',rfl,⟨t,rfl⟩,⟨t',rfl⟩⟩:=vals2 r;refine min_two_ints (I.ok.hd hc) λh' tk k=>{_,H,I.kept k,?_,q}
 by_cases hj:j<i
 ·rw[if_pos hj,if_pos hj];exact{_,rfl}
 ·rw[if_neg hj,if_neg hj];exact{_,rfl}
def K3:fo X (.type "int") (λxs H Q=>(∃i,xs=[.int i]/\Q (.int i) H)\/∃k,xs=[.bl k]/\Q (.int (if k then 1 else 0)) H):=by
 intro pins s U H xs us Q I r h;rcases h with⟨i,rfl,q⟩ | ⟨k,rfl,q⟩
 ·let⟨u,rfl,t,rfl⟩:=vals1 r
  exact call_int_int {.int i,H,I,{_,rfl},q}
 ·let⟨u,rfl,r1⟩:=vals1 r
  cases r1;exact call_int_bool {.int (if k then 1 else 0),H,I.tok _,{_,rfl},q}
def aV:fo X (.type "str") (λxs H Q=>∃i,xs=[.int i]/\i.natAbs.log2<1920/\Q (.str (toString i)) H):=by
 intro pins s U H xs us Q I r h;let⟨i,rfl,hz,q⟩:=h;let⟨u,rfl,t,rfl⟩:=vals1 r;exact PySem.P.str_of_int hz {.str _,H,I.tok _,{_,rfl},q}
end
end L2
namespace L2
open PySem PySem.Spec PyProof.Rows
structure Lg (h:Heap) (x dx C:Addr) (mA:Str->Option Value):Prop where
 obj:h.get? x=some (PySem.W.instObj C dx)
 ns:h.Ns1 dx mA
 ne:dx≠x
def Ks {h:Heap} {dx:Addr} {mA:Str->Option Value} (n:h.Ns1 dx mA):∃od,h.get? dx=some od/\∀name,PySem.W.lookIn name od=some (mA name):=by
 let⟨o,es,ep,ho,hd,hk,_,hm⟩:=n;refine{o,ho,λname=>?_};let e:=hm name;unfold nsFind findBy at e;rw[<-Array.find?_toList] at e;unfold PySem.W.lookIn;rw[hd];dsimp only;split
 ·rename_i y q
  rw[q] at e;exact congrArg some e
 ·rename_i q
  rw[q] at e;let a:es.toList.any (·.refKey)=false:=by
   rw[List.any_eq_false];intro y hy;let⟨z,t,hkey⟩:=hk y (Array.mem_toList_iff.mp hy);simp[DictEntry.refKey,hkey]
  let a':¬es.toList.any (·.refKey)=true:=by rw[a];exact zL
  rw[if_neg a'];exact congrArg some e
def Lg.look (I:Lg h x dx C mA):∃od,PySem.W.InstAt h x (PySem.W.instObj C dx) C (some od)/\∀name,PySem.W.lookIn name od=some (mA name):=
 let ⟨od,ho,hl⟩:=Ks I.ns
 {od,{(I.obj),rfl,rfl,ho},hl}
section
variable {prog:Program} {w:World} {A:Around} {E:Value->Shared->Prop} {s:Shared} {K:yB} {x dx C f:Addr} {mA:Str->Option Value} {name:Str} {v:Value}
def get_map (X:K.In s.heap) (I:Lg s.heap x dx C mA) (hg:PySem.W.plainGet K C name=true) (hh:PySem.W.hasDictIn K C=true)
  (ha:PySem.W.findIn K (.ref C) name=some none) (hv:mA name=some v) (hv':PySem.W.handedIn v=true) (h:Q v {s with toks:=s.toks+1}) :
  wpAny (model prog w) A (getAttr (.ref x) name expr) Q E s:=by
 let⟨od,J,hl⟩:=I.look;exact PySem.W.get_value X J (PySem.W.plainGet_of hg).1 (PySem.W.findObj_own hh ha rfl (by rw[hl,hv])) hv' h
def Od (X:K.In s.heap) (I:Lg s.heap x dx C mA)
  (hs:PySem.W.findIn K (.ref C) "__setattr__"= some (some (.builtin "object.__setattr__"))) (hp:PySem.W.plainOver K C=true) (ht:PySem.W.takerIn K C name=some none) (hh:PySem.W.hasDictIn K C=true)
  (hw:PySem.Within mA ns) (hsz:⇑ns<=sizeLine)
  (h:∀h',Lg h' x dx C (λy=>if y=name then some v else mA y)->Heap.SameBut dx s.heap h'->Q () {s with heap:=h',toks:=s.toks+2}) :
  wpAny (model prog w) A (setAttr (.ref x) name v) Q E s:=by
 let⟨od,J,hl⟩:=I.look;refine PySem.W.set_plain X J hs (PySem.W.osa_open (s:={s with toks:=s.toks+1}) (r:=none) X J hp ht λb=>?_);let⟨cd,hc,hd'⟩:=PySem.W.any_some hh;let hx:s.heap.get? x=some ⟨.ref C,some dx,.plain,#[]⟩:=I.obj;refine yu (yw (yu (yu (wpAny_loadPart hx (yu (PySem.W.Looks.here (s:={s with toks:=s.toks+1}) (PySem.W.looks_clsIn X hc) ?_))))));rw[hd'];refine yw (a:=some dx) (yu (yw (yu ?_)));refine wpAny_nsSet1 (s:={s with toks:=s.toks+1}) I.ns λh' hn2 hs2=>?_;let⟨oD,esD,epD,hoD,hdD,hcD⟩:=hn2.count (PySem.Within.cons name v hw);refine yu (wpAny_lookBehind hoD (by rw[hdD];exact pastItsLine_dict (zM hcD (by rw[zv];omega))) ?_);exact yw (h _ {(hs2.2 _ (Ne.symm I.ne)).trans I.obj,hn2,I.ne} hs2)
def MP (X:K.In s.heap) (hm:PySem.W.makesIn K C=true)
  (hi:PySem.W.findIn K (.ref C) "__init__"= some (some (.ref f))) (hf:PySem.W.typeIn K (.ref f)=some (.type "function"))
  (h:codeAny (model prog w) (A.under (.builtin "type.__call__" {.ref C::vs,kw})) (.call (.ref f) {.ref (↑s+1)::vs,kw}) (PySem.W.InitBack (↑s+1) R)
   {s with heap:=(s.heap.push PySem.W.emptyDict).push (PySem.W.instObj C ↑s)}) :
  codeAny (model prog w) A (.call (.ref C) {(vs),kw}) R s:=by
 let⟨hh,g,d,t,os⟩:=s;exact PySem.W.make_core (PySem.W.makes_of X hm) (PySem.W.looks_findIn X hi) (λself=>PySem.W.bind_fn X self hf) (.inl rfl) h
end
def aW (f:Str) (v:V):List (Str×V)->List (Str×V)
 | []=>[(f,v)]
 | (g,x)::r=>if g=f then(g,v)::r else(g,x)::aW f v r
theorem uf (f g:Str) (v:V):∀fs:List (Str×V),(aW f v fs).lookup g=if g=f then some v else fs.lookup g
 | []=>by
  show List.lookup g [(f,v)]=_
  by_cases h:g=f
  ·let hb:(g == f)=true:=beq_iff_eq.mpr h
   simp only[List.lookup,hb,if_pos h]
  ·let hb:(g == f)=false:=beq_eq_false_iff_ne.mpr h
   simp only[List.lookup,hb,if_neg h]
 | (k,x)::r=>by
  let ih:=uf f g v r;rw[show aW f v ((k,x)::r)=(if k=f then(k,v)::r else(k,x)::aW f v r) from rfl]
  by_cases hk:k=f
  ·rw[if_pos hk]
   by_cases h:g=k
   ·let hb:(g == k)=true:=beq_iff_eq.mpr h
    simp only[List.lookup,hb,if_pos (h.trans hk)]
   ·let hb:(g == k)=false:=beq_eq_false_iff_ne.mpr h
    simp only[List.lookup,hb,if_neg (λe:g=f=>h (e.trans hk.symm))]
  ·rw[if_neg hk]
   by_cases h:g=k
   ·let hb:(g == k)=true:=beq_iff_eq.mpr h
    simp only[List.lookup,hb,if_neg (λe:g=f=>hk (h.symm.trans e))]
   ·let hb:(g == k)=false:=beq_eq_false_iff_ne.mpr h
    simp only[List.lookup,hb];exact ih
theorem sZ (f:Str) (v:V):∀fs:List (Str×V),f∈(aW f v fs).map (·.1)/\∀g,g∈fs.map (·.1)->g∈(aW f v fs).map (·.1)
 | []=>{by simp[aW],λg h=>by simp at h}
 | (k,x)::r=>by
  let⟨i1,i2⟩:=sZ f v r;rw[show aW f v ((k,x)::r)=(if k=f then(k,v)::r else(k,x)::aW f v r) from rfl]
  by_cases hk:k=f
  ·rw[if_pos hk]
   subst hk;exact{by simp,λg h=>by simpa using h}
  ·rw[if_neg hk]
   refine{?_,λg h=>?_}
   ·rw[zj]
    exact zp _ i1
   ·rw[zj] at h ⊢
    rcases zD.mp h with e | e
    ·exact zD.mpr (.inl e)
    ·exact zp _ (i2 g e)
theorem ug (f:Str) (v:V):∀fs:List (Str×V),⇑(aW f v fs)<=⇑fs+1
 | []=>by simp[aW]
 | (k,x)::r=>by
  let ih:=ug f v r;rw[show aW f v ((k,x)::r)=(if k=f then(k,v)::r else(k,x)::aW f v r) from rfl]
  by_cases hk:k=f
  ·rw[if_pos hk,zv,zv];omega
  ·rw[if_neg hk,zv,zv];omega
def lT.some_of (r:lT (some v) o):∃u,o=some u/\RelV v u:=by
 cases o with
 | none=>exact(show False from r).elim
 | some u=>exact{(u),rfl,r}
def KC (r:RelV v u):PySem.W.handedIn u=true:=by
 cases v with
 | bI=>cases(show u=Value.none from r);rfl
 | bl b=>cases(show u=Value.bool b from r);rfl
 | int i=>let⟨t,e⟩:=(show∃t,u=Value.int i t from r);cases e;rfl
 | str x=>let⟨t,e⟩:=(show∃t,u=Value.str x t from r);cases e;rfl
 | JF b=>let⟨t,e⟩:=(show∃t,u=Value.bytes b t from r);cases e;rfl
 | OW b=>let⟨t,e⟩:=(show∃t,u=Value.float b t from r);cases e;rfl
 | ref a=>cases(show u=Value.ref a from r);rfl
 | ty n=>cases(show u=Value.type n from r);rfl
section
variable {P:Program} {w:World} {H H':Hp} {h h':Heap} {a C dx:Addr} {fs fs':List (Str×V)}
def Dh (b7:pS P w H h) (e:H a=some (.ins C dx fs)):∃mA,Lg h a dx C mA/\(∀f,lT (fs.lookup f) (mA f))/\PySem.Within mA (fs.map (·.1))/\⇑fs<=1000/\H dx=some (.own a):=by
 let⟨d,z,ne,ob,mA,n,r,q⟩:=(show cB P w H h a (.ins C dx fs) from b7 a _ e)
 exact{mA,{(ob),n,ne},r,q,z,d}
end
structure Po (K:yB) (C:Addr):Prop where
 pg:PySem.W.plainGet K C Str.empty=true
 hd:PySem.W.hasDictIn K C=true
 po:PySem.W.plainOver K C=true
 sa:PySem.W.findIn K (.ref C) "__setattr__"= some (some (.builtin "object.__setattr__"))
def Po.get {K:yB} {C:Addr} (c:Po K C) (f:Str):PySem.W.plainGet K C f=true:=c.pg
def eN (K:yB) (C:Addr) (f:Str):Prop:=PySem.W.findIn K (.ref C) f=some none
def eN.RI {K:yB} {C:Addr} {f:Str} (n:eN K C f):PySem.W.takerIn K C f=some none:=by
 unfold PySem.W.takerIn;rw[show PySem.W.findIn K (.ref C) f=some none from n];rfl
section
variable {X:Cx} {pins:List (Addr×Obj)} {U:St} {H:Hp} {s:Shared} {a C dx:Addr} {fs:List (Str×V)} {f:Str} {v:V} {A:Around} {E:Value->Shared->Prop}
def HY (I:Inv X pins U H s) (e:H a=some (.ins C dx fs)) (c:Po X.K C) (n:eN X.K C f) (l:fs.lookup f=some v)
  (h:∀u s',Inv X pins U H s'->RelV v u->Q u s'):wpAny (model X.prog X.w) A (getAttr (.ref a) f b) Q E s:=by
 let⟨mA,O,r,_,_,_⟩:=Dh I.b7 e;let⟨u,hu,ru⟩:=lT.some_of (v:=v) (o:=mA f) (by rw[<-l];exact r f);exact get_map I.qW O (c.get f) c.hd n hu (KC ru) (h u _ (I.tok _) ru)
def Hk (I:Inv X pins U H s) (e:H a=some (.ins C dx fs)) (c:Po X.K C) (n:eN X.K C f) (hl:⇑fs<1000) (ry:RelV y u)
  (h:∀s',Inv X pins U (upd H a (.ins C dx (aW f y fs))) s'->Q () s'):wpAny (model X.prog X.w) A (setAttr (.ref a) f u) Q E s:=by
 let⟨mA,O,r,wi,_,ho⟩:=Dh I.b7 e;let hz:⇑(fs.map (·.1))<=sizeLine:=by rw[za,yC];omega
 refine Od I.qW O c.sa c.po n.RI c.hd wi hz λh' O' sb=>h _ ?_;let hd:∃o,h'.get? dx=some o:=let ⟨o,_,_,e',_⟩:=O'.ns;{(o),e'};refine I.write (x:=a) (e:=dx) (by rw[e];exact True.intro) (.inr ho) (λb q hb z=>(sb.2 b hb).trans z) hd ?_;refine{by rw[aC O.ne];exact ho,?_,O.ne,O'.obj,_,O'.ns,λg=>?_,λg hg=>?_}
 ·have:=ug f y fs;omega
 ·show lT ((aW f y fs).lookup g) (if g=f then some u else mA g)
  rw[uf]
  by_cases q:g=f
  ·rw[if_pos q,if_pos q];exact ry
  ·rw[if_neg q,if_neg q];exact r g
 ·by_cases q:g=f
  ·rw[q];exact(sZ f y fs).1
  ·refine(sZ f y fs).2 g (wi g λz=>hg ?_)
   show(if g=f then some u else mA g)=none;rw[if_neg q];exact z
def Inv.made (I:Inv X pins U H s):Inv X pins U (upd (upd H ↑s (.own (↑s+1))) (↑s+1) (.ins C ↑s []))
  {s with heap:=(s.heap.push PySem.W.emptyDict).push (PySem.W.instObj C ↑s)}:=by
 let e1:(s.heap.push PySem.W.emptyDict).get? ↑s=some PySem.W.emptyDict:=yx s.heap rfl;let e2:((s.heap.push PySem.W.emptyDict).push (PySem.W.instObj C ↑s)).get? (↑s+1)=some (PySem.W.instObj C ↑s):=by
  have:=yx (s.heap.push PySem.W.emptyDict) (o:=PySem.W.instObj C ↑s) rfl
  rwa [Heap.size_push] at this
 let e3:(s.heap.push PySem.W.emptyDict).Ns ↑s (λ_=>none):={PySem.W.emptyDict,#[],_,e1,rfl,(λe he=>absurd he (by simp)),λ_=>rfl}
 let I1:=I.laid (a:=↑s) (o:=.own (↑s+1)) (h':=s.heap.push PySem.W.emptyDict) (t':=s.toks) (λb u q=>yv _ q) (zm _) {_,e1};refine I1.laid (a:=↑s+1) (o:=.ins C ↑s []) (t':=s.toks) (λb u q=>yv _ q) (Nat.le_of_eq (Heap.size_push _ _)) ?_;let ne:↑s≠↑s+1:=yj (Nat.lt_succ_self _);refine{by rw[aC ne,aB],yg _,ne,e2,λ_=>none,(Heap.Ns1.of_empty e3).at λo q=>yv _ q,λ_=>True.intro,λy hy=>absurd rfl hy}
def O8 (hb:attributeBase e f env (eval e env)=eval e env)
  (h:wpAny (model prog w) A (eval e env) (λo s₁=>wpAny (model prog w) A (getAttr o f true) Q E s₁) E s):wpAny (model prog w) A (eval (.Attribute e f pos) env) Q E s:=
 Attribute_any_ h (by rw[arm_eval_Attribute,hb])
end
def N6 (K:yB) (ta:TE) (f:Str):TE:=λU H Q=>ta U H λx H1=>∃a C dx fs v,x=.ref a/\H1 a=some (.ins C dx fs)/\Po K C/\eN K C f/\fs.lookup f=some v/\Q v H1
def TY (K:yB) (ta tv:TE) (f:Str):TS:=λD U H=>tv U H λy H1=>ta U H1 λx H2=>∃a C dx fs,x=.ref a/\H2 a=some (.ins C dx fs)/\Po K C/\eN K C f/\⇑fs<1000/\
 D.nx U (upd H2 a (.ins C dx (aW f y fs)))
section
variable {X:Cx} {o e value:Expr} {f:Str} {pos pos' tpos:Pos} {ta tv:TE}
def bK (he:PE X e ta) (hb:attributeBase e f X.env (eval e X.env)=eval e X.env):PE X (.Attribute e f pos) (N6 X.K ta f):=by
 intro pins s U H Q I h;refine O8 hb (cU (he pins s U H _ I h) λu s1 zz=>?_);let⟨x,H1,I1,rx,a,C,dx,fs,v,ex,ea,c,n,l,q⟩:=zz;subst ex;obtain rfl:u=Value.ref a:=rx;exact HY I1 ea c n l λu' s2 I2 ru=>{(v),H1,I2,ru,q}
def iX (ha:PE X o ta) (hv:PE X value tv) (hs:swapsWith value (some (.Attribute o f pos')) pos.line X.env=pure false):PS X (.Assign [.Attribute o f pos'] value pos) (TY X.K ta tv f):=by
 intro pins s U H D I h;refine plainObj_wpAny_Assign_Attribute (cU (hv pins s U H _ I h) λu s1 ⟨y,H1,I1,ry,q⟩=>cU (ha pins s1 U H1 _ I1 q) λov s2 ⟨x,H2,I2,rx,a,C,dx,fs,ex,ea,c,n,l,q2⟩=>?_) hs;subst ex;obtain rfl:ov=Value.ref a:=rx;exact Hk I2 ea c n l ry λs3 I3=>{U,_,I3,q2}
end
section
variable {X:Cx} {pins:List (Addr×Obj)} {U:St} {H:Hp} {s:Shared} {A:Around} {E:Value->Shared->Prop} {Q:Value->Shared->Prop} {c:Value} {b:Bool}
inductive tS (K:yB) (H:Hp):V->Value->Prop where
 | bI:tS K H .bI (.type "NoneType")
 | bl (x:Bool):tS K H (.bl x) (.type "bool")
 | int (i:Int):tS K H (.int i) (.type "int")
 | str (x:Str):tS K H (.str x) (.type "str")
 | OW (x:UInt64):tS K H (.OW x) (.type "float")
 | lst {a:Addr} {xs:List V} (e:H a=some (.lst xs)):tS K H (.ref a) (.type "list")
 | mI {a:Addr} {o:Obj} {xs:List V} (e:H a=some (.mI o (.lst xs))):tS K H (.ref a) (.type "list")
 | tup {a:Addr} {xs:List V} (e:H a=some (.tup xs)):tS K H (.ref a) (.type "tuple")
 | dK {a:Addr} {kvs:List (Key×V)} (e:H a=some (.dK kvs)):tS K H (.ref a) (.type "dict")
 | dT {a:Addr} {kvs:List (List Key×V)} (e:H a=some (.dT kvs)):tS K H (.ref a) (.type "dict")
 | ins {a C dx:Addr} {fs:List (Str×V)} (e:H a=some (.ins C dx fs)) (cl:Po K C) (ha:PySem.W.findIn K (.ref C) "__class__"= some (some (.builtin "object.__class__")))
   (hn:PySem.W.specialIn K (.builtin "object.__class__") "__get__"= some (some (.builtin "getset_descriptor.__get__"))) (htk:PySem.W.takesIn K (.builtin "object.__class__")=some true)
   (hm:PySem.W.mroIn K C (.type "object")=some true):tS K H (.ref a) (.ref C)
def Kx (I:Inv X pins U H s) (rx:RelV x u) (ty:tS X.K H x t) (e:PySem.W.kitOne X.K t c=some b) (h:∀tk,Q (.bool b) {s with toks:=tk}) :
  wpAny (model X.prog X.w) A (call (.builtin "isinstance") [u,c]) Q E s:=by
 cases ty with
 | bI=>cases(show u=Value.none from rx);exact PySem.W.kia_one PySem.W.kitx_none I.qW True.intro e (λz=>nomatch z) h
 | bl y=>cases(show u=Value.bool y from rx);exact PySem.W.kia_one PySem.W.kitx_bool I.qW True.intro e (λz=>nomatch z) h
 | int i=>let⟨t,q⟩:=(show∃t,u=Value.int i t from rx);cases q;exact PySem.W.kia_one PySem.W.kitx_int I.qW True.intro e (λz=>nomatch z) h
 | str y=>let⟨t,q⟩:=(show∃t,u=Value.str y t from rx);cases q;exact PySem.W.kia_one PySem.W.kitx_str I.qW True.intro e (λz=>nomatch z) h
 | OW y=>let⟨t,q⟩:=(show∃t,u=Value.float y t from rx);cases q;exact PySem.W.kia_one PySem.W.kitx_float I.qW True.intro e (λz=>nomatch z) h
 | @lst a xs ea=>
  cases(show u=Value.ref a from rx);let⟨_,_,n,_,h1⟩:=(show cB X.prog X.w H s.heap a (.lst xs) from I.b7 a _ ea)
  exact PySem.W.kia_one PySem.W.kitx_list I.qW {_,h1,rfl} e (λz=>nomatch z) h
 | @mI a ob xs ea=>
  cases(show u=Value.ref a from rx);let⟨_,_,_,n,_,h1⟩:=(show cB X.prog X.w H s.heap a (.mI ob (.lst xs)) from I.b7 a _ ea)
  exact PySem.W.kia_one PySem.W.kitx_list I.qW {_,h1,rfl} e (λz=>nomatch z) h
 | @tup a xs ea=>
  cases(show u=Value.ref a from rx);let⟨_,_,_,p⟩:=(show cB X.prog X.w H s.heap a (.tup xs) from I.b7 a _ ea)
  let⟨o,h1,h2,_⟩:=p;exact PySem.W.kia_one PySem.W.kitx_tuple I.qW {(o),h1,h2} e (λz=>nomatch z) h
 | @dK a kvs ea=>
  cases(show u=Value.ref a from rx);let⟨_,_,vs,_,p⟩:=(show cB X.prog X.w H s.heap a (.dK kvs) from I.b7 a _ ea)
  let⟨o,es,ep,h1,h2,_⟩:=p;exact PySem.W.kia_one PySem.W.kitx_dict I.qW {(o),h1,h2.1} e (λz=>nomatch z) h
 | @dT a kvs ea=>
  cases(show u=Value.ref a from rx);let⟨_,_,xs,_,o,es,ep,h1,h2,_⟩:=(show cB X.prog X.w H s.heap a (.dT kvs) from I.b7 a _ ea)
  exact PySem.W.kia_one PySem.W.kitx_dict I.qW {(o),h1,h2.1} e (λz=>nomatch z) h
 | @ins a C dx fs ea cl ha hn htk hm=>
  cases(show u=Value.ref a from rx);let⟨mA,O,_⟩:=Dh I.b7 ea;let⟨od,J,_⟩:=O.look;exact PySem.W.kia_one (PySem.W.kitx_own (cl.get _) cl.hd ha hn htk hm) I.qW J e (λz=>nomatch z) h
end
end L2
namespace L2
open PySem PySem.Spec PyProof.Rows
structure fH (k:Nat) (A:Around):Prop where
 hd:A.handled=none
 dp:A.depth+3*k+5<recursionLimit
 un:A.units+16*k+200<cLine
def fH.mono (r:fH k A) (h:j<=k):fH j A:={r.hd,by have:=r.dp;omega,by have:=r.un;omega}
theorem fH.deeper (r:fH (k+1) A) (env:Env):fH k (A.deeper env):=
 {r.hd,by have:=r.dp;show A.depth+1+3*k+5<_;omega,by have:=r.un;show A.units+3+16*k+200<_;omega}
def HU {A:Around} {C:Addr} {us:List Value} {kw:List (Str×Value)}:(A.under (.builtin "type.__call__" {.ref C::us,kw})).depth=A.depth+1:=by
 first | rfl | simp[Around.under,Code.weight,Code.isCreation,Code.isGuard,Code.isCaller,Code.frames,Code.isFrame,guardIds]
def HS {A:Around} {C:Addr} {us:List Value} {kw:List (Str×Value)}:(A.under (.builtin "type.__call__" {.ref C::us,kw})).units=A.units+1:=by
 first | rfl | simp[Around.under,Code.cUnits,Code.frames,Code.isFrame]
def fH.make (r:fH (k+1) A) (C:Addr) (us:List Value) (kw:List (Str×Value)):fH k (A.under (.builtin "type.__call__" {.ref C::us,kw})):=
 {r.hd,by have:=r.dp;rw[HU];omega,by have:=r.un;rw[HS];omega}
theorem fH.depth (r:fH k A):A.depth<recursionLimit:=by have:=r.dp;omega
theorem fH.units (r:fH k A):A.units+64<cLine:=by have:=r.un;omega
def eD:TA:=λ_ H Q=>Q [] H
def bR (ta:TE) (tr:TA):TA:=λU H Q=>ta U H λx H1=>tr U H1 λxs H2=>Q (x::xs) H2
section
variable {X:Cx} {e:Expr} {es:List Expr} {te:TE} {t:TA} {pos:Pos}
def ag:PA X [] eD:=λ_ _ _ _ H Q I h=>Calls.spliced_nil {[],H,I,.nil,h}
def ah (ha:PE X e te) (hr:PA X es t) (hs:starEach (e::es) X.env=(false,eval e X.env)::starEach es X.env<|>qe_):PA X (e::es) (bR te t):=by
 intro pos pins s U H Q I h;rw[hs];show wpAny _ _ (spliced ((false,eval e X.env)::backTo pos (starEach es X.env))) _ _ s;refine Calls.spliced_cons (cU (ha pins s U H _ I h) λu s1 zz=>?_);let⟨x,H1,I1,r1,q1⟩:=zz;exact cU (hr pos pins s1 U H1 _ I1 q1) λus s2 ⟨xs,H2,I2,r2,q2⟩=>{x::xs,H2,I2,.cons r1 r2,q2}
def EH (t:TA):TE:=λU H Q=>t U H λxs H1=>⇑xs<=sizeLine/\∀p,H1 p=none->Q (.ref p) (upd H1 p (.tup xs))
def EJ (t:TA):TE:=λU H Q=>t U H λxs H1=>⇑xs<=sizeLine/\∀p,H1 p=none->Q (.ref p) (upd H1 p (.lst xs))
def bz {x1} (h:PA X es t):PE X (.Tuple es x1 pos) (EH t):=by
 intro pins s U H Q I hq;refine wpAny_Tuple_spliced (cU (h pos pins s U H _ I hq) λus s1 ⟨xs,H1,I1,r,z,q⟩=>{by rw[<-⇑r];exact z,?_});let hf:H1 ↑s1=none:=I1.b7.fresh (zm _);refine{.ref ↑s1,upd H1 ↑s1 (.tup xs),I1.laid (t':=s1.toks) (λb u e=>yv _ e) (zm _) ?_,rfl,q _ hf};exact{z,us,r,{_,yx _ rfl,rfl,_,rfl}}
def aY (h:PA X es t):PE X (.List es pos) (EJ t):=by
 intro pins s U H Q I hq;refine wpAny_List_spliced (cU (h pos pins s U H _ I hq) λus s1 ⟨xs,H1,I1,r,z,q⟩=>{by rw[<-⇑r];exact z,?_});let hf:H1 ↑s1=none:=I1.b7.fresh (zm _);refine{.ref ↑s1,upd H1 ↑s1 (.lst xs),I1.laid (t':=s1.toks) (λb u e=>yv _ e) (zm _) ?_,rfl,q _ hf};exact{z,us,0,r,yx _ rfl}
end
abbrev Sp:=List V->Hp->VK->XK->Prop
abbrev IV:=List Env->Hp->Shared->XK->Value->Shared->Prop
structure GS (P:Program) (w:World) (K:yB) (mg:Str->Option Value) (base:Heap) (A:Around) (outer:List Env) (s:Shared) (H:Hp):Prop where
 frames:A.frames=some outer
 mod:Mod K mg base
 bs:∀b o,base.get? b=some o->s.heap.get? b=some o/\H b=none
 Lq:base.objs.size<=↑s
 ox:s.heap.FunFrames base outer
 F1:∀b∈oF outer,H b=none
 b7:pS P w H s.heap
 bare:AllBare s.gens
def CE (outer:List Env) (P:Program) (w:World) (H:Hp) (s:Shared) (Q:VK) (u:Value) (s':Shared):Prop:=
 ∃v H',s'.os=s.os/\AllBare s'.gens/\Un (oF outer) [] H H' s.heap s'.heap/\pS P w H' s'.heap/\RelV v u/\Q v H'
def CR (CX:IV) (outer:List Env) (P:Program) (w:World) (H:Hp) (s:Shared) (Q:VK) (E:XK) (r:Result) (s':Shared):Prop:=
 match r with
 | .ok (.ret u)=>CE outer P w H s Q u s'
 | .ok _=>False
 | .error e=>CX outer H s E e s'
structure dC (P:Program) (w:World) (K:yB) (mg:Str->Option Value) (base:Heap) (CX:IV) (k:Nat) (f:Addr) (fd:FuncData) (ps:List Str) (sp:Sp):Prop where
 len:∀vs H Q E,sp vs H Q E->⇑vs=⇑ps
 run:∀(A:Around) (outer:List Env) (s:Shared) (H:Hp) (args:Args) (us:List Value) (vs:List V) (Q:VK) (E:XK),fH k A->GS P w K mg base A outer s H->BindsTo s fd args (ps.zip us)->Vals vs us->sp vs H Q E->
  codeAny (model P w) A (.call (.ref f) args) (CR CX outer P w H s Q E) s
theorem dC.mono {P:Program} {w:World} {K:yB} {mg:Str->Option Value} {base:Heap} {CX:IV} {j k:Nat} {f:Addr} {fd:FuncData} {ps:List Str} {sp:Sp} (F:dC P w K mg base CX j f fd ps sp) (h:j<=k) :
  dC P w K mg base CX k f fd ps sp:={F.len,λA outer s H args us vs Q E hr=>F.run A outer s H args us vs Q E (hr.mono h)}
def GS.make {P:Program} {w:World} {K:yB} {mg:Str->Option Value} {base:Heap} {A:Around} {outer:List Env} {s:Shared} {H:Hp} (e:GS P w K mg base A outer s H) (C:Addr) (us:List Value) (kw:List (Str×Value)) :
  GS P w K mg base (A.under (.builtin "type.__call__" {.ref C::us,kw})) outer s H:={by first | exact e.frames | (simpa[Around.under,Code.envs,Code.isFrame,pushEnvs] using e.frames),e.mod,e.bs,e.Lq,e.ox,e.F1,e.b7,e.bare}
section
variable {X:Cx} {pins:List (Addr×Obj)} {U:St} {H:Hp} {s s':Shared}
def Inv.OZ (I:Inv X pins U H s):GS X.prog X.w X.K X.mg X.base X.A X.stack s H:=
 {I.ok.frames,I.ok.mod,I.bs,zM I.ok.Lq I.sz,I.stack,I.pY,I.b7,I.bare}
def Inv.after (I:Inv X pins U H s) (h:CE X.stack X.prog X.w H s Q u s'):EP X pins U Q u s':=by
 let⟨v,H',os,bare,un,b7,r,q⟩:=h;let⟨hh,g,d,t,os'⟩:=s';obtain rfl:os'=s.os:=os;exact{v,H',I.call (h':=hh) (g':=g) (d':=d) (t':=t) (ch:=[]) un b7 bare (λb z=>absurd z (by simp)),r,q}
end
def gK (sp:Sp) (dvs:List V) (E:XK) (t:TA):TE:=λU H Q=>t U H λvs H1=>sp (vs++dvs) H1 Q E
def RN (C:Addr) (sp:Sp) (dvs:List V) (E:XK) (t:TA):TE:=λU H Q=>t U H λvs H1=>∀x dx,H1 x=none->H1 dx=none->dx≠x->
 sp (.ref x::(vs++dvs)) (upd (upd H1 dx (.own x)) x (.ins C dx [])) (λv H2=>v=.bI/\Q (.ref x) H2) E
def Binds (K:yB) (fd:FuncData) (ps:List Str) (ds:List Value):Prop:=
 ∀(s:Shared) (us:List Value),K.In s.heap->⇑(us++ds)=⇑ps->BindsTo s fd {us,[]} (ps.zip (us++ds))
def Binds.all {K:yB} {fd:FuncData} {ps:List Str} (h:∀us:List Value,⇑us=⇑ps->bindArgs fd {us,[]}=pure (ps.zip us)):Binds K fd ps []:=λs us _ hl=>by
 rw[zV] at hl ⊢;exact .of_eq (h us hl)
def Passes (CX:IV) (X:Cx) (E:XK):Prop:=∀(pins:List (Addr×Obj)) (U:St) (H:Hp) (s:Shared) (e:Value) (s':Shared),Inv X pins U H s->CX X.stack H s E e s'->X.xe e s'
section
variable {X:Cx} {CX:IV} {k:Nat} {f C:Addr} {fd:FuncData} {ps:List Str} {sp:Sp} {dvs:List V} {ds:List Value} {E:XK} {x m:Str} {p pos apos:Pos} {e o:Expr} {es:List Expr} {ta:TE} {t:TA}
def Ma (F:dC X.prog X.w X.K X.mg X.base CX k f fd ps sp) (hr:fH k X.A) (hb:Binds X.K fd ps ds) (hd:Vals dvs ds) (hx:Passes CX X E)
  (I:Inv X pins U H s) (r:Vals vs us) (h:sp (vs++dvs) H Q E):wpAny (model X.prog X.w) X.A (call (.ref f) us) (EP X pins U Q) X.xe s:=by
 let r2:Vals (vs++dvs) (us++ds):=r.append hd;let hl:⇑(us++ds)=⇑ps:=by rw[<-⇑r2];exact F.len _ _ _ _ h
 refine wpAny_call (codeAny_mono (F.run X.A X.stack s H {us,[]} (us++ds) (vs++dvs) Q E hr I.OZ (hb s us I.qW hl) r2 h) λr s' hq=>?_);cases r with
 | error e=>exact hx pins U H s e s' I hq
 | ok fl=>
  cases fl with
  | ret u=>exact I.after hq
  | next=>exact False.elim hq
  | brk=>exact False.elim hq
  | cont=>exact False.elim hq
def OB (F:dC X.prog X.w X.K X.mg X.base CX k f fd ps sp) (hr:fH k X.A) (hg:Gl X x) (hm:X.mg x=some (.ref f)) (hk:PySem.W.keepIn X.K (.ref f)=true) (hb:Binds X.K fd ps ds) (hd:Vals dvs ds) (hx:Passes CX X E)
  (ha:PA X (e::es) t) (hdb:(x == ("__debug__": Str))=false<|>qb_) (he:starEach (e::es) X.env=(false,eval e X.env)::starEach es X.env<|>qe_) (hpl:(backTo pos (starEach es X.env)).any (·.1)=false<|>qe_) :
  PE X (.Call (.Name x p) (e::es) [] pos) (gK sp dvs E t):=by
 intro pins s U H Q I h;refine wpAny_Call_Name_kw (jL I hg hm ?_ hdb);refine PySem.W.callWith_K (h₀:=X.base) I.ok.mod.QS hk (cU (ha pos pins s U H _ I h) λus s1 ⟨vs,H1,I1,r,q⟩=>{I1.qW,?_}) he hpl;exact Ma F hr hb hd hx I1 r q
structure Mk (K:yB) (C f:Addr):Prop where
 makes:PySem.W.makesIn K C=true
 init:PySem.W.findIn K (.ref C) "__init__"= some (some (.ref f))
 fn:PySem.W.isFn K (.ref f)=true
 kp:PySem.W.keepIn K (.ref C)=true
def L9 (M:Mk X.K C f) (F:dC X.prog X.w X.K X.mg X.base CX k f fd ps sp) (hr:fH (k+1) X.A) (hb:Binds X.K fd ps ds) (hd:Vals dvs ds)
  (hx:Passes CX X E) (I:Inv X pins U H s) (r:Vals vs us)
  (h:∀x dx,H x=none->H dx=none->dx≠x->sp (.ref x::(vs++dvs)) (upd (upd H dx (.own x)) x (.ins C dx [])) (λv H2=>v=.bI/\Q (.ref x) H2) E) :
  wpAny (model X.prog X.w) X.A (call (.ref C) us) (EP X pins U Q) X.xe s:=by
 let hq:=h (↑s+1) ↑s (I.b7.fresh (Nat.le_succ _)) (I.b7.fresh (zm _)) (yj (Nat.lt_succ_self _));let I2:=Inv.made (C:=C) I;let r2:Vals (V.ref (↑s+1)::(vs++dvs)) (Value.ref (↑s+1)::(us++ds)):=.cons rfl (r.append hd);let hl:⇑(Value.ref (↑s+1)::us++ds)=⇑ps:=by
  let e:=⇑r2;rw[F.len _ _ _ _ hq] at e;exact e.symm
 refine wpAny_call (MP (f:=f) I.qW M.makes M.init (beq_iff_eq.mp M.fn) (codeAny_mono (F.run _ X.stack _ _ {Value.ref (↑s+1)::us,[]} (Value.ref (↑s+1)::(us++ds)) _ _ E (hr.make C us [])
  (I2.OZ.make C us []) (hb _ (Value.ref (↑s+1)::us) I2.qW hl) r2 hq) λr s' hq'=>?_))
 cases r with
 | error e=>exact hx pins U _ _ e s' I2 hq'
 | ok fl=>
  cases fl with
  | ret u=>
   let⟨v,H',I3,rv,ev,q3⟩:=I2.after hq';subst ev;exact{rv,{V.ref (↑s+1),H',I3,rfl,q3}}
  | next=>exact False.elim hq'
  | brk=>exact False.elim hq'
  | cont=>exact False.elim hq'
def MA (M:Mk X.K C f) (F:dC X.prog X.w X.K X.mg X.base CX k f fd ps sp) (hr:fH (k+1) X.A) (hg:Gl X x) (hm:X.mg x=some (.ref C)) (hb:Binds X.K fd ps ds) (hd:Vals dvs ds) (hx:Passes CX X E)
  (hdb:(x == ("__debug__": Str))=false<|>qb_):PE X (.Call (.Name x p) [] [] pos) (RN C sp dvs E eD):=by
 intro pins s U H Q I h;refine wpAny_Call_Name_kw (jL I hg hm ?_ hdb);exact PySem.W.callWith_K0 I.qW M.kp (L9 (us:=[]) M F hr hb hd hx I .nil h)
end
section
variable {X:Cx} {CX:IV} {k:Nat} {f C:Addr} {fd:FuncData} {ps ks:List Str} {sp:Sp} {E:XK} {x m:Str} {p pos apos kpos:Pos} {e o:Expr} {es:List Expr} {kws:List Keyword} {te ta:TE} {t tk:TA} {nm:Option Str}
variable {g:List Value->List Value->List Value} {gV:List V->List V->List V}
end
structure fY (N P:List Str) (sc:Scope):Prop where
 kind:sc.kind=.function
 co:sc.isCoroutine=false
 gen:sc.isGenerator=false
 nd:N.Nodup
 pre:N.take P.length=P
 par:∀x∈P,sc.names.lookup x=some .local\/sc.names.lookup x=some .cell
 QN:∀y∈sc.names,y.2≠.free
theorem B0 {kindOf:Str->Option NameKind} {x:Str}:∀{binds:List (Str×Value)} {m:Str->Option Value},(∀v,(x,v)∉binds)->bindL kindOf binds m x=m x
 | [],_,_=>rfl
 | (n,v)::r,m,h=>by
  unfold bindL;rw[B0 λw hw=>h w (zp _ hw)];split
  ·have:x≠n:=by rintro rfl;exact h v zr
   simp[this]
  ·rfl
theorem B3 {kindOf:Str->Option NameKind} {x:Str}:∀{binds:List (Str×Value)} {m:Str->Option Value},(∀v,(x,v)∉binds)->bindC kindOf binds m x=m x
 | [],_,_=>rfl
 | (n,v)::r,m,h=>by
  unfold bindC;rw[B3 λw hw=>h w (zp _ hw)];split
  ·rfl
  ·have:x≠n:=by rintro rfl;exact h v zr
   simp[this]
theorem B1 {kindOf:Str->Option NameKind} {x:Str} {v:Value}:∀{P:List Str} {vs:List Value} {i:Nat} {m:Str->Option Value},P.Nodup->P[i]?=some x->vs[i]?=some v->kindOf x=some .local->
  bindL kindOf (P.zip vs) m x=some v
 | [],_,_,_,_,h,_,_=>by simp at h
 | _::_,[],_,_,_,_,h,_=>by simp at h
 | p::P,w::vs,0,m,nd,h1,h2,hk=>by
  simp at h1 h2;subst h1;subst h2;show bindL kindOf ((p,w)::P.zip vs) m p=_;unfold bindL;rw[B0 λv hv=>(yd.mp nd).1 (List.of_mem_zip hv).1,if_pos hk];simp
 | p::P,w::vs,i+1,m,nd,h1,h2,hk=>by
  show bindL kindOf ((p,w)::P.zip vs) m x=_;unfold bindL;exact B1 (i:=i) (yd.mp nd).2 (by simpa using h1) (by simpa using h2) hk
theorem B4 {kindOf:Str->Option NameKind} {x:Str} {v:Value}:∀{P:List Str} {vs:List Value} {i:Nat} {m:Str->Option Value},P.Nodup->P[i]?=some x->vs[i]?=some v->kindOf x≠some .local->
  bindC kindOf (P.zip vs) m x=some v
 | [],_,_,_,_,h,_,_=>by simp at h
 | _::_,[],_,_,_,_,h,_=>by simp at h
 | p::P,w::vs,0,m,nd,h1,h2,hk=>by
  simp at h1 h2;subst h1;subst h2;show bindC kindOf ((p,w)::P.zip vs) m p=_;unfold bindC;rw[B3 λv hv=>(yd.mp nd).1 (List.of_mem_zip hv).1,if_neg hk];simp
 | p::P,w::vs,i+1,m,nd,h1,h2,hk=>by
  show bindC kindOf ((p,w)::P.zip vs) m x=_;unfold bindC;exact B4 (i:=i) (yd.mp nd).2 (by simpa using h1) (by simpa using h2) hk
def start (N:List Str) (vs:List V):St:=vs.map some++List.replicate (N.length-⇑vs) none
def j9 (CX:IV) (P:Program) (w:World) (K:yB) (mg:Str->Option Value) (base:Heap) (N:List Str) (qual:Str) (scope:Scope) (f:Addr) (cd:Value) (A:Around) (outer:List Env) (s:Shared) (H:Hp) (E:XK):Cx where
 prog:=P
 w:=w
 K:=K
 mg:=mg
 base:=base
 A:=A.deeper (envOfC qual scope ↑s f cd)
 N:=N
 s₀:=s
 H₀:=H
 env:=envOfC qual scope ↑s f cd
 outer:=outer
 stack:=envOfC qual scope ↑s f cd::outer
 ex:=[]
 calm:=true
 fn:=λ_=>true
 pn:=[]
 xe:=λe s'=>wpAny (model P w) (A.deeper (envOfC qual scope ↑s f cd)) (leaving (envOfC qual scope ↑s f cd) e) (λ_ s''=>CX outer H s E e s'') (λe' s''=>CX outer H s E e' s'') s'
def Gy {sc:Scope} {n:Nat} {x:Str} (h:sc.names.lookup x=some .cell):∃c,(cellsFrom n sc.names []).lookup x=some c:=by
 let q:=PySem.W.cellsFrom_some sc.names n [] (.inl h);exact Option.isSome_iff_exists.mp q
def Ky {CX:IV} {P:Program} {w:World} {K:yB} {mg:Str->Option Value} {base:Heap} {N ps:List Str} {qual:Str} {scope:Scope} {f:Addr} {cd:Value} {A:Around} {outer:List Env} {s s1:Shared} {H:Hp} {E:XK} {us:List Value} {vs:List V}
  (S:fY N ps scope) (hd:A.handled=none) (e0:GS P w K mg base A outer s H) (hl:⇑vs=⇑ps) (r:Vals vs us)
  (x:InCallC s ↑s (bindL (envOfC qual scope ↑s f cd).kindOf (ps.zip us) λ_=>none) (cellsFrom (↑s+1) scope.names []) (bindC (envOfC qual scope ↑s f cd).kindOf (ps.zip us) λ_=>none) s1) :
  Inv (j9 CX P w K mg base N qual scope f cd A outer s H E) [] (start N vs) H s1:=by
 let hpl:⇑ps<=N.length:=by have:=congrArg List.length S.pre;rw[zQ] at this;omega
 let⟨h1,tk,rfl,hk⟩:=x.done;let noA:∀b:Addr,b∉(j9 CX P w K mg base N qual scope f cd A outer s H E).ex:=λb z=>absurd (show b∈([]:List Addr) from z) (by simp);refine{{e0.mod,S.kind,rfl,rfl,zm _,λy z c h1 h2=>?_,λy hy=>?_,λy c _ h=>?_,λ_=>hd,Around.frames_deeper e0.frames,.inr {(rfl),rfl},λb z=>absurd z (noA b),e0.bs,e0.Lq,λb _ _=>noA b,λb z=>absurd z (noA b),e0.ox,e0.F1},
  rfl,e0.bare,Un.kept hk,{_,x.toInCall.ns,λi y v h1 h2 h3=>?_},λy c h=>{_,x.cell y c h},e0.b7.fresh (zm _),λy c h=>?_,λp hp=>absurd (show p∈([]:List (Addr×Obj)) from hp) (by simp),e0.b7.kept hk,?_}
 ·exact name_of_addr x.apart (PySem.mem_of_lookup h1) (PySem.mem_of_lookup h2)
 ·let hy:scope.names.lookup y=some .cell\/scope.names.lookup y=some .free:=hy
  rcases hy with hy | hy
  ·exact Gy hy
  ·exact absurd rfl (S.QN _ (PySem.mem_of_lookup hy))
 ·exact yh (x.above y c (PySem.mem_of_lookup h))
 ·let hi:i<⇑vs:=by
   unfold start at h2
   by_cases hi:i<⇑vs
   ·exact hi
   ·rw[z9 (by simpa using hi)] at h2
    rw[List.getElem?_replicate] at h2;split at h2 <;> cases h2
  let ha:vs[i]?=some v:=by
   unfold start at h2;rw[List.getElem?_append_left (by simpa using hi),zK] at h2;cases e:vs[i]? with
   | none=>rw[e] at h2;cases h2
   | some a=>rw[e] at h2;cases h2;rfl
  let⟨u,hu,rv⟩:=r.get ha;let hp:ps[i]?=some y:=by
   rw[<-S.pre,List.getElem?_take_of_lt nofun];exact h1
  let ndP:ps.Nodup:=by rw[<-S.pre];exact S.nd.sublist (List.take_sublist _ _)
  refine{u,rv,?_};rcases S.par y (zC hp) with k | k
  ·exact .inl {k,B1 ndP hp hu k}
  ·let⟨c,e⟩:=Gy (n:=↑s+1) k
   refine .inr {.inl k,c,e,?_};let q:=x.cell y c e;rw[B4 ndP hp hu (by show scope.names.lookup y≠_;rw[k];decide)] at q;exact q
 ·exact e0.b7.fresh (yh (x.above y c (PySem.mem_of_lookup h)))
 ·unfold start
  show _=N.length;rw[zh,za,List.length_replicate];omega
def PN {CX:IV} {P:Program} {w:World} {K:yB} {mg:Str->Option Value} {base:Heap} {k:Nat} {f:Addr} {name qual:Str} {params:Arguments} {body:List Stmt} {scope:Scope} {dV kV doc pm cdv ct oc:Value} {an od:Option Addr}
  {osl:Array (Option Value)} {N ps:List Str} {sp:Sp} (lk:K.lookup f=some {oc,od,.func (PySem.W.fnOf name qual params body scope dV kV doc pm an cdv ct),osl}) (hcd:PySem.W.codeIn K cdv qual=true) (S:fY N ps scope)
  (len:∀vs H Q E,sp vs H Q E->⇑vs=⇑ps)
  (hbody:∀(A:Around) (outer:List Env) (s:Shared) (H:Hp) (vs:List V) (Q:VK) (E:XK),fH k (A.deeper (envOfC qual scope ↑s f cdv))->sp vs H Q E->
   ∃t,Bk (j9 CX P w K mg base N qual scope f cdv A outer s H E) body t/\t {nx:=λ_ H'=>Q .bI H',rt:=Q} (start N vs) H) :
  dC P w K mg base CX (k+1) f (PySem.W.fnOf name qual params body scope dV kV doc pm an cdv ct) ps sp:=by
 refine{len,λA outer s H args us vs Q E hr e0 hb r hsp=>?_};let hl:=len _ _ _ _ hsp;let KX:K.In s.heap:=e0.mod.QS.keeps λb o e=>(e0.bs b o e).1;let lim:s.heap.NoLimit:=e0.mod.nolimit.keeps λb o e=>(e0.bs b o e).1;let hkind:∀y∈ps.zip us,scope.names.lookup y.1=some .local\/(scope.names.lookup y.1=some .cell/\((cellsFrom (↑s+1) scope.names []).lookup y.1).isSome=true):=λ⟨n,v⟩ hy=>by
  rcases S.par n (List.of_mem_zip hy).1 with q | q
  ·exact .inl q
  ·exact .inr {q,PySem.W.cellsFrom_some _ _ _ (.inl q)}
 refine codeAny_call_function hr.depth (KX _ _ lk) rfl S.co S.gen rfl (PySem.W.codeRec_of KX hcd) (hb _ _ _ _ ?_);refine wpAny_newFunctionEnv_cells S.kind hkind λenv he s1 x=>?_;subst he;refine{lim.keeps x.toInCall.keep,codeAny_func ?_};let⟨t,ht,hq⟩:=hbody A outer s H vs Q E (hr.deeper _) hsp;let I:Inv (j9 CX P w K mg base N qual scope f cdv A outer s H E) [] (start N vs) H s1:=Ky S hr.hd e0 hl r x;refine wpAny_mono (ht [] s1 (start N vs) H _ I hq) (λfl s' hs=>?_) λe s' hs=>hs;let fin:∀{U':St} {H':Hp} {v:V} {u:Value},Inv (j9 CX P w K mg base N qual scope f cdv A outer s H E) [] U' H' s'->RelV v u->Q v H'->CE outer P w H s Q u s':=
  λ{U' H' v u} J rv q=>{(v),H',J.os,J.bare,J.base,J.b7,rv,q}
 cases fl with
 | ret u=>
  let⟨v,U',H',J,rv,q⟩:=hs;exact fin J rv q
 | next=>
  let⟨U',H',J,q⟩:=hs;exact fin (v:=V.bI) (u:=Value.none) J rfl q
 | brk=>
  let⟨_,_,_,q⟩:=hs;exact False.elim q
 | cont=>
  let⟨_,_,_,q⟩:=hs;exact False.elim q
end L2
namespace L2
open PySem PySem.Spec PyProof.Rows
section
variable {X:Cx} {x:Str} {p pos:Pos} {e:Expr} {es:List Expr} {t:TA} {id T:String} {r:List V->Hp->VK->Prop}
def JY (r:List V->Hp->VK->Prop) (t:TA):TE:=λU H Q=>t U H λvs H1=>r vs H1 Q
def Fw (hc:fo X (.builtin id) r) (hg:Gl X x) (hm:X.mg x=none) (hv:bootBuiltins x=some (.builtin id)) (ha:PA X (e::es) t) (hn:x≠ "__name__"<|>qb_) (hdb:(x == ("__debug__": Str))=false<|>qb_)
  (he:starEach (e::es) X.env=(false,eval e X.env)::starEach es X.env<|>qe_) (hpl:(backTo pos (starEach es X.env)).any (·.1)=false<|>qe_):PE X (.Call (.Name x p) (e::es) [] pos) (JY r t):=by
 intro pins s U H Q I h;refine wpAny_Call_Name_kw (je I hg hm hv ?_ hn hdb);exact PyProof.Rows.callWith_builtin1 (cU (ha pos pins s U H _ I h) λus s1 ⟨vs,H1,I1,r1,q1⟩=>hc pins s1 U H1 vs us Q I1 r1 q1) he hpl
def Kk (hc:fo X (.type T) r) (hg:Gl X x) (hm:X.mg x=none) (hv:bootBuiltins x=some (.type T)) (ha:PA X (e::es) t) (hn:x≠ "__name__"<|>qb_) (hdb:(x == ("__debug__": Str))=false<|>qb_)
  (he:starEach (e::es) X.env=(false,eval e X.env)::starEach es X.env<|>qe_) (hpl:(backTo pos (starEach es X.env)).any (·.1)=false<|>qe_):PE X (.Call (.Name x p) (e::es) [] pos) (JY r t):=by
 intro pins s U H Q I h;refine wpAny_Call_Name_kw (je I hg hm hv ?_ hn hdb);exact yM (cU (ha pos pins s U H _ I h) λus s1 ⟨vs,H1,I1,r1,q1⟩=>hc pins s1 U H1 vs us Q I1 r1 q1) he hpl
end
end L2
namespace HT
open PySem PyProof.Rows
section
open PySem.SeqAt
open PySem.AutoSeq1 (wpAny_loadPart')
open PySem.MeetsSeq PySem.MeetsSeq2 PySem.MeetsSeq3
end
section
variable {prog:Program} {w:World} {A:Around} {E:Value->Shared->Prop} {s:Shared}
def O7 {t b:Addr} {vs ws:List Value} {Q:Value->Shared->Prop} (ht:IsTup s.heap t vs.toArray) (hb:IsTup s.heap b ws.toArray) (hv:vs≠[])
  (h1:ws=[]->Q (.ref t) s) (h2:ws≠[]->Q (.ref ↑s) {s with heap:=s.heap.push {cls:=.type "tuple",data:=.seq (vs++ws).toArray}})
  (hsz:⇑vs+⇑ws<=sizeLine):wpAny (model prog w) A (binaryOp .Add (.ref t) (.ref b)) Q E s:=by
 let⟨⟨cls,dd,data,sl⟩,ho,hc,n,hd⟩:=id ht;let⟨⟨cls2,dd2,data2,sl2⟩,ho2,hc2,n2,hd2⟩:=id hb;simp only at hc hd hc2 hd2;subst hc hd hc2 hd2;let e:vs.toArray++ws.toArray=(vs++ws).toArray:=by simp
 by_cases hw:ws=[]
 ·exact concat_meets {_,ho,rfl} {_,ho2,rfl} noFill_tuple_add seq_tuple_add PySem.F.slot_tuple_add PySem.F.entry_tuple_add (PySem.F.args_tuple_add_2 _ _)
   (tuple_addW1 t b vs.toArray ws.toArray n n2 dd dd2 sl sl2 (by simpa using hv) (by simp[hw])) {ho,ho2,h1 hw}
 ·refine concat_meets {_,ho,rfl} {_,ho2,rfl} noFill_tuple_add seq_tuple_add PySem.F.slot_tuple_add PySem.F.entry_tuple_add (PySem.F.args_tuple_add_2 _ _)
   (tuple_addW2 t b vs.toArray ws.toArray n n2 dd dd2 sl sl2 (by simpa using hv) (by simpa using hw) (by rw[yb,yb];exact hsz)) {ho,ho2,?_}
  rw[e];exact h2 hw
def eY (n d:Nat):Option Int->Nat
 | none=>d
 | some v=>if v<0 then(v+(n:Int)).toNat else min v.toNat n
def Fd (n d:Nat):eY n d none=d:=rfl
def Qs (n d:Nat) (hd:d<=n) (o:Option Int):eY n d o<=n:=by
 cases o with
 | none=>exact hd
 | some v=>
  show(if v<0 then(v+(n:Int)).toNat else min v.toNat n)<=n
  by_cases hv:v<0
  ·rw[if_pos hv];omega
  ·rw[if_neg hv];exact Nat.min_le_right _ _
def JE (v:Int) (n d:Nat):(if v<0 then max (v+(n:Int)) 0 else min v (n:Int))=((eY n d (some v):Nat):Int):=by
 show(if v<0 then max (v+(n:Int)) 0 else min v (n:Int))=(((if v<0 then(v+(n:Int)).toNat else min v.toNat n):Nat):Int)
 by_cases hv:v<0
 ·simp only[if_pos hv];omega
 ·simp only[if_neg hv];omega
def IC (lo hi:Option Int) (n:Nat):Builtin.Slice.sliceAdjust lo hi 1 (n:Int)=(((eY n 0 lo:Nat):Int),((eY n n hi:Nat):Int)):=by
 let h1:¬((1:Int)<0):=nofun
 unfold Builtin.Slice.sliceAdjust;simp only[h1,if_false];refine Prod.ext ?_ ?_
 ·cases lo with
  | none=>rfl
  | some v=>exact JE v n 0
 ·cases hi with
  | none=>rfl
  | some v=>exact JE v n n
def HK (i j:Nat):Builtin.Slice.slicePlaces (i:Int) (j:Int) 1=j-i:=by
 unfold Builtin.Slice.slicePlaces;let h1:(1:Int)>0:=nofun
 simp only[h1,if_true,Int.ediv_one];split <;> omega
def wd (p:IsPart v o) (h:Q o s):wpAny (model prog w) A (Builtin.Slice.slicePartIndex v) Q E s:=by
 cases p with
 | none=>exact slicePart_none h
 | int i t=>exact slicePart_int h
def km {sl:Addr} {vl vu:Value} {lo hi:Option Int} {n:Nat} {Q:Int×Int×Nat->Shared->Prop} (hs:s.heap.IsSliceOf sl vl vu .none) (pl:IsPart vl lo) (pu:IsPart vu hi)
  (h:Q (((eY n 0 lo:Nat):Int),1,eY n n hi-eY n 0 lo) s):wpAny (model prog w) A (Builtin.Slice.sliceApplied (.ref sl) (pure (n:Int))) Q E s:=by
 let⟨os,hos,hcs,hds⟩:=id hs;unfold Builtin.Slice.sliceApplied Builtin.Slice.sliceFields;refine yu (yu (wpAny_field hos hds (x:=vl) rfl (yu (wpAny_field hos hds (x:=vu) rfl (yu (wpAny_field hos hds (x:=.none) rfl (yw ?_)))))));refine yu (slicePart_none ?_);show wpAny _ _ (if((1:Int) == 0)=true then _ else _) _ _ s;rw[if_neg ∅];refine yu (wd pl (yu (wd pu (yu (yw ?_)))));show wpAny _ _ (match Builtin.Slice.sliceAdjust lo hi 1 (n:Int) with | (lo,hi)=>pure (lo,(1:Int),Builtin.Slice.slicePlaces lo hi 1)) _ _ s;rw[IC lo hi n];show wpAny _ _ (pure (((eY n 0 lo:Nat):Int),(1:Int),Builtin.Slice.slicePlaces ((eY n 0 lo:Nat):Int) ((eY n n hi:Nat):Int) 1)) _ _ s;rw[HK];exact yw h
def Mw (xs:Array Value) (i k:Nat):((List.range k).filterMap λ(m:Nat)=>xs[((i:Int)+(m:Int)*1).toNat]?).toArray=((xs.toList.drop i).take k).toArray:=by
 let e:(λ(m:Nat)=>xs[((i:Int)+(m:Int)*1).toNat]?)=λm=>xs[i+m]?:=by
  funext m
  have:((i:Int)+(m:Int)*1).toNat=i+m:=nofun
  rw[this]
 rw[e];have:=pick_run xs i k;rw[List.filterMap_map] at this;let e2:((λx=>xs[x]?)∘λx=>i+x)=λm=>xs[i+m]?:=rfl;rw[e2] at this;rw[this]
def rg {t sl:Addr} {items:Array Value} {vl vu:Value} {lo hi:Option Int} {Q:Value->Shared->Prop} (ht:IsTup s.heap t items) (hs:s.heap.IsSliceOf sl vl vu .none) (pl:IsPart vl lo) (pu:IsPart vu hi)
  (hw:¬(eY items.size 0 lo=0/\eY items.size items.size hi=items.size))
  (h:Q (.ref ↑s) {s with heap:=s.heap.push {cls:=.type "tuple",data:=.seq ((items.toList.drop (eY items.size 0 lo)).take (eY items.size items.size hi-eY items.size 0 lo)).toArray}})
  (hsz:items.size<=sizeLine):wpAny (model prog w) A (getItem (.ref t) (.ref sl)) Q E s:=by
 let htake:sizeOk (.seq ((items.toList.drop (eY items.size 0 lo)).take (eY items.size items.size hi-eY items.size 0 lo)).toArray):=by
  show((items.toList.drop (eY items.size 0 lo)).take (eY items.size items.size hi-eY items.size 0 lo)).toArray.size<=sizeLine;rw[yb,zQ,List.length_drop,Array.length_toList];omega
 let hj:eY items.size items.size hi<=items.size:=Qs _ _ (zm _) hi;let⟨os,hos,hcs,hds⟩:=id hs;let hTs:s.TypeIs (.ref sl) "slice":={(os),hos,hcs}
 unfold getItem
 try with_reducible refine wpAny_holding ?_
 first | refine yu (yw ?_) | skip
 refine yu (wpAny_sequenceKey ht.typeIs ∅ ?_);refine yu (wpAny_callSpecial?_slot (name:=Str.ofString "__getitem__") ht.typeIs PyProof.Rows.slot_tuple_getitem
  (wpAny_call_entry PyProof.Rows.slot_tuple_getitem ht.typeIs entry_tuple_getitem ?_ (args_tuple_getitem _ _)))
 show wpAny _ _ (Builtin.Tuple.tupleItemsOf (.ref t) >>= _) _ _ s;refine yu (tupleItemsOf_ ht ?_);refine yu (wpAny_typeOf hTs ?_);rw[if_pos ∅];refine yu (km hs pl pu ?_);let hno:¬((((eY items.size 0 lo:Nat):Int) == 0&&(1:Int) == 1&&(eY items.size items.size hi-eY items.size 0 lo) == items.size)=true):=by
  intro q;rw[zO,zO] at q;let q1:((eY items.size 0 lo:Nat):Int)=0:=eq_of_beq q.1.1;let q2:eY items.size items.size hi-eY items.size 0 lo=items.size:=eq_of_beq q.2;exact hw {(nofun),nofun}
 show wpAny _ _ (if(((eY items.size 0 lo:Nat):Int) == 0&&(1:Int) == 1&&(eY items.size items.size hi-eY items.size 0 lo) == items.size)=true then _ else _) _ _ s;rw[if_neg hno,Mw]
 first
  | exact yu (m:=Builtin.Tuple.tupleExact _) (wpAny_newObj_type (yw {_,rfl,yw h}) htake)
  | exact yu (m:=Builtin.Tuple.tupleExact _) (wpAny_newObj_type (yu (yw (yw {_,rfl,yw h}))) htake)
  | exact yu (yu (m:=Builtin.Tuple.tupleExact _) (wpAny_newObj_type (yw (yw {_,rfl,yw h})) htake))
  | exact yu (yu (m:=Builtin.Tuple.tupleExact _) (wpAny_newObj_type (yw {_,rfl,yw h}) htake))
end
end HT
namespace L2
open PySem PySem.Spec PyProof.Rows
abbrev TO:=St->Hp->(Option Int->Hp->Prop)->Prop
def PO (X:Cx) (e:Option Expr) (t:TO):Prop:=
 ∀(pins:List (Addr×Obj)) (s:Shared) (U:St) (H:Hp) (Q:Option Int->Hp->Prop),Inv X pins U H s->t U H Q->
  wpAny (model X.prog X.w) X.A (evalPart e X.env) (λu s'=>∃o H',Inv X pins U H' s'/\IsPart u o/\Q o H') X.xe s
def Cd:TO:=λ_ H Q=>Q none H
def LM (t:TE):TO:=λU H Q=>t U H λx H1=>∃i,x=.int i/\Q (some i) H1
def intsAre_of:∀{us:List Value},Vals (ns.map V.int) us->IntsAre us ns:=by
 induction ns with
 | nil=>intro us r;rw[yn] at r;cases r;exact .nil
 | cons n ns ih=>
  intro us r;rw[zj] at r;cases r with
  | cons r1 r2=>
   let⟨t,e⟩:=r1;subst e;exact .cons n t (ih r2)
section
variable {X:Cx} {e:Expr} {te:TE} {lo hi:Option Expr} {tl th:TO} {pos p2:Pos}
def dN:PO X none Cd:=by
 intro pins s U H Q I h;rw[evalPart_none];exact yw {none,H,I,.none,h}
def dM (h:PE X e te):PO X (some e) (LM te):=by
 intro pins s U H Q I hw;rw[evalPart_some];refine cU (h pins s U H _ I hw) λu s1 zz=>?_;let⟨x,H1,I1,r1,q1⟩:=zz;let⟨i,rfl,q⟩:=q1;let⟨t,rfl⟩:=r1;exact{some i,H1,I1,.int i t,q}
def NM (X:Cx) (r:V->Option Int->Option Int->Hp->VK->Prop):Prop:=
 ∀(pins:List (Addr×Obj)) (s:Shared) (U:St) (H:Hp) (x:V) (v vl vu:Value) (lo hi:Option Int) (sl:Addr) (Q:VK),Inv X pins U H s->RelV x v->s.heap.IsSliceOf sl vl vu .none->IsPart vl lo->IsPart vu hi->r x lo hi H Q->
  ∃T id,typeLookup (.type T) "__getitem__"= pure (some (.builtin id))/\s.TypeIs v T/\wpAny (model X.prog X.w) X.A (getItem v (.ref sl)) (EP X pins U Q) X.xe s
def NM.or (h:NM X r) (h':NM X r'):NM X (λx lo hi H Q=>r x lo hi H Q\/r' x lo hi H Q):=by
 intro pins s U H x v vl vu lo hi sl Q I rx hs pl pu q;rcases q with q | q
 ·exact h pins s U H x v vl vu lo hi sl Q I rx hs pl pu q
 ·exact h' pins s U H x v vl vu lo hi sl Q I rx hs pl pu q
def TJ (r:V->Option Int->Option Int->Hp->VK->Prop) (te:TE) (tl th:TO):TE:=λU H Q=>te U H λx H1=>tl U H1 λl H2=>th U H2 λu H3=>r x l u H3 Q
def dq (hr:NM X r) (he:PE X e te) (hl:PO X lo tl) (hu:PO X hi th):PE X (.Subscript e (.Slice lo hi none p2) pos) (TJ r te tl th):=by
 intro pins s U H Q I h;refine Subscript_ (cU (he pins s U H _ I h) λv s1 zz=>?_);let⟨x,H1,I1,r1,q1⟩:=zz;refine wpAny_Slice (cU (hl pins s1 U H1 _ I1 q1) λvl s2 ⟨l,H2,I2,pl,q2⟩=>cU (hu pins s2 U H2 _ I2 q2) λvu s3 zz=>?_);let⟨u,H3,I3,pu,q3⟩:=zz;rw[evalPart_none];refine yw ?_;let I4:Inv X pins U H3 {s3 with heap:=s3.heap.push {cls:=.type "slice",data:=.fields #[vl,vu,.none]}}:=I3.kept (t':=s3.toks) λb ob q=>yv _ q;let⟨T,id,hT,ht,hg⟩:=hr pins {s3 with heap:=s3.heap.push {cls:=.type "slice",data:=.fields #[vl,vu,.none]}} U H3 x v vl vu l u ↑s3 Q I4 r1 (Heap.IsSliceOf.new ..) pl pu q3;show wpAny (model X.prog X.w) X.A (subscriptTail e (.Slice lo hi none p2) v (.ref ↑s3)) (EP X pins U Q) X.xe {s3 with heap:=s3.heap.push {cls:=.type "slice",data:=.fields #[vl,vu,.none]}};exact tail_any (ops:=[.ref ↑s3,v]) ht hT hg (by with_unfolding_all rfl)
def ka (xs:List V) (lo hi:Option Int):List V:=(xs.drop (HT.eY ⇑xs 0 lo)).take (HT.eY ⇑xs ⇑xs hi-HT.eY ⇑xs 0 lo)
def uo (xs:List V) (lo hi:Option Int):⇑(ka xs lo hi)<=⇑xs:=by
 unfold ka;rw[zQ,List.length_drop];omega
def RZ (K:yB):V->Option Int->Option Int->Hp->VK->Prop:=λx lo hi H Q=>∃a xs,x=.ref a/\cY K H a xs/\
 ¬(HT.eY ⇑xs 0 lo=0/\HT.eY ⇑xs ⇑xs hi=⇑xs)/\∀p,H p=none->Q (.ref p) (upd H p (.tup (ka xs lo hi)))
def Qq:NM X (RZ X.K):=by
 intro pins s U H x v vl vu lo hi sl Q I rx hs pl pu h;let⟨a,xs,rfl,hx,hw,q⟩:=h;cases rx;let⟨its,r,ht,hz⟩:=I.tuple hx;let hlen:its.toArray.size=⇑xs:=by rw[yb];exact r.length.symm
 refine{"tuple",_,PyProof.Rows.slot_tuple_getitem.lookup,ht.typeIs,?_};refine HT.rg ht hs pl pu (by rw[hlen];exact hw) ?_ (by rw[hlen];exact hz);rw[hlen];refine{.ref ↑s,_,I.laid (t':=s.toks) (o:=.tup (ka xs lo hi)) (λb ob q=>yv _ q) (zm _) ?_,rfl,q _ (I.b7.fresh (zm _))};exact{zM (uo xs lo hi) hz,_,(r.drop (HT.eY ⇑xs 0 lo)).take (HT.eY ⇑xs ⇑xs hi-HT.eY ⇑xs 0 lo),IsTup.new _ _}
def R0 (K:yB):R2:=λx y H Q=>∃a b xs ys,x=.ref a/\y=.ref b/\cY K H a xs/\cY K H b ys/\xs≠[]/\⇑xs+⇑ys<=sizeLine/\
 (ys=[]->Q (.ref a) H)/\(ys≠[]->∀p,H p=none->Q (.ref p) (upd H p (.tup (xs++ys))))
def Vals.C8 {xs:List V} {us:List Value} (r:Vals xs us):us=[]↔xs=[]:=by
 cases r with
 | nil=>simp
 | cons _ _=>simp
def OH:nH X (binaryOp .Add) (R0 X.K):=by
 intro pins s U H x y v u Q I rx ry h;let⟨a,b,xs,ys,rfl,rfl,ha,hb,hx,hz,q1,q2⟩:=h;cases rx;cases ry;let⟨its,r1,p1,_⟩:=I.tuple ha;let⟨its2,r2,p2,_⟩:=I.tuple hb;refine HT.O7 p1 p2 (λz=>hx (r1.C8.mp z)) (λz=>{.ref a,H,I,rfl,q1 (r2.C8.mp z)}) (λz=>?_) (by rw[<-⇑r1,<-⇑r2];exact hz);refine{.ref ↑s,_,I.laid (t':=s.toks) (o:=.tup (xs++ys)) (λb ob q=>yv _ q) (zm _) ?_,rfl,q2 (λw=>z (r2.C8.mpr w)) _ (I.b7.fresh (zm _))};exact{by rw[zh];exact hz,_,r1.append r2,IsTup.new _ _}
end
end L2
namespace L2
open PySem PySem.Spec PyProof.Rows
def PJ (n:Nat) (i:Int):Option Nat:=if 0<=i then(if i<n then some i.toNat else none) else if -(n:Int)<=i then some (i+n).toNat else none
def B5 (xs:List α) (i:Int):Option α:=(PJ ⇑xs i).bind λj=>xs[j]?
def OR (h:PJ n i=some j):seqIndex? i n=some j/\j<n/\-(n:Int)<=i/\i<n:=by
 unfold PJ at h
 by_cases h0:0<=i
 ·rw[if_pos h0] at h
  by_cases h1:i<n
  ·rw[if_pos h1] at h
   let e:i.toNat=j:=yk h;exact{by rw[seqIndex_of h0 h1,e],nofun,nofun,h1}
  ·rw[if_neg h1] at h;cases h
 ·rw[if_neg h0] at h
  by_cases h1:-(n:Int)<=i
  ·rw[if_pos h1] at h
   let e:(i+n).toNat=j:=yk h;exact{by rw[seqIndex_neg nofun h1,e],nofun,h1,nofun}
  ·rw[if_neg h1] at h;cases h
def DX (h:B5 xs i=some v):∃j,seqIndex? i ⇑xs=some j/\xs[j]?=some v/\j<⇑xs/\-(⇑xs:Int)<=i/\i<⇑xs:=by
 unfold B5 at h;cases e:PJ ⇑xs i with
 | none=>rw[e] at h;cases h
 | some j=>
  rw[e] at h;let⟨h1,h2,h3,h4⟩:=OR e;exact{(j),h1,h,h2,h3,h4}
def bC {α:Type} {xs:List α} {j:Nat} {v:α} (h:xs[j]?=some v):B5 xs (j:Int)=some v:=by
 let hj:j<⇑xs:=(zy.mp h).1;let e:PJ ⇑xs (j:Int)=some j:=by
  unfold PJ;rw[if_pos nofun,if_pos nofun];simp
 unfold B5;rw[e];exact h
def rF (xs:List α) (v:α):B5 (xs++[v]) (-1)=some v:=by
 let hl:⇑(xs++[v])=⇑xs+1:=by simp
 let e:PJ ⇑(xs++[v]) (-1)=some ⇑xs:=by
  unfold PJ;rw[hl,if_neg ∅,if_pos nofun]
  congr 1
  omega
 unfold B5;rw[e];show(xs++[v])[⇑xs]?=some v;simp
def rM (b:Expr):Prop:=∀o i,subscripted b false o i=operate [o,i] (getItem o i)
def S9 (X:Cx) (r:R2):Prop:=
 ∀(value slice:Expr) (pins:List (Addr×Obj)) (s:Shared) (U:St) (H:Hp) (x y:V) (v u:Value) (Q:VK),Inv X pins U H s->RelV x v->RelV y u->r x y H Q->
  subscripted slice false v u=operate [v,u] (getItem v u)->wpAny (model X.prog X.w) X.A (subscriptTail value slice v u) (EP X pins U Q) X.xe s
def UC (X:Cx) (id:String) (r:V->List V->Hp->VK->Prop):Prop:=
 ∀(pins:List (Addr×Obj)) (s:Shared) (U:St) (H:Hp) (x:V) (xs:List V) (v:Value) (us:List Value) (Q:VK),Inv X pins U H s->RelV x v->Vals xs us->r x xs H Q->
  wpAny (model X.prog X.w) X.A (call (.builtin id) (v::us)) (EP X pins U Q) X.xe s
section
variable {X:Cx} {a b:Expr} {ta tb:TE} {pos:Pos}
def wQ (hr:S9 X r) (ha:PE X a ta) (hb:PE X b tb) (hs:rM b):PE X (.Subscript a b pos) (e9 r ta tb):=by
 intro pins s U H Q I h;exact Subscript_ (Ri ha hb I h λv u s2 x y H2 I2 rx ry q=>hr a b pins s2 U H2 x y v u Q I2 rx ry q (hs _ _))
inductive Ot (K:yB) (x y:V) (H:Hp) (Q:VK):Prop
 | mk (p:Addr) (xs:List V) (i:Int) (v:V) (_:x=.ref p) (_:y=.int i) (_:aH K H p xs) (_:B5 xs i=some v) (_:Q v H)
inductive mC (K:yB) (x y:V) (H:Hp) (Q:VK):Prop
 | mk (p:Addr) (xs:List V) (i:Int) (v:V) (_:x=.ref p) (_:y=.int i) (_:cY K H p xs) (_:B5 xs i=some v) (_:Q v H)
def Oq:R2:=λx y H Q=>∃z i c,x=.str z/\y=.int i/\⇑z<=sizeLine/\B5 z.cps.toList i=some c/\Q (.str {#[c]}) H
def Js:S9 X (Ot X.K):=by
 intro value slice pins s U H x y v u Q I rx ry h hs;let⟨p,xs,i,z,rfl,rfl,hq,he,q⟩:=h;cases rx;let⟨t,rfl⟩:=ry;let⟨its,r,pl,hz⟩:=I.list hq;let⟨j,h1,h2,h3,h4,h5⟩:=DX he;let⟨w,ew,rw'⟩:=r.get h2;let hl:=⇑r;let hn:=xh;let fin:EP X pins U Q w s:={(z),H,I,rw',q}
 by_cases h0:0<=i
 ·let hj:i.toNat=j:=by
   rw[seqIndex_of h0 h5] at h1;exact yk h1
  exact item_listR pl.isList h0 nofun (by rw[hj];simpa using ew) fin hs
 ·let hj:(i+(its.toArray.size:Int)).toNat=j:=by
   rw[seqIndex_neg nofun h4] at h1;rw[yb,<-hl];exact yk h1
  exact subscriptTail_builtinR (x:=w) pl.isList.typeIs slot_list_getitem.lookup
   (wpAny_getItem_list_neg (Q:=λr s'=>r=w/\EP X pins U Q r s') pl.isList nofun (by rw[yb] <;> omega) nofun (by rw[hj];simpa using ew) {(rfl),fin}) hs
def QY:S9 X (mC X.K):=by
 intro value slice pins s U H x y v u Q I rx ry h hs;let⟨p,xs,i,z,rfl,rfl,hq,he,q⟩:=h;cases rx;let⟨t,rfl⟩:=ry;let⟨its,r,pl,hz⟩:=I.tuple hq;let⟨j,h1,h2,h3,h4,h5⟩:=DX he;let⟨w,ew,rw'⟩:=r.get h2;let hl:=⇑r;let hn:=xh;let fin:EP X pins U Q w s:={(z),H,I,rw',q}
 exact subscriptTail_builtinR (x:=w) pl.typeIs slot_tuple_getitem.lookup
  (getItem_tuple (j:=j) (Q:=λr s'=>r=w/\EP X pins U Q r s') pl nofun nofun (by rw[yb,<-hl];exact h1) (by simpa using ew) {(rfl),fin}) hs
def Dg:S9 X Oq:=by
 intro value slice pins s U H x y v u Q I rx ry h hs;let⟨z,i,c,rfl,rfl,hz,he,q⟩:=h;let⟨t,rfl⟩:=rx;let⟨t',rfl⟩:=ry;let⟨j,h1,h2,h3,h4,h5⟩:=DX he;let hl:⇑z.cps.toList=⇑z:=by simp[Str.length]
 rw[hl] at h1 h4 h5;let hn:=xh;exact tail_any (typeIs_str s z t) slot_str_getitem.lookup (getItem_str (c:=c) (by
  let e1:decide (i < -(2^63:Int))=false:=ze nofun;let e2:decide (i≥2^63)=false:=ze nofun;rw[e1,e2,Bool.or_false]) (by rw[h1];simpa using h2) {.str {#[c]},H,I.tok _,{_,rfl},q}) hs
def Cu (lo hi:Option Int) (n:Nat):(sliceBounds lo hi none n).1=((HT.eY n 0 lo:Nat):Int)/\(sliceBounds lo hi none n).2.1=((HT.eY n n hi:Nat):Int)/\(sliceBounds lo hi none n).2.2=1:=by
 refine{?_,?_,rfl}
 ·cases lo with
  | none=>simp[sliceBounds,HT.eY]
  | some i=>
   simp only[sliceBounds,HT.eY,Option.getD_none,show(1:Int)>0 by decide,if_true]
   by_cases h:i<0
   ·simp only[h,if_true] <;> omega
   ·simp only[h,if_false] <;> omega
 ·cases hi with
  | none=>simp[sliceBounds,HT.eY]
  | some i=>
   simp only[sliceBounds,HT.eY,Option.getD_none,show(1:Int)>0 by decide,if_true]
   by_cases h:i<0
   ·simp only[h,if_true] <;> omega
   ·simp only[h,if_false] <;> omega
def Am (its:List Value) (lo hi:Option Int):slicePick its.toArray lo hi none=((its.drop (HT.eY ⇑its 0 lo)).take (HT.eY ⇑its ⇑its hi-HT.eY ⇑its 0 lo)).toArray:=by
 let⟨h1,h2,h3⟩:=Cu lo hi its.toArray.size;unfold slicePick;rw[h1,h2,h3];simp only[sliceRange_one,pick_run,yb] <;> rfl
def TZ (K:yB):V->Option Int->Option Int->Hp->VK->Prop:=λx lo hi H Q=>∃a xs,x=.ref a/\aH K H a xs/\∀p,H p=none->Q (.ref p) (upd H p (.lst (ka xs lo hi)))
def gA:NM X (TZ X.K):=by
 intro pins s U H x v vl vu lo hi sl Q I rx hs pl pu h;let⟨a,xs,rfl,hx,q⟩:=h;cases rx;let⟨its,r,ht,hz⟩:=I.list hx;let hlen:=⇑r;refine{"list",_,slot_list_getitem.lookup,ht.isList.typeIs,?_};refine wpAny_getItem_list_slice ht.isList hs pl pu .none (by simp) ?_ (by rw[yb] <;> omega);rw[Am,<-hlen];refine{.ref ↑s,_,I.laid (t':=s.toks) (o:=.lst (ka xs lo hi)) (λb ob q=>yv _ q) (zm _) ?_,rfl,q _ (I.b7.fresh (zm _))};exact{zM (uo xs lo hi) hz,_,0,(r.drop (HT.eY ⇑xs 0 lo)).take (HT.eY ⇑xs ⇑xs hi-HT.eY ⇑xs 0 lo),yx _ rfl}
def mn:V->Bool
 | .bI=>true
 | .bl _=>true
 | .int _=>true
 | .str _=>true
 | _=>false
def Ib:V->V->Bool
 | .bI,.bI=>true
 | .bl a,.bl b=>a == b
 | .bl a,.int b=>(if a then 1 else 0) == b
 | .int a,.bl b=>a == (if b then 1 else 0)
 | .int a,.int b=>a == b
 | .str a,.str b=>a == b
 | _,_=>false
def Nh (ry:RelV y u) (rx:RelV x v) (fy:mn y=true) (fx:mn x=true):SeqAt.EqAt A s u v (Ib y x):=by
 cases y with
 | bI=>
  cases ry;cases x with
  | bI=>cases rx;exact SeqAt.EqAt.same _
  | bl b=>cases rx;exact SeqAt.EqAt.none_bool b
  | int b=>let⟨t,rfl⟩:=rx;exact SeqAt.EqAt.none_int b t
  | str b=>let⟨t,rfl⟩:=rx;exact SeqAt.EqAt.none_str b t
  | _=>exact absurd (show false=true from fx) zL
 | bl a=>
  cases ry;cases x with
  | bI=>cases rx;exact SeqAt.EqAt.bool_none a
  | bl b=>cases rx;exact SeqAt.EqAt.bool_bool a b
  | int b=>let⟨t,rfl⟩:=rx;exact SeqAt.EqAt.bool_int a b t
  | str b=>let⟨t,rfl⟩:=rx;exact SeqAt.EqAt.bool_str a b t
  | _=>exact absurd (show false=true from fx) zL
 | int a=>
  let⟨t',rfl⟩:=ry;cases x with
  | bI=>cases rx;exact SeqAt.EqAt.int_none a t'
  | bl b=>cases rx;exact SeqAt.EqAt.int_bool a t' b
  | int b=>let⟨t,rfl⟩:=rx;exact SeqAt.EqAt.int_int a t' b t
  | str b=>let⟨t,rfl⟩:=rx;exact SeqAt.EqAt.int_str a t' b t
  | _=>exact absurd (show false=true from fx) zL
 | str a=>
  let⟨t',rfl⟩:=ry;cases x with
  | bI=>cases rx;exact SeqAt.EqAt.str_none a t'
  | bl b=>cases rx;exact SeqAt.EqAt.str_bool a t' b
  | int b=>let⟨t,rfl⟩:=rx;exact SeqAt.EqAt.str_int a t' b t
  | str b=>let⟨t,rfl⟩:=rx;exact SeqAt.EqAt.str_str a t' b t
  | _=>exact absurd (show false=true from fx) zL
 | _=>exact absurd (show false=true from fy) zL
def Ic (x:V) (u:Value):Bool:=match u with
 | .none=>Ib .bI x
 | .bool b=>Ib (.bl b) x
 | .int i _=>Ib (.int i) x
 | .str z _=>Ib (.str z) x
 | _=>false
def Ng (r:RelV y u) (f:mn y=true):Ic x u=Ib y x:=by
 cases y with
 | bI=>cases r;rfl
 | bl b=>cases r;rfl
 | int i=>let⟨t,rfl⟩:=r;rfl
 | str z=>let⟨t,rfl⟩:=r;rfl
 | _=>exact absurd (show false=true from f) zL
theorem rG:∀{xs:List V} {us:List Value},Vals xs us->xs.all mn=true->us.any (Ic x)=xs.any λy=>Ib y x
 | _,_,.nil,_=>rfl
 | y::xs,u::us,.cons r t,f=>by
  rw[List.all_cons,zO] at f;rw[List.any_cons,List.any_cons,Ng r f.1,rG t f.2]
theorem m9 (rx:RelV x v) (fx:mn x=true):∀{xs:List V} {us:List Value},Vals xs us->xs.all mn=true->∀u∈us,SeqAt.EqAt A s u v (Ic x u)
 | _,_,.nil,_=>λu hu=>by cases hu
 | y::xs,u::us,.cons r t,f=>λu' hu=>by
  rw[List.all_cons,zO] at f;rcases zD.mp hu with rfl | hu
  ·rw[Ng r f.1];exact Nh r rx f.1 fx
  ·exact m9 rx fx t f.2 u' hu
def Di (x:V) (xs:List V):Bool:=xs.any λy=>Ib y x
inductive Rt (K:yB) (neg:Bool) (x y:V) (H:Hp) (Q:VK):Prop
 | mk (p:Addr) (xs:List V) (_:y=.ref p) (_:aH K H p xs\/cY K H p xs) (_:mn x=true) (_:xs.all mn=true) (_:Q (.bl (if neg then !Di x xs else Di x xs)) H)
def iP:nH X (compareOp .In) (Rt X.K false):=by
 intro pins s U H x y v u Q I rx ry h;let⟨p,xs,rfl,hq,fx,fs,q⟩:=h;cases ry;rcases hq with hq | hq
 ·let⟨its,r,pl,hz⟩:=I.list hq
  refine SeqAt.in_listAt (Ic x) pl.isList (λw hw=>m9 rx fx r fs w (by simpa using hw)) {.bl _,H,I,rfl,?_};rw[show its.toArray.any (Ic x)=its.any (Ic x) by simp,rG r fs];exact q
 ·let⟨its,r,pl,hz⟩:=I.tuple hq
  refine SeqAt.in_tupleAt (Ic x) pl (λw hw=>m9 rx fx r fs w (by simpa using hw)) {.bl _,H,I,rfl,?_};rw[show its.toArray.any (Ic x)=its.any (Ic x) by simp,rG r fs];exact q
def eQ:nH X (compareOp .NotIn) (Rt X.K true):=by
 intro pins s U H x y v u Q I rx ry h;let⟨p,xs,rfl,hq,fx,fs,q⟩:=h;cases ry;rcases hq with hq | hq
 ·let⟨its,r,pl,hz⟩:=I.list hq
  refine SeqAt.notIn_listAt (Ic x) pl.isList (λw hw=>m9 rx fx r fs w (by simpa using hw)) {.bl _,H,I,rfl,?_};rw[show its.toArray.any (Ic x)=its.any (Ic x) by simp,rG r fs];exact q
 ·let⟨its,r,pl,hz⟩:=I.tuple hq
  refine SeqAt.notIn_tupleAt (Ic x) pl (λw hw=>m9 rx fx r fs w (by simpa using hw)) {.bl _,H,I,rfl,?_};rw[show its.toArray.any (Ic x)=its.any (Ic x) by simp,rG r fs];exact q
def aE:fo X (.builtin "len") (λxs H Q=>∃p ys,xs=[.ref p]/\(aH X.K H p ys\/cY X.K H p ys)/\Q (.int ⇑ys) H):=by
 intro pins s U H xs us Q I r h;let⟨p,ys,rfl,hq,q⟩:=h;let⟨u,rfl,rx⟩:=vals1 r;cases rx;let hn:=xh;rcases hq with hq | hq
 ·let⟨its,r',pl,hz⟩:=I.list hq
  let hlen:=⇑r';exact Calls.call_len_list pl.isList (by simp only[yb] <;> omega) {.int ⇑ys,H,I.tok _,{s.toks+1,by rw[yb,hlen]},q}
 ·let⟨its,r',pl,hz⟩:=I.tuple hq
  let hlen:=⇑r';exact len_tuple pl (by simp only[yb] <;> omega) {.int ⇑ys,H,I.tok _,{s.toks+1,by rw[yb,hlen]},q}
def fU:fo X (.builtin "len") (λxs H Q=>∃z,xs=[.str z]/\⇑z<=sizeLine/\Q (.int ⇑z) H):=by
 intro pins s U H xs us Q I r h;let⟨z,rfl,hz,q⟩:=h;let⟨u,rfl,t,rfl⟩:=vals1 r;let hn:=xh;exact len_str nofun {.int ⇑z,H,I.tok _,{_,rfl},q}
def iD:fo X (.type "list") (λxs H Q=>∃p ys,xs=[.ref p]/\(aH X.K H p ys\/cY X.K H p ys)/\∀l,H l=none->Q (.ref l) (upd H l (.lst ys))):=by
 intro pins s U H xs us Q I r h;let⟨p,ys,rfl,hq,q⟩:=h;let⟨u,rfl,rx⟩:=vals1 r;cases rx;let fin:∀(its:List Value),Vals ys its->⇑ys<=sizeLine->∀(h':Heap) (c':Nat),(∀b o',s.heap.get? b=some o'->h'.get? b=some o')->
   h'.get? ↑s=some {cls:=.type "list",dict:=none,data:=.seq its.toArray c',slots:=#[]}->EP X pins U Q (.ref ↑s) {s with heap:=h'}:=λits r' hz h' c' kp e=>
  {.ref ↑s,_,I.laid (t':=s.toks) kp (zm _) (show cB X.prog X.w _ h' _ (.lst ys) from{(hz),its,c',r',e}),rfl,q _ (I.b7.fresh (zm _))}
 rcases hq with hq | hq
 ·let⟨its,r',pl,hz⟩:=I.list hq
  let hlen:=⇑r';let⟨o,ho,hc,n,hd⟩:=pl.isList;exact call_list_seq p (.inl rfl) ho hc hd (λh' c' kp e=>fin its r' hz h' c' kp e) (by simp only[yb] <;> omega)
 ·let⟨its,r',pl,hz⟩:=I.tuple hq
  let hlen:=⇑r';let⟨o,ho,hc,n,hd⟩:=pl;exact call_list_seq p (.inr rfl) ho hc hd (λh' c' kp e=>fin its r' hz h' c' kp e) (by simp only[yb] <;> omega)
def cN:fo X (.type "tuple") (λxs H Q=>∃p ys,xs=[.ref p]/\((aH X.K H p ys/\∀l,H l=none->Q (.ref l) (upd H l (.tup ys)))\/(cY X.K H p ys/\Q (.ref p) H))):=by
 intro pins s U H xs us Q I r h;let⟨p,ys,rfl,h⟩:=h;let⟨u,rfl,rx⟩:=vals1 r;cases rx;rcases h with⟨hq,q⟩ | ⟨hq,q⟩
 ·let⟨its,r',pl,hz⟩:=I.list hq
  let hlen:=⇑r';refine call_tuple_list pl.isList (λh' kp=>?_) (by simp only[yb] <;> omega);let I1:Inv X pins U H {s with heap:=h'}:=I.kept (t':=s.toks) kp;let I2:Inv X pins U (upd H h'.objs.size (.tup ys)) {s with heap:=h'.push {cls:=.type "tuple",data:=.seq its.toArray}}:=
   I1.laid (t':=s.toks) (λb o e=>yv _ e) (zm _) (show cB X.prog X.w _ _ _ (.tup ys) from{hz,its,r',IsTup.new _ _})
  exact{.ref h'.objs.size,_,I2,rfl,q _ (I1.b7.fresh (zm _))}
 ·let⟨its,r',pl,hz⟩:=I.tuple hq
  exact call_tuple_same pl {.ref p,H,I,rfl,q}
def SQ (K:yB) (T:String) (x:V) (H:Hp):Prop:=match x with
 | .str _=>T ="str"
 | .int _=>T ="int"
 | .ref p=>(T ="list"/\∃xs,aH K H p xs)\/(T ="tuple"/\∃o,K.lookup p=some o/\o.cls=.type "tuple"/\o.dict=none)\/
   (T ="dict"/\((∃kvs,H p=some (.dK kvs))\/∃kvs,H p=some (.dT kvs)))\/(T ="set"/\∃S n,H p=some (.set S n))
 | _=>False
def LD (I:Inv X pins U H s) (r:RelV x v) (ty:SQ X.K T x H) :
  s.TypeIs v T/\∀a,v=.ref a->∃ob,s.heap.get? a=some ob/\ob.dict=none:=by
 cases x with
 | str z=>
  let⟨t,rfl⟩:=r;cases(show T ="str" from ty);exact{typeIs_str s z t,λ_ e=>nomatch e}
 | int i=>
  let⟨t,rfl⟩:=r;cases(show T ="int" from ty);exact{typeIs_int s i t,λ_ e=>nomatch e}
 | ref p=>
  cases r;rcases ty with⟨rfl,xs,hq⟩ | ⟨rfl,o,hk,hc,hd⟩ | ⟨rfl,hk⟩ | ⟨rfl,S,n,hk⟩
  ·let⟨its,_,pl,_⟩:=I.list hq
   refine{pl.isList.typeIs,λa e=>?_};cases e;let⟨o,n,e,c,hd,_⟩:=pl;exact{(o),e,hd}
  ·refine{{o,I.qW p o hk,hc},λa e=>?_}
   cases e;exact{o,I.qW _ o hk,hd}
  ·let z:∃o,s.heap.get? p=some o/\o.ExactDict:=by
    rcases hk with⟨kvs,hk⟩ | ⟨kvs,hk⟩
    ·let⟨_,_,_,_,o,_,_,e,ex,_⟩:=I.b7 p _ hk
     exact{(o),e,ex}
    ·let⟨_,_,_,_,o,_,_,e,ex,_⟩:=I.b7 p _ hk
     exact{(o),e,ex}
   let⟨o,e,ex⟩:=z;refine{{(o),e,ex.1},λa e2=>?_};cases e2;exact{(o),e,ex.2.1}
  ·let⟨o,_,_,_,e,ex,_⟩:=I.b7 p _ hk
   refine{{(o),e,ex.1},λa e2=>?_};cases e2;exact{(o),e,ex.2.1}
 | _=>exact False.elim ty
def TQ (K:yB) (T:String) (r:V->List V->Hp->VK->Prop) (to:TE):TE:=λU H Q=>to U H λx H1=>SQ K T x H1/\r x [] H1 Q
def SU (K:yB) (T:String) (r:V->List V->Hp->VK->Prop) (to:TE) (t:TA):TE:=λU H Q=>to U H λx H1=>SQ K T x H1/\t U H1 λxs H2=>r x xs H2 Q
variable {o e:Expr} {es:List Expr} {to:TE} {t:TA} {name:Str} {apos cpos:Pos} {T id:String} {r:V->List V->Hp->VK->Prop}
def ME (pa:PlainAttrs T) (slot:Slot T name id) (hty:typeOf (.builtin id)=pure (.type "method_descriptor")) (hm:UC X id r) (ho:PE X o to)
  (hbase:attributeBase o name X.env (eval o X.env)=eval o X.env<|>qe_) (hline:(apos.endLine == cpos.line)=true<|>qe_):PE X (.Call (.Attribute o name apos) [] [] cpos) (TQ X.K T r to):=by
 intro pins s U H Q I h;refine wpAny_Call_method0_late hbase hline (cU (ho pins s U H _ I h) λv s1 zz=>?_);let⟨x,H1,I1,r1,ty,q1⟩:=zz;let⟨h1,h2⟩:=LD I1 r1 ty;exact{T,id,pa,slot,hty,h1,h2,Calls.callWith_builtin rfl (PySem.evalArgs_none (hm pins s1 U H1 x [] v [] Q I1 r1 .nil q1))}
def bO (pa:PlainAttrs T) (slot:Slot T name id) (hty:typeOf (.builtin id)=pure (.type "method_descriptor")) (hm:UC X id r) (ho:PE X o to) (ha:PA X (e::es) t)
  (hbase:attributeBase o name X.env (eval o X.env)=eval o X.env<|>qe_)
  (hfew:((backTo cpos (starEach (e::es) X.env)).all (λx=>!x.1)&&(backToKw cpos (keywordEach [] X.env)).all (λx=>x.1.isSome)
   &&decide (⇑(e::es)+⇑([]:List Keyword)+(if([]:List Keyword).isEmpty then 0 else 1)<30))=true<|>qe_)
  (hline:(apos.endLine == cpos.line)=true<|>qe_) (hs:starEach (e::es) X.env=(false,eval e X.env)::starEach es X.env<|>qe_) (hplain:(backTo cpos (starEach es X.env)).any (·.1)=false<|>qe_) :
  PE X (.Call (.Attribute o name apos) (e::es) [] cpos) (SU X.K T r to t):=by
 intro pins s U H Q I h;refine wpAny_Call_method_late hbase hfew hline rfl (cU (ho pins s U H _ I h) λv s1 zz=>?_);let⟨x,H1,I1,r1,ty,q1⟩:=zz;let⟨h1,h2⟩:=LD I1 r1 ty;refine{T,id,pa,slot,hty,h1,h2,?_};let hA:=ha cpos pins s1 U H1 _ I1 q1;rw[hs] at hA ⊢;refine Calls.callWith_builtin (by show(false||(backTo cpos (starEach es X.env)).any (·.1))=false;rw[hplain] <;> rfl) (Calls.evalArgs_plain ?_);exact cU hA λus s2 ⟨vs,H2,I2,r2,q2⟩=>hm pins s2 U H2 x vs v us Q I2 r1 r2 q2
end
end L2
namespace L2
open PySem PySem.Spec PyProof.Rows
def PX (X:Cx) (id:String) (r:V->List V->Hp->VK->Prop):Prop:=
 ∀(pins:List (Addr×Obj)) (s:Shared) (U:St) (H:Hp) (x:V) (xs:List V) (v:Value) (us:List Value) (Q:VK),Inv X pins U H s->RelV x v->Vals xs us->r x xs H Q->
  wpAny (model X.prog X.w) X.A (call (.builtin id) (v::us)) (EP X pins U Q) X.xe s
theorem Vals.one:∀{x:V} {us:List Value},Vals [x] us->∃u,us=[u]/\RelV x u
 | _,_,.cons r .nil=>{_,rfl,r}
theorem Vals.zero:∀{us:List Value},Vals [] us->us=[]
 | _,.nil=>rfl
theorem Vals.reverse (h:Vals xs us):Vals xs.reverse us.reverse:=by
 induction h with
 | nil=>exact .nil
 | cons r t ih=>rw[List.reverse_cons,List.reverse_cons];exact Vals.append ih (.cons r .nil)
section
variable {X:Cx} {pins:List (Addr×Obj)} {U:St} {H:Hp} {s:Shared} {l b:Addr} {xs ys zs:List V}
def Inv.OM {its its':List Value} {n:Nat} {f:Array Value->Array Value} {t':Nat} (I:Inv X pins U H s) (hH:H l=some (.lst xs))
  (e:s.heap.get? l=some {cls:=.type "list",data:=.seq its.toArray n}) (hf:f its.toArray=its'.toArray) (hv:Vals ys its') (hz:⇑ys<=sizeLine) :
  Inv X pins U (upd H l (.lst ys)) {s with heap:=s.heap.update l (Obj.mapSeq f),toks:=t'}:=by
 let q:=PySem.IsL.update e f;rw[hf] at q;refine I.write (x:=l) (e:=l) (by rw[hH];exact trivial) (.inl rfl) (λb' u hb hu=>(yz s.heap (Obj.mapSeq f) (Ne.symm hb)).trans hu) {_,q} ?_;exact{hz,its',_,hv,q}
def Inv.R9 (I:Inv X pins U H s) (hv:Vals ys its) (hz:⇑ys<=sizeLine) :
  Inv X pins U (upd H ↑s (.lst ys)) {s with heap:=s.heap.push {cls:=.type "list",data:=.seq its.toArray},toks:=t'}:=
 I.laid (λ_ _ q=>yv _ q) (zm _) {hz,its,0,hv,yx _ rfl}
theorem Inv.fresh (I:Inv X pins U H s):H ↑s=none:=I.b7.fresh (zm _)
def Inv.MQ (I:Inv X pins U H s) (hH:H l=some (.lst xs)):⇑xs<=sizeLine/\∃(its:List Value) (n:Nat),Vals xs its/\⇑xs=⇑its/\s.heap.get? l=some {cls:=.type "list",data:=.seq its.toArray n}:=by
 let⟨z,its,n,r,e⟩:=I.b7 l _ hH;exact{(z),its,n,r,⇑r,e}
def FL (h:n<=sizeLine):Builtin.List.listTooLong n=false:=by
 unfold Builtin.List.listTooLong;exact ze nofun
end
section
variable {X:Cx}
inductive Ou (x:V) (vs:List V) (H:Hp) (Q:VK):Prop
 | mk (l:Addr) (xs:List V) (y:V) (_:x=.ref l) (_:vs=[y]) (_:H l=some (.lst xs)) (_:⇑xs<sizeLine) (_:Q .bI (upd H l (.lst (xs++[y]))))
def bu:PX X "list.append" Ou:=by
 intro pins s U H x vs v us Q I rx rv h;let⟨l,xs,y,rfl,rfl,hH,hz,q⟩:=h;cases rx;let⟨u,rfl,ru⟩:=rv.one;let⟨z,its,n,r,hl,e⟩:=I.MQ hH;refine call_meets F.slot_list_append {_,e,rfl} F.entry_list_append (F.args_list_append_2 _ _) (PySem.list_append l its.toArray n u (by rw[yb];omega)) {e,?_};refine{.bI,_,I.OM (its':=its++[u]) hH e (by simp) (r.append (.cons ru .nil)) ?_,rfl,q};rw[zh,List.length_singleton];omega
inductive Jk (x:V) (vs:List V) (H:Hp) (Q:VK):Prop
 | mk (l b:Addr) (xs zs:List V) (_:x=.ref l) (_:vs=[.ref b]) (_:H l=some (.lst xs)) (_:H b=some (.lst zs)) (_:⇑xs+⇑zs<=sizeLine) (_:Q .bI (upd H l (.lst (xs++zs))))
def Kp:PX X "list.extend" Jk:=by
 intro pins s U H x vs v us Q I rx rv h;let⟨l,b,xs,zs,rfl,rfl,hH,hB,hz,q⟩:=h;cases rx;let⟨u,rfl,ru⟩:=rv.one;cases ru;let⟨z,its,n,r,hl,e⟩:=I.MQ hH;let⟨z2,its2,n2,r2,hl2,e2⟩:=I.MQ hB;let hsz:its.toArray.size+its2.toArray.size<=sizeLine:=by rw[yb,yb];omega
 let hlong:¬(!its.toArray.isEmpty&&Builtin.List.listTooLong (its.toArray.size+its2.toArray.size))=true:=by
  rw[FL hsz,Bool.and_false];exact zL
 refine call_meets F.slot_list_extend {_,e,rfl} F.entry_list_extend (F.args_list_extend_2 _ _)
  (AutoSeq1.list_extend_list_list_0 l its.toArray n b its2.toArray n2 hlong (by rw[yb];omega) nofun) {e,e2,?_}
 refine{.bI,_,I.OM (its':=its++its2) hH e (by simp) (r.append r2) ?_,rfl,q};rw[zh];omega
def Mm:V->List V->Hp->VK->Prop:=λx vs H Q=>∃l xs,x=.ref l/\vs=[]/\H l=some (.lst xs)/\Q .bI (upd H l (.lst xs.reverse))
def xc:PX X "list.reverse" Mm:=by
 intro pins s U H x vs v us Q I rx rv h;let⟨l,xs,rfl,rfl,hH,q⟩:=h;cases rx;let hus:=rv.zero;subst hus;let⟨z,its,n,r,hl,e⟩:=I.MQ hH;refine call_meets F.slot_list_reverse {_,e,rfl} F.entry_list_reverse (F.args_list_reverse_1 _) (AutoSeq1.list_reverse_list_0 l its.toArray n (by rw[yb];omega)) {e,?_};refine{.bI,_,I.OM (its':=its.reverse) hH e (by simp) r.reverse ?_,rfl,q};rw[List.length_reverse];omega
end
section
variable {prog:Program} {w:World} {A:Around} {E:Value->Shared->Prop} {s:Shared}
end
section
variable {X:Cx}
end
end L2
namespace UH
open PySem PySem.W PySem.Calls PyProof.Rows
def u7:∀(ns:List Int) (vs:List Value),WellAll P h vs (ns.map WData.int)->IntsAre vs ns:=by
 intro ns
 induction ns with
 | nil=>
  intro vs w;rw[yn] at w;cases w;exact .nil
 | cons n ns ih=>
  intro vs w;rw[zj] at w;cases w with
  | cons a b=>
   cases a;exact .cons _ _ (ih _ b)
def J6 {l:OpenLaw} {n:Nat} (hn:l.most=some n) {P:Params} {h:Heap} {args:List WData} {vals:List Value}
  (hpre:l.row.toRowW.claim.pre args=true) (hwl:WellAll P h vals args) :
  ∃a vs ns,vals=[Value.ref a]/\args=[WData.list (ns.map WData.int)]/\h.get? a=some {cls:=.type "list",data:=.seq vs.toArray}/\IntsAre vs ns/\⇑ns<=n:=by
 let hsh:WShape.hasAll [] args [.list .int]=true:=(pre_splitW hpre).1;let hc:l.pre.holds [] {args:=args}=true:=(pre_splitW hpre).2;let⟨d,r,rfl,h1,h2⟩:=hasAllW_cons hsh;obtain rfl:=hasAllW_nil h2;let⟨xs,rfl,h3⟩:=hasW_list h1;let⟨ns,rfl⟩:=items_int h3;let hlen:⇑ns<=n:=by
  unfold OpenLaw.pre at hc;let h4:(WTm.not (.lt (.lit (.int (n:Int))) (.len (.arg 0)))).holds [] {args:=[.list (ns.map .int)]}=true:=by
   let h4:=(holds_andW hc).1;rw[hn] at h4;exact h4
  let h5:=condW_of h4 (w_not (w_lt w_lit (w_len_list (w_arg rfl))));rw[za] at h5;refine Nat.le_of_not_lt λq=>?_;let q':(n:Int)<((⇑ns:Nat):Int):=nofun
  first
   | (rw[zg q'] at h5;exact absurd h5 ∅)
   | (simp at h5;omega)
 cases hwl with
 | cons w1 w2=>
  cases w2;cases w1 with
  | list ho hall=>exact{_,_,ns,rfl,rfl,ho,u7 ns _ hall,hlen}
def Kg (l:OpenLaw) (args:List WData):l.row.toRowW.claim.post args (.bool true) args=true:=
 postW_of (r:=l.row.toRowW) (X:=(true == true))
  (show WShape.has [] (.bool true) .bool=true by first | rfl | decide | simp[WShape.has,WShape.arms,WShape.armsAll])
  (show(WTm.eq .res (.lit (.bool true))).value [] {args:=args,res:=some (.bool true),after:=args}=some (.bool (true == true)) from w_eq_bool (w_res rfl) w_lit) rfl
def GB {l:OpenLaw} {n:Nat} {q:Program} {loose:List Str} {XP:(Str->Option Value)->Heap->Prop} {YP:World->Heap->Prop} {d:DefRec}
  (hn:l.most=some n) (hdf:d.params.defaults=[])
  (call:∀(w:World) (s₀ s₁:Shared) (mg mb:Str->Option Value) (fa:Addr) (o:Obj) (pm cd doc:Value) (a:Addr) (vs:List Value) (ns:List Int),
   Ground q loose [] XP w s₀ mg mb s₁.heap->YP w s₁.heap->
   s₁.heap.get? fa=some o->o.data=.func (docDef d.name d.params d.body d.scope pm cd doc)->s₁.heap.CodeRec cd d.name->mg d.name=some (.ref fa)->
   s₁.heap.get? a=some {cls:=.type "list",data:=.seq vs.toArray}->IntsAre vs ns->⇑ns<=n->s₁.gens=#[]->
   codeAny (model l.prog w) callerA (.call (.ref fa) {[.ref a],[]}) (λr s'=>r=.ok (.ret (.bool true))/\OldK s₁.heap s'.heap/\s'.os=s₁.os/\AllBare s'.gens) s₁) :
  WalkO q loose XP YP l.row.toRowW d [] (λf vs=>PySem.call f vs):=by
 intro w s₀ s₁ mg mb G Y fa o pm cd doc dV kV ho hd hcd hD hmg hg args vals as hpre hlay hrd hwl hlo;obtain rfl:dV=.none:=Dflts.none hD hdf;obtain rfl:kV=.none:=Dflts.noKw hD;let⟨a,vs,ns,rfl,rfl,hobj,hints,hlen⟩:=J6 hn hpre hwl;refine enter_call (codeAny_mono (call w s₀ s₁ mg mb fa o pm cd doc a vs ns G Y ho (fd_plain hd) hcd hmg hobj hints hlen hg) λr s' hq=>?_);let⟨rfl,h2,h3,h4⟩:=hq;exact{.inl {.bool true,.bool true,[],rfl,λ_=>rfl,.bool true,Kg l _,λ_=>{List.Pairwise.nil,λ_ hm=>(nomatch hm)}},h2,h3,h4}
section
variable {prog:Program} {w:World} {A:Around} {E:Value->Shared->Prop} {s:Shared} {K:Frag}
end
end UH
namespace L2
open PySem PySem.Spec PyProof.Rows
theorem Bo:∀{vs:List Value} {ns:List Int},IntsAre vs ns->Vals (ns.map V.int) vs
 | _,_,.nil=>.nil
 | _,_,.cons n t h=>.cons {(t),rfl} (Bo h)
def Rm (H:Hp):Prop:=∀b,H b=none\/∃o xs,H b=some (.mI o (.lst xs))
def MX {P:Program} {w:World} {K:yB} {mg mb:Str->Option Value} {CX:IV} {k:Nat} {fa a:Addr} {fd:FuncData} {x:Str} {sp:Sp} {s₁:Shared} {vs:List Value} {ns:List Int}
  (KX:K.In s₁.heap) (hns:s₁.heap.Ns mainGlobals mg) (hb:s₁.heap.Ns builtinsNs mb) (hbb:∀x:Str,x≠ "__name__"->mb x=bootBuiltins x) (hlim:s₁.heap.NoLimit) (hg:s₁.gens=#[])
  (ha:s₁.heap.get? a=some {cls:=.type "list",data:=.seq vs.toArray}) (hi:IntsAre vs ns) (hl:⇑ns<=sizeLine) (hr:fH k callerA)
  (F:∀base:Heap,K.In base->base.Ns mainGlobals mg->dC P w K mg base CX k fa fd [x] sp) (hbind:∀(s:Shared) (u:Value),BindsTo s fd {[u],[]} [(x,u)])
  (hsp:∀H:Hp,Rm H->aH K H a (ns.map V.int)->sp [.ref a] H (λv _=>v=.bl true) λ_ _ _=>False)
  (hCX:∀H e s',CX [] H s₁ (λ_ _ _=>False) e s'->False) :
  codeAny (model P w) callerA (.call (.ref fa) {[.ref a],[]}) (λr s'=>r=.ok (.ret (.bool true))/\OldK s₁.heap s'.heap/\s'.os=s₁.os/\AllBare s'.gens) s₁:=by
 let rv:=Bo hi;let lenV:=⇑hi;let core:∀H:Hp,Rm H->aH K H a (ns.map V.int)->pS P w H s₁.heap->(∀b,H b≠none->b=a)->(H a≠none->K.lookup a=none)->
   codeAny (model P w) callerA (.call (.ref fa) {[.ref a],[]}) (λr s'=>r=.ok (.ret (.bool true))/\OldK s₁.heap s'.heap/\s'.os=s₁.os/\AllBare s'.gens) s₁:=by
  intro H hO hS b7 hA hK;let base_of:∀{b:Addr} {o:Obj},s₁.heap.get? b=some o->H b=none->(Dl s₁.heap H).get? b=some o:=λe n=>M4 e n;let noA:∀{b:Addr} {o:Obj} {es:Array DictEntry} {ep:Nat},s₁.heap.get? b=some o->o.data=.dict es ep->H b=none:=λ{b o es ep} e d=>by
   cases q:H b with
   | none=>rfl
   | some u=>
    let e':b=a:=hA b (by rw[q];simp);subst e';rw[ha] at e;cases e;let d':Data.seq vs.toArray _=Data.dict es ep:=d;cases d'
  let nsK:∀{b:Addr} {m:Str->Option Value},s₁.heap.Ns b m->(Dl s₁.heap H).Ns b m:=λ{b m} ⟨o,es,ep,e,d,r⟩=>{o,es,ep,base_of e (noA e d),d,r}
  let hKb:K.In (Dl s₁.heap H):=λb o e=>base_of (KX b o e) (by
   cases q:H b with
   | none=>rfl
   | some u=>
    let e':b=a:=hA b (by rw[q];simp);subst e';rw[hK (by rw[q];simp)] at e;cases e)
  let hM:Mod K mg (Dl s₁.heap H):={hKb,nsK hns,{mb,nsK hb,hbb},let ⟨mc,h1,h2⟩:=hlim;{mc,nsK h1,h2}}
  let e0:GS P w K mg (Dl s₁.heap H) callerA [] s₁ H:={rfl,hM,λb o e=>OJ e,Nat.le_of_eq (KA _ _),trivial,λb hb=>absurd (show b∈([]:List Addr) from hb) (by simp),b7,.of_eq hg}
  refine codeAny_mono ((F _ hKb (nsK hns)).run callerA [] s₁ H {[.ref a],[]} [.ref a] [.ref a] _ _ hr e0 (hbind s₁ (.ref a)) (.cons rfl .nil) (hsp H hO hS)) λr s' h=>?_;cases r with
  | error e=>exact(hCX H e s' h).elim
  | ok fl=>
   cases fl with
   | next=>exact False.elim h
   | brk=>exact False.elim h
   | cont=>exact False.elim h
   | ret u=>
    let⟨v,H',os,bare,un,hok',r',q⟩:=h;let q':v=.bl true:=q;subst q';obtain rfl:u=Value.bool true:=r';refine{rfl,OldK.of_keep λb o e=>?_,os,bare};cases q:H b with
    | none=>exact un.keep b o e q (by intro z;exact absurd (show b∈([]:List Addr) from z) (by simp)) (by simp)
    | some u=>
     rcases hO b with z | ⟨ob,xs,z⟩
     ·rw[q] at z;cases z
     ·let z2:=un.mE b ob _ z
      let⟨e1,_⟩:=b7 b _ z;let⟨e2,_⟩:=hok' b _ z2;rw[e] at e1;cases e1;exact e2
 cases hk:K.lookup a with
 | some o=>
  let e:=KX a o hk;rw[ha] at e;cases e;refine core (λ_=>none) (λ_=>.inl rfl) (.inr {_,vs.toArray,_,hk,rfl,rfl,rfl,by rw[yb,lenV];exact hl,by simpa using rv}) (λb u z=>by let z':(none:Option HO)=some u:=z;cases z') (λb z=>absurd rfl z) λz=>absurd rfl z
 | none=>
  refine core (λb=>if b=a then some (.mI {cls:=.type "list",data:=.seq vs.toArray} (.lst (ns.map V.int))) else none) (λb=>?_) (.inl (.inr {{cls:=.type "list",data:=.seq vs.toArray},if_pos rfl})) (λb u z=>?_) (λb z=>?_) λ_=>hk
  ·by_cases hb:b=a
   ·exact .inr {_,_,if_pos hb}
   ·exact .inl (if_neg hb)
  ·by_cases hb:b=a
   ·let z':=(if_pos hb).symm.trans z
    cases z';subst hb;exact{ha,by rw[za];exact hl,vs,_,rv,ha}
   ·let z':=(if_neg hb).symm.trans z
    cases z'
  ·by_cases hb:b=a
   ·exact hb
   ·exact absurd (if_neg hb) z
end L2
namespace L2
open PySem PySem.Spec PyProof.Rows
def NZ {l:PySem.W.OpenLaw} {n k:Nat} {q:Program} {loose:List Str} {XP:(Str->Option Value)->Heap->Prop} {YP:World->Heap->Prop} {d:DefRec} {K:Params->yB} {CX:World->IV} {sp:World->Sp} {x:Str}
  (hn:l.most=some n) (hn2:n<=sizeLine) (hdf:d.params.defaults=[]) (hr:fH k callerA)
  (hY:∀(w:World) (h:Heap),YP w h->(K w.params).In h)
  (F:∀(w:World) (mg:Str->Option Value) (fa:Addr) (h:Heap),(K w.params).In h->h.Ns mainGlobals mg->mg d.name=some (.ref fa)->
   ∃fd:FuncData,(∀(s:Shared) (u:Value),BindsTo s fd {[u],[]} [(x,u)])/\
    ∀base:Heap,(K w.params).In base->base.Ns mainGlobals mg->dC l.prog w (K w.params) mg base (CX w) k fa fd [x] (sp w))
  (hsp:∀(w:World) (H:Hp) (a:Addr) (ns:List Int),⇑ns<=n->Rm H->aH (K w.params) H a (ns.map V.int)->sp w [.ref a] H (λv _=>v=.bl true) λ_ _ _=>False)
  (hCX:∀(w:World) (H:Hp) (s:Shared) (e:Value) (s':Shared),CX w [] H s (λ_ _ _=>False) e s'->False) :
  PySem.W.WalkO q loose XP YP l.row.toRowW d [] (λf vs=>PySem.call f vs):=by
 refine UH.GB hn hdf λw s₀ s₁ mg mb fa o pm cd doc a vs ns G Y ho hd hcd hmg hobj hints hlen hg=>?_;let KX:=hY w _ Y;let⟨fd,hb,hF⟩:=F w mg fa _ KX G.T.g hmg;exact MX KX G.T.g G.T.b G.T.builtins G.T.nolimit hg hobj hints (zM hlen hn2) hr hF hb (λH hO hS=>hsp w H a ns hlen hO hS) λH e s'=>hCX w H s₁ e s'
end L2
namespace L2
open PySem PySem.Spec PyProof.Rows
def inClass (s:Stmt) (j:Nat):Stmt:=match s with
 | .ClassDef _ _ _ body _ _ _ _ _ _ _=>body.getD j (.Pass {0,0,0,0})
 | _=>.Pass {0,0,0,0}
def dg (s:Stmt):Arguments:=match s with
 | .FunctionDef _ a _ _ _ _ _ _ _ _=>a
 | _=>{posonlyargs:=[],args:=[],vararg:=none,kwonlyargs:=[],kw_defaults:=[],kwarg:=none,defaults:=[]}
def cx (s:Stmt):List Stmt:=match s with
 | .FunctionDef _ _ b _ _ _ _ _ _ _=>b
 | _=>[]
def aT (s:Stmt):Scope:=match s with
 | .FunctionDef _ _ _ _ _ _ sc _ _ _=>sc
 | _=>{kind:=.function,names:=[],isGenerator:=false,isCoroutine:=false}
abbrev GV:IV:=λ_ _ _ _ _ _=>False
abbrev E0:XK:=λ_ _ _=>False
def Jn:Passes GV X E0:=λ_ _ _ _ _ _ _ h=>h.elim
structure NR (K:yB) (x qual:Str) (st:Stmt) (f:Addr) (fd:FuncData):Prop where
 ex:∃(oc:Value) (od:Option Addr) (kV doc pm:Value) (an:Option Addr) (cdv ct:Value) (osl:Array (Option Value)),
  fd=PySem.W.fnOf x qual (dg st) (cx st) (aT st) .none kV doc pm an cdv ct/\K.lookup f=some {oc,od,.func fd,osl}/\PySem.W.codeIn K cdv qual=true
 kp:PySem.W.keepIn K (.ref f)=true
section
variable {P:Program} {w:World} {K:yB} {mg:Str->Option Value} {base:Heap}
def NR.ok {x qual:Str} {st:Stmt} {f:Addr} {fd:FuncData} {N ps:List Str} {k:Nat} {sp:Sp} (F:NR K x qual st f fd) (S:fY N ps (aT st)) (len:∀vs H Q E,sp vs H Q E->⇑vs=⇑ps)
  (hbody:∀(cdv:Value) (A:Around) (outer:List Env) (s:Shared) (H:Hp) (vs:List V) (Q:VK) (E:XK),fH k (A.deeper (envOfC qual (aT st) ↑s f cdv))->sp vs H Q E->
   ∃t,Bk (j9 GV P w K mg base N qual (aT st) f cdv A outer s H E).HN (cx st) t/\t {nx:=λ_ H'=>Q .bI H',rt:=Q} (start N vs) H):dC P w K mg base GV (k+1) f fd ps sp:=by
 let⟨oc,od,kV,doc,pm,an,cdv,ct,osl,rfl,lk,hcd⟩:=F.ex;refine PN lk hcd S len λA outer s H vs Q E hr hsp=>?_;let⟨t,h,q⟩:=hbody cdv A outer s H vs Q E hr hsp;exact{(t),h.HN,q}
def NR.binds {x qual:Str} {st:Stmt} {f:Addr} {fd:FuncData} {ps:List Str} (F:NR K x qual st f fd)
  (h:∀(kV doc pm:Value) (an:Option Addr) (cdv ct:Value) (us:List Value),⇑us=⇑ps->bindArgs (PySem.W.fnOf x qual (dg st) (cx st) (aT st) .none kV doc pm an cdv ct) {us,[]}=pure (ps.zip us)):Binds K fd ps []:=by
 let⟨oc,od,kV,doc,pm,an,cdv,ct,osl,rfl,lk,hcd⟩:=F.ex;exact .all (h kV doc pm an cdv ct)
def j7 {x qual:Str} {st:Stmt} {f:Addr} {oc:Value} {od an:Option Addr} {osl:Array (Option Value)} {kV doc pm cdv ct:Value} (l:K.lookup f=some {oc,od,.func (PySem.W.fnOf x qual (dg st) (cx st) (aT st) .none kV doc pm an cdv ct),osl})
  (c:PySem.W.codeIn K cdv qual=true) (k:PySem.W.keepIn K (.ref f)=true):NR K x qual st f (PySem.W.fnOf x qual (dg st) (cx st) (aT st) .none kV doc pm an cdv ct):={{(oc),od,kV,doc,pm,an,cdv,ct,osl,rfl,l,c},k}
end
def fC (hr:fH k A):A.units+1<cLine:=Nat.lt_of_le_of_lt (Nat.add_le_add_left (by decide:1<=64) _) hr.units
section
variable {X:Cx}
def pv (i:Nat) (hN:X.N[i]?=some x<|>qe_) (hv:Rk X.env.scope x<|>qg_) (hd:(x == ("__debug__": Str))=false<|>qb_)
  (hcd:(x == ("__classdict__": Str))=false<|>qb_):PE X (.Name x pos) (aX i):=QD hN hv hd hcd
end
def Sd {A B:Prop} (h:B):if false=true then A else B:=by
 rw[if_neg zL];exact h
def Uc {A B:Prop} (h:A):if true=true then A else B:=by
 rw[if_pos rfl];exact h
def uZ {c A B:Prop} [Decidable c] (h1:c->A) (h2:¬c->B):if c then A else B:=by
 by_cases h:c
 ·rw[if_pos h]
  exact h1 h
 ·rw[if_neg h]
  exact h2 h
def PK {c A B:Prop} [Decidable c] (hc:c) (h:B):if(!decide c)=true then A else B:=by
 rw[zg hc];exact Sd h
def au (H H':Hp):Prop:=∀b o,H b=some o->H' b=some o
def au.refl (H:Hp):au H H:=λ_ _ h=>h
def au.trans (a:au H H1) (b:au H1 H2):au H H2:=λc o h=>b c o (a c o h)
def au.seq {K:yB} {H H':Hp} {a:Addr} {xs:List V} (e:au H H') (h:aH K H a xs):aH K H' a xs:=by
 rcases h with(h | ⟨o,h⟩) | h
 ·exact .inl (.inl (e _ _ h))
 ·exact .inl (.inr {o,e _ _ h})
 ·exact .inr h
end L2
namespace Lm
def red (t b:Int):Int×Int:=(t/(Int.gcd t b:Int),b/(Int.gcd t b:Int))
def vG {t b:Int} (hb:0<b):0<(Int.gcd t b:Int):=by
 have:0<Int.gcd t b:=Int.gcd_pos_of_ne_zero_right t nofun;omega
def kY {t b k:Int} (hk:0<k) (hb:0<b):red (k*t) (k*b)=red t b:=by
 let g0:=vG (t:=t) hb;let e:(Int.gcd (k*t) (k*b):Int)=k*(Int.gcd t b:Int):=by
  rw[Int.gcd_mul_left];simp only[Int.natCast_mul];rw[Int.natAbs_of_nonneg nofun]
 unfold red;rw[e,Int.mul_ediv_mul_of_pos _ _ hk,Int.mul_ediv_mul_of_pos _ _ hk]
def iV {t b:Int} (hb:0<b):∃g,0<g/\t=g*(red t b).1/\b=g*(red t b).2/\0<(red t b).2/\(red t b).2<=b:=by
 let g0:=vG (t:=t) hb;let d1:(Int.gcd t b:Int) ∣ t:=Int.gcd_dvd_left ..;let d2:(Int.gcd t b:Int) ∣ b:=Int.gcd_dvd_right ..;let e1:(Int.gcd t b:Int)*(t/(Int.gcd t b:Int))=t:=Int.mul_ediv_cancel' d1;let e2:(Int.gcd t b:Int)*(b/(Int.gcd t b:Int))=b:=Int.mul_ediv_cancel' d2;refine{_,g0,e1.symm,e2.symm,?_,?_}
 ·exact Int.ediv_pos_of_pos_of_dvd hb nofun d2
 ·exact zX _ nofun
def wJ {t b:Int} (ht:0<=t):0<=(red t b).1:=zW ht (Int.natCast_nonneg _)
def wK {t b:Int} (ht:0<=t):(red t b).1<=t:=zX _ ht
def Ol {t b:Int} (hb:0<b):red (red t b).1 (red t b).2=red t b:=by
 let⟨g,g0,e1,e2,p,_⟩:=iV (t:=t) hb;let h:=kY (t:=(red t b).1) (b:=(red t b).2) g0 p;rw[<-e1,<-e2] at h;exact h.symm
def Qw {t b s c:Int} (hb:0<b) (hc:0<c) (h:t*c=s*b):red t b=red s c:=by
 let h1:red (c*t) (c*b)=red t b:=kY hc hb;let h2:red (b*s) (b*c)=red s c:=kY hb hc;rw[<-h1,<-h2,Int.mul_comm c t,h,Int.mul_comm s b,Int.mul_comm c b]
def add (x y:Int×Int):Int×Int:=red (x.1*y.2+y.1*x.2) (x.2*y.2)
def Pa {t b s c:Int} (hb:0<b) (hc:0<c):add (red t b) (red s c)=red (t*c+s*b) (b*c):=by
 let⟨g,g0,e1,e2,p,_⟩:=iV (t:=t) hb;let⟨k,k0,f1,f2,q,_⟩:=iV (t:=s) hc;unfold add;generalize hx:red t b=x at *;generalize hy:red s c=y at *;let h:=kY (t:=x.1*y.2+y.1*x.2) (b:=x.2*y.2) (Int.mul_pos g0 k0) (Int.mul_pos p q);rw[<-h]
 congr 1
 ·rw[e1,e2,f1,f2,Int.mul_add]
  congr 1 <;> simp only[Int.mul_assoc,Int.mul_left_comm,Int.mul_comm]
 ·rw[e2,f2];simp only[Int.mul_assoc,Int.mul_left_comm,Int.mul_comm]
end Lm
namespace Lm
def Rd (x:Int×Int):Prop:=∃t b,0<=t/\0<b/\x=red t b
def Rd.of {t b:Int} (ht:0<=t) (hb:0<b):Rd (red t b):={(t),b,ht,hb,rfl}
def Rd.pos {x:Int×Int} (h:Rd x):0<=x.1/\0<x.2/\red x.1 x.2=x:=by
 let⟨t,b,ht,hb,rfl⟩:=h;let⟨g,g0,e1,e2,p,_⟩:=iV (t:=t) hb;exact{wJ ht,p,Ol hb}
def Rd.zero:Rd (0,1):={0,1,∅,∅,∅}
theorem Rd.add {x y:Int×Int} (h:Rd x) (k:Rd y):Rd (add x y):=by
 let⟨a,b,_⟩:=h.pos;let⟨c,d,_⟩:=k.pos;refine{_,_,?_,Int.mul_pos b d,rfl};exact Int.add_nonneg (Int.mul_nonneg a nofun) (Int.mul_nonneg c nofun)
def F0 {x y:Int} (hx:0<=x) (hy:0<y):Int.gcd y (x%y)=Int.gcd x y:=by
 let e:(x%y).natAbs=x.natAbs%y.natAbs:=by
  let⟨a,rfl⟩:=yL hx;let⟨b,rfl⟩:=yL (Int.le_of_lt hy);rfl
 show Nat.gcd y.natAbs (x%y).natAbs=Nat.gcd x.natAbs y.natAbs;rw[e,Nat.gcd_comm x.natAbs,Nat.gcd_rec y.natAbs x.natAbs,Nat.gcd_comm]
def M7 {t b:Int} (hb:0<b):(Int.gcd t b:Int)<=b:=by
 let h:Int.gcd t b<=b.natAbs:=Nat.gcd_le_right _ nofun;omega
end Lm
namespace Lm
end Lm
namespace Lm
theorem JD {c:Nat}:∀{p q A B:List Nat},c∉p->c∉q->p++c::A=q++c::B->p=q/\A=B
 | [],[],A,B,_,_,h=>{rfl,by simpa using h}
 | [],y::q,A,B,_,hq,h=>by
  simp at h;exact absurd (by rw[h.1];exact zr) hq
 | x::p,[],A,B,hp,_,h=>by
  simp at h;exact absurd (by rw[<-h.1];exact zr) hp
 | x::p,y::q,A,B,hp,hq,h=>by
  simp only[List.cons_append,List.cons.injEq] at h;let⟨e,h⟩:=h;let⟨e1,e2⟩:=JD (λz=>hp (zp _ z)) (λz=>hq (zp _ z)) h;exact{by rw[e,e1],e2}
def M5:∀(n:Nat),0<n->∃c r,Nat.toDigits 10 n=c::r/\c≠'0':=by
 intro n
 induction n using Nat.strongRecOn with
 | _ n ih=>
  intro hn
  by_cases h:n<10
  ·rw[Nat.toDigits_of_lt_base h]
   refine{_,[],rfl,?_};exact(by decide:∀n<10,0<n->Nat.digitChar n≠'0') n h hn
  ·let hd:n%10<10:=Nat.mod_lt _ ∅
   let⟨c,r,e,hc⟩:=ih (n/10) nofun nofun;let t:=Nat.toDigits_append_toDigits (b:=10) (n:=n/10) (d:=n%10) ∅ nofun hd;rw[Nat.div_add_mod,e] at t;exact{c,r++Nat.toDigits 10 (n%10),by rw[<-t];rfl,hc}
def QR {n k:Nat} (hk:0<k):n<10^k->⇑(Nat.toDigits 10 n)<=k:=by
 intro h
 induction k generalizing n with
 | zero=>omega
 | succ k ih=>
  by_cases h10:n<10
  ·rw[Nat.toDigits_of_lt_base h10];simp
  ·let hd:n%10<10:=Nat.mod_lt _ ∅
   let hk0:0<k:=by
    rcases Nat.eq_zero_or_pos k with rfl | z
    ·simp at h;omega
    ·exact z
   have:=ih hk0 (n:=n/10) (by rw[Nat.div_lt_iff_lt_mul ∅];rw[Nat.pow_succ] at h;exact h);let t:=Nat.toDigits_append_toDigits (b:=10) (n:=n/10) (d:=n%10) ∅ nofun hd;rw[Nat.div_add_mod] at t;rw[<-t,zh,Nat.toDigits_of_lt_base hd];simp;omega
end Lm
namespace L2
open PySem
def fg (t:Bool) (h:Heap) (a:Addr) (items:Array Value):Prop:=match t with
 | true=>h.IsTuple a items
 | false=>h.IsList a items
def du (t:Bool) (h:Heap) (it a:Addr) (k:Nat):Prop:=match t with
 | true=>h.IsTupleIter it a k
 | false=>h.IsListIter it a k
def qY (t:Bool) (a:Addr):Obj:=match t with
 | true=>{cls:=.type "tuple_iterator",data:=.fields #[.ref a,.int 0 0]}
 | false=>{cls:=.type "list_iterator",data:=.fields #[.ref a,.int 0 0]}
theorem fg.at {t:Bool} {h h':Heap} {a:Addr} {items:Array Value} (x:fg t h a items) (e:∀o,h.get? a=some o->h'.get? a=some o):fg t h' a items:=by
 cases t
 ·exact Heap.IsList.at x e
 ·let⟨o,ho,r⟩:=x;exact{o,e o ho,r}
theorem du.at {t:Bool} {h h':Heap} {it a:Addr} {k:Nat} (x:du t h it a k) (e:∀o,h.get? it=some o->h'.get? it=some o):du t h' it a k:=by
 cases t
 ·exact Heap.IsListIter.at x e
 ·exact Heap.IsTupleIter.at x e
def fg.but {t:Bool} {h h':Heap} {a b:Addr} {items:Array Value} (x:fg t h a items) (hs:Heap.SameBut b h h') (n:a≠b):fg t h' a items:=x.at λo e=>hs.extBut a o n e
def du.but {t:Bool} {h h':Heap} {it a b:Addr} {k:Nat} (x:du t h it a k) (hs:Heap.SameBut b h h') (n:it≠b):du t h' it a k:=x.at λo e=>hs.extBut it o n e
theorem du.get {t:Bool} {h:Heap} {it a:Addr} {k:Nat} (x:du t h it a k):∃o,h.get? it=some o/\∀v,o.data≠.cell v:=by
 cases t
 ·let⟨o,e,_,d⟩:=x;exact{o,e,λv z=>by rw[d] at z;cases z}
 ·let⟨o,e,_,d⟩:=x;exact{o,e,λv z=>by rw[d] at z;cases z}
def du.new (t:Bool) (h:Heap) (a:Addr):du t (h.push (qY t a)) h.objs.size a 0:=by
 cases t
 ·exact{_,yx _ rfl,rfl,rfl}
 ·exact{_,yx _ rfl,rfl,rfl}
section
variable {prog:Program} {w:World} {A:Around} {E:Value->Shared->Prop} {s:Shared}
def Je {t:Bool} {a:Addr} {items:Array Value} {Q:Value->Shared->Prop} (hl:fg t s.heap a items) (hQ:Q (.ref ↑s) {s with heap:=s.heap.push (qY t a)}) :
  wpAny (model prog w) A (pyIter (.ref a)) Q E s:=by
 cases t
 ·exact wpAny_pyIter_list hl hQ
 ·exact wpAny_pyIter_tuple hl hQ
def pZ {t:Bool} {it a:Addr} {i:Nat} {items:Array Value} {x:Value} {Q:Value->Shared->Prop} (hit:du t s.heap it a i) (hl:fg t s.heap a items) (hx:items[i]?=some x)
  (hQ:∀h',du t h' it a (i+1)->Heap.SameBut it s.heap h'->Q x {s with heap:=h'}):wpAny (model prog w) A (Builtin.SmallTypes.nextOf (.ref it)) Q E s:=by
 cases t
 ·exact wpAny_nextOf_list_item hit hl hx hQ
 ·let hit':s.heap.IsTupleIter it a i:=hit
  let⟨o,ho,hc,hd⟩:=id hit';let⟨ol,hol,_,nl,hdl⟩:=(show s.heap.IsTuple a items from hl)
  unfold Builtin.SmallTypes.nextOf;refine yu (wpAny_callSpecial?_slot (name:=Str.ofString "__next__") hit'.typeIs F.slot_tuple_iterator_next (wpAny_call_entry F.slot_tuple_iterator_next hit'.typeIs F.entry_tuple_iterator_next ?_ (F.args_tuple_iterator_next_1 _)));show wpAny _ _ (field (.ref it) 0 >>= _) _ _ s;refine yu (wpAny_field ho hd (x:=.ref a) rfl ?_);show wpAny _ _ (if(Value.ref a == Value.none)=true then _ else _) _ _ s;rw[if_neg (show¬((Value.ref a == Value.none)=true) from zL)];show wpAny _ _ (field (.ref it) 1 >>= _) _ _ s;refine yu (wpAny_field ho hd (x:=.int i 0) rfl ?_);show wpAny _ _ (seqItems? (.ref a) >>= _) _ _ s;refine yu (wpAny_seqItems hol hdl ?_);simp only[Int.toNat_natCast,hx];refine yu (wpAny_setField ho hd (by simp) (yw {x,rfl,yw (hQ _ ?_ (Heap.SameBut.update ..))}));exact{_,yA _ ho (Obj.isFreed_of_fields (Obj.data_mapFields hd _)),(Obj.cls_mapFields ..).trans hc,by rw[Obj.data_mapFields hd];simp[rawInt]}
def Cj {t:Bool} {it a:Addr} {i:Nat} {items:Array Value} {Q:Value->Shared->Prop} (hh:A.handled=none) (hit:du t s.heap it a i) (hl:fg t s.heap a items) (hx:items[i]?=none)
  (hE:∀h' e,Heap.ExtBut it s.heap h'->(∃o,h'.get? e=some o/\o.cls=.type "StopIteration")->E (.ref e) {s with heap:=h'}):wpAny (model prog w) A (Builtin.SmallTypes.nextOf (.ref it)) Q E s:=by
 cases t
 ·exact wpAny_nextOf_list_end hh hit hl hx hE
 ·let hit':s.heap.IsTupleIter it a i:=hit
  let⟨o,ho,hc,hd⟩:=id hit';let⟨ol,hol,_,nl,hdl⟩:=(show s.heap.IsTuple a items from hl)
  unfold Builtin.SmallTypes.nextOf;refine yu (wpAny_callSpecial?_slot (name:=Str.ofString "__next__") hit'.typeIs F.slot_tuple_iterator_next (wpAny_call_entry F.slot_tuple_iterator_next hit'.typeIs F.entry_tuple_iterator_next ?_ (F.args_tuple_iterator_next_1 _)));show wpAny _ _ (field (.ref it) 0 >>= _) _ _ s;refine yu (wpAny_field ho hd (x:=.ref a) rfl ?_);show wpAny _ _ (if(Value.ref a == Value.none)=true then _ else _) _ _ s;rw[if_neg (show¬((Value.ref a == Value.none)=true) from zL)];show wpAny _ _ (field (.ref it) 1 >>= _) _ _ s;refine yu (wpAny_field ho hd (x:=.int i 0) rfl ?_);show wpAny _ _ (seqItems? (.ref a) >>= _) _ _ s;refine yu (wpAny_seqItems hol hdl ?_);simp only[Int.toNat_natCast,hx];refine yu (wpAny_rule (yu (wpAny_setField ho hd (by simp) ?_)));show wpAny _ _ (newExc (.type "StopIteration") [] >>= _) _ _ _;refine yu ?_;simp only[newExc,newTuple];refine yu (wpAny_newObj_type ?_ (by size_fits));refine yu (m:=firstArgMember _ _) (wpAny_of_eq (a:=Value.none) (by first | rfl | (simp only[firstArgMember];rfl)) (wpAny_newObj_type ?_ (by size_fits)));simp only[raiseNew];refine yu (wpAny_handled ?_)
  first | rw[show A.in1.handled=none from hh] | rw[hh]
  exact yu (yw (wpAny_throw (hE _ _ (((Heap.SameBut.update ..).extBut.push _).push _) {_,yx _ rfl,rfl})))
structure Ld (z TI TO i1 i2:Addr):Prop where
 a1:TI≠z
 a2:TO≠z
 a3:i1≠z
 a4:i2≠z
 a5:TI≠TO
 a6:TI≠i1
 a7:TI≠i2
 a8:TO≠i1
 a9:TO≠i2
 b1:i1≠i2
structure y6 (l z TO i1 i2:Addr):Prop where
 a1:l≠z
 a2:l≠TO
 a3:l≠i1
 a4:l≠i2
def rL (z TO i1 i2:Addr) (h h':Heap):Prop:=∀c o,c≠z->c≠TO->c≠i1->c≠i2->h.get? c=some o->h'.get? c=some o
structure NV (t1 t2:Bool) (h:Heap) (z TI TO i1 i2 l1 l2:Addr) (k:Nat) (f0:Value):Prop where
 z:IsZip h z TI TO f0
 ti:IsPair h TI (.ref i1) (.ref i2)
 to:∃a b,IsPair h TO a b
 i1:du t1 h i1 l1 k
 i2:du t2 h i2 l2 k
def Lx {t1 t2:Bool} {z TI TO i1 i2 l1 l2:Addr} {k:Nat} {xs ys:Array Value} {x y:Value} {Q:Value->Shared->Prop} (D:Ld z TI TO i1 i2) (L1:y6 l1 z TO i1 i2) (L2:y6 l2 z TO i1 i2)
  (S:NV t1 t2 s.heap z TI TO i1 i2 l1 l2 k .none) (hl1:fg t1 s.heap l1 xs) (hl2:fg t2 s.heap l2 ys) (hx:xs[k]?=some x) (hy:ys[k]?=some y)
  (hQ:∀h',NV t1 t2 h' z TI TO i1 i2 l1 l2 (k+1) (rawInt ↑s)->IsPair h' ↑s x y->rL z TO i1 i2 s.heap h'->Q (.ref ↑s) {s with heap:=h'}) :
  wpAny (model prog w) A (Builtin.«zip.__next__» {[.ref z],[]}) (λfin s'=>∃v,fin=.done (.ret v)/\Q v s') E s:=by
 let⟨hz,hTI,⟨a,b,hTO⟩,h1,h2⟩:=S;show wpAny _ _ (field (.ref z) 2 >>= _) _ _ _;refine yu (wpAny_field hz rfl (x:=.bool false) rfl ?_);show wpAny _ _ (field (.ref z) 3 >>= _) _ _ _;refine yu (wpAny_field hz rfl (x:=.ref TI) rfl (yu (wpAny_seqItems hTI rfl ?_)));show wpAny _ _ (Builtin.SmallTypes.ownedTupleIsFree (.ref z) >>= _) _ _ _;refine yu ?_;unfold Builtin.SmallTypes.ownedTupleIsFree;refine yu (wpAny_field hz rfl (x:=.none) rfl (yw ?_));simp only[if_true];refine yu (wpAny_rule (yu (wpAny_field hz rfl (x:=.ref TO) rfl (yu (wpAny_setField_rec hz (by simp) λg1 z1 q1=>?_)))));replace z1:IsZip g1 z TI TO .ellipsis:=z1;refine yu ?_;simp only[List.zipIdx_cons,List.zipIdx_nil,List.forIn_cons,List.forIn_nil];refine yu (yu (wpAny_onRaise ?_));show wpAny _ _ (Builtin.SmallTypes.nextOf (.ref i1) >>= _) _ _ _;refine yu (pZ (h1.but q1 D.a3) (hl1.but q1 L1.a1) hx λg2 p2 q2=>yw ?_);let o2:IsPair g2 TO a b:=q2.extBut _ _ D.a8 (q1.extBut _ _ D.a2 hTO);refine yu (wpAny_seqItems o2 rfl (yu (wpAny_updateSeq_pair o2 λg3 o3 q3=>yu (wpAny_letGo (yw (yu (yu (wpAny_onRaise ?_))))))));replace o3:IsPair g3 TO x b:=o3;show wpAny _ _ (Builtin.SmallTypes.nextOf (.ref i2) >>= _) _ _ _;refine yu (pZ (((h2.but q1 D.a4).but q2 D.b1.symm).but q3 D.a9.symm) (((hl2.but q1 L2.a1).but q2 L2.a3).but q3 L2.a2) hy λg4 p4 q4=>yw ?_);let o4:IsPair g4 TO x b:=q4.extBut _ _ D.a9 o3;refine yu (wpAny_seqItems o4 rfl (yu (wpAny_updateSeq_pair o4 λg5 o5 q5=>yu (wpAny_letGo (yw (yw ?_))))));replace o5:IsPair g5 TO x y:=o5;refine yu (wpAny_seqItems o5 rfl (yu (wpAny_newTuple ?_)));let sz:g5.objs.size=↑s:=by rw[q5.1,q4.1,q3.1,q2.1,q1.1]
 let z5:IsZip g5 z TI TO .ellipsis:=q5.extBut _ _ D.a2.symm (q4.extBut _ _ D.a4.symm (q3.extBut _ _ D.a2.symm (q2.extBut _ _ D.a3.symm z1)));let k5:rL z TO i1 i2 s.heap g5:=λc o c1 c2 c3 c4 e=>q5.extBut _ _ c2 (q4.extBut _ _ c4 (q3.extBut _ _ c2 (q2.extBut _ _ c3 (q1.extBut _ _ c1 e))));let r1:du t1 g5 i1 l1 (k+1):=((p2.but q3 D.a8.symm).but q4 D.b1).but q5 D.a8.symm;let r2:du t2 g5 i2 l2 (k+1):=p4.but q5 D.a9.symm;let zl:z<g5.objs.size:=yy z5;show wpAny _ _ (Builtin.SmallTypes.ownedTupleHandOut (.ref z) (.ref g5.objs.size) >>= _) _ _ _;refine yu ?_;unfold Builtin.SmallTypes.ownedTupleHandOut;let z6:IsZip (g5.push {cls:=.type "tuple",data:=.seq #[x,y]}) z TI TO .ellipsis:=yv _ z5;refine yu (wpAny_setField_rec z6 (by simp) λg7 z7 q7=>?_);replace z7:IsZip g7 z TI TO (rawInt g5.objs.size):=z7;refine wpAny_setField_rec z7 (by simp) λg8 z8 q8=>?_;replace z8:IsZip g8 z TI TO (rawInt g5.objs.size):=z8;let up:∀c o,c≠z->g5.get? c=some o->g8.get? c=some o:=λc o c1 e=>q8.extBut _ _ c1 (q7.extBut _ _ c1 (yv _ e));let t8:IsPair g8 g5.objs.size x y:=q8.extBut _ _ (yi zl) (q7.extBut _ _ (yi zl) (yx _ rfl));rw[sz] at z8 t8;refine yw {_,rfl,?_};show Q (.ref g5.objs.size) _;rw[sz];exact hQ g8 {z8,up _ _ D.a1 (k5 _ _ D.a1 D.a5 D.a6 D.a7 hTI),{_,_,up _ _ D.a2 o5},r1.at λo e=>up _ o D.a3 e,r2.at λo e=>up _ o D.a4 e} t8 λc o c1 c2 c3 c4 e=>up c o c1 (k5 c o c1 c2 c3 c4 e)
def Lw {t1 t2:Bool} {z TI TO i1 i2 l1 l2:Addr} {k:Nat} {xs ys:Array Value} {Q:Fin->Shared->Prop} (hh:A.handled=none) (D:Ld z TI TO i1 i2) (L1:y6 l1 z TO i1 i2) (L2:y6 l2 z TO i1 i2)
  (S:NV t1 t2 s.heap z TI TO i1 i2 l1 l2 k .none) (hl1:fg t1 s.heap l1 xs) (hl2:fg t2 s.heap l2 ys) (hend:xs[k]?=none\/ys[k]?=none)
  (hE:∀h' e,rL z TO i1 i2 s.heap h'->(∃o,h'.get? e=some o/\o.cls=.type "StopIteration")->E (.ref e) {s with heap:=h'}) :
  wpAny (model prog w) A (Builtin.«zip.__next__» {[.ref z],[]}) Q E s:=by
 let⟨hz,hTI,⟨a,b,hTO⟩,h1,h2⟩:=S;show wpAny _ _ (field (.ref z) 2 >>= _) _ _ _;refine yu (wpAny_field hz rfl (x:=.bool false) rfl ?_);show wpAny _ _ (field (.ref z) 3 >>= _) _ _ _;refine yu (wpAny_field hz rfl (x:=.ref TI) rfl (yu (wpAny_seqItems hTI rfl ?_)));show wpAny _ _ (Builtin.SmallTypes.ownedTupleIsFree (.ref z) >>= _) _ _ _;refine yu ?_;unfold Builtin.SmallTypes.ownedTupleIsFree;refine yu (wpAny_field hz rfl (x:=.none) rfl (yw ?_));simp only[if_true];refine yu (wpAny_rule (yu (wpAny_field hz rfl (x:=.ref TO) rfl (yu (wpAny_setField_rec hz (by simp) λg1 z1 q1=>?_)))));replace z1:IsZip g1 z TI TO .ellipsis:=z1;refine yu ?_;simp only[List.zipIdx_cons,List.zipIdx_nil,List.forIn_cons,List.forIn_nil];refine yu (yu (wpAny_onRaise ?_));show wpAny _ _ (Builtin.SmallTypes.nextOf (.ref i1) >>= _) _ _ _;cases hx:xs[k]? with
 | none=>
  refine yu (Cj hh (h1.but q1 D.a3) (hl1.but q1 L1.a1) hx λg2 e q2 he=>?_);let⟨oe,hoe,hce⟩:=he;let z2:IsZip g2 z TI TO .ellipsis:=q2 _ _ D.a3.symm z1;let hez:e≠z:=λx=>by subst x;rw[z2] at hoe;cases hoe;simp at hce
  exact wpAny_setField_rec z2 (by simp) λg3 _ q3=>hE g3 e (λc o c1 _ c3 _ x=>q3.extBut _ _ c1 (q2 _ _ c3 (q1.extBut _ _ c1 x))) {oe,q3.extBut _ _ hez hoe,hce}
 | some x=>
  let hy:ys[k]?=none:=by rcases hend with h | h;rw[hx] at h;cases h;exact h
  refine yu (pZ (h1.but q1 D.a3) (hl1.but q1 L1.a1) hx λg2 p2 q2=>yw ?_);let o2:IsPair g2 TO a b:=q2.extBut _ _ D.a8 (q1.extBut _ _ D.a2 hTO);refine yu (wpAny_seqItems o2 rfl (yu (wpAny_updateSeq_pair o2 λg3 o3 q3=>yu (wpAny_letGo (yw (yu (yu (wpAny_onRaise ?_))))))));show wpAny _ _ (Builtin.SmallTypes.nextOf (.ref i2) >>= _) _ _ _;refine yu (Cj hh (((h2.but q1 D.a4).but q2 D.b1.symm).but q3 D.a9.symm) (((hl2.but q1 L2.a1).but q2 L2.a3).but q3 L2.a2) hy λg4 e q4 he=>?_);let⟨oe,hoe,hce⟩:=he;let z4:IsZip g4 z TI TO .ellipsis:=q4 _ _ D.a4.symm (q3.extBut _ _ D.a2.symm (q2.extBut _ _ D.a3.symm z1));let hez:e≠z:=λx=>by subst x;rw[z4] at hoe;cases hoe;simp at hce
  exact wpAny_setField_rec z4 (by simp) λg5 _ q5=>hE g5 e (λc o c1 c2 c3 c4 x=>q5.extBut _ _ c1 (q4 _ _ c4 (q3.extBut _ _ c2 (q2.extBut _ _ c3 (q1.extBut _ _ c1 x))))) {oe,q5.extBut _ _ hez hoe,hce}
def Ey {t1 t2:Bool} {z TI TO i1 i2 l1 l2:Addr} {k:Nat} {xs ys:Array Value} {x y:Value} {Q:Option Value->Shared->Prop} (D:Ld z TI TO i1 i2) (L1:y6 l1 z TO i1 i2) (L2:y6 l2 z TO i1 i2)
  (S:NV t1 t2 s.heap z TI TO i1 i2 l1 l2 k .none) (hl1:fg t1 s.heap l1 xs) (hl2:fg t2 s.heap l2 ys) (hx:xs[k]?=some x) (hy:ys[k]?=some y)
  (hQ:∀h',NV t1 t2 h' z TI TO i1 i2 l1 l2 (k+1) (rawInt ↑s)->IsPair h' ↑s x y->rL z TO i1 i2 s.heap h'->Q (some (.ref ↑s)) {s with heap:=h'}) :
  wpAny (model prog w) A (pyNext (.ref z)) Q E s:=by
 let hT:s.TypeIs (.ref z) "zip":={_,S.z,rfl}
 unfold pyNext;exact yu (wpAny_attempt (wpAny_callSpecial?_slot (name:=Str.ofString "__next__") hT F.slot_zip_next (wpAny_call_entry F.slot_zip_next hT F.entry_zip_next (Lx D L1 L2 S hl1 hl2 hx hy λh' a1 a2 a3=>yw (hQ h' a1 a2 a3)) (F.args_zip_next_1 _))))
def Ew {t1 t2:Bool} {z TI TO i1 i2 l1 l2:Addr} {k:Nat} {xs ys:Array Value} {Q:Option Value->Shared->Prop} (hh:A.handled=none) (D:Ld z TI TO i1 i2) (L1:y6 l1 z TO i1 i2) (L2:y6 l2 z TO i1 i2)
  (S:NV t1 t2 s.heap z TI TO i1 i2 l1 l2 k .none) (hl1:fg t1 s.heap l1 xs) (hl2:fg t2 s.heap l2 ys) (hend:xs[k]?=none\/ys[k]?=none)
  (hQ:∀h',rL z TO i1 i2 s.heap h'->Q none {s with heap:=h'}):wpAny (model prog w) A (pyNext (.ref z)) Q E s:=by
 let hT:s.TypeIs (.ref z) "zip":={_,S.z,rfl}
 unfold pyNext;refine yu (wpAny_attempt (wpAny_callSpecial?_slot (name:=Str.ofString "__next__") hT F.slot_zip_next (wpAny_call_entry F.slot_zip_next hT F.entry_zip_next (Lw hh D L1 L2 S hl1 hl2 hend λh' e hk he=>?_) (F.args_zip_next_1 _))));let⟨o,ho,hc⟩:=he;exact yu (wpAny_isInstance (T:="StopIteration") (b:=true) {(o),ho,hc} isSubtype_stop (yw (hQ _ hk)))
end
abbrev SO (t1:Bool) (h:Heap) (l1:Addr):Heap:=h.push (qY t1 l1)
abbrev Rx (t1 t2:Bool) (h:Heap) (l1 l2:Addr):Heap:=(SO t1 h l1).push (qY t2 l2)
abbrev SN (t1 t2:Bool) (h:Heap) (l1 l2:Addr):Heap:=(Rx t1 t2 h l1 l2).push {cls:=.type "tuple",data:=.seq #[.ref h.objs.size,.ref (SO t1 h l1).objs.size]}
abbrev SM (t1 t2:Bool) (h:Heap) (l1 l2:Addr):Heap:=(SN t1 t2 h l1 l2).push {cls:=.type "tuple",data:=.seq #[.none,.none]}
abbrev PZ (t1 t2:Bool) (h:Heap) (l1 l2:Addr):Heap:=(SM t1 t2 h l1 l2).push {cls:=.type "zip",data:=.fields #[.none,.bool false,.bool false,.ref (Rx t1 t2 h l1 l2).objs.size,.ref (SN t1 t2 h l1 l2).objs.size]}
def Lz (t1 t2:Bool) (l1 l2:Addr) (xs ys:Array Value) :
  Meets (Builtin.«zip.__new__» {[.type "zip",.ref l1,.ref l2],[]}) (λ_ R s=>fg t1 s.heap l1 xs/\fg t2 s.heap l2 ys/\R (.ok (.ret (.ref (SM t1 t2 s.heap l1 l2).objs.size))) {s with heap:=PZ t1 t2 s.heap l1 l2}):=
 .of_wp λprog w A R s h=>by
  let⟨hp,g,d,tk,os⟩:=s;let⟨a1,a2,h⟩:=h;let hsub:=sub_zip;let b1:fg t1 (Shared.heap {(hp),g,d,tk,os}) l1 xs:=a1;let b2:fg t2 (Shared.heap {hp.push (qY t1 l1),g,d,tk,os}) l2 ys:=a2.at λo e=>yv _ e;wp_walk using Je b1,Je b2;exact{_,rfl,h}
def Ez {prog:Program} {w:World} {A:Around} {E:Value->Shared->Prop} {s:Shared} {t1 t2:Bool} {l1 l2:Addr} {xs ys:Array Value} {Q:Value->Shared->Prop} (hl1:fg t1 s.heap l1 xs) (hl2:fg t2 s.heap l2 ys)
  (h:∀h',NV t1 t2 h' (↑s+4) (↑s+2) (↑s+3) ↑s (↑s+1) l1 l2 0 .none->(∀c o,s.heap.get? c=some o->h'.get? c=some o)->Q (.ref (↑s+4)) {s with heap:=h'}) :
  wpAny (model prog w) A (call (.type "zip") [.ref l1,.ref l2]) Q E s:=by
 refine callType_new F.called_zip ∅ (F.typeCall_zip_2 _ _) (F.newCall_zip_2 _ _) (λobj=>F.args_object_init_3 obj _ _) F.entry_zip_new (Lz t1 t2 l1 l2 xs ys) {hl1,hl2,?_};let z1:(SO t1 s.heap l1).objs.size=↑s+1:=Heap.size_push ..;let z2:(Rx t1 t2 s.heap l1 l2).objs.size=↑s+2:=by rw[Heap.size_push,z1]
 let z3:(SN t1 t2 s.heap l1 l2).objs.size=↑s+3:=by rw[Heap.size_push,z2]
 let z4:(SM t1 t2 s.heap l1 l2).objs.size=↑s+4:=by rw[Heap.size_push,z3]
 let up:∀c o,(Rx t1 t2 s.heap l1 l2).get? c=some o->(PZ t1 t2 s.heap l1 l2).get? c=some o:=λc o e=>yv _ (yv _ (yv _ e));let g5:(PZ t1 t2 s.heap l1 l2).get? (SM t1 t2 s.heap l1 l2).objs.size=some _:=yx _ rfl;let g4:(PZ t1 t2 s.heap l1 l2).get? (SN t1 t2 s.heap l1 l2).objs.size=some _:=yv _ (yx _ rfl);let g3:(PZ t1 t2 s.heap l1 l2).get? (Rx t1 t2 s.heap l1 l2).objs.size=some _:=yv _ (yv _ (yx _ rfl));let g2:du t2 (PZ t1 t2 s.heap l1 l2) (SO t1 s.heap l1).objs.size l2 0:=(du.new t2 _ l2).at (up _);let g1:du t1 (PZ t1 t2 s.heap l1 l2) ↑s l1 0:=((du.new t1 _ l1).at λo e=>yv _ e).at (up _);show _/\_;rw[z2,z3,z4] at g5;rw[z1,z2] at g3;rw[z3] at g4;rw[z1] at g2;rw[z4];exact{{_,g5,rfl},h _ {g5,g3,{_,_,g4},g1,g2} λc o x=>up c o (yv _ (yv _ x))}
end L2
namespace L2
open PySem PySem.Spec PyProof.Rows
def bq (h:H p=none):au H (upd H p o):=λb u e=>by rw[aC (bB e h)];exact e
def laid {H:Hp} {o:HO} {Q:VK} (k:∀p H',au H H'->H' p=some o->Q (.ref p) H'):∀p,H p=none->Q (.ref p) (upd H p o):=λp hp=>k p _ (bq hp) aB
def au.tup {K:yB} {H H':Hp} {a:Addr} {xs:List V} (e:au H H') (h:cY K H a xs):cY K H' a xs:=by
 rcases h with(h | ⟨o,h⟩) | h
 ·exact .inl (.inl (e _ _ h))
 ·exact .inl (.inr {o,e _ _ h})
 ·exact .inr h
section
variable {X:Cx} {pins:List (Addr×Obj)} {U:St} {H:Hp} {s:Shared} {h':Heap}
def Inv.vP {T:Addr} {o:HO} {ch:List Addr} {t':Nat} (I:Inv X pins U H s) (hf:∀b∈ch,pT X pins H b) (hT:↑s<=T) (k:∀b u,b∉ch->s.heap.get? b=some u->h'.get? b=some u)
  (new:cB X.prog X.w (upd H T o) h' T o):Inv X pins U (upd H T o) {s with heap:=h',toks:=t'}:=by
 let hn:H T=none:=I.b7.fresh hT;let neT:∀b u,s.heap.get? b=some u->b≠T:=λb u e=>yj (yc (yy e) hT);let nch:∀b u,H b=some u->b∉ch:=λb u e hb=>by rw[(hf b hb).1] at e;cases e
 refine I.step (g':=s.gens) (d':=s.drawn) (ch:=ch) (λb hb=>?_) (λb u _ _ hc e _=>k b u hc e) (λb u _ _ hc e _=>{u.slots,k b u hc e}) (λb u hc e n=>by rw[aC (neT b u e)];exact n) (λb u hc e=>{u,k b u hc e})
  (λb xs e=>by rw[aC (bB e hn)];exact e) (λb ob u e=>by rw[aC (bB e hn)];exact e) (λb ps e=>{#[],by rw[aC (bB e hn),e];simp}) (λm hm=>?_) (λb u e=>?_) I.bare
 ·let⟨f0,f1,f2,f3,f4,f5⟩:=hf b hb
  exact{(f3),f1,f4,f5}
 ·let⟨ob,es,ep,ho,r⟩:=hm
  exact{ob,es,ep,k _ _ (λz=>(hf _ z).2.1 rfl) ho,r}
 ·by_cases hb:b=T
  ·subst hb;rw[aB] at e;cases e;exact new
  ·rw[aC hb] at e
   refine(I.b7 b u e).kQ (λc v hc q=>k c v ?_ q) (λc q=>by rw[aC (bB q hn)];exact q) λc xs q=>by rw[aC (bB q hn)];exact q
   rcases hc with z | z
   ·rw[z];exact nch b u e
   ·exact nch c _ z
def Inv.turns {ch:List Addr} {t':Nat} (I:Inv X pins U H s) (hf:∀b∈ch,pT X pins H b) (k:∀b u,b∉ch->s.heap.get? b=some u->h'.get? b=some u):Inv X pins U H {s with heap:=h',toks:=t'}:=by
 let nch:∀b u,H b=some u->b∉ch:=λb u e hb=>by rw[(hf b hb).1] at e;cases e
 refine I.step (g':=s.gens) (d':=s.drawn) (ch:=ch) (λb hb=>?_) (λb u _ _ hc e _=>k b u hc e) (λb u _ _ hc e _=>{u.slots,k b u hc e}) (λb u hc e n=>n) (λb u hc e=>{u,k b u hc e})
  (λb xs e=>e) (λb ob u e=>e) (λb ps e=>{#[],by rw[e];simp}) (λm hm=>?_) (λb u e=>?_) I.bare
 ·let⟨f0,f1,f2,f3,f4,f5⟩:=hf b hb
  exact{(f3),f1,f4,f5}
 ·let⟨ob,es,ep,ho,r⟩:=hm
  exact{ob,es,ep,k _ _ (λz=>(hf _ z).2.1 rfl) ho,r}
 ·refine(I.b7 b u e).kQ (λc v hc q=>k c v ?_ q) (λc q=>q) λc xs q=>q
  rcases hc with z | z
  ·rw[z];exact nch b u e
  ·exact nch c _ z
def DV:bootBuiltins "enumerate"= some (.type "enumerate"):=by decide +kernel
def Nz:bootBuiltins "zip"= some (.type "zip"):=by decide +kernel
def Ro (K:yB) (a:Addr):It:=
 {λi H=>∃xs x,aH K H a xs/\xs[i]?=some x,λi H x H'=>∃p v,H p=none/\x=.ref p/\H'=upd H p (.tup [.int (i:Int),v])/\∀xs,aH K H a xs->xs[i]?=some v,λi H=>∃xs,aH K H a xs/\⇑xs<=i}
def JV {P:Program} {w:World} {K:yB} {es:List Expr} {kt:Nat} {tp:Pos} (a it e:Addr) (hne:e≠it) :
  Turn P w K (.Tuple es kt tp) (Ro K a) [e,it] e (λi h=>(∃old,IsEnum h e it (i:Int) old)/\h.IsListIter it a i) where
 mem:=by simp
 obj:=λi h st b hb=>by
  let⟨⟨old,he⟩,o,e1,c,d⟩:=st;rcases zD.mp hb with z | z
  ·subst z;exact{_,he,λv z=>by cases z}
  ·let z':b=it:=by simpa using z
   subst z';exact{o,e1,λv z=>by rw[d] at z;cases z}
 keep:=λi h h' st k=>{let ⟨old,he⟩:=st.1;{old,k e (by simp) _ he},st.2.at λo e=>k it (by simp) o e}
 item:=by
  intro X hP hw hK hc i pins s U H E I hf st hg;subst hP hw hK;let⟨xs,x,hq,hx⟩:=hg;let⟨its,rv,p,hz⟩:=I.list hq;let⟨u,hu,ru⟩:=rv.get hx;let⟨⟨old,he⟩,hit⟩:=st;refine wpAny_pyNext_enum_item he hit p.isList (x:=u) (by simpa using hu) hne λg1 ho hit1 hT hsz hk=>?_;refine{_,rfl,wpAny_letOwnedTupleGo_enum (s:={s with heap:=g1,toks:=s.toks+1}) ho λg2 he2 hs2=>?_};let hel:e<↑s:=yy he;let gT:g2.get? ↑s=some {cls:=.type "tuple",data:=.seq #[.int i s.toks,u]}:=hs2.extBut _ _ (yi hel) hT;let I1:Inv X pins U (upd H ↑s (.tup [.int (i:Int),x])) {s with heap:=g2,toks:=s.toks+1}:=
   I.vP hf (zm _) (λb ob hb q=>hs2.extBut _ _ (λz=>hb (by simp[z])) (hk b ob (λz=>hb (by simp[z])) (λz=>hb (by simp[z])) q))
    {by show 2<=sizeLine;decide,[.int i s.toks,u],.cons {_,rfl} (.cons ru .nil),{_,gT,rfl,_,rfl}}
  refine{.ref ↑s,_,I1,rfl,{_,x,I.b7.fresh (zm _),rfl,rfl,λys hy=>by rw[I.xg hy hq];exact hx},{{_,by simpa using he2},hit1.at λo q=>hs2.extBut _ _ hne.symm q},λb hb=>?_};let hb':=(hf b hb).1;obtain⟨o,ho',_⟩:∃o,s.heap.get? b=some o/\True:=by
   rcases zD.mp hb with z | z
   ·subst z;exact{_,he,trivial}
   ·let z':b=it:=by simpa using z
    subst z';let⟨o,e1,_⟩:=hit;exact{(o),e1,trivial}
  rw[aC (yj (yy ho'))];exact hb'
 done:=by
  intro X hP hw hK hc i pins s U H E I hf st hg;subst hP hw hK;let⟨xs,hq,hx⟩:=hg;let⟨its,rv,p,hz⟩:=I.list hq;let⟨⟨old,he⟩,hit⟩:=st;let hl:=⇑rv;exact wpAny_pyNext_enum_end (I.ok.hd hc) he hit p.isList (by simp;omega) λg1 eb=>{rfl,I.turns (t':=s.toks) hf λb o hb q=>eb b o (λz=>hb (by simp[z])) q}
 self:=λ_ _ _ _ _ st h=>let ⟨_,he⟩:=st.1;wpAny_pyIter_enum he h
def PL (K:yB) (ta:TA):TI:=λU H R=>ta U H λvs H1=>∃a xs,vs=[.ref a]/\aH K H1 a xs/\R (Ro K a) H1
def vz {a:Expr} {ta:TA} {es:List Expr} {kt:Nat} {tp p pos:Pos} (hg:Gl X "enumerate") (hm:X.mg "enumerate"= none) (ha:PA X [a] ta) (hs:starEach [a] X.env=[(false,eval a X.env)]<|>qe_) :
  PI X (.Tuple es kt tp) (.Call (.Name "enumerate" p) [a] [] pos) (PL X.K ta):=by
 intro pins s U H R I h;refine Call_ (je I hg hm DV (yM (cU (ha pos pins s U H _ I h) λus s1 ⟨vs,H1,I1,r1,q1⟩=>?_) hs rfl));let⟨l,xs,e,hq,q⟩:=q1;subst e;cases r1 with
 | cons r rr=>
  cases rr;cases r;let⟨its,rv,pl,hz⟩:=I1.list hq;refine call_enumerate_list pl.isList λg he hit hsz hk=>?_;refine wpAny_pyIter_enum (s:={s1 with heap:=g}) he ?_;let I2:Inv X pins U H1 {s1 with heap:=g}:=I1.kept (t':=s1.toks) hk;refine{↑s1+1,[↑s1+1,↑s1],_,Ro X.K l,H1,rfl,I2,JV l ↑s1 (↑s1+1) (yi (Nat.lt_succ_self _)),{{_,by simpa using he},hit},λb hb=>?_,q};let hb':↑s1<=b:=by
   rcases zD.mp hb with z | z
   ·subst z;exact Nat.le_succ _
   ·let z':b=↑s1:=by simpa using z
    subst z';exact zm _
  exact I1.u9 hb' (I1.b7.fresh hb')
def Bi (t:Bool) (K:yB) (H:Hp) (a:Addr) (xs:List V):Prop:=match t with
 | true=>cY K H a xs
 | false=>aH K H a xs
def Inv.sq (I:Inv X pins U H s) (h:Bi t X.K H a xs):∃its:List Value,Vals xs its/\fg t s.heap a its.toArray/\⇑xs<=sizeLine:=by
 cases t
 ·let⟨its,r,p,z⟩:=I.list h;exact{(its),r,p.isList,z}
 ·let⟨its,r,p,z⟩:=I.tuple h;exact{(its),r,p,z}
def Inv.LZ (I:Inv X pins U H s) (h:Bi t X.K H a xs) (h':Bi t X.K H a ys):xs=ys:=by
 cases t
 ·exact I.xg h h'
 ·exact I.Bq h h'
def fg.lt (x:fg t h a items):a<h.objs.size:=by
 cases t
 ·let⟨o,e,_⟩:=x;exact yy e
 ·let⟨o,e,_⟩:=x;exact yy e
def Ta (t1 t2:Bool) (K:yB) (a b:Addr):It:=
  {λi H=>∃xs ys x y,Bi t1 K H a xs/\Bi t2 K H b ys/\xs[i]?=some x/\ys[i]?=some y,
   λi H x H'=>∃p u v,H p=none/\x=.ref p/\H'=upd H p (.tup [u,v])/\(∀xs,Bi t1 K H a xs->xs[i]?=some u)/\∀ys,Bi t2 K H b ys->ys[i]?=some v,
   λi H=>∃xs ys,Bi t1 K H a xs/\Bi t2 K H b ys/\(⇑xs<=i\/⇑ys<=i)}
def LG {P:Program} {w:World} {K:yB} {es:List Expr} {kt:Nat} {tp:Pos} (t1 t2:Bool) (a b z TI TO i1 i2:Addr) (D:Ld z TI TO i1 i2) (L1:y6 a z TO i1 i2) (L2:y6 b z TO i1 i2) :
  Turn P w K (.Tuple es kt tp) (Ta t1 t2 K a b) [z,TI,TO,i1,i2] z (λi h=>NV t1 t2 h z TI TO i1 i2 a b i .none) where
 mem:=by simp
 obj:=λi h st c hc=>by
  let⟨hz,hi,⟨_,_,ho⟩,h1,h2⟩:=st;simp only[zD,zE,or_false] at hc;rcases hc with e | e | e | e | e
  ·subst e;exact{_,hz,λv q=>by cases q}
  ·subst e;exact{_,hi,λv q=>by cases q}
  ·subst e;exact{_,ho,λv q=>by cases q}
  ·subst e;exact h1.get
  ·subst e;exact h2.get
 keep:=λi h h' st k=>{k z (by simp) _ st.z,k TI (by simp) _ st.ti,let ⟨x,y,e⟩:=st.to;{x,y,k TO (by simp) _ e},st.i1.at λo e=>k i1 (by simp) o e,st.i2.at λo e=>k i2 (by simp) o e}
 item:=by
  intro X hP hw hK hc i pins s U H E I hf st hg;subst hP hw hK;let⟨xs,ys,x,y,hq,hq',hx,hy⟩:=hg;let⟨its,rv,p,hz⟩:=I.sq hq;let⟨jts,rw',p',hz'⟩:=I.sq hq';let⟨u,hu,ru⟩:=rv.get hx;let⟨u',hu',ru'⟩:=rw'.get hy;refine Ey D L1 L2 st p p' (x:=u) (y:=u') (by simpa using hu) (by simpa using hu') λg1 S1 hT hk=>?_;refine{_,rfl,wpAny_letOwnedTupleGo_zip (s:={s with heap:=g1}) S1.z λg2 z2 hs2=>?_};let zl:z<↑s:=yy st.z;let gT:g2.get? ↑s=some {cls:=.type "tuple",data:=.seq #[u,u']}:=hs2.extBut _ _ (yi zl) hT;let I1:Inv X pins U (upd H ↑s (.tup [x,y])) {s with heap:=g2}:=
   I.vP (t':=s.toks) hf (zm _) (λc ob hb q=>hs2.extBut _ _ (λe=>hb (by simp[e])) (hk c ob (λe=>hb (by simp[e])) (λe=>hb (by simp[e])) (λe=>hb (by simp[e])) (λe=>hb (by simp[e])) q))
    {by show 2<=sizeLine;decide,[u,u'],.cons ru (.cons ru' .nil),{_,gT,rfl,_,rfl}}
  refine{.ref ↑s,_,I1,rfl,{_,x,y,I.b7.fresh (zm _),rfl,rfl,λzs h=>by rw[I.LZ h hq];exact hx,λzs h=>by rw[I.LZ h hq'];exact hy},{z2,hs2.extBut _ _ D.a1 S1.ti,let ⟨x,y,e⟩:=S1.to;{x,y,hs2.extBut _ _ D.a2 e},S1.i1.but hs2 D.a3,S1.i2.but hs2 D.a4},λc hc=>?_};let hb':=(hf c hc).1;obtain⟨o,ho',_⟩:∃o,s.heap.get? c=some o/\True:=by
   obtain⟨hz,hi,⟨_,_,ho⟩,⟨q1,e1,_⟩,⟨q2,e2,_⟩⟩:_/\_/\_/\_/\_:={(st.z),st.ti,st.to,st.i1.get,st.i2.get}
   simp only[zD,zE,or_false] at hc;rcases hc with e | e | e | e | e
   ·subst e;exact{_,hz,trivial}
   ·subst e;exact{_,hi,trivial}
   ·subst e;exact{_,ho,trivial}
   ·subst e;exact{_,e1,trivial}
   ·subst e;exact{_,e2,trivial}
  rw[aC (yj (yy ho'))];exact hb'
 done:=by
  intro X hP hw hK hc i pins s U H E I hf st hg;subst hP hw hK;let⟨xs,ys,hq,hq',hx⟩:=hg;let⟨its,rv,p,hz⟩:=I.sq hq;let⟨jts,rw',p',hz'⟩:=I.sq hq';let hl:=⇑rv;let hl':=⇑rw';refine Ew (I.ok.hd hc) D L1 L2 st p p' ?_ λg1 eb=>{rfl,I.turns (t':=s.toks) hf λc o hb q=>eb c o (λe=>hb (by simp[e])) (λe=>hb (by simp[e])) (λe=>hb (by simp[e])) (λe=>hb (by simp[e])) q}
  rcases hx with h | h
  ·exact .inl (by simp;omega)
  ·exact .inr (by simp;omega)
 self:=λ_ _ _ _ _ st h=>wpAny_pyIter_zip st.z h
def Ud (K:yB) (ta:TA):TI:=λU H R=>ta U H λvs H1=>∃t1 t2 a b xs ys,vs=[.ref a,.ref b]/\Bi t1 K H1 a xs/\Bi t2 K H1 b ys/\R (Ta t1 t2 K a b) H1
def Mx {a b:Expr} {ta:TA} {es:List Expr} {kt:Nat} {tp p pos:Pos} (hg:Gl X "zip") (hm:X.mg "zip"= none) (ha:PA X [a,b] ta)
  (hs:starEach [a,b] X.env=[(false,eval a X.env),(false,eval b X.env)]<|>qe_) (hs2:starEach [b] X.env=[(false,eval b X.env)]<|>qe_) :
  PI X (.Tuple es kt tp) (.Call (.Name "zip" p) [a,b] [] pos) (Ud X.K ta):=by
 intro pins s U H R I h;refine Call_ (je I hg hm Nz (yM (cU (ha pos pins s U H _ I h) λus s1 ⟨vs,H1,I1,r1,q1⟩=>?_) (by rw[hs,hs2]) (by rw[hs2];rfl)));let⟨t1,t2,a,b,xs,ys,e,hq,hq',q⟩:=q1;subst e;cases r1 with
 | cons r rr=>
  cases rr with
  | cons r' rr=>
   cases rr;cases r;cases r';let⟨its,rv,pl,hz⟩:=I1.sq hq;let⟨jts,rv',pl',hz'⟩:=I1.sq hq';let la:=pl.lt;let lb:=pl'.lt;refine Ez pl pl' λg S hk=>?_;refine wpAny_pyIter_zip (s:={s1 with heap:=g}) S.z ?_;let I2:Inv X pins U H1 {s1 with heap:=g}:=I1.kept (t':=s1.toks) hk;let D:Ld (↑s1+4) (↑s1+2) (↑s1+3) ↑s1 (↑s1+1):=by
    constructor <;> (show _≠(_:Nat)) <;> omega
   let L:∀c,c<↑s1->y6 c (↑s1+4) (↑s1+3) ↑s1 (↑s1+1):=λc hc=>by
    constructor <;> (show _≠(_:Nat)) <;> omega
   refine{↑s1+4,[_,_,_,_,_],_,Ta t1 t2 X.K a b,H1,rfl,I2,LG t1 t2 a b _ _ _ _ _ D (L a la) (L b lb),S,λc hc=>?_,q};let hb':↑s1<=c:=by
    simp only[zD,zE,or_false] at hc;rcases hc with e | e | e | e | e <;> (subst e;first | exact Nat.le_add_right _ _ | exact zm _)
   exact I1.u9 hb' (I1.b7.fresh hb')
def CO (bs:List Bool):((List.range ⇑bs).all λi=>(bs[i]?).getD true)=bs.all id:=by
 rw[Bool.eq_iff_iff,yp,yp];constructor
 ·intro h b hb
  let⟨i,hi,e⟩:=List.mem_iff_getElem.mp hb;have:=h i (List.mem_range.mpr hi);rw[zd hi,e] at this;exact this
 ·intro h i hi
  let hi':=List.mem_range.mp hi;rw[zd hi'];exact h _ (ym hi')
def oa (hc:X.calm=true):fo X (.builtin "all") (λxs H Q=>∃(a:Addr) (bs:List Bool),xs=[.ref a]/\aH X.K H a (bs.map V.bl)/\Q (.bl (bs.all id)) H):=by
 intro pins s U H xs us Q I r h;let⟨a,bs,e,hq,q⟩:=h;subst e;cases r with
 | cons r rr=>
  cases rr;cases r;let⟨its,rv,p,hz⟩:=I.list hq;let hlt:a<↑s:=by let⟨o,n,e,_⟩:=p;exact yy e
  let hlen:⇑bs=⇑its:=by have:=⇑rv;rw[za] at this;exact this
  refine call_all_walk (wpAny_pyIter_list p.isList ?_);refine{↑s,[↑s,a],[↑s],its.toArray.size,_,_,λi=>(bs[i]?).getD true,rfl,Walks.list (A:=X.A.in1) (I.ok.hd hc) _ a (yj hlt) its.toArray,
   {{_,yx _ rfl,rfl,rfl},p.isList.push _},λi v s' Q' E' hP hQ=>?_,λh' tk hk=>?_}
  ·let hP':its[i]?=some v:=by simpa using hP
   let hi:i<⇑bs:=by rw[hlen];exact(zy.mp hP').1
   let hm:(bs.map V.bl)[i]?=some (.bl bs[i]):=by rw[zK,zd hi];rfl
   let⟨u,hu,ru⟩:=rv.get hm;rw[hP'] at hu;cases hu;cases ru;dsimp only at hQ;rw[zd hi] at hQ;exact wpAny_truthy_bool hQ
  ·let e:((List.range its.toArray.size).all λi=>(bs[i]?).getD true)=bs.all id:=by rw[yb,<-hlen];exact CO bs
   rw[e];exact{.bl _,H,I.kept λb o x=>hk b o (λhm=>by rw[zA.mp hm] at x;exact yf _ (yy x)) (yv _ x),rfl,q}
end
section
variable {X:Cx} {pos:Pos}
end
inductive Ty where
 | bI | bl | int | str | tup | lst | Sw
def Ty.name:Ty->String
 | .bI=> "NoneType" | .bl=> "bool" | .int=> "int" | .str=> "str" | .tup=> "tuple" | .lst=> "list" | .Sw=> "dict"
def tag (H:Hp):V->Option Ty
 | .bI=>some .bI
 | .bl _=>some .bl
 | .int _=>some .int
 | .str _=>some .str
 | .ref a=>match H a with
  | some (.tup _)=>some .tup
  | some (.lst _)=>some .lst
  | some (.mI _ (.lst _))=>some .lst
  | some (.dK _)=>some .Sw
  | some (.dT _)=>some .Sw
  | _=>none
 | _=>none
def N2 {H:Hp} {a:Addr} {xs:List V} (h:H a=some (.tup xs)):tag H (.ref a)=some .tup:=by simp only[tag,h]
def N3 {H:Hp} {a:Addr} {xs:List V} (h:H a=some (.lst xs)):tag H (.ref a)=some .lst:=by simp only[tag,h]
def Qb {K:yB} {H:Hp} {x:V} {n:Ty} (h:tag H x=some n):tS K H x (.type n.name):=by
 cases x with
 | bI=>cases h;exact .bI
 | bl b=>cases h;exact .bl b
 | int i=>cases h;exact .int i
 | str y=>cases h;exact .str y
 | JF _=>cases h
 | OW _=>cases h
 | ty _=>cases h
 | ref a=>
  simp only[tag] at h;split at h
  ·cases h;exact .tup ‹_›
  ·cases h;exact .lst ‹_›
  ·cases h;exact .mI ‹_›
  ·cases h;exact .dK ‹_›
  ·cases h;exact .dT ‹_›
  ·cases h
def Ty.sub:Ty->Ty->Bool
 | .bl,.bl=>true | .int,.int=>true | .str,.str=>true | .tup,.tup=>true | .lst,.lst=>true | .Sw,.Sw=>true | .bI,.bI=>true
 | .bl,.int=>true
 | _,_=>false
def OQ (K:yB) (a b:Ty):PySem.W.kitOne K (.type a.name) (.type b.name)=some (a.sub b):=by
 cases a <;> cases b <;> first | rfl | decide +kernel | kernel_rfl
def TM (c:Ty) (ta:TE):TE:=λU H Q=>ta U H λx H1=>∃n,tag H1 x=some n/\Q (.bl (n.sub c)) H1
section
variable {X:Cx}
def CS (c:Ty) (hx:bootBuiltins x=some (.type c.name)) (ha:PE X a ta) (hm:X.mg "isinstance"= none) (hm2:X.mg x=none)
  (hg:Gl X "isinstance"<|>qe_) (hg2:Gl X x<|>qe_) (hn:x≠ "__name__"<|>qb_) (hd:(x == ("__debug__": Str))=false<|>qb_)
  (hs:starEach [a,.Name x p2] X.env=(false,eval a X.env)::starEach [.Name x p2] X.env<|>qe_) (hs2:starEach [.Name x p2] X.env=[(false,eval (.Name x p2) X.env)]<|>qe_) :
  PE X (.Call (.Name "isinstance" p1) [a,.Name x p2] [] pos) (TM c ta):=by
 let hc:fo X (.builtin "isinstance") (λxs H Q=>∃v n,xs=[v,.ty c.name]/\tag H v=some n/\Q (.bl (n.sub c)) H):=by
  intro pins s U H xs us Q I r h;let⟨v,n,e,ht,q⟩:=h;subst e;cases r with
  | cons r rr=>
   cases rr with
   | cons r' rr=>
    cases rr;cases r';exact Kx I r (Qb ht) (OQ _ _ _) λtk=>{.bl _,H,I.tok tk,rfl,q}
 let hb:PE X (.Name x p2) (tC (.ty c.name)):=OC (u:=.type c.name) hg2 hm2 hx rfl hn hd;let ht:=Fw (p:=p1) (pos:=pos) hc hg hm (by decide +kernel) (ah ha (ah hb ag hs2) hs) (he:=hs) (hpl:=by rw[hs2];rfl);intro pins s U H Q I h;let mono:ta U H (λx H1=>∃n,tag H1 x=some n/\Q (.bl (n.sub c)) H1)->JY (λxs H Q=>∃v n,xs=[v,.ty c.name]/\tag H v=some n/\Q (.bl (n.sub c)) H) (bR ta (bR (tC (.ty c.name)) eD)) U H Q:=λz=>by
  show ta U H λx H1=>∃v n,[x,V.ty c.name]=[v,.ty c.name]/\tag H1 v=some n/\Q (.bl (n.sub c)) H1;let e:(λx H1=>∃n,tag H1 x=some n/\Q (.bl (n.sub c)) H1)=(λ(x:V) (H1:Hp)=>∃v n,[x,V.ty c.name]=[v,V.ty c.name]/\tag H1 v=some n/\Q (.bl (n.sub c)) H1):=by
   funext x H1
   apply propext;constructor
   ·rintro⟨n,h1,h2⟩;exact{(x),n,rfl,h1,h2}
   ·rintro⟨v,n,e,h1,h2⟩;cases e;exact{(n),h1,h2}
  rw[<-e];exact z
 exact ht pins s U H Q I (mono h)
end
inductive Dt where
 | bI | bl (b:Bool) | int (i:Int) | str (x:Str) | tup (l:List Dt)
mutual
def Is (H:Hp):Dt->V->Prop
 | .bI,v=>v=.bI
 | .bl b,v=>v=.bl b
 | .int i,v=>v=.int i
 | .str x,v=>v=.str x
 | .tup l,v=>∃a vs,v=.ref a/\H a=some (.tup vs)/\aD H l vs
def aD (H:Hp):List Dt->List V->Prop
 | [],vs=>vs=[]
 | d::l,vs=>∃v r,vs=v::r/\Is H d v/\aD H l r
end
mutual
theorem Is.mono (s:au H H'):∀{d:Dt} {v:V},Is H d v->Is H' d v
 | .bI,_,h=>by unfold Is at h ⊢;exact h
 | .bl _,_,h=>by unfold Is at h ⊢;exact h
 | .int _,_,h=>by unfold Is at h ⊢;exact h
 | .str _,_,h=>by unfold Is at h ⊢;exact h
 | .tup l,_,h=>by
  unfold Is at h ⊢;let⟨a,vs,e,ha,hl⟩:=h;exact{a,vs,e,s _ _ ha,aD.mono s hl}
theorem aD.mono (s:au H H'):∀{l:List Dt} {vs:List V},aD H l vs->aD H' l vs
 | [],_,h=>by unfold aD at h ⊢;exact h
 | d::l,_,h=>by
  unfold aD at h ⊢;let⟨v,r,e,hv,hr⟩:=h;exact{v,r,e,Is.mono s hv,aD.mono s hr}
end
theorem aD.len:∀{l:List Dt} {vs:List V},aD H l vs->⇑vs=⇑l
 | [],_,h=>by unfold aD at h;rw[h];rfl
 | d::l,_,h=>by
  unfold aD at h;let⟨v,r,e,_,hr⟩:=h;rw[e,zv,zv,aD.len hr]
theorem aD.get:∀{l:List Dt} {vs:List V} {i:Nat} {v:V},aD H l vs->vs[i]?=some v->∃d,l[i]?=some d/\Is H d v
 | [],_,i,v,h,e=>by unfold aD at h;rw[h] at e;simp at e
 | d::l,_,i,v,h,e=>by
  unfold aD at h;let⟨u,r,e1,hv,hr⟩:=h;subst e1;cases i with
  | zero=>simp at e;subst e;exact{(d),rfl,hv}
  | succ i=>
   let⟨d',h1,h2⟩:=aD.get (i:=i) hr (by simpa using e);exact{d',by simpa using h1,h2}
def au.i9 (e:upd H p o=H') (h:H p=none):au H H':=e▸bq h
def ji (e:upd H p o=H'):H' p=some o:=e▸aB
def bU {c:Bool} {A B:Prop} (h:c=true) (q:A):if c=true then A else B:=by rw[if_pos h];exact q
def b9 {c:Bool} {A B:Prop} (h:c=false) (q:B):if c=true then A else B:=by rw[if_neg (by rw[h];decide)];exact q
def cH:⇑[a,b]<=sizeLine:=by show 2<=sizeLine;decide
def mS:⇑[a,b,c]<=sizeLine:=by show 3<=sizeLine;decide
def iB (h:H p=some (.tup [.int a,.int b])):Is H (.tup [.int a,.int b]) (.ref p):=by
 unfold Is;exact{p,_,rfl,h,by simp only[aD,Is];exact{_,_,rfl,rfl,_,_,rfl,rfl,rfl}}
def rj {K:yB} {a:Addr} {xs:List V} {g:TG} {tb:TS} {D:Ends} {U:St} {H:Hp} (Pv:Nat->St->Hp->Prop) (h0:Pv 0 U H) (hl:∀i U H,i<=⇑xs->Pv i U H->aH K H a xs)
  (hs:∀i x U H p H',xs[i]?=some x->Pv i U H->au H H'->H' p=some (.tup [.int (i:Int),x])->g (.ref p) U H' λU2 H2=>tb {D with nx:=Pv (i+1),ct:=Pv (i+1),bk:=D.nx} U2 H2) (hd:∀U H,Pv ⇑xs U H->D.nx U H) :
  ∃W:Nat->Nat->St->Hp->Prop,(∃m,W 0 m U H)/\∀i m U H,W i m U H->
   ((Ro K a).stop i H/\D.nx U H)\/((Ro K a).go i H/\∃N:St->Hp->Prop,(∀U' H',N U' H'->∃m',m'<m/\W (i+1) m' U' H')/\∀x H',(Ro K a).JR i H x H'->g x U H' λU2 H2=>tb {D with nx:=N,ct:=N,bk:=D.nx} U2 H2):=by
 refine{λi m U H=>m=⇑xs-i/\i<=⇑xs/\Pv i U H,{⇑xs,by simp,yg _,h0},?_};rintro i m U H ⟨rfl,hi,p⟩;let q:=hl i U H hi p
 by_cases hlt:i<⇑xs
 ·refine .inr {{xs,xs[i],q,by simp[hlt]},Pv (i+1),λU' H' p'=>{⇑xs-(i+1),nofun,rfl,hlt,p'},λx H' y=>?_}
  let⟨pp,v,hp,e1,e2,y⟩:=y;subst e1 e2;exact hs i v U H pp _ (y xs q) p (bq hp) aB
 ·let e:i=⇑xs:=nofun
  subst e;exact .inl {{xs,q,zm _},hd U H p}
section
variable {X:Cx} {pos:Pos}
def Inv.Sa (I2:Inv X pins U2 H2 s2) (hC:↑s2<=C) (I:Inv X pins U H s) (hn:H C=none) (hs:Heap.SameBut C s.heap h'):Inv X pins U H {s with heap:=h'}:=by
 let⟨f0,f1,f2,f3,f4,f5⟩:=I2.u9 hC hn;exact I.turned (t':=s.toks) (λb o hb e=>hs.extBut b o hb e) f0 f1 f3 f4 f5
end
section
variable {X:Cx} {pins:List (Addr×Obj)} {U:St} {H:Hp} {s:Shared}
def Sz (n:Nat) (i:Int):Prop:=i.natAbs<2^n
def Sz.mono (h:Sz n i) (k:n<=m):Sz m i:=yc h (Nat.pow_le_pow_right ∅ k)
def Sz.mul (h:Sz n i) (k:Sz m j):Sz (n+m) (i*j):=by
 unfold Sz at *;rw[Int.natAbs_mul,Nat.pow_add];exact Nat.mul_lt_mul'' h k
def Sz.add (h:Sz n i) (k:Sz n j):Sz (n+1) (i+j):=by
 unfold Sz at *;have:=Int.natAbs_add_le i j;rw[Nat.pow_succ];omega
def Sz.le (h:Sz n j) (h0:0<=i) (hl:i<=j):Sz n i:=by
 unfold Sz at *;have:i.natAbs<=j.natAbs:=nofun
 omega
def Sz.bits (h:Sz n i):Builtin.Int.intBits i<=n:=by
 unfold Builtin.Int.intBits;split
 ·exact yg _
 ·rename_i hz
  have:i.natAbs≠0:=by
   intro e;have:i=0:=Int.natAbs_eq_zero.mp e;subst this;exact hz rfl
  have:=(Nat.log2_lt this).mpr h;omega
def SJ (i j:Int):Prop:=Sz 20000 i/\Sz 20000 j
def SK (_ j:Int):Prop:=0<j/\Sz 8999 j
def qL:nH X (binaryOp .Mult) (rI SJ λi j=>.int (i*j)):=Rv λ_ _ _ _ _ _ _ hc q=>mul_int q (.of_bits (zM hc.1.bits ∅) (zM hc.2.bits ∅))
def qM:nH X (binaryOp .FloorDiv) (rI SK λi j=>.int (i/j)):=Rv λi j _ _ _ _ _ hc q=>by
 let h1:(0:Int)<j:=hc.1;refine floordiv_int nofun (by rw[Int.fdiv_eq_ediv_of_nonneg i nofun];exact q) (.inl (PyProof.noPylong_of_log2 ?_));let h2:j.natAbs<2^8999:=hc.2;let h3:j.natAbs≠0:=nofun
 exact Nat.lt_trans ((Nat.log2_lt h3).mpr h2) ∅
def ND {ns:List Int} {j:Int} (h0:0<=j) (h1:j<⇑ns):B5 (ns.map V.int) j=some (.int (ns.getD j.toNat 0)):=by
 let⟨k,rfl⟩:=yL h0;refine bC ?_;let hk:k<⇑ns:=nofun
 rw[zK,zd hk];simp[List.getD,hk]
end
section
variable {X:Cx} {pos:Pos}
def PD (K:yB):R2:=λx y H Q=>∃l b xs zs,x=.ref l/\y=.ref b/\aH K H l xs/\aH K H b zs/\⇑xs+⇑zs<=sizeLine/\∀p,H p=none->Q (.ref p) (upd H p (.lst (xs++zs)))
def gC:nH X (binaryOp .Add) (PD X.K):=by
 intro pins s U H x y v u Q I rx ry h;let⟨l,b,xs,zs,rfl,rfl,hH,hB,hz,q⟩:=h;cases rx;cases ry;let⟨its,r,p,z⟩:=I.list hH;let⟨jts,r',p',z'⟩:=I.list hB;let l1:=⇑r;let l2:=⇑r';let⟨⟨cls,dd,data,sl⟩,ho,hc,n,hd⟩:=id p.isList;let⟨⟨cls2,dd2,data2,sl2⟩,ho2,hc2,n2,hd2⟩:=id p'.isList;simp only at hc hd hc2 hd2;subst hc hd hc2 hd2;refine concat_meets {_,ho,rfl} {_,ho2,rfl} noFill_list_add seq_list_add PySem.F.slot_list_add PySem.F.entry_list_add (PySem.F.args_list_add_2 _ _) (list_addW l b its.toArray jts.toArray n n2 dd dd2 sl sl2 (by rw[yb,yb];omega)) {ho,ho2,?_};let ea:its.toArray++jts.toArray=(its++jts).toArray:=by simp
 rw[ea];exact{.ref _,_,I.R9 (t':=s.toks) (r.append r') (by rw[zh];omega),rfl,q _ I.fresh}
end
def y8 (n:Nat) (x:Int×Int):Prop:=Sz n x.1/\Sz n x.2
theorem y8.red (ht:0<=t) (hb:0<b) (h1:Sz n t) (h2:Sz n b):y8 n (Lm.red t b):=by
 let⟨g,g0,_,_,p,l⟩:=Lm.iV (t:=t) hb;exact{h1.le (Lm.wJ ht) (Lm.wK ht),h2.le (Int.le_of_lt p) l}
theorem y8.add (hx:Lm.Rd x) (hy:Lm.Rd y) (h:y8 n x) (k:y8 m y):y8 (n+m+1) (Lm.add x y):=by
 let⟨a,b,_⟩:=hx.pos;let⟨c,d,_⟩:=hy.pos;refine y8.red (Int.add_nonneg (Int.mul_nonneg a nofun) (Int.mul_nonneg c nofun)) (Int.mul_pos b d) ?_ ((h.2.mul k.2).mono nofun);refine Sz.add (h.1.mul k.2) ?_;have:=k.1.mul h.2;rw[Nat.add_comm] at this;exact this
def dec (n:Int):Str:=Str.ofString (toString n)
def kP {x y:Str} (h:x.cps.toList=y.cps.toList):x=y:=by
 cases x;cases y;simp only[Str.mk.injEq];exact Array.toList_inj.mp h
def cG (x y:Str):(x++y).cps.toList=x.cps.toList++y.cps.toList:=Array.toList_append ..
def len_app (x y:Str):⇑(x++y)=⇑x+⇑y:=Array.size_append ..
def K5 (x y z:Str):x++y++z=x++(y++z):=kP (by rw[cG,cG,cG,cG,zF])
def vJ (m:Nat):(dec (m:Int)).cps.toList=(Nat.toDigits 10 m).map Char.toNat:=PySem.W.KIN.signs_num m
def Du (m:Nat):⇑(dec (m:Int))=⇑(Nat.toDigits 10 m):=by
 let h:=congrArg List.length (vJ m);rw[za,Array.length_toList] at h;exact h
def O3 (h:c∈(Nat.toDigits 10 m).map Char.toNat):48<=c/\c<=57:=by
 let⟨ch,hc,e⟩:=zH.mp h;let r:=Nat.isDigit_of_mem_toDigits ∅ ∅ hc;rw[<-e];simp only[Char.isDigit,zO,decide_eq_true_eq] at r;exact{(r.1),r.2}
section
variable {X:Cx}
end
section
variable {X:Cx}
def Qy:V->Option Int->Option Int->Hp->VK->Prop:=λx lo hi H Q=>∃t:Str,x=.str t/\⇑t<=sizeLine/\Q (.str (PySem.Txt.slice t lo hi)) H
def Hj:NM X Qy:=by
 intro pins s U H x v vl vu lo hi sl Q I rx hs pl pu h;let⟨t,rfl,hz,q⟩:=h;let⟨tk,rfl⟩:=rx;let⟨o,ho,hc,hd⟩:=hs;let fin:∀(l u:Option (Int×Tok)),l.map (·.1)=lo->u.map (·.1)=hi->partValue l=vl->partValue u=vu->
   ∃T id,typeLookup (.type T) "__getitem__"= pure (some (.builtin id))/\s.TypeIs (.str t tk) T/\wpAny (model X.prog X.w) X.A (getItem (.str t tk) (.ref sl)) (EP X pins U Q) X.xe s:=by
  intro l u e1 e2 e3 e4;subst e1 e2 e3 e4;exact{"str",_,F.slot_str_getitem.lookup,typeIs_str _ _ _,wpAny_getItem_str_slice (l:=l) (u:=u) (st:=none) {(o),ho,hc,hd} rfl
   (post_val_or_str {zM (PySem.Txt.slice_le t _ _) hz,λt' k=>{.str _,H,I.tok _,{_,rfl},q}})}
 cases pl with
 | none=>
  cases pu with
  | none=>exact fin none none rfl rfl rfl rfl
  | int j tj=>exact fin none (some (j,tj)) rfl rfl rfl rfl
 | int i ti=>
  cases pu with
  | none=>exact fin (some (i,ti)) none rfl rfl rfl rfl
  | int j tj=>exact fin (some (i,ti)) (some (j,tj)) rfl rfl rfl rfl
def SG (x:Str):It:={λi _=>i<⇑x,λi H v H'=>H'=H/\∃c,x.cps[i]?=some c/\v=.str {#[c]},λi _=>⇑x<=i}
def LH {P:Program} {w:World} {K:yB} {tg:Expr} (x:Str) (t:Tok) (it:Addr) (ty:String) (hty:ty ="str_ascii_iterator"\/ty ="str_iterator"):Turn P w K tg (SG x) [it] it (λi h=>i<=⇑x/\h.IsStrIter it ty x t i) where
 mem:=by simp
 obj:=λi h st b hb=>by
  let e:b=it:=by simpa using hb
  subst e;let⟨_,o,e,c,d⟩:=st;exact{o,e,λv z=>by rw[d] at z;cases z}
 keep:=λi h h' st k=>{st.1,let ⟨o,ho,r⟩:=st.2;{o,k it (by simp) o ho,r}}
 item:=by
  intro X hP hw hK hc i pins s U H E I hf st hg;subst hP hw hK;let W:Walks X.prog X.w X.A it [it] [it] x.cps.size (SignAt x) (λi h=>h.IsStrIter it ty x t i):=by
   rcases hty with rfl | rfl
   ·exact Walks.strAscii (I.ok.hd hc) it x t
   ·exact Walks.strWide (I.ok.hd hc) it x t
  refine W.item i s _ _ hg st.2 λv h' tk hv z' kk=>?_;let⟨c,u,hcx,rfl⟩:=hv;let I1:Inv X pins U H {s with heap:=h',toks:=tk}:=I.turns hf λb o hb e=>kk b o (by simpa using hb) e;let⟨o,e,cc,d⟩:=id z';let hgl:i<⇑x:=hg;refine{_,rfl,BO (s:={s with heap:=h',toks:=tk}) (n:=ty) e cc d ?_ {.str {#[c]},H,I1,{(u),rfl},{(rfl),c,hcx,rfl},{(hgl),z'},λb hb=>(hf b hb).1}};rcases hty with rfl | rfl <;> decide
 done:=by
  intro X hP hw hK hc i pins s U H E I hf st hg;subst hP hw hK;let hi:i=x.cps.size:=Nat.le_antisymm st.1 hg;subst hi;let W:Walks X.prog X.w X.A it [it] [it] x.cps.size (SignAt x) (λi h=>h.IsStrIter it ty x t i):=by
   rcases hty with rfl | rfl
   ·exact Walks.strAscii (I.ok.hd hc) it x t
   ·exact Walks.strWide (I.ok.hd hc) it x t
  exact W.done s _ _ st.2 λh' tk eb=>{rfl,I.turns hf λb o hb e=>eb b o (by simpa using hb) e}
 self:=λA i s Q E z h=>by
  rcases hty with rfl | rfl
  ·exact wpAny_pyIter_striter_ascii z.2 h
  ·exact wpAny_pyIter_striter_wide z.2 h
def Ug (tl:TE):TI:=λU H R=>tl U H λx H1=>∃t,x=.str t/\R (SG t) H1
def My {tg l:Expr} {tl:TE} (hl:PE X l tl):PI X tg l (Ug tl):=by
 intro pins s U H R I h;refine cU (hl pins s U H _ I h) λv s1 zz=>?_;let⟨x,H1,I1,r1,q1⟩:=zz;let⟨t,e,q⟩:=q1;subst e;let⟨tk,rfl⟩:=r1;refine wpAny_pyIter_strU ?_;refine{↑s1,[↑s1],_,_,H1,rfl,I1.kept (t':=s1.toks) λb o e=>yv _ e,LH t tk _ (strIterType t) ?_,{yg _,_,yx _ rfl,rfl,rfl},λb hb=>?_,q}
 ·unfold strIterType
  split
  ·exact .inl rfl
  ·exact .inr rfl
 ·let e:b=↑s1:=by simpa using hb
  subst e;exact I1.u9 (zm _) (I1.b7.fresh (zm _))
theorem Bm:∀(l:List (Str×Tok)),Vals ((l.map (·.1)).map V.str) (strValues l)
 | []=>.nil
 | (x,t)::r=>.cons {(t),rfl} (Bm r)
def Qx:V->List V->Hp->VK->Prop:=λx vs H Q=>∃(t y:Str),x=.str t/\vs=[.str y]/\⇑y=1/\⇑t+2<=sizeLine/\∀l,H l=none->Q (.ref l) (upd H l (.lst ((PySem.Txt.split t y).map V.str)))
def jd:PX X "str.split" Qx:=by
 intro pins s U H x vs v us Q I rx rv h;let⟨t,y,rfl,rfl,hy,hz,q⟩:=h;let⟨tk,rfl⟩:=rx;let⟨u,rfl,tk',rfl⟩:=rv.one;let hy':(⇑y == 0)=false:=by rw[hy];rfl
 let hle:=split_le t y;let fin:∀(l:List (Str×Tok)) (k:Nat),l.map (·.1)=PySem.Txt.split t y->
   EP X pins U Q (.ref ↑s) {s with heap:=s.heap.push {cls:=.type "list",data:=.seq (strValues l).toArray},toks:=k}:=λl k e=>
  {.ref _,_,I.R9 (t':=k) (by rw[<-e];exact Bm l) (by rw[za];omega),rfl,q _ I.fresh}
 cases h1:(decide (⇑t<⇑y)||decide (Builtin.Str.strKind t<Builtin.Str.strKind y))
 ·cases hf:(Builtin.Str.occurrences t y 0 ⇑t (⇑t+1)).isEmpty
  ·let es:PySem.Txt.split t y=Builtin.Str.partsBetween t (Builtin.Str.occurrences t y 0 ⇑t (⇑t+1)) ⇑y:=by
    unfold PySem.Txt.split;rw[h1,hf];rfl
   refine call_meets F.slot_str_split (typeIs_str s t tk) F.entry_str_split (F.args_str_split_2 _ _) (meets_str_split_sep t y tk tk' h1 hy' hf nofun (by rw[<-es];omega)) ?_;rw[strsFrom_eq];exact fin (numbered s.toks _) _ ((numbered_texts _ _).trans es.symm)
  ·let es:PySem.Txt.split t y=[t]:=by
    unfold PySem.Txt.split;rw[h1,hf];rfl
   refine call_meets F.slot_str_split (typeIs_str s t tk) F.entry_str_split (F.args_str_split_2 _ _) (meets_str_split_not_found t y tk tk' h1 hy' hf) ?_;exact fin [(t,tk)] _ es.symm
 ·let es:PySem.Txt.split t y=[t]:=by
   unfold PySem.Txt.split;rw[h1];rfl
  refine call_meets F.slot_str_split (typeIs_str s t tk) F.entry_str_split (F.args_str_split_2 _ _) (meets_str_split_cannot_occur t y tk tk' h1) ?_;exact fin [(t,tk)] _ es.symm
def Oo:V->List V->Hp->VK->Prop:=λx vs H Q=>∃(t y:Str),x=.str t/\vs=[.str y]/\Q (.bl (decide (0+⇑y<=⇑t)&&Builtin.Str.subAt t y 0)) H
def AQ:PX X "str.startswith" Oo:=by
 intro pins s U H x vs v us Q I rx rv h;let⟨t,y,rfl,rfl,q⟩:=h;let⟨tk,rfl⟩:=rx;let⟨u,rfl,tk',rfl⟩:=rv.one;exact call_meets F.slot_str_startswith (typeIs_str s t tk) F.entry_str_startswith (F.args_str_startswith_2 _ _) (gives_str_startswith t y tk tk').meets {.bl _,H,I,rfl,q}
def DQ:fo X (.type "int") (λxs H Q=>∃(t:Str) (n:Int),xs=[.str t]/\PySem.intText? t=some n/\⇑t<=640/\Q (.int n) H):=by
 intro pins s U H xs us Q I r h;let⟨t,n,rfl,hn,hl,q⟩:=h;let⟨u,rfl,tk,rfl⟩:=vals1 r;exact PySem.W.KIN.call_text hn hl {.int n,H,I.tok _,{_,rfl},q}
end
def join_one (sep x:Str):Str.join sep [x]=x:=rfl
def eT (sep x y:Str) (r:List Str):Str.join sep (x::y::r)=x++sep++Str.join sep (y::r):=rfl
theorem FX:∀{ps qs:List Str},ps≠[]->qs≠[]->(∀p∈ps,c∉p.cps.toList)->(∀q∈qs,c∉q.cps.toList)->Str.join {#[c]} ps=Str.join {#[c]} qs->ps=qs
 | [],_,h,_,_,_,_=>absurd rfl h
 | _,[],_,h,_,_,_=>absurd rfl h
 | [p],[q],_,_,_,_,h=>by rw[join_one,join_one] at h;rw[h]
 | [p],q::q2::r,_,_,hp,_,h=>by
  rw[join_one,eT] at h;let e:=congrArg (λz:Str=>z.cps.toList) h;simp only[cG] at e;exact absurd (show c∈p.cps.toList by rw[e];simp) (hp p zr)
 | p::p2::r,[q],_,_,_,hq,h=>by
  rw[join_one,eT] at h;let e:=congrArg (λz:Str=>z.cps.toList) h;simp only[cG] at e;exact absurd (show c∈q.cps.toList by rw[<-e];simp) (hq q zr)
 | p::p2::r,q::q2::r',_,_,hp,hq,h=>by
  rw[eT,eT] at h;let e:=congrArg (λz:Str=>z.cps.toList) h;simp only[cG,zF] at e;let⟨e1,e2⟩:=Lm.JD (hp p zr) (hq q zr) (show p.cps.toList++c::(Str.join {#[c]} (p2::r)).cps.toList=q.cps.toList++c::(Str.join {#[c]} (q2::r')).cps.toList from e);let ih:=FX (ps:=p2::r) (qs:=q2::r') (by simp) (by simp) (λz hz=>hp z (zp _ hz)) (λz hz=>hq z (zp _ hz)) (kP e2);rw[ih,kP e1]
def gf (ne:ps≠[]) (fr:∀p∈ps,c∉p.cps.toList):PySem.Txt.split (Str.join {#[c]} ps) {#[c]}=ps:=by
 refine FX ?_ ne (PySem.StrLaws.split_free _ c) fr (PySem.StrLaws.join_split _ _);intro z;have:=split_pos (Str.join {#[c]} ps) {#[c]};rw[z] at this;exact absurd this ∅
def Ck (ha:c∉a.cps.toList) (hb:c∉b.cps.toList):PySem.Txt.split (a++{#[c]}++b) {#[c]}=[a,b]:=by
 refine gf (ps:=[a,b]) (by simp) λp hp=>?_;rcases zD.mp hp with rfl | hp
 ·exact ha
 ·rw[zA.mp hp];exact hb
def split1 (ha:c∉a.cps.toList):PySem.Txt.split a {#[c]}=[a]:=by
 refine gf (ps:=[a]) (by simp) λp hp=>?_;rw[zA.mp hp];exact ha
def Qp (ha:c∉a.cps.toList) (hb:c∉b.cps.toList) (hd:c∉d.cps.toList):PySem.Txt.split (a++{#[c]}++b++{#[c]}++d) {#[c]}=[a,b,d]:=by
 let e:a++({#[c]}:Str)++b++⟨#[c]⟩++d=Str.join ⟨#[c]⟩ [a,b,d]:=by
  rw[eT,eT,join_one];simp only[K5]
 rw[e];refine gf (ps:=[a,b,d]) (by simp) λp hp=>?_;rcases zD.mp hp with rfl | hp
 ·exact ha
 rcases zD.mp hp with rfl | hp
 ·exact hb
 ·rw[zA.mp hp];exact hd
def vI (h:n<0):dec n ="-" ++ dec (-n):=by
 obtain⟨m,rfl⟩:∃m:Nat,n=Int.negSucc m:={(-n-1).toNat,nofun}
 refine kP ?_;rw[cG];let e1:(dec (Int.negSucc m)).cps.toList=("-" ++ toString (m+1)).toList.map Char.toNat:=PyProof.Rows.signs_ofString _;let e2:(dec (-(Int.negSucc m))).cps.toList=(toString (m+1)).toList.map Char.toNat:=PyProof.Rows.signs_ofString _;rw[e1,e2,String.toList_append,zk];rfl
def kI {n:Nat} {c:Nat} (h:c∈(dec (n:Int)).cps.toList):48<=c/\c<=57:=by
 rw[vJ] at h;exact O3 h
def KP {n:Nat} (h:(dec (n:Int)).cps[0]?=some 48):⇑(dec (n:Int))=1:=by
 rcases Nat.eq_zero_or_pos n with rfl | hn
 ·rw[Du];decide
 ·let⟨c,r,e,hc⟩:=Lm.M5 n hn
  rw[<-Array.getElem?_toList,vJ,e] at h;simp only[zj,List.getElem?_cons_zero,Option.some.injEq] at h;exact absurd (Char.toNat_inj.mp (by rw[h];rfl)) hc
def Gf {n:Nat}:1<=⇑(dec (n:Int)):=by
 rw[Du];exact PySem.toDigits_len_ge 10 n
def BW {n k:Nat} (hk:0<k) (h:n<10^k):⇑(dec (n:Int))<=k:=by rw[Du];exact Lm.QR hk h
def Q2 (a:Option Int) (n:Nat):Builtin.Str.strSliceIndices a none 1 n=Builtin.Str.strSliceIndices a (some (n:Int)) 1 n:=by
 let h:¬((n:Int)<0):=nofun
 let e:max (0:Int) (min (n:Int) (n:Int))=n:=nofun
 simp only[Builtin.Str.strSliceIndices,h,if_false,e,show((1:Int)>0)=True from by simp,if_true]
def Q1 (b:Option Int) (n:Nat):Builtin.Str.strSliceIndices none b 1 n=Builtin.Str.strSliceIndices (some ((0:Nat):Int)) b 1 n:=by
 let h:¬(((0:Nat):Int)<0):=nofun
 let e:max (0:Int) (min ((0:Nat):Int) (n:Int))=0:=nofun
 simp only[Builtin.Str.strSliceIndices,h,if_false,e,show((1:Int)>0)=True from by simp,if_true]
def Bu (x:Str) (hab:a<=b) (hb:b<=⇑x):(PySem.Txt.slice x (some (a:Int)) (some (b:Int))).cps.toList=(x.cps.toList.drop a).take (b-a):=by
 unfold PySem.Txt.slice;split
 ·rename_i h
  rw[PySem.StrLaws.strSliceIndices_plain hab hb] at h;simp only[beq_self_eq_true,Bool.true_and,beq_iff_eq,za,zR] at h;let hl:⇑x.cps.toList=⇑x:=Array.length_toList;let ea:a=0:=nofun
  let eb:b-a=⇑x.cps.toList:=nofun
  rw[eb,ea,List.drop_zero,zN]
 ·exact PySem.StrLaws.sliced_plain x hab hb
def oP (x:Str) (h:a<=⇑x):(PySem.Txt.slice x (some (a:Int)) none).cps.toList=x.cps.toList.drop a:=by
 let e:PySem.Txt.slice x (some (a:Int)) none=PySem.Txt.slice x (some (a:Int)) (some ((⇑x:Nat):Int)):=by
  unfold PySem.Txt.slice;rw[Q2]
 let hl:⇑x.cps.toList=⇑x:=Array.length_toList;rw[e,Bu x h (zm _),List.take_of_length_le (by rw[List.length_drop];omega)]
def EX (x:Str) (h:b<=⇑x):(PySem.Txt.slice x none (some (b:Int))).cps.toList=x.cps.toList.take b:=by
 let e:PySem.Txt.slice x none (some (b:Int))=PySem.Txt.slice x (some ((0:Nat):Int)) (some (b:Int)):=by
  unfold PySem.Txt.slice;rw[Q1]
 rw[e,Bu x (yg _) h,List.drop_zero,Nat.sub_zero]
def pj {K:yB} {mg:Str->Option Value} {base:Heap} {x:Str} {C:Addr} {bm:List Value} {newId:String} (P:Program) (m:Mod K mg base) (e:PySem.W.nsIn K mainGlobals x=some (some (.ref C)))
  (q:PySem.W.excIn K C bm newId=true):OwnCls x C bm newId mg base:=by
 let⟨mb,hb,hbb⟩:=m.blt;let⟨o0,es0,ep0,hg0,hd0,sk0,look⟩:=m.glob;let fr:∀y,y∉(es0.toList.filterMap λ(d:DictEntry)=>match d.key with | .str z _=>some z | _=>none)->mg y=none:=λy hy=>by
  rw[<-look y];show(es0.find? λd=>d.key.isStr y).map (·.val)=none;cases hf:es0.find? λd=>d.key.isStr y with
  | none=>rfl
  | some d=>
   exfalso;let hm:=Array.mem_of_find?_eq_some hf;let hk:=Array.find?_some hf;let⟨z,t,ez⟩:=sk0 d hm;let ezy:z=y:=by rw[ez] at hk;exact eq_of_beq (show(z == y)=true from hk)
   exact hy (List.mem_filterMap.mpr {d,by simpa using hm,by rw[ez,ezy]})
 exact PySem.W.own_of_in (p:=P) (loose:=es0.toList.filterMap λ(d:DictEntry)=>match d.key with | .str z _=>some z | _=>none) m.QS {m.glob,hb,m.nolimit,hbb,λy _ hl _ _ _=>fr y hl} e q
structure Lu (P:Program) (w:World) (fs:List Addr) (H H':Hp) (h B h':Heap):Prop where
 keep:∀b o,h.get? b=some o->H b=none->b∉fs->B.get? b=some o
 slot:∀b o,h.get? b=some o->H b=none->b∈fs->∃sl,h'.get? b=some {o with slots:=sl}
 free:∀b o,h.get? b=some o->H b=none->H' b=none
 there:∀b o,h.get? b=some o->b∉fs->∃o',B.get? b=some o'
 oj:∀b xs,H b=some (.tup xs)->H' b=some (.tup xs)
 mE:∀b o u,H b=some (.mI o u)->H' b=some (.mI o u)
 om:∀b ps,H b=some (.LK ps)->∃more,H' b=some (.LK (ps++more))
 b7:pS P w H' B
 kQ:B.StaysIn h'
section
variable {P:Program} {w:World} {fs:List Addr} {H H':Hp} {h B h' h2:Heap}
def Lu.un (f:Lu P w fs H H' h B h') (F1:∀b∈fs,H b=none):Un fs [] H H' h h' where
 keep:=λb o e n hb _=>f.kQ b o (f.keep b o e n hb)
 slot:=λb o e n hb _=>f.slot b o e n hb
 free:=λb o e n _=>f.free b o e n
 there:=λb o e _=>by
  by_cases hb:b∈fs
  ·let⟨sl,q⟩:=f.slot b o e (F1 b hb) hb
   exact{_,q}
  ·let⟨o',q⟩:=f.there b o e hb
   exact{o',f.kQ b o' q}
 oj:=f.oj
 mE:=f.mE
 om:=f.om
def Lu.on (f:Lu P w fs H H' h B h') (u:h'.UpToSlots h2) (st:B.StaysIn h2) (nf:∀b∈fs,∃o,h'.get? b=some o/\∀vs,o.data≠.fields vs):Lu P w fs H H' h B h2:=
 {f.keep,λb o e n hb=>by
  let⟨sl,q⟩:=f.slot b o e n hb;let⟨o1,q1,nd⟩:=nf b hb;rw[q] at q1;cases q1;let⟨sl2,q2⟩:=u b _ q nd;exact{(sl2),q2},f.free,f.there,f.oj,f.mE,f.om,f.b7,st}
end
def GU (P:Program) (w:World):IV:=λouter H s E e s'=>∃(a:Addr) (cls a0:Value) (B:Heap) (H':Hp),e=.ref a/\s'.os=s.os/\AllBare s'.gens/\Heap.FlyingW B outer a cls a0 s'.heap/\Lu P w (oF outer) H H' s.heap B s'.heap/\E cls none H'
def Na (hf:env.frame=some L):oF (env::outer)=L::oF outer:=by
 unfold oF;rw[List.filterMap_cons,hf]
def Qe (C:Addr) (te:TA) (E:XK):TS:=λ_ U H=>te U H λvs H1=>⇑vs<=sizeLine/\E (.ref C) none H1
section
variable {P:Program} {w:World} {K:yB} {mg:Str->Option Value} {base:Heap} {N:List Str} {qual:Str} {scope:Scope} {f:Addr} {cdv:Value} {A:Around} {outer:List Env} {s₀:Shared} {H₀:Hp} {E:XK}
def Fo
  (hC0:PySem.W.nsIn K mainGlobals x=some (some (.ref C))) (hQ0:PySem.W.excIn K C bm newId=true) (FB:ExcBaseFacts Bn newId initId bm) (hg:Gl (j9 (GU P w) P w K mg base N qual scope f cdv A outer s₀ H₀ E) x)
  (ha:PA (j9 (GU P w) P w K mg base N qual scope f cdv A outer s₀ H₀ E) (e₀::es) ta) (hd:(x == ("__debug__": Str))=false<|>qb_)
  (hs:starEach (e₀::es) (j9 (GU P w) P w K mg base N qual scope f cdv A outer s₀ H₀ E).env=(false,eval e₀ (j9 (GU P w) P w K mg base N qual scope f cdv A outer s₀ H₀ E).env)::starEach es (j9 (GU P w) P w K mg base N qual scope f cdv A outer s₀ H₀ E).env<|>qe_)
  (hpl:(backTo cpos (starEach es (j9 (GU P w) P w K mg base N qual scope f cdv A outer s₀ H₀ E).env)).any (·.1)=false<|>qe_) :
  PS (j9 (GU P w) P w K mg base N qual scope f cdv A outer s₀ H₀ E) (.Raise (some (.Call (.Name x np) (e₀::es) [] cpos)) none pos) (Qe C ta E):=by
 intro pins s U H D I h;let O:OwnCls x C bm newId mg base:=pj P I.ok.mod hC0 hQ0;let⟨tl,Nn,nm,q,bs,hdct,sn,sub,ab,col,dd,k0,k1,k2,k3,k5,mN,hC,hN,hni,T⟩:=O.obj;refine wpAny_Raise_call_subT (C:=C) (nm:=nm) (q:=q) (N:=Nn) (bs:=bs) (bm:=tl) (hdct:=hdct) (sn:=sn) (sub:=sub) (ab:=ab) (col:=col) (dd:=dd) (k0:=k0) (k1:=k1) (k2:=k2) (k3:=k3) (k5:=k5)
  FB (mN:=mN) (T.hasType FB.hasBase) (I.ok.hd rfl) (by rw[hs];show(false||(backTo cpos (starEach es (j9 (GU P w) P w K mg base N qual scope f cdv A outer s₀ H₀ E).env)).any (·.1))=false;rw[hpl];rfl) hni (jL I hg O.bound {rfl,?_} hd)
 let hA:=ha cpos pins s U H _ I h;rw[hs] at hA ⊢;refine Calls.evalArgs_plain (wpAny_mono hA (λus s2 ⟨vs,H2,I2,r2,hl,q2⟩=>{rfl,?_,I2.bk _ _ hC,hN.keeps I2.bk,T.keeps I2.bk,λh' e mk=>?_}) λ_ _ y=>y)
 ·show ⇑us<=sizeLine
  rw[<-⇑r2];exact hl
 show wpAny (model P w) (A.deeper (envOfC qual scope ↑s₀ f cdv)) (leaving (envOfC qual scope ↑s₀ f cdv) (.ref e)) (λ_ s''=>GU P w outer H₀ s₀ E (.ref e) s'') (λe' s''=>GU P w outer H₀ s₀ E e' s'') {s2 with heap:=h'};let hfr:oF (envOfC qual scope ↑s₀ f cdv::outer)=↑s₀::oF outer:=Na rfl;let hst:s2.heap.FunFrames base (envOfC qual scope ↑s₀ f cdv::outer):=I2.stack;let hin:∀env∈(envOfC qual scope ↑s₀ f cdv::outer),∀a,env.frame=some a->a∈oF (envOfC qual scope ↑s₀ f cdv::outer):=λenv he a hf=>List.mem_filterMap.mpr {(env),he,hf};let hl:=PySem.W.funFrames_hide (as:=oF (envOfC qual scope ↑s₀ f cdv::outer)) hst hin;refine wpAny_leaves_madeW (base:=PySem.W.hideAll s2.heap (oF (envOfC qual scope ↑s₀ f cdv::outer))) (h:=s2.heap) I2.ok.frames rfl (λb o q=>PySem.W.of_hideAll _ q) hl mk (λh'' t fl _ _ ups=>?_);let low:∀b o,s₀.heap.get? b=some o->b≠↑s₀:=λb o e z=>absurd (yy e) (by rw[z];exact yf _);let nin:∀b o,s₀.heap.get? b=some o->b∉oF outer->b∉oF (envOfC qual scope ↑s₀ f cdv::outer):=λb o e n z=>by
  rw[hfr] at z;rcases zD.mp z with z | z
  ·exact low b o e z
  ·exact n z
 let uY:∀b:Addr,b∉(j9 (GU P w) P w K mg base N qual scope f cdv A outer s₀ H₀ E).ex:=λb z=>absurd (show b∈([]:List Addr) from z) (by simp);refine{e,.ref C,.ref t,_,H2,rfl,I2.os,I2.bare,fl,{λb o q n hb=>PySem.W.hideAll_get _ (I2.base.keep b o q n hb (uY b)) (nin b o q hb),λb o q n hb=>?_,λb o q n=>I2.base.free b o q n (uY b),λb o q hb=>?_,I2.base.oj,I2.base.mE,I2.base.om,λa o q=>?_,fl.1},q2}
 ·let⟨sl,e1⟩:=I2.base.slot b o q n hb (uY b)
  let⟨_,o1,e2,nd⟩:=I2.ok.ox.mem hb;let e3:=mk.keeps _ _ e1;let e2':s₀.heap.get? b=some o1:=e2;rw[q] at e2';cases e2';let⟨sl2,e4⟩:=ups b _ e3 nd;exact{(sl2),e4}
 ·let⟨o',e1⟩:=I2.base.there b o q (uY b)
  exact{o',PySem.W.hideAll_get _ e1 (nin b o q hb)}
 ·refine(I2.b7 a o q).kQ (λb u hb e1=>PySem.W.hideAll_get _ e1 λz=>?_) (λ_ z=>z) λ_ _ z=>z
  let n:=I2.pY b z;rcases hb with rfl | hb
  ·rw[q] at n;cases n
  ·rw[hb] at n;cases n
def NR.UM {x:Str} {st:Stmt} {fd:FuncData} {ps:List Str} {k:Nat} {sp:Sp} (F:NR K x qual st f fd) (S:fY N ps (aT st)) (len:∀vs H Q E,sp vs H Q E->⇑vs=⇑ps)
  (hbody:∀(cdv:Value) (A:Around) (outer:List Env) (s:Shared) (H:Hp) (vs:List V) (Q:VK) (E:XK),fH k (A.deeper (envOfC qual (aT st) ↑s f cdv))->sp vs H Q E->
   ∃t,Bk (j9 (GU P w) P w K mg base N qual (aT st) f cdv A outer s H E) (cx st) t/\t {nx:=λ_ H'=>Q .bI H',rt:=Q} (start N vs) H):dC P w K mg base (GU P w) (k+1) f fd ps sp:=by
 let⟨oc,od,kV,doc,pm,an,cdv,ct,osl,rfl,lk,hcd⟩:=F.ex;exact PN lk hcd S len λA outer s H vs Q E hr hsp=>hbody cdv A outer s H vs Q E hr hsp
end
abbrev Cx.held (X:Cx) (e:Value):Cx:={X with A:=X.A.mark (some e),calm:=false}
theorem Cx.Ok.held {X:Cx} (ok:X.Ok) (e:Value):(X.held e).Ok:=
 {ok.mod,ok.kind,ok.glob,ok.blt,ok.above,ok.inj,ok.has,ok.Rh,λz=>(nomatch (show false=true from z)),ok.frames,ok.Rr,ok.SW,ok.bs,ok.Lq,ok.uY,ok.Ia,ok.ox,ok.F1}
def Cx.Ok.kO {X:Cx} {e:Value} (ok:(X.held e).Ok) (hd:X.calm=true->X.A.handled=none):X.Ok:=
 {(ok.mod),ok.kind,ok.glob,ok.blt,ok.above,ok.inj,ok.has,ok.Rh,hd,ok.frames,ok.Rr,ok.SW,ok.bs,ok.Lq,ok.uY,ok.Ia,ok.ox,ok.F1}
section
variable {X:Cx} {pins:List (Addr×Obj)} {U:St} {H:Hp} {s:Shared} {e:Value}
theorem Inv.held (I:Inv X pins U H s) (e:Value):Inv (X.held e) pins U H s:={I.ok.held e,I.os,I.bare,I.base,I.loc,I.cell,I.free,I.jO,I.pin,I.b7,I.len}
theorem Inv.kO (I:Inv (X.held e) pins U H s) (hd:X.calm=true->X.A.handled=none):Inv X pins U H s:={I.ok.kO hd,I.os,I.bare,I.base,I.loc,I.cell,I.free,I.jO,I.pin,I.b7,I.len}
theorem SP.kO (hd:X.calm=true->X.A.handled=none) (h:SP (X.held e) pins D f s'):SP X pins D f s':=by
 cases f with
 | next=>let⟨U',H',I,q⟩:=h;exact{U',H',I.kO hd,q}
 | brk=>let⟨U',H',I,q⟩:=h;exact{U',H',I.kO hd,q}
 | cont=>let⟨U',H',I,q⟩:=h;exact{U',H',I.kO hd,q}
 | ret u=>let⟨v,U',H',I,r,q⟩:=h;exact{v,U',H',I.kO hd,r,q}
end
def RK (i:Nat) (sp:Sp) (t:TA) (C:Addr) (th:TS):TS:=λD U H=>t U H λvs H1=>sp vs H1 (λv H2=>bS i v U H2 D.nx) λcls _ H2=>cls=.ref C/\th D U H2
section
variable {X:Cx} {k:Nat} {f:Addr} {fd:FuncData} {ps:List Str} {sp:Sp} {fx cn x:Str} {p pos cpos pa tpos np hpos:Pos} {e₀:Expr} {es:List Expr} {t:TA} {i:Nat} {C:Addr} {bm:List Value} {newId:String} {b₀:Stmt} {suite:List Stmt} {th:TS}
def Ox (F:dC X.prog X.w X.K X.mg X.base (GU X.prog X.w) k f fd ps sp) (hr:fH k X.A) (hg:Gl X fx) (hm:X.mg fx=some (.ref f)) (hk:PySem.W.keepIn X.K (.ref f)=true) (hb:Binds X.K fd ps []) (ha:PA X.HN (e₀::es) t)
  (hc:X.calm=true) (hN:X.N.Nodup) (hi:X.N[i]?=some x) (hx:Loc X.env.scope x) (hgc:Gl X cn) (hC0:PySem.W.nsIn X.K mainGlobals cn=some (some (.ref C))) (hQ0:PySem.W.excIn X.K C bm newId=true) (hbase:bm.contains (.type "BaseException")=true) (hstk:X.stack=X.env::X.outer) (hfrm:X.env.frame=some X.env.locals)
  (hsu:∀e,Bk (X.held e).HN (b₀::suite) th)
  (hdb:(fx == ("__debug__": Str))=false<|>qb_) (hdc:(cn == ("__debug__": Str))=false<|>qb_) (he:starEach (e₀::es) X.env=(false,eval e₀ X.env)::starEach es X.env<|>qe_) (hpl:(backTo cpos (starEach es X.env)).any (·.1)=false<|>qe_)
  (hs:swapsWith (.Call (.Name fx p) (e₀::es) [] cpos) (some (.Name x tpos)) pa.line X.env=pure false<|>qe_) (hf:X.fn x=true\/X.env.scope.names.lookup x=some .local<|>qa_) :
  PS X (.Try [.Assign [.Name x tpos] (.Call (.Name fx p) (e₀::es) [] cpos) pa] [.ExceptHandler (some (.Name cn np)) none (b₀::suite) hpos] [] [] pos) (RK i sp t C th):=by
 intro pins s U H D I h;let O:OwnCls cn C bm newId X.mg X.base:=pj X.prog I.ok.mod hC0 hQ0;refine wpAny_Try_except (wpAny_execs_cons ?_);refine wpAny_Assign_Name ?_ hs;refine wpAny_Call_Name_kw (jL I hg hm ?_ hdb);let hA:wpAny (model X.prog X.w) X.A (spliced (backTo cpos (starEach (e₀::es) X.env))) (AP X.HN pins U _) (λ_ _=>False) s:=ha cpos pins s U H _ (I.pU _) h;refine PySem.W.callWith_K (h₀:=X.base) I.ok.mod.QS hk (wpAny_mono hA (λus s1 ⟨vs,H1,I1',r,q⟩=>{I1'.qW,?_}) λ_ _ z=>z.elim) he hpl;let I1:Inv X pins U H1 s1:=I1'.gS;let hl:⇑us=⇑ps:=by rw[<-⇑r];exact F.len _ _ _ _ q
 refine wpAny_call (codeAny_mono (F.run X.A X.stack s1 H1 {us,[]} us vs _ _ hr I1.OZ (by have:=hb s1 us I1.qW (by rw[zV];exact hl);rw[zV] at this;exact this) r q) λrr s' hq=>?_);cases rr with
 | ok fl=>
  cases fl with
  | ret u=>
   let⟨v,H2,I2,r2,q2⟩:=I1.after hq;refine mM I2 hN hi hx r2 (λs2 I3=>?_) hf;exact wpAny_execs_nil (wpAny_execs_nil {_,H2,I3,q2})
  | next=>exact False.elim hq
  | brk=>exact False.elim hq
  | cont=>exact False.elim hq
 | error ev=>
  let⟨a,cls,a0,B,H',rfl,os,bare,fl,fly,⟨rfl,q2⟩⟩:=hq;let F1:∀b∈oF X.stack,H1 b=none:=I1.pY;let nf:∀{hh:Heap},Heap.FunFrames hh B X.stack->∀b∈oF X.stack,∃o,hh.get? b=some o/\∀vs,o.data≠.fields vs:=λhF b hb=>(hF.mem hb).2;let back:∀(hh:Heap),Lu X.prog X.w (oF X.stack) H1 H' s1.heap B hh->Inv X pins U H' {s' with heap:=hh}:=λhh fy=>
   I1.Nx (s':={s' with heap:=hh}) (ch:=[]) os (fy.un F1) (fy.b7.kept fy.kQ) bare λb z=>absurd z (by simp)
  let hfr:X.A.frames=some (X.env::X.outer):=by rw[<-hstk];exact I1.ok.frames
  refine wpAny_looks_onW hfr hfrm (by rw[<-hstk];exact fl) λh4 held4 up4=>?_;refine wpAny_landsW held4 λh5 fl5 up5=>?_;let fl5':Heap.FlyingW B X.stack a (.ref C) a0 h5:=by rw[hstk];exact fl5
  let fy5:Lu X.prog X.w (oF X.stack) H1 H' s1.heap B h5:=fly.on (up4.trans up5) fl5.1 (nf fl.2.2.1);let I5:=back h5 fy5;let⟨ob,hob,hobc⟩:=fl5'.there;let⟨tl,Nn,nm,qn,bs,hdct,sn,sub,ab,col,dd,k0,k1,k2,k3,k5,mN,hC,hN',hni,T⟩:=O.obj;refine wpAny_handleBy_cons (codeAny_handlers_test (jL (X:=X.held (.ref a)) (I5.held _) hgc O.bound ?_ hdc)) (by intro q;cases q);refine wpAny_excMatches_sub_self (I5.bk _ _ hC) hob hobc (T.hasType hbase) (codeAny_handlers_suite ?_);refine lands_againW fl5' λh6 fl6 up6=>?_;let fy6:Lu X.prog X.w (oF X.stack) H1 H' s1.heap B h6:=fy5.on up6 fl6.1 (nf fl5'.2.2.1);let I6:=back h6 fy6;refine wpAny_mono (hsu (.ref a) pins _ U H' D ((I6.held _).pU _) q2) (λfl s7 z=>?_) λ_ _ z=>z.elim;exact SP.kO I.ok.hd (SP.gS z)
end
section
variable {X:Cx}
def LU {zs:List Str} {its:List Value} (r:Vals (zs.map V.str) its) {j:Nat} (h:j<⇑its):∃z t,zs[j]?=some z/\its[j]=.str z t:=by
 let hl:⇑zs=⇑its:=by have:=⇑r;rw[za] at this;exact this
 let⟨u,hu,ru⟩:=r.get (i:=j) (x:=.str (zs[j]'nofun)) (by rw[zK,zd nofun];rfl);let⟨t,rfl⟩:=ru;rw[zd h] at hu;exact{_,t,zd nofun,yk hu}
end
section
variable {K:yB} {D x:Addr} {prog:Program} {w:World} {A:Around} {E:Value->Shared->Prop} {h:Heap} {g:Array GenState} {d:Drawn} {t:Nat} {os:OsState}
open Builtin Builtin.ObjectAttr Builtin.Getset_descriptor in
end
section
variable {X:Cx}
end
def cB.here (x:cB P w H h a o):∃ob,h.get? a=some ob:=by
 cases o with
 | lst xs=>let⟨_,_,_,_,e⟩:=x;exact{_,e}
 | tup xs=>let⟨_,_,_,o,e,_⟩:=x;exact{_,e}
 | dK kvs=>let⟨_,_,_,_,o,_,_,e,_⟩:=x;exact{_,e}
 | dT kvs=>let⟨_,_,_,_,o,_,_,e,_⟩:=x;exact{_,e}
 | set S n=>let⟨o,_,_,_,e,_⟩:=x;exact{_,e}
 | ins C dx fs=>let⟨_,_,_,e,_⟩:=x;exact{_,e}
 | own y=>exact x
 | xd fs=>let⟨_,⟨_,_,_,e,_⟩,_⟩:=x;exact{_,e}
 | Kd lo hi=>let⟨_,_,_,e⟩:=x;exact{_,e}
 | mI ob u=>let⟨e,_⟩:=x;exact{_,e}
 | LK ps=>exact{_,x}
 | met f y=>exact{_,x}
 | ext φ=>exact x.2.1
section
variable {X:Cx} {pins:List (Addr×Obj)} {U:St} {H:Hp} {s:Shared}
def Inv.RG (I:Inv X pins U H s) (hn:H a=none) (h0:X.s₀.heap.get? a=none) (hl:a≠X.env.locals) (hc:∀x c,X.env.cells.lookup x=some c->c≠a) (hp:∀p∈X.pn++pins,p.1≠a)
  (new:cB X.prog X.w (upd H a o) s.heap a o):Inv X pins U (upd H a o) s where
 ok:=I.ok
 os:=I.os
 bare:=I.bare
 base:={I.base.keep,I.base.slot,λb ob e n hx=>by rw[aC (λz=>by rw[z,h0] at e;cases e)];exact I.base.free b ob e n hx,I.base.there,
  λb xs e=>by have:=I.base.oj b xs e;rw[aC (bB this hn)];exact this,λb ob u e=>by have:=I.base.mE b ob u e;rw[aC (bB this hn)];exact this,
  λb ps e=>by let⟨m,e1⟩:=I.base.om b ps e;exact{m,by rw[aC (bB e1 hn)];exact e1}}
 loc:=I.loc
 cell:=I.cell
 free:=by rw[aC (Ne.symm hl)];exact I.free
 jO:=λx c e=>by rw[aC (hc x c e)];exact I.jO x c e
 pin:=λp hpp=>by let⟨e,n,ne,nf,d⟩:=I.pin p hpp;exact{e,by rw[aC (hp p hpp)];exact n,ne,nf,d}
 b7:=λb u e=>by
  by_cases hb:b=a
  ·subst hb
   rw[aB] at e;cases e;exact new
  ·rw[aC hb] at e
   refine(I.b7 b u e).kQ (λ_ _ _ q=>q) (λc q=>?_) λc xs q=>?_
   ·rw[aC (bB q hn)];exact q
   ·rw[aC (bB q hn)];exact q
 len:=I.len
end
section
variable {X:Cx} {k:Nat} {f:Addr} {fd:FuncData} {ps:List Str} {sp:Sp} {fx cn n x:Str} {p pos cpos pa tpos np hpos:Pos} {e₀:Expr} {es:List Expr} {t:TA} {i j:Nat} {C S:Addr} {bm bmS:List Value} {newId newIdS:String} {b₀:Stmt} {suite:List Stmt} {th:TS}
end
end L2
namespace L2
open PySem PySem.Spec PyProof.Rows
section
variable {κ:Type} [DecidableEq κ]
def cR (kvs:List (κ×V)) (k:κ):Option V:=(kvs.find? λkv=>decide (kv.1=k)).map (·.2)
def putK (kvs:List (κ×V)) (k:κ) (v:V):List (κ×V):=
 if(kvs.any λkv=>decide (kv.1=k))=true then kvs.map (λkv=>if kv.1=k then(kv.1,v) else kv) else kvs++[(k,v)]
def EA {k:κ}:cR ([]:List (κ×V)) k=none:=rfl
def eA {p:κ×V} {r:List (κ×V)} {k:κ} (e:p.1=k):cR (p::r) k=some p.2:=by simp[cR,List.find?_cons,e]
def eB {p:κ×V} {r:List (κ×V)} {k:κ} (e:¬p.1=k):cR (p::r) k=cR r k:=by simp[cR,List.find?_cons,e]
theorem mJ (k:κ):∀kvs:List (κ×V),(kvs.any λkv=>decide (kv.1=k))=(cR kvs k).isSome
 | []=>rfl
 | p::r=>by
  rw[List.any_cons]
  by_cases e:p.1=k
  ·simp only[eA e,zg e,Bool.true_or,Option.isSome_some]
  ·rw[eB e,ze e,Bool.false_or];exact mJ k r
theorem EB (k j:κ) (y:V):∀kvs:List (κ×V),cR (kvs.map λkv=>if kv.1=k then(kv.1,y) else kv) j=(cR kvs j).map λx=>if j=k then y else x
 | []=>rfl
 | p::r=>by
  let ih:=EB k j y r;rw[zj]
  by_cases h:p.1=k
  ·rw[if_pos h]
   by_cases e:p.1=j
   ·rw[eA (p:=(p.1,y)) e,eA e,Option.map_some,if_pos (e.symm.trans h)]
   ·rw[eB (p:=(p.1,y)) e,eB e,ih]
  ·rw[if_neg h]
   by_cases e:p.1=j
   ·rw[eA (p:=p) e,eA e,Option.map_some,if_neg (λz=>h (e.trans z))]
   ·rw[eB (p:=p) e,eB e,ih]
theorem Bp (k j:κ) (y:V):∀kvs:List (κ×V),cR kvs k=none->cR (kvs++[(k,y)]) j=if j=k then some y else cR kvs j
 | [],_=>by
  by_cases e:k=j
  ·rw[if_pos e.symm];exact eA (p:=(k,y)) e
  ·rw[if_neg (λz=>e z.symm)];exact eB (p:=(k,y)) e
 | p::r,hn=>by
  rw[List.cons_append];let hk:¬p.1=k:=λz=>by rw[eA z] at hn;cases hn
  rw[eB hk] at hn;let ih:=Bp k j y r hn
  by_cases e:p.1=j
  ·rw[eA e,eA e,if_neg (λz=>hk (e.trans z))]
  ·rw[eB e,eB e,ih]
def pX (kvs:List (κ×V)) (k j:κ) (y:V):cR (putK kvs k y) j=if j=k then some y else cR kvs j:=by
 unfold putK
 by_cases a:(kvs.any λkv=>decide (kv.1=k))=true
 ·rw[if_pos a,EB]
  rw[mJ] at a
  by_cases e:j=k
  ·let⟨x,hx⟩:=Option.isSome_iff_exists.mp a
   rw[if_pos e,e,hx,Option.map_some,if_pos rfl]
  ·rw[if_neg e]
   cases cR kvs j with
   | none=>rfl
   | some x=>rw[Option.map_some,if_neg e]
 ·rw[if_neg a]
  refine Bp k j y kvs ?_;rw[mJ] at a;cases q:cR kvs k with
  | none=>rfl
  | some x=>rw[q] at a;exact(a rfl).elim
def gQ (kvs:List (κ×V)) (k:κ) (v:V):⇑(putK kvs k v)<=⇑kvs+1:=by
 unfold putK;split
 ·rw[za];omega
 ·rw[zh,zv,List.length_nil];omega
def Mo {kvs:List (κ×V)} {k:κ} (v:V) (h:cR kvs k=none):putK kvs k v=kvs++[(k,v)]:=by
 unfold putK;rw[mJ,h];exact if_neg ∅
def lT.kB (r:lT o u):o.isSome=u.isSome:=by
 cases o with
 | none=>cases u with
  | none=>rfl
  | some _=>exact(show False from r).elim
 | some _=>cases u with
  | none=>exact(show False from r).elim
  | some _=>rfl
theorem lT.getD (r:lT o u) (rd:RelV d d'):RelV (o.getD d) (u.getD d'):=by
 cases o with
 | none=>cases u with
  | none=>exact rd
  | some _=>exact(show False from r).elim
 | some _=>cases u with
  | none=>exact(show False from r).elim
  | some _=>exact r
def KV.val {kvs:List (κ×V)} {vs:List (κ×Value)} (r:KV kvs vs) (k:κ):lT (cR kvs k) (valueAt vs k):=by
 unfold KV at r
 induction r with
 | nil=>exact True.intro
 | @cons p q ps qs h t ih=>
  let⟨h1,h2⟩:=h
  by_cases e:p.1=k
  ·let e':q.1=k:=h1.symm.trans e
   let b:valueAt (q::qs) k=some q.2:=by simp[valueAt,List.find?_cons,e']
   rw[eA e,b];exact h2
  ·let e':¬q.1=k:=λz=>e (h1.trans z)
   let b:valueAt (q::qs) k=valueAt qs k:=by simp[valueAt,List.find?_cons,e']
   rw[eB e,b];exact ih
theorem KV.any (r:KV kvs vs) (k:κ):(kvs.any λkv=>decide (kv.1=k))=vs.any λkv=>decide (kv.1=k):=by
 unfold KV at r
 induction r with
 | nil=>rfl
 | cons h t ih=>rw[List.any_cons,List.any_cons,ih,h.1]
def KV.Qu (r:KV kvs vs) (k:κ) (ry:RelV y u) :
  KV (kvs.map λkv=>if kv.1=k then(kv.1,y) else kv) (vs.map λkv=>if kv.1=k then(kv.1,u) else kv):=by
 unfold KV at r ⊢
 induction r with
 | nil=>exact .nil
 | @cons p q ps qs h t ih=>
  rw[zj,zj];refine .cons ?_ ih;let⟨h1,h2⟩:=h
  by_cases e:p.1=k
  ·rw[if_pos e,if_pos (h1.symm.trans e)];exact{(h1),ry}
  ·rw[if_neg e,if_neg (λz=>e (h1.trans z))];exact{(h1),h2}
def KV.put (r:KV kvs vs) (k:κ) (ry:RelV y u):KV (putK kvs k y) (stored vs k u):=by
 unfold putK stored;rw[r.any k]
 by_cases e:(vs.any λkv=>decide (kv.1=k))=true
 ·rw[if_pos e,if_pos e];exact r.Qu k ry
 ·rw[if_neg e,if_neg e];exact Paired.snoc r {(rfl),ry}
theorem KV.length (r:KV kvs vs):⇑kvs=⇑vs:=Paired.length r
end
def BG (r:RelV (kV k) u):(df P w).is k u=true:=by
 cases k with
 | inl i=>let⟨t,e⟩:=(show∃t,u=Value.int i t from r);subst e;exact FT P w i t
 | inr x=>let⟨t,e⟩:=(show∃t,u=Value.str x t from r);subst e;exact uc P w x t
theorem BH:∀{ks:List Key} {us:List Value},Vals (ks.map kV) us->ItemsAre (df P w) ks us
 | [],_,r=>by rw[yn] at r;cases r;exact .nil
 | k::ks,_,r=>by
  rw[zj] at r;cases r with
  | cons h t=>exact .cons (BG h) (BH t)
abbrev KT (H:Hp):List (List Key×V)->List (List Key×Addr×Value)->Prop:=Paired λp q=>p.1=q.1/\H q.2.1=some (.tup (p.1.map kV))/\RelV p.2 q.2.2
def KT.val {H:Hp} {kvs:List (List Key×V)} {xs:List (List Key×Addr×Value)} (r:KT H kvs xs) (k:List Key):lT (cR kvs k) ((atKey xs k).map (·.2)):=by
 induction r with
 | nil=>exact True.intro
 | @cons p q ps qs h t ih=>
  let⟨h1,_,h2⟩:=h
  by_cases e:p.1=k
  ·let e':q.1=k:=h1.symm.trans e
   let b:atKey (q::qs) k=some q.2:=by simp[atKey,List.find?_cons,e']
   rw[eA e,b];exact h2
  ·let e':¬q.1=k:=λz=>e (h1.trans z)
   let b:atKey (q::qs) k=atKey qs k:=by simp[atKey,List.find?_cons,e']
   rw[eB e,b];exact ih
def KT.Qu (r:KT H kvs xs) (k:List Key) (ry:RelV y u) :
  KT H (kvs.map λkv=>if kv.1=k then(kv.1,y) else kv) (xs.map (putAt k u)):=by
 induction r with
 | nil=>exact .nil
 | @cons p q ps qs h t ih=>
  rw[zj,zj];refine .cons ?_ ih;let⟨h1,h2,h3⟩:=h;unfold putAt
  by_cases e:p.1=k
  ·rw[if_pos e,if_pos (h1.symm.trans e)];exact{(h1),h2,ry}
  ·rw[if_neg e,if_neg (λz=>e (h1.trans z))];exact{(h1),h2,h3}
def KT.put (r:KT H kvs xs) (k:List Key) (hb:H b=some (.tup (k.map kV))) (ry:RelV y u) :
  KT H (putK kvs k y) (storedH xs k b u):=by
 let e:(kvs.any λkv=>decide (kv.1=k))=(atKey xs k).isSome:=by
  rw[mJ,(r.val k).kB,Option.isSome_map]
 unfold putK storedH;rw[e]
 by_cases q:(atKey xs k).isSome=true
 ·rw[if_pos q,if_pos q];exact r.Qu k ry
 ·rw[if_neg q,if_neg q];exact Paired.snoc r {(rfl),hb,ry}
def KT.keeps (r:KT H kvs xs) (ht:∀b ys,H b=some (.tup ys)->H' b=some (.tup ys)):KT H' kvs xs:=
 Paired.QP r λ_ _ z=>{z.1,ht _ _ z.2.1,z.2.2}
section
variable {P:Program} {w:World} {H:Hp} {h:Heap} {a:Addr}
def Px (ok:pS P w H h) (e:Rd H a u):cB P w H h a u:=e.ok ok
def uk (ok:pS P w H h) (e:Rd H a (.dK kvs)):⇑kvs<=sizeLine/\(a == sysModules)=false/\∃vs,KV kvs vs/\h.DictOf (df P w) a vs:=
 show cB P w H h a (.dK kvs) from Px ok e
def Sv (ok:pS P w H h) (e:H a=some (.dK kvs)):⇑kvs<=sizeLine/\(a == sysModules)=false/\∃vs,KV kvs vs/\h.DictOf (df P w) a vs:=uk ok (.inl e)
def tf (ok:pS P w H h) (e:H a=some (.tup (ks.map kV))):(tupleKind (df P w)).is h ks a:=by
 let⟨_,its,r,o,h1,h2,n,h3⟩:=(show cB P w H h a (.tup (ks.map kV)) from ok a _ e)
 exact{o,its.toArray,n,h1,h2,h3,by simpa using BH r}
def xA (ok:pS P w H h) (e:Rd H a (.dT kvs)):⇑kvs<=sizeLine/\(a == sysModules)=false/\
  ∃xs,KT H kvs xs/\h.DictOfH (tupleKind (df P w)) a xs:=by
 let⟨z,y,xs,r,o,es,ep,h1,h2,h3,h4,h5⟩:=(show cB P w H h a (.dT kvs) from Px ok e)
 refine{z,y,xs,r,o,es,ep,h1,h2,h3,h4,λx hx=>?_,h5};let all:∀{l:List (List Key×V)} {m:List (List Key×Addr×Value)},KT H l m->∀x∈m,(tupleKind (df P w)).is h x.1 x.2.1:=by
  intro l m q
  induction q with
  | nil=>intro x hx;exact nomatch hx
  | @cons p q ps qs hq t ih=>
   intro x hx;rcases zD.mp hx with e | hx
   ·subst e
    exact tf ok (by rw[<-hq.1];exact hq.2.1)
   ·exact ih x hx
 exact all r x hx
def Su (ok:pS P w H h) (e:H a=some (.dT kvs)):⇑kvs<=sizeLine/\(a == sysModules)=false/\
  ∃xs,KT H kvs xs/\h.DictOfH (tupleKind (df P w)) a xs:=xA ok (.inl e)
end
def Ep (H:Hp) (a:Addr) (y:V) (r:Option V):Prop:=
 (∃kvs k,Rd H a (.dK kvs)/\y=kV k/\r=cR kvs k)\/∃kvs k b,Rd H a (.dT kvs)/\y=.ref b/\H b=some (.tup (k.map kV))/\r=cR kvs k
def SI (H:Hp) (a:Addr) (y v:V) (H':Hp):Prop:=
 (∃kvs k,H a=some (.dK kvs)/\y=kV k/\⇑kvs<sizeLine/\H'=upd H a (.dK (putK kvs k v)))\/
 ∃kvs k b,H a=some (.dT kvs)/\y=.ref b/\H b=some (.tup (k.map kV))/\⇑kvs<sizeLine/\H'=upd H a (.dT (putK kvs k v))
section
variable {X:Cx} {pins:List (Addr×Obj)} {U:St} {H:Hp} {s:Shared} {a:Addr} {y v:V} {u r:Value} {o:Option V} {A:Around} {E:Value->Shared->Prop}
def Inv.big (I:Inv X pins U H s):sysModules<↑s:=by
 let h:mainGlobals<↑s:=(I.mod.glob.keeps I.bk).lt;exact Nat.lt_trans ∅ h
def KS (hu:A.units+1<cLine) (I:Inv X pins U H s) (g:Ep H a y (some v)) (ry:RelV y u) (h:∀w' s',Inv X pins U H s'->RelV v w'->Q w' s') :
  wpAny (model X.prog X.w) A (getItem (.ref a) u) Q E s:=by
 rcases g with⟨kvs,k,e,ey,l⟩ | ⟨kvs,k,b,e,ey,eb,l⟩
 ·subst ey
  let⟨z,hd,vs,rel,dd⟩:=uk I.b7 e;let⟨w',hw,rw'⟩:=lT.some_of (v:=v) (o:=valueAt vs k) (by rw[l];exact rel.val k);exact wpAny_getItem_of (BG ry) dd.mapOf hw (h w' _ (I.tok _) rw')
 ·subst ey
  cases(show u=Value.ref b from ry);let⟨z,hd,xs,rel,dd⟩:=xA I.b7 e;let⟨w',hw,rw'⟩:=lT.some_of (v:=v) (o:=(atKey xs k).map (·.2)) (by rw[l];exact rel.val k);let⟨p,hp,hp2⟩:=Option.map_eq_some_iff.mp hw;refine wpAny_getItem_heap (tupleKind_room_in1 hu) (tf I.b7 eb) dd hp ?_;rw[hp2];exact h w' _ (I.tok _) rw'
def Um (hu:A.units+1<cLine) (I:Inv X pins U H s) (g:Ep H a y o) (ry:RelV y u) (h:∀s',Inv X pins U H s'->Q (.bool o.isSome) s') :
  wpAny (model X.prog X.w) A (compareOp .In u (.ref a)) Q E s:=by
 rcases g with⟨kvs,k,e,ey,l⟩ | ⟨kvs,k,b,e,ey,eb,l⟩
 ·subst ey
  let⟨z,hd,vs,rel,dd⟩:=uk I.b7 e;refine wpAny_in_of (BG ry) hd dd.mapOf ?_;rw[<-(rel.val k).kB,<-l];exact h _ (I.tok _)
 ·subst ey
  cases(show u=Value.ref b from ry);let⟨z,hd,xs,rel,dd⟩:=xA I.b7 e;refine wpAny_in_heap (tupleKind_room_in1 hu) (tf I.b7 eb) hd dd ?_;let q:=(rel.val k).kB;rw[Option.isSome_map] at q;rw[<-q,<-l];exact h _ (I.tok _)
def O4 (hu:A.units+1<cLine) (I:Inv X pins U H s) (g:Ep H a y o) (ry:RelV y u) (h:∀s',Inv X pins U H s'->Q (.bool (!o.isSome)) s') :
  wpAny (model X.prog X.w) A (compareOp .NotIn u (.ref a)) Q E s:=by
 rcases g with⟨kvs,k,e,ey,l⟩ | ⟨kvs,k,b,e,ey,eb,l⟩
 ·subst ey
  let⟨z,hd,vs,rel,dd⟩:=uk I.b7 e;refine wpAny_notIn_of (BG ry) hd dd.mapOf ?_;rw[<-(rel.val k).kB,<-l];exact h _ (I.tok _)
 ·subst ey
  cases(show u=Value.ref b from ry);let⟨z,hd,xs,rel,dd⟩:=xA I.b7 e;refine wpAny_notIn_heap (tupleKind_room_in1 hu) (tf I.b7 eb) hd dd ?_;let q:=(rel.val k).kB;rw[Option.isSome_map] at q;rw[<-q,<-l];exact h _ (I.tok _)
def JB (I:Inv X pins U H s) (mu:SE (H a)) (hs:Heap.SameBut a s.heap h') (he:∃q,h'.get? a=some q) (new:cB X.prog X.w (upd H a ob) h' a ob) :
  Inv X pins U (upd H a ob) {s with heap:=h',toks:=t'}:=
 I.write (x:=a) (e:=a) mu (.inl rfl) (λb q hb z=>(hs.2 b hb).trans z) he new
def Rf (z:⇑kvs<=sizeLine) (hd:(a == sysModules)=false) (rel:KV kvs vs) (dd:h'.DictOf (df P w) a vs) :
  cB P w H' h' a (.dK kvs):={(z),hd,vs,rel,dd}
def KR (hu:A.units+1<cLine) (I:Inv X pins U H s) (g:SI H a y v H') (ry:RelV y u) (rv:RelV v r) (h:∀s',Inv X pins U H' s'->Q () s') :
  wpAny (model X.prog X.w) A (setItem (.ref a) u r) Q E s:=by
 rcases g with⟨kvs,k,e,ey,l,eH⟩ | ⟨kvs,k,b,e,ey,eb,l,eH⟩
 ·subst ey eH
  let⟨z,hd,vs,rel,dd⟩:=Sv I.b7 e;let hz:⇑vs<=sizeLine:=by rw[<-⇑rel];exact z
  let hl:⇑(putK kvs k v)<=sizeLine:=by have:=gQ kvs k v;omega
  refine wpAny_setItem_pairs (hsz:=hz) (BG ry) dd λh' dd' hs=>h _ ?_;let he:∃q,h'.get? a=some q:=let ⟨q,_,_,hq,_⟩:=dd';{(q),hq};exact JB I (by rw[e];exact True.intro) hs he (Rf hl hd (rel.put k rv) dd')
 ·subst ey eH
  cases(show u=Value.ref b from ry);let⟨z,hd,xs,rel,dd⟩:=Su I.b7 e;let hz:⇑xs<=sizeLine:=by rw[<-Paired.length rel];exact z
  let hl:⇑(putK kvs k v)<=sizeLine:=by have:=gQ kvs k v;omega
  refine wpAny_setItem_heap (hsz:=hz) (tupleKind_room_in1 hu) (tf I.b7 eb) dd λh' dd' hs=>h _ ?_;let⟨q,es,ep,hq,h2,h3,h4,_,h5⟩:=dd';refine JB I (by rw[e];exact True.intro) hs ⟨q,hq⟩ ⟨hl,hd,_,(rel.put k eb rv).keeps λc ys ec=>?_,q,es,ep,hq,h2,h3,h4,h5⟩;rw[aC (bf ec e (λz=>nomatch z))];exact ec
end
section
variable {X:Cx} {pins:List (Addr×Obj)} {U:St} {H:Hp} {s:Shared} {a:Addr} {kvs:List (Key×V)} {k:Key} {u:Value} {A:Around} {E:Value->Shared->Prop}
def Sx (I:Inv X pins U H s) (e:Rd H a (.dK kvs)) (h:∀t s',Inv X pins U H s'->Q (.int ⇑kvs t) s'):wpAny (model X.prog X.w) A (call (.builtin "len") [.ref a]) Q E s:=by
 let⟨z,hd,vs,rel,dd⟩:=uk I.b7 e;refine call_len_dict hd dd (by rw[<-⇑rel];rw[yC] at z;omega) ?_;rw[<-⇑rel];exact h _ _ (I.tok _)
end
def Rn (i:Expr):Prop:=∀ov iv,subscripted i false ov iv=operate [ov,iv] (getItem ov iv)
def Jb {prog:Program} {w:World} {A:Around} {E:Value->Shared->Prop} {s:Shared} {env:Env} {value slice:Expr} {pos:Pos} {T id:String} {Q:Value->Shared->Prop}
  (hl:typeLookup (.type T) "__getitem__"= pure (some (.builtin id))) (hs:Rn slice)
  (h:wpAny (model prog w) A (eval value env) (λo s₁=>wpAny (model prog w) A (eval slice env) (λi s₂=>s₂.TypeIs o T/\wpAny (model prog w) A (getItem o i) Q E s₂) E s₁) E s) :
  wpAny (model prog w) A (eval (.Subscript value slice pos) env) Q E s:=by
 refine Subscript_ (wpAny_mono h (λo s₁ h₁=>wpAny_mono h₁ (λi s₂ h₂=>?_) λ_ _ x=>x) λ_ _ x=>x);let⟨hT,h₂⟩:=h₂;unfold subscriptTail;refine yu ?_;rw[getitemInPython_of_ne hT.not_modules];refine yu (wpAny_specialOf hT hl ?_);let fin:wpAny (model prog w) A (subscripted slice false o i) (λr s₃=>wpAny (model prog w) A (letTemporaryGo value o r >>= λ_=>pure r) Q E s₃) E s₂:=by
  rw[hs o i];exact wpAny_operating (wpAny_mono h₂ (λr s₃ h₃=>yu (wpAny_letTemporaryGo (yw h₃))) λ_ _ x=>x)
 first
  | exact yw (yu fin)
  | exact yu (yw (yu fin))
  | exact yu fin
def Gd (I:Inv X pins U H s) (g:Ep H a y o):s.TypeIs (.ref a) "dict":=by
 rcases g with⟨kvs,k,e,_,_⟩ | ⟨kvs,k,b,e,_,_,_⟩
 ·let⟨_,_,vs,_,dd⟩:=uk I.b7 e
  exact dd.typeIs
 ·let⟨_,_,xs,_,dd⟩:=xA I.b7 e
  exact dd.typeIs
def RP (td ty:TE):TE:=λU H Q=>td U H λx H1=>ty U H1 λy H2=>∃a v,x=.ref a/\Ep H2 a y (some v)/\Q v H2
def TN (ty td:TE):TE:=λU H Q=>ty U H λy H1=>td U H1 λx H2=>∃a o,x=.ref a/\Ep H2 a y o/\Q (.bl o.isSome) H2
def N8 (ty td:TE):TE:=λU H Q=>ty U H λy H1=>td U H1 λx H2=>∃a o,x=.ref a/\Ep H2 a y o/\Q (.bl (!o.isSome)) H2
def RY (td ty tv:TE):TS:=λD U H=>tv U H λv H1=>td U H1 λx H2=>ty U H2 λy H3=>∃a H4,x=.ref a/\SI H3 a y v H4/\D.nx U H4
section
variable {X:Cx} {o i e value:Expr} {pos pos' tpos:Pos} {td ty tv:TE}
def vA (hu:X.A.units+1<cLine) (ho:PE X o td) (hi:PE X i ty) (hs:Rn i):PE X (.Subscript o i pos) (RP td ty):=by
 intro pins s U H Q I h;refine Jb PySem.F.slot_dict_getitem.lookup hs (cU (ho pins s U H _ I h) λu s1 ⟨x,H1,I1,rx,q1⟩=>cU (hi pins s1 U H1 _ I1 q1) λiv s2 zz=>?_);let⟨y,H2,I2,ry,a,v,ex,g,q2⟩:=zz;subst ex;obtain rfl:u=Value.ref a:=rx;exact{Gd I2 g,KS hu I2 g ry λw' s3 I3 rw'=>{(v),H2,I3,rw',q2}}
def CT (hu:X.A.units+1<cLine) (hi:PE X i ty) (ho:PE X o td):PC X .In i o (TN ty td):=by
 intro pins s U H Q I h;refine cU (hi pins s U H _ I h) λiv s1 ⟨y,H1,I1,ry,q1⟩=>cU (ho pins s1 U H1 _ I1 q1) λu s2 zz=>?_;let⟨x,H2,I2,rx,a,ov,ex,g,q2⟩:=zz;subst ex;obtain rfl:u=Value.ref a:=rx;exact Um hu I2 g ry λs3 I3=>{.bl ov.isSome,H2,I3,rfl,q2}
def sP (hu:X.A.units+1<cLine) (hi:PE X i ty) (ho:PE X o td):PC X .NotIn i o (N8 ty td):=by
 intro pins s U H Q I h;refine cU (hi pins s U H _ I h) λiv s1 ⟨y,H1,I1,ry,q1⟩=>cU (ho pins s1 U H1 _ I1 q1) λu s2 zz=>?_;let⟨x,H2,I2,rx,a,ov,ex,g,q2⟩:=zz;subst ex;obtain rfl:u=Value.ref a:=rx;exact O4 hu I2 g ry λs3 I3=>{.bl (!ov.isSome),H2,I3,rfl,q2}
def ly (hu:X.A.units+1<cLine) (ho:PE X o td) (hi:PE X i ty) (hv:PE X value tv) (hs:swapsWith value (some (.Subscript o i pos')) pos.line X.env=pure false) :
  PS X (.Assign [.Subscript o i pos'] value pos) (RY td ty tv):=by
 intro pins s U H D I h;refine wpAny_Assign_Subscript (cU (hv pins s U H _ I h) λr s1 ⟨v,H1,I1,rv,q1⟩=>cU (ho pins s1 U H1 _ I1 q1) λu s2 ⟨x,H2,I2,rx,q2⟩=>cU (hi pins s2 U H2 _ I2 q2) λiv s3 ⟨y,H3,I3,ry,a,H4,ex,g,q3⟩=>?_) hs;subst ex;obtain rfl:u=Value.ref a:=rx;exact KR hu I3 g ry rv λs4 I4=>{U,H4,I4,q3}
end
def Np (h:Heap) (hb:sysModules<h.objs.size):cB P w H (h.push {cls:=.type "dict",data:=.dict #[]}) h.objs.size (.dK []):=
 {yg _,beq_eq_false_iff_ne.mpr (Ne.symm (yj hb)),[],.nil,Heap.DictOf.new h}
def Nk (h:Heap) (hb:sysModules<h.objs.size):cB P w H (h.push {cls:=.type "dict",data:=.dict #[]}) h.objs.size (.dT []):=
 {yg _,beq_eq_false_iff_ne.mpr (Ne.symm (yj hb)),[],.nil,_,#[],0,yx _ rfl,{(rfl),rfl,rfl},rfl,rfl,List.nodup_nil}
def Qj:TE:=λ_ H Q=>∀p,H p=none->Q (.ref p) (upd H p (.dK []))
def Qi:TE:=λ_ H Q=>∀p,H p=none->Q (.ref p) (upd H p (.dT []))
section
variable {X:Cx} {pos:Pos}
def ku:PE X (.Dict [] [] pos) Qj:=λpins s U H Q I h=>
 wpAny_Dict_empty {.ref ↑s,_,I.laid (a:=↑s) (o:=.dK []) (t':=s.toks) (λ_ _ q=>yv _ q) (zm _) (Np s.heap I.big),rfl,h _ (I.b7.fresh (zm _))}
def MC:PE X (.Dict [] [] pos) Qi:=λpins s U H Q I h=>
 wpAny_Dict_empty {.ref ↑s,_,I.laid (a:=↑s) (o:=.dT []) (t':=s.toks) (λ_ _ q=>yv _ q) (zm _) (Nk s.heap I.big),rfl,h _ (I.b7.fresh (zm _))}
end
structure M2 (X:Cx) (o:Expr) (m:Str) (apos:Pos) (e f:Expr) (cpos:Pos):Prop where
 base:attributeBase o m X.env (eval o X.env)=eval o X.env
 UP:((backTo cpos (starEach [e,f] X.env)).all (λx=>!x.1)&&(backToKw cpos (keywordEach [] X.env)).all (λx=>x.1.isSome)
  &&decide (⇑([e,f]:List Expr)+⇑([]:List Keyword)+(if([]:List Keyword).isEmpty then 0 else 1)<30))=true
 line:(apos.endLine == cpos.line)=true
 trees:backTo cpos (starEach [e,f] X.env)=[(false,eval e X.env),(false,eval f X.env)]
def UE (H:Hp) (a:Addr):Prop:=(∃kvs,Rd H a (.dK kvs))\/∃kvs,Rd H a (.dT kvs)
def Q0 (I:Inv X pins U H s) (d:UE H a) :
  s.TypeIs (.ref a) "dict"/\(∀b,Value.ref a=.ref b->∃ob,s.heap.get? b=some ob/\ob.dict=none)/\(a == sysModules)=false:=by
 rcases d with⟨kvs,e⟩ | ⟨kvs,e⟩
 ·let⟨_,hd,vs,_,dd⟩:=uk I.b7 e
  refine{dd.typeIs,λb q=>?_,hd};cases q;let⟨ob,_,_,h1,h2,_⟩:=dd;exact{(ob),h1,h2.2.1}
 ·let⟨_,hd,xs,_,dd⟩:=xA I.b7 e
  refine{dd.typeIs,λb q=>?_,hd};cases q;let⟨ob,_,_,h1,h2,_⟩:=dd;exact{(ob),h1,h2.2.1}
section
variable {X:Cx} {pins:List (Addr×Obj)} {U:St} {H:Hp} {s:Shared} {a:Addr} {y d:V} {u r:Value} {o:Option V} {A:Around} {E:Value->Shared->Prop}
def Rg (hu:A.units+1<cLine) (I:Inv X pins U H s) (g:Ep H a y o) (ry:RelV y u) (rd:RelV d r) (h:∀w' s',Inv X pins U H s'->RelV (o.getD d) w'->Q w' s') :
  wpAny (model X.prog X.w) A (call (.builtin "dict.get") [.ref a,u,r]) Q E s:=by
 rcases g with⟨kvs,k,e,ey,l⟩ | ⟨kvs,k,b,e,ey,eb,l⟩
 ·subst ey
  let⟨z,hd,vs,rel,dd⟩:=uk I.b7 e;refine call_meetsIn PySem.F.slot_dict_get dd.typeIs PySem.F.entry_dict_get (PySem.F.args_dict_get_3 _ _ _) (meets_dict_get_default (df X.prog X.w) a (BG ry) hd r) {_,dd.mapOf,h _ _ (I.tok _) ?_};rw[l];exact(rel.val k).getD rd
 ·subst ey
  cases(show u=Value.ref b from ry);let⟨z,hd,xs,rel,dd⟩:=xA I.b7 e;refine call_meetsIn PySem.F.slot_dict_get dd.typeIs PySem.F.entry_dict_get (PySem.F.args_dict_get_3 _ _ _) (meetsH_dict_get_default (tupleKind (df X.prog X.w)) a b hd r) {tupleKind_room_in1 hu,k,xs,tf I.b7 eb,dd,h _ _ (I.tok _) ?_};rw[l];exact(rel.val k).getD rd
end
def Ql (td ty tx:TE):TE:=λU H Q=>td U H λx H1=>∃a,x=.ref a/\UE H1 a/\ty U H1 λy H2=>tx U H2 λz H3=>∃o,Ep H3 a y o/\Q (o.getD z) H3
section
variable {X:Cx} {o e f:Expr} {apos cpos:Pos} {td ty tx:TE}
def Ft (hu:X.A.units+1<cLine) (ho:PE X o td) (he:PE X e ty) (hf:PE X f tx) (m:M2 X o "get" apos e f cpos):PE X (.Call (.Attribute o "get" apos) [e,f] [] cpos) (Ql td ty tx):=by
 intro pins s U H Q I h;refine wpAny_Call_method m.base m.UP m.line PySem.F.plainAttrs_dict PySem.F.slot_dict_get PySem.F.type_dict_get (cU (ho pins s U H _ I h) λu s1 zz=>?_);let⟨x,H1,I1,rx,a,ex,d,q1⟩:=zz;subst ex;obtain rfl:u=Value.ref a:=rx;let⟨t1,t2,_⟩:=Q0 I1 d;refine{t1,t2,?_};rw[m.trees];refine Calls.callWith_builtin rfl (Calls.evalArgs_plain (Calls.spliced_cons (cU (he pins s1 U H1 _ I1 q1) λiv s2 ⟨y,H2,I2,ry,q2⟩=>
  Calls.spliced_cons (cU (hf pins s2 U H2 _ I2 q2) λfv s3 ⟨z,H3,I3,rz,ov,g,q3⟩=>Calls.spliced_nil ?_))))
 exact Rg hu I3 g ry rz λw' s4 I4 rw'=>{_,H3,I4,rw',q3}
end
section
variable {X:Cx} {pins:List (Addr×Obj)} {U:St} {H:Hp} {s:Shared} {a:Addr} {kvs:List (Key×V)} {A:Around} {E:Value->Shared->Prop}
end
section
variable {X:Cx} {pins:List (Addr×Obj)} {U:St} {H:Hp} {s:Shared} {a:Addr} {y:V} {u:Value} {A:Around} {E:Value->Shared->Prop}
end
end L2
namespace L2
open PySem PySem.Spec PyProof.Rows
section
variable {κ:Type} [DecidableEq κ]
end
end L2
namespace L2
open PySem PySem.Spec PyProof.Rows
def dh (U₀:St) (g:TG) (tc:TT) (te:TE) (Q:VK) (J:It) (H1:Hp):Prop:=∃W:Nat->Nat->List V->St->Hp->Prop,(∃m,W 0 m [] U₀ H1)/\∀i m xs U' H',W i m xs U' H'->
 (J.stop i H'/\⇑xs<=sizeLine/\∀D,H' D=none->Q (.ref D) (upd H' D (.lst xs)))\/
 (J.go i H'/\⇑xs<sizeLine/\∀x H2,J.JR i H' x H2->g x U' H2 λU3 H3=>tc U3 H3 λb H4=>if b=true then te U3 H4 λy H5=>∃m',m'<m/\W (i+1) m' (xs++[y]) U3 H5 else∃m',m'<m/\W (i+1) m' xs U3 H4)
def cP (X:Cx) (N:List Str) (scope:Scope) (cl:List (Str×Addr)) (C:Addr) (s₀:Shared) (H₀:Hp) (ex:List Addr):Cx:=
 {X with N:=N,s₀:=s₀,H₀:=H₀,env:=compEnvC scope (cellsFrom (C+1) scope.names cl) C X.env,outer:=X.stack,stack:=X.stack,ex:=ex,fn:=λx=>((cellsFrom (C+1) scope.names []).lookup x).isSome,pn:=[],xe:=λ_ _=>False}
def mL (fr:List (Option Nat)) (wi:TI) (g:TG) (tc:TT) (te:TE):TE:=λU H Q=>wi U H λJ H1=>dh (fr.map λo=>o.bind λj=>(U[j]?).join) g tc te Q J H1
def Pd (X:Cx) (ifs:List Expr) (tc:TT):Prop:=∀(pins:List (Addr×Obj)) (s:Shared) (U:St) (H:Hp) (Q:Bool->Hp->Prop),Inv X pins U H s->tc U H Q->
 wpAny (model X.prog X.w) X.A (forIn ifs true λc r=>if r=true then do let ok <-isTrue c X.env (eval c X.env);pure (ForInStep.yield ok) else pure (ForInStep.yield r)) (TP X pins U Q) X.xe s
def rS:TT:=λ_ H Q=>Q true H
def bx:Pd X [] rS:=λ_ _ _ H _ I h=>wpAny_tests_nil {(H),I,h}
def fL (h:PT X c tc):Pd X [c] tc:=λpins s U H Q I q=>wpAny_tests_one (h pins s U H Q I q)
theorem dj:∀(names:List (Str×NameKind)) (n:Nat) (acc:List (Str×Addr)),cellsFrom n names acc=cellsFrom n names []++acc
 | [],_,_=>rfl
 | (x,k)::r,n,acc=>by
  unfold cellsFrom;split
  ·rw[dj r (n+1) ((x,n)::acc),dj r (n+1) [(x,n)],zF];rfl
  ·exact dj r n acc
def OF {h:Heap} {lo:Nat} {cs:List (Str×Addr)} (ok:CellsOk h lo cs) {x y:Str} {c:Addr} (e:cs.lookup x=some c) (e':cs.lookup y=some c):x=y:=by
 let key:∀(l:List (Str×Addr)),l.Pairwise (λx y=>x.2≠y.2)->(x,c)∈l->(y,c)∈l->x=y:=by
  intro l
  induction l with
  | nil=>intro _ h;cases h
  | cons p r ih=>
   intro hp h1 h2;rw[List.pairwise_cons] at hp;rcases zD.mp h1 with h1 | h1
   ·rcases zD.mp h2 with h2 | h2
    ·rw[<-h1] at h2;exact(Prod.mk.inj h2).1.symm
    ·exact absurd rfl (by have:=hp.1 _ h2;rw[<-h1] at this;exact this)
   ·rcases zD.mp h2 with h2 | h2
    ·exact absurd rfl (by have:=hp.1 _ h1;rw[<-h2] at this;exact this)
    ·exact ih hp.2 h1 h2
 exact key cs ok.apart (mem_of_lookup e) (mem_of_lookup e')
def C9
  (hQ:∀g1:Heap,g1.Ns ↑s (λ_=>none)->(∀b o,s.heap.get? b=some o->g1.get? b=some o)->CellsOk g1 (↑s+1) (cellsFrom (↑s+1) scope.names [])->
   Q (newEnv scope ↑s globals (cellsFrom (↑s+1) scope.names cl) qual none .none (some outer) builtinsNs) {s with heap:=g1}) :
  wpAny M A (newFunctionEnv scope globals cl [] qual none .none (some outer)) Q E s:=by
 simp only[newFunctionEnv,Option.isSome_some,if_true];refine yu (wpAny_alloc ?_);refine yu (wpAny_layCells _ (λname kind cells=>by cases hkc:kind == NameKind.cell <;> simp[hkc]) _ _ _ _ ?_);let ok:=cellsFrom_ok scope.names (s.heap.push {cls:=.type "dict",data:=.dict #[]}) (↑s+1) [] {λ_ _ hm=>(nomatch hm),List.Pairwise.nil} (by rw[Heap.size_push];exact zm _);rw[Heap.size_push] at ok;rw[show({s with heap:=s.heap.push {cls:=.type "dict",data:=.dict #[]}}:Shared).heap.objs.size=↑s+1 from Heap.size_push ..];exact yu (yw (yw (hQ _ ((Heap.Ns.new s.heap (.type "dict")).keeps (pushCells_keeps _ _)) (λb o e=>pushCells_keeps _ _ b o (yv _ e)) ok)))
def Ir (I:Nat->Shared->Prop)
  (turn:∀n s,I n s->wpAny (model prog w) A (pyNext it) (λr s1=>match r with
   | none=>R (.ok .next) s1
   | some v=>wpAny (model prog w) A (letOwnedTupleGo target it v) (λ_ s2=>wpAny (model prog w) A (assign target env v) (λ_ s3=>
     wpAny (model prog w) A (forIn ifs true λc r=>if r=true then do let ok <-isTrue c env (eval c env);pure (ForInStep.yield ok) else pure (ForInStep.yield r)) (λok s3'=>if ok=true then wpAny (model prog w) A (eval elt env) (λx s4=>
     wpAny (model prog w) A (call (.builtin "list.append") [acc,x]) (λ_ s5=>∃m,m<n/\I m s5) (λ_ _=>False) s4) (λ_ _=>False) s3' else∃m,m<n/\I m s3') (λ_ _=>False) s3) (λ_ _=>False) s2) (λ_ _=>False) s1) (λ_ _=>False) s)
  (n:Nat) (h:I n s):codeAny (model prog w) A (.compLoop (.ListComp elt [{target,iter,ifs,0}] scope pos) 0 it acc env) R s:=by
 refine codeAny_loop rfl I (λn s hI=>?_) n h;show wpAny _ _ ((compTurn (.ListComp elt [{target,iter,ifs,0}] scope pos) 0 it acc env).onRaise (λx=>do noteFrame x env;theTreesLotGoes x)) _ _ s;refine wpAny_noted ?_;rw[compTurn_list];let no:∀(E:Value->Shared->Prop) (x:Value) (s':Shared),False->E x s':=λ_ _ _ f=>f.elim;refine yu (wpAny_standAt (yu (wpAny_mono (turn n s hI) (λr s1 h1=>?_) (no _))));cases r with
 | none=>exact yw h1
 | some v=>
  refine yu (wpAny_mono h1 (λ_ s2 h2=>yu (wpAny_mono h2 (λ_ s3 h3=>yu (wpAny_mono h3 (λok s3' h3'=>?_) (no _))) (no _))) (no _));cases ok with
  | false=>
   rw[if_neg ∅] at h3';exact yw {(rfl),h3'}
  | true=>
   rw[if_pos rfl] at h3';exact yu (yu (wpAny_mono h3' (λx s4 h4=>yu (wpAny_mono h4 (λ_ s5 h5=>yw (yw {(rfl),h5})) (no _))) (no _)))
section
variable {X:Cx} {pos:Pos}
def xT {elt target iter:Expr} {scope:Scope} {N:List Str} {fr:List (Option Nat)} {cl:List (Str×Addr)} {g:TG} {tc:TT} {te:TE} {ifs:List Expr} (hc:X.calm=true) (hsub:∀x c,cl.lookup x=some c->X.env.cells.lookup x=some c) (hhas:∀C x,((compEnvC scope cl C X.env).kindOf x=some .cell\/(compEnvC scope cl C X.env).kindOf x=some .free)->(∃c,cl.lookup x=some c)\/∃c,(cellsFrom (C+1) scope.names []).lookup x=some c)
  (hlen:⇑fr=N.length) (hfr:∀(i:Nat) x j,N[i]?=some x->fr[i]?=some (some j)->X.N[j]?=some x/\Rk X.env.scope x/\X.env.kindOf x≠some .local/\(∀C,(compEnvC scope cl C X.env).kindOf x=some .cell\/(compEnvC scope cl C X.env).kindOf x=some .free)/\(∀c,X.env.cells.lookup x=some c->cl.lookup x=some c)/\∀C,(cellsFrom (C+1) scope.names []).lookup x=none) (hkind:scope.kind=.function)
  (hg:∀C s₀ H₀ ex,PG (cP X N scope cl C s₀ H₀ ex) target g) (hif:∀C s₀ H₀ ex,Pd (cP X N scope cl C s₀ H₀ ex) ifs tc) (he:∀C s₀ H₀ ex,PE (cP X N scope cl C s₀ H₀ ex) elt te)
  {pins:List (Addr×Obj)} {U:St} {s2:Shared} {it:Addr} {fp:List Addr} {tn:Nat->Heap->Prop} {J:It} {H2:Hp} {Q:VK} {RR:Value->Addr->Result->Shared->Prop} (I2:Inv X pins U H2 s2) (T:Turn X.prog X.w X.K target J fp it tn) (st2:tn 0 s2.heap) (f2:∀b∈fp,pT X pins H2 b)
  (ok:dh (fr.map λo=>o.bind λj=>(U[j]?).join) g tc te Q J H2)
  (fin:∀D C s4 H' xs,↑s2<=D->↑s2<=C->C≠D->Inv X pins U (upd H' D (.lst xs)) s4->H' D=none->H' C=none->(∃m,s4.heap.Ns C m)->(∀D,H' D=none->Q (.ref D) (upd H' D (.lst xs)))->RR (.ref D) C (.ok .next) s4) :
  wpAny (model X.prog X.w) X.A (newList []) (λacc s3=>wpAny (model X.prog X.w) X.A (newFunctionEnv scope X.env.globals cl [] X.env.qual none .none (some X.env)) (λcenv s4=>
   codeAny (model X.prog X.w) X.A (.compStart (.ListComp elt [{target,iter,ifs,0}] scope pos) 0 (.ref it) acc {cenv with scope:=relabel scope X.env}) (RR acc cenv.locals) s4) X.xe s3) X.xe s2:=by
 let⟨W,⟨m0,w0⟩,turn⟩:=ok;refine wpAny_newObj_type (C9 λg1 hns hold hown=>?_);dsimp only at hns hold hown ⊢;generalize hG:s2.heap.push {cls:=.type "list",dict:=none,data:=.seq ([]:List Value).toArray}=G2 at hns hold hown ⊢;let hC:G2.objs.size=↑s2+1:=by rw[<-hG,Heap.size_push]
 let below:∀b,b<↑s2->b≠G2.objs.size/\b≠↑s2:=λb hb=>{by rw[hC];exact yj (Nat.lt_succ_of_lt hb),yj hb}
 let hDC:↑s2≠G2.objs.size:=by rw[hC];exact yj (Nat.lt_succ_self _)
 let old:∀b o,s2.heap.get? b=some o->g1.get? b=some o:=λb o e=>hold b o (hG▸yv _ e);let hacc:g1.get? ↑s2=some {cls:=.type "list",data:=.seq ([]:List Value).toArray 0}:=hold _ _ (hG▸yx _ rfl);let hsC:↑s2<G2.objs.size:=by rw[hC];exact Nat.lt_succ_self _
 let csl:∀x c,(cellsFrom (G2.objs.size+1) scope.names cl).lookup x=some c->((cellsFrom (G2.objs.size+1) scope.names []).lookup x=some c/\G2.objs.size<c/\g1.IsCell c none)\/((cellsFrom (G2.objs.size+1) scope.names []).lookup x=none/\cl.lookup x=some c/\X.env.cells.lookup x=some c/\c<↑s2):=λx c e=>by
  rw[dj,List.lookup_append] at e;cases q:(cellsFrom (G2.objs.size+1) scope.names []).lookup x with
  | some d=>
   rw[q] at e;cases e;let⟨z1,z2⟩:=hown.empty x _ (mem_of_lookup q);exact .inl {(rfl),z2,z1}
  | none=>
   rw[q] at e;let⟨v,z⟩:=I2.cell x c (hsub x c e);exact .inr {rfl,e,hsub x c e,z.lt}
 let fplt:∀b∈fp,b<↑s2:=λb hb=>let ⟨o,e,_⟩:=T.obj _ _ st2 b hb;yy e;let NU:∀b∈fp,∀x c,(cellsFrom (G2.objs.size+1) scope.names cl).lookup x=some c->c≠b:=λb hb x c e=>by
  rcases csl x c e with⟨_,l,_⟩ | ⟨_,_,z,_⟩
  ·exact yi (Nat.lt_trans (fplt b hb) (Nat.lt_trans hsC l))
  ·exact(f2 b hb).2.2.2.2.1 x c z
 letI Y:Cx:=cP X N scope cl G2.objs.size s2 H2 fp
 let okY:Y.Ok:=by
  refine{I2.ok.mod,hkind,I2.ok.glob,I2.ok.blt,?_,λx y c e e'=>?_,λx hx=>?_,λx c hf e=>?_,I2.ok.hd,I2.ok.frames,.inl rfl,λb hb=>{(below b (fplt b hb)).1,λx c e=>NU b hb x c e},I2.bs,zM I2.ok.Lq I2.sz,λb o e hb=>?_,λb hb hf=>?_,I2.stack,I2.pY}
  ·show ↑s2<=G2.objs.size
   rw[hC];exact Nat.le_succ _
  ·rcases csl x c e with⟨q,l,_⟩ | ⟨_,q,z,l⟩
   ·rcases csl y c e' with⟨q',l',_⟩ | ⟨_,q',z',l'⟩
    ·exact OF hown q q'
    ·exact absurd (Nat.lt_trans (Nat.lt_trans hsC l) l') (yf _)
   ·rcases csl y c e' with⟨q',l',_⟩ | ⟨_,q',z',l'⟩
    ·exact absurd (Nat.lt_trans (Nat.lt_trans hsC l') l) (yf _)
    ·exact I2.ok.inj x y c z z'
  ·show∃c,(cellsFrom (G2.objs.size+1) scope.names cl).lookup x=some c
   rw[dj,List.lookup_append];rcases hhas G2.objs.size x hx with⟨c,e⟩ | ⟨c,e⟩
   ·rw[e];cases(cellsFrom (G2.objs.size+1) scope.names []).lookup x with
    | none=>exact{(c),rfl}
    | some d=>exact{(d),rfl}
   ·rw[e];exact{(c),rfl}
  ·let hf':((cellsFrom (G2.objs.size+1) scope.names []).lookup x).isSome=true:=hf
   rcases csl x c e with⟨q,l,_⟩ | ⟨q,_⟩
   ·exact yh (Nat.lt_trans hsC l)
   ·rw[q] at hf';cases hf'
  ·rcases(f2 b hb).2.2.2.1 with z | z
   ·exact I2.ok.uY b o e z
   ·exact absurd (yc (yy e) (zM I2.ok.Lq z)) (yf _)
  ·rcases zD.mp (I2.Cg b hf) with z | z
   ·exact(f2 b hb).2.1 z
   ·exact(f2 b hb).2.2.1 z
 let cl2:∀x c,(cellsFrom (G2.objs.size+1) scope.names cl).lookup x=some c->(∃v,g1.IsCell c v)/\H2 c=none/\c≠↑s2:=λx c e=>by
  rcases csl x c e with⟨_,l,z⟩ | ⟨_,_,z,l⟩
  ·exact{{_,z},I2.b7.fresh (yh (Nat.lt_trans hsC l)),yi (Nat.lt_trans hsC l)}
  ·let⟨v,oc,hoc,hd⟩:=I2.cell x c z
   exact{{v,oc,old _ _ hoc,hd},I2.jO x c z,yj l}
 let Dfs:↑s2∉Y.fs:=λhb=>by
  rcases zD.mp (I2.Cg _ hb) with z | z
  ·exact absurd (z▸I2.lt) (yf _)
  ·exact I2.R5 (zm _) z
 let hCf:H2 G2.objs.size=none:=I2.b7.fresh (by rw[hC];exact Nat.le_succ _);let start:∀tk,Inv Y [(↑s2,{cls:=.type "list",data:=.seq ([]:List Value).toArray 0})] (fr.map λo=>o.bind λj=>(U[j]?).join) H2 {s2 with heap:=g1,toks:=tk}:=λtk=>
  {okY,rfl,I2.bare,Un.kept old,{_,hns,λi x v e1 e2 _=>by
    rw[zK] at e2;cases ef:fr[i]? with
    | none=>rw[ef] at e2;cases e2
    | some o=>
     cases o with
     | none=>rw[ef] at e2;cases e2
     | some j=>
      rw[ef] at e2;let e2':(U[j]?).join=some v:=by simpa using e2
      let ej:U[j]?=some (some v):=by
       cases q:U[j]? with
       | none=>rw[q] at e2';cases e2'
       | some w=>rw[q] at e2';cases w with
        | none=>cases e2'
        | some w=>cases e2';rfl
      let⟨k1,k2,k3,k4,k5,k6⟩:=hfr i x j e1 ef;let⟨m,_,hl⟩:=I2.loc;let⟨u,r,l⟩:=hl j x v k1 ej k2;refine{u,r,?_};rcases l with l | ⟨_,c,ec,z⟩
      ·exact absurd l.1 k3
      ·let⟨oc,hoc,hd⟩:=z
       exact .inr {k4 G2.objs.size,c,by show(cellsFrom (G2.objs.size+1) scope.names cl).lookup x=some c;rw[dj,List.lookup_append,k6];exact k5 c ec,oc,old _ _ hoc,hd}},
   λx c e=>(cl2 x c e).1,hCf,λx c e=>(cl2 x c e).2.1,
   λp hp=>by
    let e:p=(↑s2,{cls:=.type "list",data:=.seq ([]:List Value).toArray 0}):=by simpa using (show p∈[]++[_] from hp)
    subst e;exact{hacc,I2.b7.fresh (zm _),hDC,Dfs,λv z=>by cases z},I2.b7.kept old,by rw[za,hlen];rfl}
 let stat:∀{H':Hp} {ob:Obj},(∀b∈fp,H' b=none)->∀b∈fp,pT Y [(↑s2,ob)] H' b:=λ{H' ob} hn b hb=>by
  refine{hn b hb,(below b (fplt b hb)).1,λz=>okY.Ia b hb z,.inl hb,NU b hb,λp hp=>?_};let e:p=(↑s2,ob):=by simpa using (show p∈[]++[_] from hp)
  subst e;exact(below b (fplt b hb)).2.symm
 let loop:∀tk,codeAny (model X.prog X.w) X.A (.compLoop (.ListComp elt [{target,iter,ifs,0}] scope pos) 0 (.ref it) (.ref ↑s2) (compEnvC scope (cellsFrom (G2.objs.size+1) scope.names cl) G2.objs.size X.env))
   (RR (.ref ↑s2) G2.objs.size) {s2 with heap:=g1,toks:=tk}:=by
  intro tk;refine Ir (λn s'=>∃i U' H' xs its k,Inv Y [(↑s2,{cls:=.type "list",data:=.seq its.toArray k})] U' H' s'/\tn i s'.heap/\(∀b∈fp,H' b=none)/\Vals xs its/\W i n xs U' H') ?_ m0
   {0,_,H2,[],[],0,start tk,T.keep _ _ _ st2 λb _ o e=>old b o e,λb hb=>(f2 b hb).1,.nil,w0}
  rintro n s3 ⟨i,U3,H3,xs,its,k,I3,st3,fr3,rv3,w3⟩;rcases turn i n xs U3 H3 w3 with⟨stop,hz,qn⟩ | ⟨go,hz,step⟩
  ·refine cU (T.done Y rfl rfl rfl hc i _ s3 U3 H3 _ I3 (stat fr3) st3 stop) λr s4 ⟨hr,I4⟩=>?_
   subst hr;let⟨m,hm,_⟩:=id I4.loc;let⟨pD,nD,neD,fD,_⟩:=I4.pin (↑s2,{cls:=.type "list",data:=.seq its.toArray k}) (by show _∈[]++[_];simp);refine fin ↑s2 G2.objs.size s4 H3 xs (zm _) (by rw[hC];exact Nat.le_succ _) hDC.symm (I2.Nx (s':=s4) (ch:=fp) I4.os ?_ ?_ I4.bare (λb hb=>{(f2 b hb).2.2.2.1,(f2 b hb).2.1,(f2 b hb).2.2.2.2.1,(f2 b hb).2.2.2.2.2})) nD I4.free {(m),hm} qn
   ·let ub:Un Y.fs Y.ex H2 H3 s2.heap s4.heap:=I4.base
    let lt:∀b o,s2.heap.get? b=some o->b≠G2.objs.size/\b≠↑s2:=λb o e=>below b (yy e);refine{λb o e n hb hx=>ub.keep b o e n hb hx,λb o e n hb hx=>ub.slot b o e n hb hx,λb o e n hx=>?_,λb o e hx=>ub.there b o e hx,λb ys e=>?_,λb o u e=>?_,λb ps e=>?_}
    ·rw[aC (lt b o e).2];exact ub.free b o e n hx
    ·let q:=ub.oj b ys e
     rw[aC (bB q nD)];exact q
    ·let q:=ub.mE b o u e
     rw[aC (bB q nD)];exact q
    ·let⟨more,q⟩:=ub.om b ps e
     exact{more,by rw[aC (bB q nD)];exact q}
   ·intro b u e
    by_cases hb:b=↑s2
    ·subst hb;rw[aB] at e;cases e
     exact{(hz),its,k,rv3,pD}
    ·rw[aC hb] at e
     exact(I4.b7 b u e).kQ (λc v hc' q=>q) (λc q=>by rw[aC (bB q nD)];exact q) λc ys q=>by rw[aC (bB q nD)];exact q
  ·refine cU (T.item Y rfl rfl rfl hc i _ s3 U3 H3 _ I3 (stat fr3) st3 go) λr s4 ⟨u,hr,h4⟩=>?_
   subst hr;refine cU h4 λ_ s5 zz=>?_;let⟨x,H5,I5,r5,y5,st5,fr5⟩:=zz;let I5':=I5.pinned (stat fr5) (T.obj _ _ st5);refine cU (hg G2.objs.size s2 H2 fp _ s5 U3 H5 x u _ I5' r5 (step x H5 y5)) λ_ s6 ⟨U6,H6,I6,q6⟩=>?_;refine cU (hif G2.objs.size s2 H2 fp _ s6 U6 H6 _ I6 q6) λb s6' ⟨H6',I6',q6'⟩=>?_;cases b with
   | false=>
    rw[if_neg ∅] at q6' ⊢;let⟨m',hm,w7⟩:=q6';let inD:(↑s2,({cls:=.type "list",data:=.seq its.toArray k}:Obj))∈Y.pn++([(↑s2,({cls:=.type "list",data:=.seq its.toArray k}:Obj))]++sN fp s5.heap):=by show _∈[]++_;simp
    let⟨pD,nD,neD,fD,dD⟩:=I6'.pin _ inD;let I7':Inv Y [] U6 H6' s6':=I6'.nP λp hp=>nomatch hp;refine{m',hm,i+1,U6,H6',xs,its,k,I7'.nP λp hp=>?_,T.keep _ _ _ st5 (λb hb o e=>(I6'.pin (b,o) (zI _ (zI _ (gh hb e)))).1),λb hb=>?_,rv3,w7}
    ·let e:p=(↑s2,{cls:=.type "list",data:=.seq its.toArray k}):=by simpa using hp
     subst e;exact{(pD),nD,neD,fD,dD}
    ·let⟨o,e,d⟩:=T.obj _ _ st5 b hb
     exact(I6'.pin (b,o) (zI _ (zI _ (gh hb e)))).2.1
   | true=>
   rw[if_pos rfl] at q6' ⊢;refine cU (he G2.objs.size s2 H2 fp _ s6' U6 H6' _ I6' q6') λv s7 zz=>?_;let⟨y,H7,I7,r7,m',hm,w7⟩:=zz;let inD:(↑s2,({cls:=.type "list",data:=.seq its.toArray k}:Obj))∈Y.pn++([(↑s2,({cls:=.type "list",data:=.seq its.toArray k}:Obj))]++sN fp s5.heap):=by show _∈[]++_;simp
   let⟨pD,nD,neD,fD,dD⟩:=I7.pin _ inD;let hlen:=⇑rv3;refine wpAny_list_append_plain (items:=its.toArray) (hsz:=by rw[yb];omega) {(k),pD} λg8 pl8 sb8=>?_;let⟨k8,e8⟩:=pl8;let I7':Inv Y [] U6 H7 s7:=I7.nP λp hp=>nomatch hp;let I8:Inv Y [] U6 H7 {s7 with heap:=g8}:=I7'.turned (t':=s7.toks) (λb o hb e=>sb8.extBut b o hb e) nD neD (.inr (zm _)) (λx c e=>(cl2 x c e).2.2) (λp hp=>(nomatch (show p∈([]:List (Addr×Obj)) from hp)));let e8':g8.get? ↑s2=some {cls:=.type "list",data:=.seq (its++[v]).toArray k8}:=by rw[e8];simp
   let fpD:∀b∈fp,∀o,s5.heap.get? b=some o->g8.get? b=some o:=λb hb o e=>sb8.extBut b o (below b (fplt b hb)).2 (I7.pin (b,o) (zI _ (zI _ (gh hb e)))).1;refine{m',hm,i+1,U6,H7,xs++[y],its++[v],k8,I8.nP λp hp=>?_,T.keep _ _ _ st5 fpD,λb hb=>?_,rv3.append (.cons r7 .nil),w7}
   ·let e:p=(↑s2,{cls:=.type "list",data:=.seq (its++[v]).toArray k8}):=by simpa using hp
    subst e;exact{e8',nD,neD,fD,λv z=>by cases z}
   ·let⟨o,e,d⟩:=T.obj _ _ st5 b hb
    exact(I7.pin (b,o) (zI _ (zI _ (gh hb e)))).2.1
 exact codeAny_compStart_list (loop _) (T.self _ _ _ _ _ (T.keep _ _ _ st2 λb _ o e=>old b o e) (loop _))
def Kj {elt target iter:Expr} {scope:Scope} {N:List Str} {fr:List (Option Nat)} {cl:List (Str×Addr)} {wi:TI} {g:TG} {tc:TT} {te:TE} {ifs:List Expr} (hc:X.calm=true) (hclos:closureFor scope X.env=pure cl) (hsub:∀x c,cl.lookup x=some c->X.env.cells.lookup x=some c) (hhas:∀C x,((compEnvC scope cl C X.env).kindOf x=some .cell\/(compEnvC scope cl C X.env).kindOf x=some .free)->(∃c,cl.lookup x=some c)\/∃c,(cellsFrom (C+1) scope.names []).lookup x=some c)
  (hlen:⇑fr=N.length) (hfr:∀(i:Nat) x j,N[i]?=some x->fr[i]?=some (some j)->X.N[j]?=some x/\Rk X.env.scope x/\X.env.kindOf x≠some .local/\(∀C,(compEnvC scope cl C X.env).kindOf x=some .cell\/(compEnvC scope cl C X.env).kindOf x=some .free)/\(∀c,X.env.cells.lookup x=some c->cl.lookup x=some c)/\∀C,(cellsFrom (C+1) scope.names []).lookup x=none) (hkind:scope.kind=.function)
  (hnames:∀y∈scope.names,y.2=.local->scope.names.lookup y.1=some .local) (hi:PI X target iter wi)
  (hg:∀C s₀ H₀ ex,PG (cP X N scope cl C s₀ H₀ ex) target g) (hif:∀C s₀ H₀ ex,Pd (cP X N scope cl C s₀ H₀ ex) ifs tc) (he:∀C s₀ H₀ ex,PE (cP X N scope cl C s₀ H₀ ex) elt te) (hs:(∀x,foldedSetIterable iter X.env x=pure x)<|>qd_) :
  PE X (.ListComp elt [{target,iter,ifs,0}] scope pos) (mL fr wi g tc te):=by
 intro pins s U H Q I h;rw[eval_ListComp];refine wpAny_comprehension_free (use:=none) (cl:=cl) rfl hs hclos hkind hnames (cU (hi pins s U H _ I h) λxv s1 h1=>cU h1 λitv s2 h2=>?_);let⟨it,fp,tn,J,H2,e,I2,T,st2,f2,ok⟩:=h2;subst e;refine xT (RR:=λacc C=>compPost (model X.prog X.w) X.A X.xe none (EP X pins U Q) acc C) hc hsub hhas hlen hfr hkind hg hif he I2 T st2 f2 ok ?_;intro D C s4 H' xs hD hC hne I4 nD nC ⟨m,hm⟩ qn;refine{m,hm,λg5 hs5=>{.ref D,upd H' D (.lst xs),I2.Sa hC I4 (by rw[aC hne];exact nC) hs5,rfl,qn D nD}}
def Kf {elt target iter:Expr} {scope:Scope} {N:List Str} {fr:List (Option Nat)} {cl:List (Str×Addr)} {wi:TI} {g:TG} {tc:TT} {te:TE} {ifs:List Expr} (hc:X.calm=true) (hclos:closureFor scope X.env=pure cl) (hsub:∀x c,cl.lookup x=some c->X.env.cells.lookup x=some c) (hhas:∀C x,((compEnvC scope cl C X.env).kindOf x=some .cell\/(compEnvC scope cl C X.env).kindOf x=some .free)->(∃c,cl.lookup x=some c)\/∃c,(cellsFrom (C+1) scope.names []).lookup x=some c)
  (hlen:⇑fr=N.length) (hfr:∀(i:Nat) x j,N[i]?=some x->fr[i]?=some (some j)->X.N[j]?=some x/\Rk X.env.scope x/\X.env.kindOf x≠some .local/\(∀C,(compEnvC scope cl C X.env).kindOf x=some .cell\/(compEnvC scope cl C X.env).kindOf x=some .free)/\(∀c,X.env.cells.lookup x=some c->cl.lookup x=some c)/\∀C,(cellsFrom (C+1) scope.names []).lookup x=none) (hkind:scope.kind=.function)
  (hnames:∀y∈scope.names,y.2=.local->scope.names.lookup y.1=some .local) (hi:PI X target iter wi)
  (hg:∀C s₀ H₀ ex,PG (cP X N scope cl C s₀ H₀ ex) target g) (hif:∀C s₀ H₀ ex,Pd (cP X N scope cl C s₀ H₀ ex) ifs tc) (he:∀C s₀ H₀ ex,PE (cP X N scope cl C s₀ H₀ ex) elt te) (hs:(∀x,foldedSetIterable iter X.env x=pure x)<|>qd_)  {i:Nat} {x:Str} {ps pa:Pos} (hN:X.N.Nodup) (hx1:X.N[i]?=some x) (hx2:Loc X.env.scope x) (hsw:swapsWith (.ListComp elt [{target,iter,ifs,0}] scope pos) (some (.Name x ps)) pa.line X.env=pure true<|>qe_)
  (hf:X.fn x=true\/X.env.scope.names.lookup x=some .local<|>qa_) :
  PS X (.Assign [.Name x ps] (.ListComp elt [{target,iter,ifs,0}] scope pos) pa) (EL (mL fr wi g tc te) (bS i)):=by
 intro pins s U H D I h;rw[exec_Assign_Name_used _ _ _ _ hsw];refine yu (wpAny_standAt (yu ?_));show wpAny _ X.A (do let _ <-comprehension (.ListComp elt [{target,iter,ifs,0}] scope pos) scope X.env _ (newList []) false (eval iter X.env) (some (assign (.Name x ps) X.env))) _ _ s;refine yu (wpAny_mono (wpAny_comprehension_free (use:=some (assign (.Name x ps) X.env)) (cl:=cl) (Q:=λ_ s'=>SP X pins D .next s') rfl hs hclos hkind hnames (cU (hi pins s U H _ I h) λxv s1 h1=>cU h1 λitv s2 h2=>?_)) (λ_ s' hq=>yw (yw hq)) λ_ _ e=>e);let⟨it,fp,tn,J,H2,e,I2,T,st2,f2,ok⟩:=h2;subst e;refine xT (RR:=λacc C=>compPost (model X.prog X.w) X.A X.xe (some (assign (.Name x ps) X.env)) (λ_ s'=>SP X pins D .next s') acc C) hc hsub hhas hlen hfr hkind hg hif he I2 T st2 f2 ok ?_;intro E C s4 H' xs hE hC hne I4 nE nC ⟨m,hm⟩ qn;show wpAny _ X.A (assign (.Name x ps) X.env (.ref E)) _ _ s4;refine wpAny_assign_Name (Bs I4 hN hx1 hx2 (v:=.ref E) rfl (λs5 I5 hw=>?_) hf);let⟨aw,sb,ha⟩:=hw;let hCn:(upd H' E (.lst xs)) C=none:=by rw[aC hne];exact nC
 let⟨f0,f1,f2',f3,f4,f5⟩:=I2.u9 hC hCn;let neC:C≠aw:=by
  rcases ha with z | z
  ·rw[z];exact f1
  ·exact λq=>f4 x aw z q.symm
 refine{m,hm.sameBut sb neC,λg6 hs6=>?_};exact{_,_,I2.Sa hC I5 hCn hs6,qn E nE}
end
def Ej (cells:List (Str×Addr)):List (Str×Addr)->Prop
 | []=>True
 | p::r=>cells.lookup p.1=some p.2/\Ej cells r
theorem Ej.sub:∀{cl:List (Str×Addr)},Ej cells cl->∀x c,cl.lookup x=some c->cells.lookup x=some c
 | [],_,x,c,e=>by cases e
 | (y,d)::r,h,x,c,e=>by
  rw[yq] at e;split at e
  ·rename_i q
   cases e;rw[eq_of_beq q];exact h.1
  ·exact Ej.sub h.2 x c e
def Lj (X:Cx) (scope:Scope) (cl:List (Str×Addr)):List Str->List Nat->Prop
 | [],[]=>True
 | y::ys,j::js=>(X.N[j]?=some y/\(X.env.kindOf y=some .cell\/X.env.kindOf y=some .free)/\((relabel scope X.env).names.lookup y=some .cell\/(relabel scope X.env).names.lookup y=some .free)/\∃c,X.env.cells.lookup y=some c/\cl.lookup y=some c)/\Lj X scope cl ys js
 | _,_=>False
theorem Lj.len:∀{ys:List Str} {js:List Nat},Lj X scope cl ys js->⇑js=⇑ys
 | [],[],_=>rfl
 | _::_,_::_,h=>by rw[zv,zv,Lj.len h.2]
 | [],_::_,h=>h.elim
 | _::_,[],h=>h.elim
theorem Lj.get:∀{ys:List Str} {js:List Nat} {i:Nat} {y:Str} {j:Nat},Lj X scope cl ys js->ys[i]?=some y->js[i]?=some j->
  X.N[j]?=some y/\(X.env.kindOf y=some .cell\/X.env.kindOf y=some .free)/\((relabel scope X.env).names.lookup y=some .cell\/(relabel scope X.env).names.lookup y=some .free)/\∃c,X.env.cells.lookup y=some c/\cl.lookup y=some c
 | [],_,_,_,_,_,e,_=>by simp at e
 | _::_,[],_,_,_,h,_,_=>h.elim
 | y::ys,j::js,0,_,_,h,e,e'=>by simp at e e';subst e e';exact h.1
 | y::ys,j::js,i+1,_,_,h,e,e'=>Lj.get (i:=i) h.2 (by simpa using e) (by simpa using e')
theorem Iy:∀{names:List (Str×NameKind)} {n:Nat} {x:Str} {c:Addr},(cellsFrom n names []).lookup x=some c->(x,NameKind.cell)∈names
 | [],_,_,_,e=>by cases e
 | (y,k)::r,n,x,c,e=>by
  unfold cellsFrom at e;split at e
  ·rename_i hk
   rw[dj,List.lookup_append] at e;cases q:(cellsFrom (n+1) r []).lookup x with
   | some d=>exact zp _ (Iy q)
   | none=>
    rw[q] at e;let e':([(y,n)]:List (Str×Addr)).lookup x=some c:=e;rw[yq] at e';split at e'
    ·rename_i z
     rw[eq_of_beq z,eq_of_beq hk];exact zr
    ·cases e'
  ·exact zp _ (Iy e)
theorem Iz:∀{names:List (Str×NameKind)} {n:Nat} {x:Str},(x,NameKind.cell)∈names->∃c,(cellsFrom n names []).lookup x=some c
 | [],_,_,h=>by cases h
 | (y,k)::r,n,x,h=>by
  unfold cellsFrom;split
  ·rw[dj,List.lookup_append]
   cases q:(cellsFrom (n+1) r []).lookup x with
   | some d=>exact{(d),rfl}
   | none=>
    rcases zD.mp h with h | h
    ·let⟨e1,_⟩:=Prod.mk.inj h
     exact{n,by show([(y,n)]:List (Str×Addr)).lookup x=some n;rw[e1,yq,beq_self_eq_true]}
    ·let⟨c,e⟩:=Iz (n:=n+1) h
     rw[q] at e;cases e
  ·rename_i hk
   rcases zD.mp h with h | h
   ·cases h;exact absurd rfl hk
   ·exact Iz h
theorem ud:∀{L:List (Str×NameKind)} {x:Str} {k:NameKind},L.lookup x=some k->(x,k)∈L
 | [],_,_,h=>by cases h
 | (y,j)::r,x,k,h=>by
  rw[yq] at h;split at h
  ·rename_i q;cases h;rw[eq_of_beq q];exact zr
  ·exact zp _ (ud h)
section
variable {X:Cx} {pos:Pos} {elt target iter:Expr} {ifs:List Expr} {scope:Scope} {ts ys:List Str} {js:List Nat} {cl:List (Str×Addr)} {wi:TI} {g:TG} {tc:TT} {te:TE}
def BY (hcl:Ej X.env.cells cl) (hLo:((relabel scope X.env).names.all λp=>(p.2 != .cell&&p.2 != .free)||ys.contains p.1||scope.names.contains (p.1,.cell))=true) (hno:∀p∈scope.names,p.2=.cell->p.1∉ys) (hfr:Lj X scope cl ys js) :
  (∀(C:Addr) x,((compEnvC scope cl C X.env).kindOf x=some .cell\/(compEnvC scope cl C X.env).kindOf x=some .free)->(∃c,cl.lookup x=some c)\/∃c,(cellsFrom (C+1) scope.names []).lookup x=some c)/\
  ⇑(ts.map (λ_=>(none:Option Nat))++js.map some)=⇑(ts++ys)/\
  (∀(i:Nat) x j,(ts++ys)[i]?=some x->(ts.map (λ_=>(none:Option Nat))++js.map some)[i]?=some (some j)->X.N[j]?=some x/\Rk X.env.scope x/\X.env.kindOf x≠some .local/\(∀C,(compEnvC scope cl C X.env).kindOf x=some .cell\/(compEnvC scope cl C X.env).kindOf x=some .free)/\(∀c,X.env.cells.lookup x=some c->cl.lookup x=some c)/\∀C,(cellsFrom (C+1) scope.names []).lookup x=none):=by
 refine{λC x hx=>?_,by simp[Lj.len hfr],λi x j h1 h2=>?_}
 ·let key:∀k,(relabel scope X.env).names.lookup x=some k->(k=.cell\/k=.free)->(∃c,cl.lookup x=some c)\/∃c,(cellsFrom (C+1) scope.names []).lookup x=some c:=λk hk hk'=>by
   have:=(yp.mp hLo) _ (ud hk);rw[Bool.or_eq_true,Bool.or_eq_true] at this;rcases this with(z | z) | z
   ·rcases hk' with rfl | rfl <;> simp at z
   ·let hm:x∈ys:=List.contains_iff_mem.mp z
    let⟨n,hn⟩:=List.getElem?_of_mem hm;let hl:n<⇑js:=by rw[hfr.len];exact(zy.mp hn).1
    let⟨_,_,_,c,_,e⟩:=hfr.get hn (zd hl);exact .inl {(c),e}
   ·exact .inr (Iz (List.contains_iff_mem.mp z))
  rcases hx with hx | hx
  ·exact key _ hx (.inl rfl)
  ·exact key _ hx (.inr rfl)
 ·let hi:⇑ts<=i:=by
   rcases Nat.lt_or_ge i ⇑ts with h | h
   ·rw[List.getElem?_append_left (by simpa using h),zK] at h2
    cases q:ts[i]? with
    | none=>rw[q] at h2;cases h2
    | some z=>rw[q] at h2;cases h2
   ·exact h
  rw[z9 hi] at h1;rw[z9 (by simpa using hi),za,zK] at h2;let h2':js[i-⇑ts]?=some j:=by
   cases q:js[i-⇑ts]? with
   | none=>rw[q] at h2;cases h2
   | some z=>rw[q] at h2;cases h2;rfl
  let⟨k1,k2,k3,c,k4,k5⟩:=hfr.get h1 h2';refine{k1,.inr k2,λz=>?_,λC=>k3,λd hd=>?_,λC=>?_}
  ·rcases k2 with k2 | k2 <;> (rw[z] at k2;cases k2)
  ·rw[k4] at hd;cases hd;exact k5
  ·cases q:(cellsFrom (C+1) scope.names []).lookup x with
   | none=>rfl
   | some d=>exact absurd (zC h1) (hno _ (Iy q) rfl)
def MD (hc:X.calm=true) (hclos:closureFor scope X.env=pure cl) (hcl:Ej X.env.cells cl) (hLo:((relabel scope X.env).names.all λp=>(p.2 != .cell&&p.2 != .free)||ys.contains p.1||scope.names.contains (p.1,.cell))=true) (hno:∀p∈scope.names,p.2=.cell->p.1∉ys) (hfr:Lj X scope cl ys js) (hkind:scope.kind=.function)
  (hnames:∀y∈scope.names,y.2=.local->scope.names.lookup y.1=some .local) (hi:PI X target iter wi)
  (hg:∀C s₀ H₀ ex,PG (cP X (ts++ys) scope cl C s₀ H₀ ex) target g) (hif:∀C s₀ H₀ ex,Pd (cP X (ts++ys) scope cl C s₀ H₀ ex) ifs tc) (he:∀C s₀ H₀ ex,PE (cP X (ts++ys) scope cl C s₀ H₀ ex) elt te) (hs:(∀x,foldedSetIterable iter X.env x=pure x)<|>qd_) :
  PE X (.ListComp elt [{target,iter,ifs,0}] scope pos) (mL (ts.map (λ_=>none)++js.map some) wi g tc te):=by
 let⟨a,b,c⟩:=BY (ts:=ts) hcl hLo hno hfr;exact Kj hc hclos hcl.sub a b c hkind hnames hi hg hif he hs
def Mt (hc:X.calm=true) (hclos:closureFor scope X.env=pure cl) (hcl:Ej X.env.cells cl) (hLo:((relabel scope X.env).names.all λp=>(p.2 != .cell&&p.2 != .free)||ys.contains p.1||scope.names.contains (p.1,.cell))=true) (hno:∀p∈scope.names,p.2=.cell->p.1∉ys) (hfr:Lj X scope cl ys js) (hkind:scope.kind=.function)
  (hnames:∀y∈scope.names,y.2=.local->scope.names.lookup y.1=some .local) (hi:PI X target iter wi)
  (hg:∀C s₀ H₀ ex,PG (cP X (ts++ys) scope cl C s₀ H₀ ex) target g) (hif:∀C s₀ H₀ ex,Pd (cP X (ts++ys) scope cl C s₀ H₀ ex) ifs tc) (he:∀C s₀ H₀ ex,PE (cP X (ts++ys) scope cl C s₀ H₀ ex) elt te) (hN:X.N.Nodup) (hx1:X.N[i]?=some x) (hx2:Loc X.env.scope x) (hs:(∀x,foldedSetIterable iter X.env x=pure x)<|>qd_) (hsw:swapsWith (.ListComp elt [{target,iter,ifs,0}] scope pos) (some (.Name x ps)) pa.line X.env=pure true<|>qe_)
  (hf:X.fn x=true\/X.env.scope.names.lookup x=some .local<|>qa_) :
  PS X (.Assign [.Name x ps] (.ListComp elt [{target,iter,ifs,0}] scope pos) pa) (EL (mL (ts.map (λ_=>none)++js.map some) wi g tc te) (bS i)):=by
 let⟨a,b,c⟩:=BY (ts:=ts) hcl hLo hno hfr;exact Kf hc hclos hcl.sub a b c hkind hnames hi hg hif he hs hN hx1 hx2 hsw hf
end
def GW (n:Nat) (f:Nat->List V) (Pv:Nat->St->Hp->Prop) (i m:Nat) (xs:List V) (U:St) (H:Hp):Prop:=m=n-i/\i<=n/\xs=f i/\Pv i U H
def GW.push (hi:i<n) (e:f (i+1)=f i++[y]) (p:Pv (i+1) U H):∃m',m'<n-i/\GW n f Pv (i+1) m' (f i++[y]) U H:={n-(i+1),nofun,rfl,hi,e.symm,p}
def GW.skip (hi:i<n) (e:f (i+1)=f i) (p:Pv (i+1) U H):∃m',m'<n-i/\GW n f Pv (i+1) m' (f i) U H:={n-(i+1),nofun,rfl,hi,e.symm,p}
def nu (n:Nat) (f:Nat->List V) (Pv:Nat->St->Hp->Prop) (hz:∀i,i<=n->⇑(f i)<=i) (hn:n<=sizeLine) (f0:f 0=[]) (h0:Pv 0 U₀ H1)
  (go:∀i U H,i<n->Pv i U H->J.go i H) (stop:∀U H,Pv n U H->J.stop n H)
  (turn:∀i x U H H2,i<n->Pv i U H->J.JR i H x H2->g x U H2 λU3 H3=>tc U3 H3 λb H4=>if b=true then te U3 H4 λy H5=>∃m',m'<n-i/\GW n f Pv (i+1) m' (f i++[y]) U3 H5 else∃m',m'<n-i/\GW n f Pv (i+1) m' (f i) U3 H4)
  (fin:∀U H,Pv n U H->∀D,H D=none->Q (.ref D) (upd H D (.lst (f n)))):dh U₀ g tc te Q J H1:=by
 refine{GW n f Pv,{n,by simp,yg _,f0.symm,h0},?_};rintro i m xs U H ⟨rfl,hi,rfl,p⟩;have:=hz i hi;rcases Nat.lt_or_ge i n with hlt | hge
 ·exact .inr {go i U H hlt p,nofun,λx H2 y=>turn i x U H H2 hlt p y}
 ·let e:i=n:=nofun
  subst e;exact .inl {stop U H p,nofun,fin U H p}
section
variable {X:Cx}
def CN (bs:List Bool):((List.range ⇑bs).any λi=>(bs[i]?).getD false)=bs.any id:=by
 rw[Bool.eq_iff_iff,yo,yo];constructor
 ·rintro⟨i,hi,e⟩
  let hi':=List.mem_range.mp hi;rw[zd hi'] at e;exact{_,ym hi',e}
 ·rintro⟨b,hb,e⟩
  let⟨i,hi,e'⟩:=List.mem_iff_getElem.mp hb;exact{i,List.mem_range.mpr hi,by rw[zd hi,e'];exact e}
def gx (hc:X.calm=true):fo X (.builtin "any") (λxs H Q=>∃(a:Addr) (bs:List Bool),xs=[.ref a]/\aH X.K H a (bs.map V.bl)/\Q (.bl (bs.any id)) H):=by
 intro pins s U H xs us Q I r h;let⟨a,bs,e,hq,q⟩:=h;subst e;cases r with
 | cons r rr=>
  cases rr;cases r;let⟨its,rv,p,hz⟩:=I.list hq;let hlt:a<↑s:=by let⟨o,n,e,_⟩:=p;exact yy e
  let hlen:⇑bs=⇑its:=by have:=⇑rv;rw[za] at this;exact this
  refine call_any_walk (wpAny_pyIter_list p.isList ?_);refine{↑s,[↑s,a],[↑s],its.toArray.size,_,_,λi=>(bs[i]?).getD false,rfl,Walks.list (A:=X.A.in1) (I.ok.hd hc) _ a (yj hlt) its.toArray,
   {{_,yx _ rfl,rfl,rfl},p.isList.push _},λi v s' Q' E' hP hQ=>?_,λh' tk hk=>?_}
  ·let hP':its[i]?=some v:=by simpa using hP
   let hi:i<⇑bs:=by rw[hlen];exact(zy.mp hP').1
   let hm:(bs.map V.bl)[i]?=some (.bl bs[i]):=by rw[zK,zd hi];rfl
   let⟨u,hu,ru⟩:=rv.get hm;rw[hP'] at hu;cases hu;cases ru;dsimp only at hQ;rw[zd hi] at hQ;exact wpAny_truthy_bool hQ
  ·let e:((List.range its.toArray.size).any λi=>(bs[i]?).getD false)=bs.any id:=by rw[yb,<-hlen];exact CN bs
   rw[e];exact{.bl _,H,I.kept λb o x=>hk b o (λhm=>by rw[zA.mp hm] at x;exact yf _ (yy x)) (yv _ x),rfl,q}
def ua (ns:List Int):∀k,k<=⇑ns->preSum (λi=>(ns[i]?).getD 0) k=(ns.take k).sum:=by
 intro k
 induction k with
 | zero=>intro _;simp[preSum]
 | succ k ih=>
  intro hk;let hk':k<⇑ns:=hk;let e:=ih (yh hk');rw[List.take_succ,List.sum_append,<-e,zd hk'];simp[preSum,zd hk']
def KZ (hc:X.calm=true):fo X (.builtin "sum") (λxs H Q=>∃(a:Addr) (ns:List Int),xs=[.ref a]/\aH X.K H a (ns.map V.int)/\(∀n∈ns,0<=n/\n<1000000)/\⇑ns<=1000/\Q (.int ns.sum) H):=by
 intro pins s U H xs us Q I r h;let⟨a,ns,e,hq,hb,hl,q⟩:=h;subst e;cases r with
 | cons r rr=>
  cases rr;cases r;let⟨its,rv,p,hz⟩:=I.list hq;let hlt:a<↑s:=by let⟨o,n,e,_⟩:=p;exact yy e
  let hlen:⇑ns=⇑its:=by have:=⇑rv;rw[za] at this;exact this
  let bnd:∀k,k<=⇑ns->0<=(ns.take k).sum/\(ns.take k).sum<=1000000*k:=by
   intro k
   induction k with
   | zero=>intro _;simp
   | succ k ih=>
    intro hk;let hk':k<⇑ns:=hk;have:=ih (yh hk');rw[List.take_succ,List.sum_append,zd hk'];let hb':=hb _ (ym hk');simp only[Option.toList_some,List.sum_cons,List.sum_nil];omega
  refine call_sum_walk (wpAny_pyIter_list p.isList ?_);refine{↑s,[↑s,a],[↑s],its.toArray.size,_,_,λi=>(ns[i]?).getD 0,rfl,Walks.list (A:=X.A.in1) (I.ok.hd hc) _ a (yj hlt) its.toArray,
   {{_,yx _ rfl,rfl,rfl},p.isList.push _},λb hb'=>?_,λi v hP=>?_,λj hj=>?_,λh' tk t' hk=>?_}
  ·rw[Heap.size_push]
   rcases zD.mp hb' with e | e
   ·rw[e];exact Nat.lt_succ_self _
   ·rw[zA.mp e];exact Nat.lt_succ_of_lt hlt
  ·let hP':its[i]?=some v:=by simpa using hP
   let hi:i<⇑ns:=by rw[hlen];exact(zy.mp hP').1
   let hm:(ns.map V.int)[i]?=some (.int ns[i]):=by rw[zK,zd hi];rfl
   let⟨u,hu,ru⟩:=rv.get hm;rw[hP'] at hu;cases hu;dsimp only;rw[zd hi];exact ru
  ·let hj':j<⇑ns:=by rw[hlen];simpa using hj
   let b1:=hb _ (ym hj');let b2:=bnd (j+1) hj';rw[ua ns (j+1) hj'];dsimp only;rw[zd hj'];simp only[Option.getD_some];constructor <;> (unfold InLong;omega)
  ·let e:preSum (λi=>(ns[i]?).getD 0) its.toArray.size=ns.sum:=by rw[yb,<-hlen,ua ns _ (zm _),zN]
   rw[e];exact{.int _,H,I.kept λb o x=>hk b o (λhm=>by rw[zA.mp hm] at x;exact yf _ (yy x)) (yv _ x),{_,rfl},q}
end
section
variable {prog:Program} {w:World} {A:Around} {E:Value->Shared->Prop} {s:Shared}
def A5 (hl:IsTup s.heap l vs.toArray)
  (h:Q vs {s with heap:=(s.heap.push (seqObj "list" #[] 0)).update ↑s (Obj.mapSeq (·++vs.toArray))}) (hsz:⇑vs<=sizeLine) :
  wpAny (model prog w) A (collect (.ref l)) Q E s:=by
 let⟨o,ho,hc,n,hd⟩:=id hl;unfold collect;refine yu (wpAny_runValue (codeAny_builtin entry_proto_collect' ?_));show wpAny _ _ (do again (.builtin "list.__iadd__" {[<-newList [],.ref l],[]})) _ _ s;refine yu (wpAny_newList (yw {Code.quiet_builtin _ (by decide +kernel),codeAny_builtin entry_list_iadd' ?_}));show wpAny _ _ (Builtin.List.listExtendWith (.ref ↑s) (.ref l) (.ref ↑s)) _ _ {s with heap:=s.heap.push (seqObj "list" #[] 0)};unfold Builtin.List.listExtendWith;let ho':(s.heap.push (seqObj "list" #[] 0)).get? l=some o:=yv _ ho;refine yu (wpAny_typeOf (T:="tuple") {(o),ho',hc} ?_);let ht:(Value.type "tuple"== Value.type "tuple")=true:=by rfl
 rw[if_pos (by rw[ht];simp)];refine yu (listItems_at ho' hd ?_);refine yu (listItems_at (xs:=#[]) (n:=0) (yx _ rfl) rfl ?_);rw[if_neg (by simp)];refine yu (listUpdate_at (xs:=#[]) (n:=0) (yx _ rfl) rfl ?_ (yg _) (by show(#[]++vs.toArray).size<=sizeLine+1;simp only[Array.size_append,yb,List.length_nil];omega));refine yw ?_;show wpAny (model prog w) A (do
   let o <-load ↑s
   match o.data with
   | .seq xs _=>pure xs.toList
   | _=>unsupported "internal:collect") Q E {s with heap:=(s.heap.push (seqObj "list" #[] 0)).update ↑s (Obj.mapSeq (·++vs.toArray))}
 refine yu (wpAny_load (get?_update_seq (yx _ rfl) _) ?_);show wpAny _ _ (pure ((#[]:Array Value)++vs.toArray).toList) Q E _;rw[show((#[]:Array Value)++vs.toArray).toList=vs by simp];exact yw h
def Hi (hl:IsTup s.heap l vs.toArray) (hI:IntsAre vs ns) (h64:⇑vs<64)
  (h:∀(out:Array Value) (ns':List Int),IntsAre out.toList ns'->ns'.Perm ns->ns'.Pairwise (·<=·)->Q (.ref (↑s+1)) {s with heap:=sortedAll s.heap vs out}) :
  wpAny (model prog w) A (call (.builtin "sorted") [.ref l]) Q E s:=by
 refine Calls.call_function_entry kind_sorted plain_sorted entry_sorted (args_sorted1 _) ?_;unfold Builtin.«sorted»;refine yu (m:=checkCount "sorted" 1 1 _) (yw ?_);refine yu (A5 hl ?_ (by rw[yC];omega));refine yu (wpAny_newList ?_);let hsz:((s.heap.push (seqObj "list" #[] 0)).update ↑s (Obj.mapSeq (·++vs.toArray))).objs.size=↑s+1:=by
  rw[Heap.size_update,size_push']
 let hoL:(((s.heap.push (seqObj "list" #[] 0)).update ↑s (Obj.mapSeq (·++vs.toArray))).push (seqObj "list" vs.toArray 0)).get? (↑s+1)=some (seqObj "list" vs.toArray 0):=by
  rw[<-hsz];exact yx _ rfl
 show wpAny _ _ _ _ _ {s with heap:=((s.heap.push (seqObj "list" #[] 0)).update ↑s (Obj.mapSeq (·++vs.toArray))).push (seqObj "list" vs.toArray 0)};rw[hsz];refine yu (wpAny_holding (wpAny_call_entry slot_list_sort {_,hoL,rfl} entry_list_sort (list_sort_tree hoL hI h64 λout ns' a1 a2 a3=>{_,rfl,?_}) (args_list_sort _)));exact yw {_,rfl,h out ns' a1 a2 a3}
def Al (h:Heap) (vs:List Value) (out:Array Value):∃n,(sortedAll h vs out).get? (h.objs.size+1)=some {cls:=.type "list",data:=.seq out n}:=by
 let hsz:((h.push (seqObj "list" #[] 0)).update h.objs.size (Obj.mapSeq (·++vs.toArray))).objs.size=h.objs.size+1:=by rw[Heap.size_update,size_push']
 let h1:(((h.push (seqObj "list" #[] 0)).update h.objs.size (Obj.mapSeq (·++vs.toArray))).push (seqObj "list" vs.toArray 0)).get? (h.objs.size+1)=some (seqObj "list" vs.toArray 0):=by
  rw[<-hsz];exact yx _ rfl
 unfold sortedAll sortedHeap;let h2:=get?_update_seq h1 (λ_=>#[]);let h3:=yv (seqObj "list" #[] 0) (yv (seqObj "tuple" vs.toArray 0) h2);exact{_,get?_update_seq h3 (λ_=>out)}
def uI (h:Heap) (vs:List Value) (out:Array Value) (b:Addr) (o:Obj) (e:h.get? b=some o):(sortedAll h vs out).get? b=some o:=by
 let hb:b<h.objs.size:=yy e;unfold sortedAll sortedHeap;let n1:h.objs.size≠b:=yi hb;let n2:h.objs.size+1≠b:=yi (Nat.lt_succ_of_lt hb);rw[yz _ _ n2];refine yv _ (yv _ ?_);rw[yz _ _ n2];refine yv _ ?_;rw[yz _ _ n1];exact yv _ e
end
theorem pV:∀{us:List Value} {ns:List Int},IntsAre us ns->Vals (ns.map V.int) us
 | _,_,.nil=>.nil
 | _,_,.cons r t h=>.cons {_,rfl} (pV h)
section
variable {X:Cx}
def rE:fo X (.builtin "sorted") (λxs H Q=>∃(a:Addr) (ns:List Int),xs=[.ref a]/\(aH X.K H a (ns.map V.int)\/cY X.K H a (ns.map V.int))/\⇑ns<64/\∀ns':List Int,ns'.Perm ns->ns'.Pairwise (·<=·)->∀l,H l=none->Q (.ref l) (upd H l (.lst (ns'.map V.int)))):=by
 intro pins s U H xs us Q I r h;let⟨a,ns,rfl,hq,h64,q⟩:=h;let⟨u,rfl,rx⟩:=vals1 r;cases rx;let fin:∀(its:List Value),⇑ns=⇑its->∀(out:Array Value) (ns':List Int),IntsAre out.toList ns'->ns'.Perm ns->ns'.Pairwise (·<=·)->EP X pins U Q (.ref (↑s+1)) {s with heap:=sortedAll s.heap its out}:=λits hl out ns' a1 a2 a3=>by
  let⟨n,hn⟩:=Al s.heap its out;refine{.ref _,_,I.laid (t':=s.toks) (a:=↑s+1) (o:=.lst (ns'.map V.int)) (uI s.heap its out) (Nat.le_succ _) ?_,rfl,q ns' a2 a3 _ (I.b7.fresh (Nat.le_succ _))};refine{by rw[za,a2.length_eq,yC];omega,out.toList,n,pV a1,by simpa using hn}
 rcases hq with hq | hq
 ·let⟨its,rv,p,_⟩:=I.list hq
  let hl:⇑ns=⇑its:=by have:=⇑rv;rw[za] at this;exact this
  exact sorted_ints p.isList (intsAre_of rv) nofun (fin its hl)
 ·let⟨its,rv,p,_⟩:=I.tuple hq
  let hl:⇑ns=⇑its:=by have:=⇑rv;rw[za] at this;exact this
  exact Hi p (intsAre_of rv) nofun (fin its hl)
theorem Jc:∀{zs:List Str} {us:List Value},Vals (zs.map V.str) us->∃l:List (Str×Tok),us=strValues l/\l.map (·.1)=zs
 | [],_,.nil=>{[],rfl,rfl}
 | z::zs,_,.cons ⟨t,e⟩ r=>by
  let⟨l,e1,e2⟩:=Jc r;subst e e1 e2;exact{(z,t)::l,rfl,rfl}
def rJoin (K:yB):V->List V->Hp->VK->Prop:=λx vs H Q=>∃(sep:Str) (a:Addr) (zs:List Str),x=.str sep/\vs=[.ref a]/\aH K H a (zs.map V.str)/\(zs.map (λz:Str=>⇑z+⇑sep)).sum<=sizeLine/\Q (.str (Str.join sep zs)) H
theorem F2 (sep:Str):∀(zs:List Str) (k:Nat),zs.foldl (λn z=>n+⇑z+⇑sep) k=k+(zs.map (λz:Str=>⇑z+⇑sep)).sum
 | [],k=>by simp
 | z::zs,k=>by
  rw[List.foldl_cons,F2 sep zs,zj,List.sum_cons];omega
theorem Ja (sep:Str):∀zs:List Str,(zs.map (·.length)).sum+⇑zs*⇑sep=(zs.map (λz:Str=>⇑z+⇑sep)).sum
 | []=>by simp
 | z::zs=>by
  let ih:=Ja sep zs;simp only[zj,List.sum_cons,zv,Nat.succ_mul] at ih ⊢;omega
def gE:PX X "str.join" (rJoin X.K):=by
 intro pins s U H x vs v us Q I rx rv h;let⟨sep,a,zs,rfl,rfl,hq,hz,q⟩:=h;let⟨tk,rfl⟩:=rx;let⟨u,rfl,ru⟩:=rv.one;cases ru;let⟨its,ri,p,_⟩:=I.list hq;let⟨l,e1,e2⟩:=Jc ri;subst e1;let hl:Builtin.Str.tooLong ((l.map (·.1)).toArray.foldl (·+·.length+⇑sep) 0)=false:=by
  rw[e2,List.foldl_toArray,F2,Nat.zero_add];exact ze nofun
 let hj:Builtin.Str.glued sep (l.map (·.1))=Str.join sep zs:=by rw[e2];exact StrLaws.glued_eq_join sep zs
 let jl:⇑(Str.join sep zs)<=sizeLine:=by
  exact zM (StrLaws.join_length_le sep zs) (zM (Nat.le_of_eq (Ja sep zs)) hz)
 refine call_meets F.slot_str_join (typeIs_str s sep tk) F.entry_str_join (F.args_str_join_2 _ _) (meets_str_join_list sep tk a l hl) {p.isList,?_}
 match l,e2,hj with
 | [],e2,hj=>
  subst e2;exact{by rw[hj];exact jl,.str _,H,I.tok _,{_,rfl},by rw[hj];exact q}
 | [z],e2,hj=>
  subst e2;exact{.str _,H,I,{_,rfl},q}
 | z::z'::r,e2,hj=>
  subst e2;exact{by rw[hj];exact jl,.str _,H,I.tok _,{_,rfl},by rw[hj];exact q}
def oY (x:Str) (n:Nat):Str:={(List.replicate n x.cps).foldl (·++·) #[]}
def PB:R2:=λx y H Q=>∃(t:Str) (n:Int),x=.str t/\y=.int n/\0<=n/\n<=1000/\⇑t<=1000/\Q (.str (oY t n.toNat)) H
def qD (x:Str) (n:Nat):(oY x n).cps.toList=(List.replicate n x.cps.toList).flatten:=by
 let key:∀(n:Nat) (a:Array Nat),((List.replicate n x.cps).foldl (·++·) a).toList=a.toList++(List.replicate n x.cps.toList).flatten:=by
  intro n
  induction n with
  | zero=>intro a;simp
  | succ n ih=>intro a;rw[List.replicate_succ,List.foldl_cons,ih,List.replicate_succ,ya];simp
 have:=key n #[];show((List.replicate n x.cps).foldl (·++·) #[]).toList=_;rw[this];rfl
def Fj (x:Str) (n:Nat):⇑(oY x n)=n*⇑x:=by
 let e:⇑(oY x n)=⇑(oY x n).cps.toList:=Array.length_toList.symm;rw[e,qD];let e2:⇑x.cps.toList=⇑x:=Array.length_toList;simp[e2]
def Mf (x:Str):oY x 1=x:=kP (by rw[qD];simp)
def OG:nH X (binaryOp .Mult) PB:=by
 intro pins s U H x y v u Q I rx ry h;let⟨t,n,rfl,rfl,h0,h1,hl,q⟩:=h;let⟨tk,rfl⟩:=rx;let⟨tk',rfl⟩:=ry;let sl:=yC;let hm:⇑t*n.toNat<=1000000:=by
  have:⇑t*n.toNat<=1000*1000:=Nat.mul_le_mul hl nofun;omega
 refine P.mul_str (by rw[ze nofun,ze nofun];rfl) (λh2 _=>?_) (λ_ _=>ze nofun) ?_
 ·have:(2^63-1)/1000<=((2:Int)^63-1)/n:=by
   rw[Int.le_ediv_iff_mul_le nofun];have:n*9223372036854775<=1000*9223372036854775:=Int.mul_le_mul_of_nonneg_right h1 ∅;omega
  omega
 ·by_cases c1:n<1
  ·let e:n.toNat=0:=nofun
   rw[if_pos c1];rw[e] at q;exact{∅,.str _,H,I.tok _,{_,rfl},q}
  ·rw[if_neg c1]
   refine post_val_or_str {?_,λt' k=>{.str _,H,I.tok _,{_,rfl},?_}}
   ·split
    ·omega
    ·have:=Fj t n.toNat
     let e:n.toNat*⇑t=⇑t*n.toNat:=Nat.mul_comm _ _;show(oY t n.toNat).length<=sizeLine;omega
   ·let ee:(if(n == 1||⇑t == 0)=true then t else oY t n.toNat)=oY t n.toNat:=by
     split
     ·rename_i c2
      rw[Bool.or_eq_true,beq_iff_eq,beq_iff_eq] at c2;rcases c2 with rfl | c2
      ·exact(Mf t).symm
      ·refine kP ?_
       let e2:t.cps.toList=[]:=yt.mp (by rw[Array.length_toList];exact c2);rw[qD,e2];simp
     ·rfl
    show Q (.str (if(n == 1||⇑t == 0)=true then t else oY t n.toNat)) H;rw[ee];exact q
end
def KD (P:Program) (w:World) (K:yB) (a:Addr) (kvs:List (Str×V)):Prop:=
 (a == sysModules)=false/\(kvs.map (·.1)).Nodup/\∀h:Heap,K.In h->∃vs:List (Key×Value),KV (kvs.map λp=>((Sum.inr p.1:Key),p.2)) vs/\h.DictOf (df P w) a vs
def Ga (Pm:Params) (l:List (Str×Tok×Addr)):List DictEntry:=l.map λp=>{PyData.keyHash Pm p.1,.str p.1 p.2.1,.ref p.2.2}
theorem ML:∀{l:List Str},l.Nodup->(l.map (Sum.inr:Str->Key)).Nodup
 | [],_=>List.nodup_nil
 | x::r,h=>by
  rw[yd] at h;rw[zj,yd];exact{λz=>by let⟨y,hy,e⟩:=zH.mp z;exact h.1 (Sum.inr.inj e▸hy),ML h.2}
def Sb {P:Program} {w:World} {K:yB} {a:Addr} {l:List (Str×Tok×Addr)} {n:Nat} (hl:K.lookup a=some {cls:=.type "dict",data:=.dict (Ga w.params l).toArray n}) (hs:(a == sysModules)=false) (nd:(l.map (·.1)).Nodup) :
  KD P w K a (l.map λp=>(p.1,V.ref p.2.2)):=by
 let e1:(l.map λp=>(p.1,V.ref p.2.2)).map (·.1)=l.map (·.1):=by rw[zB];rfl
 refine{hs,by rw[e1];exact nd,λh X=>{l.map λp=>(Sum.inr p.1,.ref p.2.2),?_,_,_,_,X _ _ hl,{(rfl),rfl,rfl},rfl,?_,?_,?_}}
 ·clear hl nd e1
  induction l with
  | nil=>exact .nil
  | cons p r ih=>exact .cons {(rfl),rfl} ih
 ·intro e he
  rw[List.mem_toArray] at he;let⟨p,_,rfl⟩:=zH.mp he;exact{Sum.inr p.1,nV p.1 p.2.1,rfl}
 ·show PySem.Pairs _ (Ga w.params l) _
  clear hl nd e1
  induction l with
  | nil=>exact .nil
  | cons p r ih=>exact .cons (nV p.1 p.2.1) rfl ih
 ·let e2:(l.map λp=>((Sum.inr p.1:Key),(Value.ref p.2.2))).map (·.1)=(l.map (·.1)).map Sum.inr:=by rw[zB,zB];rfl
  rw[e2];exact ML nd
def rP (kvs:List (Str×V)) (k:Str):Option V:=(kvs.find? λp=>decide (p.1=k)).map (·.2)
theorem HW:∀{kvs:List (Str×V)} {vs:List (Key×Value)} (k:Str),KV (kvs.map λp=>((Sum.inr p.1:Key),p.2)) vs->lT (rP kvs k) (valueAt vs (Sum.inr k))
 | [],_,_,.nil=>trivial
 | (x,v)::r,_,k,.cons (b:=b) h t=>by
  let⟨h1,h2⟩:=h;let⟨bk,bv⟩:=b;dsimp only at h1 h2;subst h1
  by_cases e:x=k
  ·subst e
   simp only[rP,valueAt,List.find?_cons,decide_true];exact h2
  ·let ih:=HW k t
   let e':¬((Sum.inr x:Key)=Sum.inr k):=λz=>e (Sum.inr.inj z);simp only[rP,valueAt,List.find?_cons,e,e',decide_false] at ih ⊢;exact ih
def Qk (P:Program) (w:World) (K:yB) (td ty:TE):TE:=λU H Q=>td U H λx H1=>ty U H1 λy H2=>∃a kvs k v,x=.ref a/\KD P w K a kvs/\y=.str k/\rP kvs k=some v/\Q v H2
def RO (P:Program) (w:World) (K:yB) (b:Bool) (ty td:TE):TE:=λU H Q=>ty U H λy H1=>td U H1 λx H2=>∃a kvs k,x=.ref a/\KD P w K a kvs/\y=.str k/\Q (.bl (b ^^ (rP kvs k).isSome)) H2
section
variable {X:Cx} {pos:Pos} {o i:Expr} {td ty:TE}
theorem lT.HX:∀{a:Option V} {b:Option Value},lT a b->a.isSome=b.isSome
 | some _,some _,_=>rfl
 | none,none,_=>rfl
 | some _,none,h=>h.elim
 | none,some _,h=>h.elim
def Fs (ho:PE X o td) (hi:PE X i ty) (hs:Rn i):PE X (.Subscript o i pos) (Qk X.prog X.w X.K td ty):=by
 intro pins s U H Q I h;refine Jb PySem.F.slot_dict_getitem.lookup hs (cU (ho pins s U H _ I h) λu s1 ⟨x,H1,I1,rx,q1⟩=>cU (hi pins s1 U H1 _ I1 q1) λiv s2 zz=>?_);let⟨y,H2,I2,ry,a,kvs,k,v,ex,kd,ey,hv,q2⟩:=zz;subst ex ey;obtain rfl:u=Value.ref a:=rx;let⟨tk,rfl⟩:=ry;let⟨hd,_,hk⟩:=kd;let⟨vs,rel,dd⟩:=hk _ I2.qW;let rv:=HW k rel;rw[hv] at rv;cases hw:valueAt vs (Sum.inr k) with
 | none=>rw[hw] at rv;exact rv.elim
 | some w'=>
  rw[hw] at rv;exact{dd.typeIs,wpAny_getItem_of (nV k tk) dd.mapOf hw {v,H2,I2.tok _,rv,q2}}
def OD (hi:PE X i ty) (ho:PE X o td):PC X .In i o (RO X.prog X.w X.K false ty td):=by
 intro pins s U H Q I h;refine cU (hi pins s U H _ I h) λiv s1 ⟨y,H1,I1,ry,q1⟩=>cU (ho pins s1 U H1 _ I1 q1) λu s2 zz=>?_;let⟨x,H2,I2,rx,a,kvs,k,ex,kd,ey,q2⟩:=zz;subst ex ey;obtain rfl:u=Value.ref a:=rx;let⟨tk,rfl⟩:=ry;let⟨hd,_,hk⟩:=kd;let⟨vs,rel,dd⟩:=hk _ I2.qW;refine wpAny_in_of (uc _ _ k tk) hd dd.mapOf ?_;let e:=lT.HX (HW k rel);exact{.bl _,H2,I2.tok _,rfl,by rw[e,Bool.false_xor] at q2;exact q2}
end
structure Rp (X:Cx) (CX:IV) (k:Nat) (f:Addr) (sp:Sp):Prop where
 ok:∃fd ps,dC X.prog X.w X.K X.mg X.base CX k f fd ps sp/\PySem.W.keepIn X.K (.ref f)=true/\Binds X.K fd ps []
def Qm (Tb:Addr->Sp->Prop) (E:XK) (i:Nat) (t:TA):TE:=λU H Q=>∃f sp,U[i]?=some (some (.ref f))/\Tb f sp/\t U H λvs H1=>sp vs H1 Q E
section
variable {X:Cx} {CX:IV} {k:Nat} {x:Str} {i:Nat} {p pos:Pos} {e:Expr} {es:List Expr} {t:TA} {E:XK}
def Fv (Tb:Addr->Sp->Prop) (hT:∀f sp,Tb f sp->Rp X CX k f sp) (hr:fH k X.A) (hv:PE X (.Name x p) (aX i)) (hx:Passes CX X E)
  (ha:PA X (e::es) t) (he:starEach (e::es) X.env=(false,eval e X.env)::starEach es X.env<|>qe_) (hpl:(backTo pos (starEach es X.env)).any (·.1)=false<|>qe_) :
  PE X (.Call (.Name x p) (e::es) [] pos) (Qm Tb E i t):=by
 intro pins s U H Q I h;let⟨f,sp,hf,hTb,h⟩:=h;let⟨fd,ps,F,hk,hb⟩:=(hT f sp hTb).ok;refine wpAny_Call_Name_kw (cU (hv pins s U H (λv H1=>v=.ref f/\H1=H) I {_,hf,rfl,rfl}) λu s1 zz=>?_);let⟨v,H1,I1,rv,ev,eH⟩:=zz;subst ev eH;obtain rfl:u=Value.ref f:=rv;refine PySem.W.callWith_K (h₀:=X.base) I1.ok.mod.QS hk (cU (ha pos pins s1 U _ _ I1 h) λus s2 ⟨vs,H2,I2,r,q⟩=>{I2.qW,?_}) he hpl;exact Ma F hr hb .nil hx I2 r (by rw[zV];exact q)
end
def RJ (sp:Sp) (t:TA) (C:Addr) (th:TS):TS:=λD U H=>t U H λvs H1=>sp vs H1 (λv H2=>D.rt v H2) λcls _ H2=>cls=.ref C/\th D U H2
section
variable {X:Cx} {k:Nat} {f:Addr} {fd:FuncData} {ps:List Str} {sp:Sp} {fx cn:Str} {p pos cpos pa np hpos:Pos} {e₀:Expr} {es:List Expr} {t:TA} {C:Addr} {bm:List Value} {newId:String} {b₀:Stmt} {suite:List Stmt} {th:TS}
def Ov (F:dC X.prog X.w X.K X.mg X.base (GU X.prog X.w) k f fd ps sp) (hr:fH k X.A) (hg:Gl X fx) (hm:X.mg fx=some (.ref f)) (hk:PySem.W.keepIn X.K (.ref f)=true) (hb:Binds X.K fd ps []) (ha:PA X.HN (e₀::es) t)
  (hc:X.calm=true) (hgc:Gl X cn) (hC0:PySem.W.nsIn X.K mainGlobals cn=some (some (.ref C))) (hQ0:PySem.W.excIn X.K C bm newId=true) (hbase:bm.contains (.type "BaseException")=true) (hstk:X.stack=X.env::X.outer) (hfrm:X.env.frame=some X.env.locals)
  (hsu:∀e,Bk (X.held e).HN (b₀::suite) th)
  (hdb:(fx == ("__debug__": Str))=false<|>qb_) (hdc:(cn == ("__debug__": Str))=false<|>qb_) (he:starEach (e₀::es) X.env=(false,eval e₀ X.env)::starEach es X.env<|>qe_) (hpl:(backTo cpos (starEach es X.env)).any (·.1)=false<|>qe_) :
  PS X (.Try [.Return (some (.Call (.Name fx p) (e₀::es) [] cpos)) pa] [.ExceptHandler (some (.Name cn np)) none (b₀::suite) hpos] [] [] pos) (RJ sp t C th):=by
 intro pins s U H D I h;let O:OwnCls cn C bm newId X.mg X.base:=pj X.prog I.ok.mod hC0 hQ0;refine wpAny_Try_except (wpAny_execs_cons ?_);refine wpAny_Return_some ?_;refine wpAny_Call_Name_kw (jL I hg hm ?_ hdb);let hA:wpAny (model X.prog X.w) X.A (spliced (backTo cpos (starEach (e₀::es) X.env))) (AP X.HN pins U _) (λ_ _=>False) s:=ha cpos pins s U H _ (I.pU _) h;refine PySem.W.callWith_K (h₀:=X.base) I.ok.mod.QS hk (wpAny_mono hA (λus s1 ⟨vs,H1,I1',r,q⟩=>{I1'.qW,?_}) λ_ _ z=>z.elim) he hpl;let I1:Inv X pins U H1 s1:=I1'.gS;let hl:⇑us=⇑ps:=by rw[<-⇑r];exact F.len _ _ _ _ q
 refine wpAny_call (codeAny_mono (F.run X.A X.stack s1 H1 {us,[]} us vs _ _ hr I1.OZ (by have:=hb s1 us I1.qW (by rw[zV];exact hl);rw[zV] at this;exact this) r q) λrr s' hq=>?_);cases rr with
 | ok fl=>
  cases fl with
  | ret u=>
   let⟨v,H2,I2,r2,q2⟩:=I1.after hq;exact{v,U,H2,I2,r2,q2}
  | next=>exact False.elim hq
  | brk=>exact False.elim hq
  | cont=>exact False.elim hq
 | error ev=>
  let⟨a,cls,a0,B,H',rfl,os,bare,fl,fly,⟨rfl,q2⟩⟩:=hq;let F1:∀b∈oF X.stack,H1 b=none:=I1.pY;let nf:∀{hh:Heap},Heap.FunFrames hh B X.stack->∀b∈oF X.stack,∃o,hh.get? b=some o/\∀vs,o.data≠.fields vs:=λhF b hb=>(hF.mem hb).2;let back:∀(hh:Heap),Lu X.prog X.w (oF X.stack) H1 H' s1.heap B hh->Inv X pins U H' {s' with heap:=hh}:=λhh fy=>
   I1.Nx (s':={s' with heap:=hh}) (ch:=[]) os (fy.un F1) (fy.b7.kept fy.kQ) bare λb z=>absurd z (by simp)
  let hfr:X.A.frames=some (X.env::X.outer):=by rw[<-hstk];exact I1.ok.frames
  refine wpAny_looks_onW hfr hfrm (by rw[<-hstk];exact fl) λh4 held4 up4=>?_;refine wpAny_landsW held4 λh5 fl5 up5=>?_;let fl5':Heap.FlyingW B X.stack a (.ref C) a0 h5:=by rw[hstk];exact fl5
  let fy5:Lu X.prog X.w (oF X.stack) H1 H' s1.heap B h5:=fly.on (up4.trans up5) fl5.1 (nf fl.2.2.1);let I5:=back h5 fy5;let⟨ob,hob,hobc⟩:=fl5'.there;let⟨tl,Nn,nm,qn,bs,hdct,sn,sub,ab,col,dd,k0,k1,k2,k3,k5,mN,hC,hN',hni,T⟩:=O.obj;refine wpAny_handleBy_cons (codeAny_handlers_test (jL (X:=X.held (.ref a)) (I5.held _) hgc O.bound ?_ hdc)) (by intro q;cases q);refine wpAny_excMatches_sub_self (I5.bk _ _ hC) hob hobc (T.hasType hbase) (codeAny_handlers_suite ?_);refine lands_againW fl5' λh6 fl6 up6=>?_;let fy6:Lu X.prog X.w (oF X.stack) H1 H' s1.heap B h6:=fy5.on up6 fl6.1 (nf fl5'.2.2.1);let I6:=back h6 fy6;refine wpAny_mono (hsu (.ref a) pins _ U H' D ((I6.held _).pU _) q2) (λfl s7 z=>?_) λ_ _ z=>z.elim;exact SP.kO I.ok.hd (SP.gS z)
end
section
variable {prog:Program} {w:World} {A:Around} {E:Value->Shared->Prop} {s:Shared}
def Mj (hd:(d == sysModules)=false) (ho:s.heap.get? d=some o) (hx:o.ExactDict) (hdat:o.data=.dict es ep)
  (hQ:Q (.ref ↑s) {s with heap:=s.heap.push {cls:=.type "dict_keyiterator",data:=.fields #[.ref d,.int 0 0,.int es.size 0,.int ep 0]}}) :
  wpAny (model prog w) A (pyIter (.ref d)) Q E s:=by
 let hT:s.TypeIs (.ref d) "dict":={(o),ho,hx.1}
 refine wpAny_pyIter_slot hT F.slot_dict_iter (wpAny_call_entry F.slot_dict_iter hT F.entry_dict_iter ?_ (F.args_dict_iter_1 _));unfold Builtin.«dict.__iter__»;refine yu ?_;unfold Builtin.Dict.dictSlotNone;refine yu (wpAny_notOrdered_dict hT ?_);show wpAny _ _ (pure (Value.ref d)) _ _ s;refine yw ?_;show wpAny _ _ (Builtin.Dict.showsAll d >>= _) _ _ s;unfold Builtin.Dict.showsAll;rw[if_neg (by rw[hd];exact zL)];refine yu (yw ?_);refine yu (wpAny_dictEntries ho hdat ?_);refine yu (wpAny_dictEpoch ho hdat ?_);refine yu (wpAny_newObj_type (yw {_,rfl,"dict_keyiterator",_,{_,yx _ rfl,rfl},F.slot_dict_keyiterator_next.lookup,?_}))
 simpa[rawInt] using hQ
def Ml (hit:s.heap.IsKeyIter it d i es.size ep)
  (hod:s.heap.get? d=some od) (hdd:od.data=.dict es ep) (hx:es[i]?=some e)
  (hQ:∀h',h'.IsKeyIter it d (i+1) es.size ep->Heap.SameBut it s.heap h'->Q (some e.key) {s with heap:=h'}) :
  wpAny (model prog w) A (pyNext (.ref it)) Q E s:=by
 let⟨o,ho,hc,hd⟩:=id hit;unfold pyNext;refine yu (wpAny_attempt (wpAny_callSpecial?_slot (name:=Str.ofString "__next__") hit.typeIs F.slot_dict_keyiterator_next
  (wpAny_call_entry F.slot_dict_keyiterator_next hit.typeIs F.entry_dict_keyiterator_next ?_ (F.args_dict_keyiterator_next_1 _))))
 refine yu (yw ?_);refine yu ?_;refine yu ?_
 first | refine yu (wpAny_typeNameOfWhole_keyiter hit.typeIs (yw ?_)) | refine yu (wpAny_typeNameOf_keyiter hit.typeIs (yw ?_))
 refine yu (wpAny_fieldsOf ho hd ?_);let hown:Builtin.Dict_items.ownsTuple "dict_keyiterator"= false:=by decide
 simp only[hown,Bool.false_eq_true,if_false];show wpAny _ _ (if(Value.ref d == Value.none)=true then _ else _) _ _ s;rw[if_neg (show¬((Value.ref d == Value.none)=true) from zL)];refine yu (yw ?_);refine yu (wpAny_dictEntries hod hdd ?_);rw[if_neg (by simp)];refine yu (yw ?_);refine yu (wpAny_dictEpoch hod hdd ?_);rw[if_neg (by simp)];refine yw ?_;simp only[show¬((i:Int)<0) from by omega,if_false,Int.toNat_natCast,hx];refine yu ?_
 first | refine yu (wpAny_typeNameOfWhole_keyiter hit.typeIs (yw ?_)) | refine yu (wpAny_typeNameOf_keyiter hit.typeIs (yw ?_))
 refine yu (wpAny_isOneOf_keyiter hit.typeIs ?_);show wpAny _ _ (setField (.ref it) 1 (rawInt ((i:Int)+1)) >>= _) _ _ s;refine yu (wpAny_setField ho hd (by simp) ?_);let hit':(s.heap.update it (Obj.mapFields (·.setIfInBounds 1 (rawInt ((i:Int)+1))))).IsKeyIter it d (i+1) es.size ep:=
  {_,yA _ ho (Obj.isFreed_of_fields (Obj.data_mapFields hd _)),(Obj.cls_mapFields ..).trans hc,by rw[Obj.data_mapFields hd];simp[rawInt]}
 refine yu (wpAny_holding ?_);refine yu (wpAny_isOneOf_keyiter (s:={s with heap:=s.heap.update it (Obj.mapFields (·.setIfInBounds 1 (rawInt ((i:Int)+1))))}) hit'.typeIs ?_);show wpAny _ _ (pure e.key) _ _ _;exact yw (yw {_,rfl,yw (hQ _ hit' (Heap.SameBut.update ..))})
def Om (hh:A.handled=none) (hit:s.heap.IsKeyIter it d i es.size ep)
  (hod:s.heap.get? d=some od) (hdd:od.data=.dict es ep) (hx:es.size<=i)
  (hQ:∀h',Heap.ExtBut it s.heap h'->Q none {s with heap:=h'}):wpAny (model prog w) A (pyNext (.ref it)) Q E s:=by
 let⟨o,ho,hc,hd⟩:=id hit;unfold pyNext;refine yu (wpAny_attempt (wpAny_callSpecial?_slot (name:=Str.ofString "__next__") hit.typeIs F.slot_dict_keyiterator_next
  (wpAny_call_entry F.slot_dict_keyiterator_next hit.typeIs F.entry_dict_keyiterator_next ?_ (F.args_dict_keyiterator_next_1 _))))
 refine yu (yw ?_);refine yu ?_;refine yu ?_
 first | refine yu (wpAny_typeNameOfWhole_keyiter hit.typeIs (yw ?_)) | refine yu (wpAny_typeNameOf_keyiter hit.typeIs (yw ?_))
 refine yu (wpAny_fieldsOf ho hd ?_);let hown:Builtin.Dict_items.ownsTuple "dict_keyiterator"= false:=by decide
 simp only[hown,Bool.false_eq_true,if_false];show wpAny _ _ (if(Value.ref d == Value.none)=true then _ else _) _ _ s;rw[if_neg (show¬((Value.ref d == Value.none)=true) from zL)];refine yu (yw ?_);refine yu (wpAny_dictEntries hod hdd ?_);rw[if_neg (by simp)];refine yu (yw ?_);refine yu (wpAny_dictEpoch hod hdd ?_);rw[if_neg (by simp)];refine yw ?_;simp only[show¬((i:Int)<0) from by omega,if_false,Int.toNat_natCast,Array.getElem?_eq_none hx];refine yu ?_
 first | refine yu (wpAny_typeNameOfWhole_keyiter hit.typeIs (yw ?_)) | refine yu (wpAny_typeNameOf_keyiter hit.typeIs (yw ?_))
 show wpAny _ _ (setField (.ref it) 0 .none >>= _) _ _ s;refine yu (wpAny_setField ho hd (by simp) ?_);show wpAny _ _ (newExc (.type "StopIteration") [] >>= _) _ _ _;refine yu ?_;simp only[newExc,newTuple];refine yu (wpAny_newObj_type ?_ (by size_fits));refine yu (m:=firstArgMember _ _) (wpAny_of_eq (a:=Value.none) (by first | rfl | (simp only[firstArgMember];rfl)) ?_);refine wpAny_newObj_type ?_ (by size_fits);simp only[raiseNew];refine yu (wpAny_handled ?_);rw[show A.in1.handled=none from hh];refine yu (yw (wpAny_throw ?_));refine yu (wpAny_isInstance (T:="StopIteration") (b:=true) {_,yx _ rfl,rfl} isSubtype_stop ?_);exact yw (hQ _ (((Heap.SameBut.update ..).extBut.push _).push _))
end
def NS (H:Hp) (d:Addr) (o:Obj) (n:Nat) (kat:Hp->Nat->V->Prop):Prop:=∃u,H d=some (.mI o u)/\((∃kvs:List (Key×V),u=.dK kvs/\n=⇑kvs/\kat=λ_ i x=>∃p,kvs[i]?=some p/\x=kV p.1)\/
 ∃kvs:List (List Key×V),u=.dT kvs/\n=⇑kvs/\kat=λH i x=>∃p b,kvs[i]?=some p/\H b=some (.tup (p.1.map kV))/\x=.ref b)
theorem BA {K:Type} [DecidableEq K] {prog:Program} {w:World} {knd:KeyKind prog w K}:∀{es:List DictEntry} {kvs:List (K×Value)} {i:Nat} {e:DictEntry},PySem.Pairs knd es kvs->es[i]?=some e->∃kv,kvs[i]?=some kv/\knd.is kv.1 e.key=true/\e.val=kv.2
 | _,_,_,_,.nil,h=>by simp at h
 | _,_,0,_,.cons a b _,h=>by simp at h;subst h;exact{_,rfl,a,b}
 | _,_,i+1,_,.cons _ _ t,h=>by
  let⟨kv,h1,h2⟩:=BA (i:=i) t (by simpa using h);exact{kv,by simpa using h1,h2}
theorem lA:∀{l:List α} {m:List β} {i:Nat} {b:β},Paired F l m->m[i]?=some b->∃a,l[i]?=some a/\F a b
 | _,_,_,_,.nil,h=>by simp at h
 | _,_,0,_,.cons r _,h=>by simp at h;subst h;exact{_,rfl,r}
 | _,_,i+1,_,.cons _ t,h=>by
  let⟨a,h1,h2⟩:=lA (i:=i) t (by simpa using h);exact{a,by simpa using h1,h2}
section
variable {X:Cx} {pins:List (Addr×Obj)} {U:St} {H:Hp} {s:Shared} {d:Addr} {o:Obj} {n:Nat} {kat:Hp->Nat->V->Prop}
def NS.raw (f:NS H d o n kat) (I:Inv X pins U H s):(d == sysModules)=false/\∃es ep,s.heap.get? d=some o/\o.ExactDict/\o.data=.dict es ep/\es.size=n/\∀i e,es[i]?=some e->∃x,RelV x e.key/\kat H i x:=by
 let⟨u,hH,hu⟩:=f;let⟨ho,ok⟩:=(show cB X.prog X.w H s.heap d (.mI o u) from I.b7 d _ hH)
 rcases hu with⟨kvs,rfl,rfl,rfl⟩ | ⟨kvs,rfl,rfl,rfl⟩
 ·let⟨_,hd,vs,rel,o',es,ep,ho',hx,hdat,_,hp,_⟩:=ok
  let hl:es.size=⇑kvs:=by
   let h1:=⇑hp;let h2:⇑kvs=⇑vs:=Paired.length rel;let h3:⇑es.toList=es.size:=Array.length_toList;omega
  rw[ho] at ho';cases ho';refine{hd,es,ep,ho,hx,hdat,hl,λi e he=>?_};let⟨kv,h1,h2,_⟩:=BA hp (i:=i) (e:=e) (by rw[Array.getElem?_toList];exact he);let⟨p,h3,h4,_⟩:=lA rel h1;refine{kV p.1,?_,p,h3,rfl};rw[<-h4] at h2;rcases di h2 with⟨j,t,e1,e2⟩ | ⟨y,t,e1,e2⟩
  ·rw[e1,e2];exact{(t),rfl}
  ·rw[e1,e2];exact{(t),rfl}
 ·let⟨_,hd,xs,rel,o',es,ep,ho',hx,hdat,he,_⟩:=ok
  let h3:⇑es.toList=es.size:=Array.length_toList;let hl:es.size=⇑kvs:=by
   let h2:⇑kvs=⇑xs:=Paired.length rel;rw[he,za] at h3;omega
  rw[ho] at ho';cases ho';refine{hd,es,ep,ho,hx,hdat,hl,λi e hi=>?_};rw[<-Array.getElem?_toList,he,zK] at hi;cases q:xs[i]? with
  | none=>rw[q] at hi;cases hi
  | some y=>
   rw[q] at hi;cases hi;let⟨p,h4,h5,h6,_⟩:=lA rel q;exact{.ref y.2.1,rfl,p,y.2.1,h4,h6,rfl}
end
def UD (d:Addr) (o:Obj) (n:Nat) (kat:Hp->Nat->V->Prop):It:={λi H=>NS H d o n kat/\i<n,λi H x H'=>H'=H/\kat H i x,λi H=>NS H d o n kat/\n<=i}
def JU {P:Program} {w:World} {K:yB} {tg:Expr} (d it:Addr) (n:Nat) (kat:Hp->Nat->V->Prop) (o:Obj) (es:Array DictEntry) (ep:Nat) (hdat:o.data=.dict es ep) (hn:es.size=n) :
  Turn P w K tg (UD d o n kat) [it] it (λi h=>h.IsKeyIter it d i n ep) where
 mem:=by simp
 obj:=λi h st b hb=>by
  let e:b=it:=by simpa using hb
  subst e;let⟨o,e,c,d⟩:=st;exact{o,e,λv z=>by rw[d] at z;cases z}
 keep:=λi h h' st k=>st.at λo e=>k it (by simp) o e
 item:=by
  intro X hP hw hK hc i pins s U H E I hf st hg;subst hP hw hK hn;let⟨fz,hlt⟩:=hg;let⟨hd,es',ep',ho,hx,hdat',hsz,hk⟩:=fz.raw I;rw[hdat] at hdat';cases hdat';let⟨f0,f1,f2,f3,f4,f5⟩:=hf it (by simp);let he:es[i]?=some es[i]:=Array.getElem?_eq_getElem hlt;let⟨x,rx,kx⟩:=hk i _ he;refine Ml st ho hdat he λh' st' sb=>?_;let I1:Inv X pins U H {s with heap:=h'}:=I.turned (t':=s.toks) (λb o hb e=>(sb.2 b hb).trans e) f0 f1 f3 f4 f5;let⟨oi,e,c,dd⟩:=id st';exact{_,rfl,BO (s:={s with heap:=h'}) e c dd ∅ {x,H,I1,rx,{(rfl),kx},st',λb hb=>(hf b hb).1}}
 done:=by
  intro X hP hw hK hc i pins s U H E I hf st hg;subst hP hw hK hn;let⟨fz,hge⟩:=hg;let⟨hd,es',ep',ho,hx,hdat',hsz,hk⟩:=fz.raw I;rw[hdat] at hdat';cases hdat';let⟨f0,f1,f2,f3,f4,f5⟩:=hf it (by simp);exact Om (I.ok.hd hc) st ho hdat hge λh' eb=>{rfl,I.turned (t':=s.toks) (λb o hb e=>eb b o hb e) f0 f1 f3 f4 f5}
 self:=λ_ _ _ _ _ st h=>wpAny_pyIter_keyiter st h
def Si (td:TE):TI:=λU H R=>td U H λx H1=>∃d o n kat,x=.ref d/\NS H1 d o n kat/\R (UD d o n kat) H1
section
variable {X:Cx} {tg l:Expr} {tl:TE}
def Oz (hl:PE X l tl):PI X tg l (Si tl):=by
 intro pins s U H R I h;refine cU (hl pins s U H _ I h) λv s1 zz=>?_;let⟨x,H1,I1,r1,q1⟩:=zz;let⟨d,o,n,kat,e,fz,q⟩:=q1;subst e;cases r1;let⟨hd,es,ep,ho,hx,hdat,hsz,hk⟩:=fz.raw I1;refine Mj hd ho hx hdat ?_;refine{↑s1,[↑s1],_,_,H1,rfl,I1.kept (t':=s1.toks) λb o e=>yv _ e,JU d _ n kat o es ep hdat hsz,{_,yx _ rfl,rfl,by rw[hsz];rfl},λb hb=>?_,q};let e:b=↑s1:=by simpa using hb
 subst e;exact I1.u9 (zm _) (I1.b7.fresh (zm _))
end
def IT (H:Hp) (d:Addr) (o:Obj) (kvs:List (Key×V)):Prop:=H d=some (.mI o (.dK kvs))
def NQ (d:Addr) (o:Obj) (kvs:List (Key×V)):It:={λi H=>IT H d o kvs/\i<⇑kvs,λi H x H'=>H'=H/\∃p,kvs[i]?=some p/\x=p.2,λi H=>IT H d o kvs/\⇑kvs<=i}
section
variable {X:Cx} {pins:List (Addr×Obj)} {U:St} {H:Hp} {s:Shared} {d:Addr} {o:Obj} {kvs:List (Key×V)}
def IT.at' (f:IT H d o kvs) (I:Inv X pins U H s):(d == sysModules)=false/\∃vs es ep,KV kvs vs/\o.data=.dict es ep/\s.heap.DictAt (df X.prog X.w) d vs ep:=by
 let⟨ho,ok⟩:=(show cB X.prog X.w H s.heap d (.mI o (.dK kvs)) from I.b7 d _ f)
 let⟨_,hd,vs,rel,o',es,ep,ho',hx,hdat,hk,hp,nd⟩:=ok;rw[ho] at ho';cases ho';exact{(hd),vs,es,ep,rel,hdat,o,es,ho,hx,hdat,hk,hp,nd}
end
def ED {P:Program} {w:World} {K:yB} {tg:Expr} (d it:Addr) (o:Obj) (kvs:List (Key×V)) (es:Array DictEntry) (ep:Nat) (hdat:o.data=.dict es ep) :
  Turn P w K tg (NQ d o kvs) [it] it (λi h=>h.IsValIter it d i ⇑kvs ep) where
 mem:=by simp
 obj:=λi h st b hb=>by
  let e:b=it:=by simpa using hb
  subst e;let⟨o,e,c,d⟩:=st;exact{o,e,λv z=>by rw[d] at z;cases z}
 keep:=λi h h' st k=>st.at λo e=>k it (by simp) o e
 item:=by
  intro X hP hw hK hc i pins s U H E I hf st hg;subst hP hw hK;let⟨fz,hlt⟩:=hg;let⟨hd,vs,es',ep',rel,hdat',da⟩:=fz.at' I;rw[hdat] at hdat';cases hdat';let⟨f0,f1,f2,f3,f4,f5⟩:=hf it (by simp);let hl:⇑kvs=⇑vs:=Paired.length rel;let hi:vs[i]?=some (vs[i]'nofun):=zd nofun;let⟨p,h3,h4,h5⟩:=lA rel hi;refine wpAny_pyNext_values_item (by rw[<-hl];exact st) da hi λh' st' sb=>?_;let I1:Inv X pins U H {s with heap:=h'}:=I.turned (t':=s.toks) (λb o hb e=>(sb.2 b hb).trans e) f0 f1 f3 f4 f5;let⟨oi,e,c,dd⟩:=id st';exact{_,rfl,BO (s:={s with heap:=h'}) e c dd ∅ {p.2,H,I1,h5,{(rfl),p,h3,rfl},by rw[hl];exact st',λb hb=>(hf b hb).1}}
 done:=by
  intro X hP hw hK hc i pins s U H E I hf st hg;subst hP hw hK;let⟨fz,hge⟩:=hg;let⟨hd,vs,es',ep',rel,hdat',da⟩:=fz.at' I;rw[hdat] at hdat';cases hdat';let⟨f0,f1,f2,f3,f4,f5⟩:=hf it (by simp);let hl:⇑kvs=⇑vs:=Paired.length rel;exact wpAny_pyNext_values_end (I.ok.hd hc) (by rw[<-hl];exact st) da (by simp;omega) λh' eb=>{rfl,I.turned (t':=s.toks) (λb o hb e=>eb b o hb e) f0 f1 f3 f4 f5}
 self:=λ_ _ _ _ _ st h=>wpAny_pyIter_valiter st h
def OV (td:TE):TI:=λU H R=>td U H λx H1=>∃d o kvs,x=.ref d/\IT H1 d o kvs/\R (NQ d o kvs) H1
section
variable {X:Cx} {tg l:Expr} {tl:TE} {apos cpos:Pos}
def Ki (hl:PE X l tl) (hbase:attributeBase l "values" X.env (eval l X.env)=eval l X.env<|>qe_) (hline:(apos.endLine == cpos.line)=true<|>qe_):PI X tg (.Call (.Attribute l "values" apos) [] [] cpos) (OV tl):=by
 intro pins s U H R I h;refine wpAny_Call_method0_late hbase hline (cU (hl pins s U H _ I h) λv s1 zz=>?_);let⟨x,H1,I1,r1,q1⟩:=zz;let⟨d,o,kvs,e,fz,q⟩:=q1;subst e;cases r1;let⟨hd,vs,es,ep,rel,hdat,da⟩:=fz.at' I1;refine{"dict","dict.values",F.plainAttrs_dict,F.slot_dict_values,F.type_dict_values,da.dictOf.typeIs,da.dictOf.mapOf.noDict,Calls.callWith_builtin rfl (PySem.evalArgs_none ?_)};refine call_meetsIn F.slot_dict_values da.dictOf.typeIs F.entry_dict_values (F.args_dict_values_1 _) (meets_dict_values (df X.prog X.w) d hd) {{(vs),da.dictOf},?_};let I2:Inv X pins U H1 {s1 with heap:=s1.heap.push {cls:=.type "dict_values",data:=.fields #[.ref d]}}:=I1.kept (t':=s1.toks) λb o e=>yv _ e;let⟨_,vs2,es2,ep2,rel2,hdat2,da2⟩:=fz.at' I2;rw[hdat] at hdat2;cases hdat2;let hl2:⇑kvs=⇑vs2:=Paired.length rel2;refine wpAny_pyIter_values (knd:=df X.prog X.w) {_,yx _ rfl,rfl,rfl} da2 ?_;refine{_,[_],_,_,H1,rfl,I2.kept (t':=s1.toks) λb o e=>yv _ e,ED d _ o kvs es ep hdat,{_,yx _ rfl,rfl,by rw[hl2];rfl},λb hb=>?_,q};rw[zA.mp hb];exact I2.u9 (zm _) (I2.b7.fresh (zm _))
end
def HZ {d:Addr} {o:Obj} {kvs:List (Key×V)} {g:TG} {tb:TS} {D:Ends} {U:St} {H:Hp} (Pv:Nat->St->Hp->Prop) (h0:Pv 0 U H) (hf:∀i U H,i<=⇑kvs->Pv i U H->IT H d o kvs)
  (hs:∀i p U H,kvs[i]?=some p->Pv i U H->g p.2 U H λU2 H2=>tb {D with nx:=Pv (i+1),ct:=Pv (i+1),bk:=D.nx} U2 H2) (hd:∀U H,Pv ⇑kvs U H->D.nx U H) :
  ∃W:Nat->Nat->St->Hp->Prop,(∃m,W 0 m U H)/\∀i m U H,W i m U H->
   ((NQ d o kvs).stop i H/\D.nx U H)\/((NQ d o kvs).go i H/\∃Nn:St->Hp->Prop,(∀U' H',Nn U' H'->∃m',m'<m/\W (i+1) m' U' H')/\∀v H',(NQ d o kvs).JR i H v H'->g v U H' λU2 H2=>tb {D with nx:=Nn,ct:=Nn,bk:=D.nx} U2 H2):=by
 refine{λi m U H=>m=⇑kvs-i/\i<=⇑kvs/\Pv i U H,{⇑kvs,by simp,yg _,h0},?_};rintro i m U H ⟨rfl,hi,pv'⟩;rcases Nat.lt_or_ge i ⇑kvs with hlt | hge
 ·refine .inr {{hf i U H hi pv',hlt},Pv (i+1),λU' H' p'=>{⇑kvs-(i+1),nofun,rfl,hlt,p'},λv H' y=>?_}
  let⟨e1,p,hp,e2⟩:=y;rw[e1,e2];exact hs i p U H hp pv'
 ·let e:i=⇑kvs:=nofun
  subst e;exact .inl {{hf _ U H hi pv',zm _},hd U H pv'}
def Sg:HO->Bool
 | .dK _=>true
 | .dT _=>true
 | _=>false
def dC.Pu {P:Program} {w:World} {K:yB} {mg:Str->Option Value} {base:Heap} {k:Nat} {f:Addr} {fd:FuncData} {ps:List Str} {sp sp':Sp} (F:dC P w K mg base GV k f fd ps sp) (len:∀vs H Q E,sp' vs H Q E->⇑vs=⇑ps)
  (h:∀vs H Q E,sp' vs H Q E->∃d u,H d=some u/\Sg u=true/\∀o,sp vs (upd H d (.mI o u)) (λv H'=>Q v (upd H' d u)) E):dC P w K mg base GV k f fd ps sp':=by
 refine{len,λA outer s H args us vs Q E hr e hb hv hs=>?_};let⟨d,u,hd,hu,hsp⟩:=h vs H Q E hs;let okd:=e.b7 d u hd;let⟨o,ho⟩:=okd.here;let nt:∀xs,u≠.tup xs:=λxs z=>by rw[z] at hu;cases hu
 let no:∀x,u≠.own x:=λx z=>by rw[z] at hu;cases hu
 let nf:∀a b,u≠.mI a b:=λa b z=>by rw[z] at hu;cases hu
 let nb:∀a,u≠.LK a:=λa z=>by rw[z] at hu;cases hu
 let off:∀b,H b=none->b≠d:=λb n z=>by rw[z,hd] at n;cases n
 let tup1:∀b xs,H b=some (.tup xs)->upd H d (.mI o u) b=some (.tup xs):=λb xs q=>by rw[aC (λz=>by rw[z,hd] at q;exact nt xs (yk q))];exact q
 let own1:∀b x,H b=some (.own x)->upd H d (.mI o u) b=some (.own x):=λb x q=>by rw[aC (λz=>by rw[z,hd] at q;exact no x (yk q))];exact q
 let e1:GS P w K mg base A outer s (upd H d (.mI o u)):=by
  refine{e.frames,e.mod,λb ob q=>{(e.bs b ob q).1,by rw[aC (off b (e.bs b ob q).2)];exact(e.bs b ob q).2},e.Lq,e.ox,λb hb=>by rw[aC (off b (e.F1 b hb))];exact e.F1 b hb,λb ub q=>?_,e.bare}
  by_cases hbd:b=d
  ·subst hbd
   rw[aB] at q;cases q;exact{ho,okd.kQ (λ_ _ _ z=>z) (λc z=>own1 c _ z) tup1}
  ·rw[aC hbd] at q
   exact(e.b7 b ub q).kQ (λ_ _ _ z=>z) (λc z=>own1 c _ z) tup1
 refine codeAny_mono (F.run A outer s _ args us vs _ E hr e1 hb hv (hsp o)) λr s' hq=>?_;cases r with
 | error x=>exact hq
 | ok fl=>
  cases fl with
  | next=>exact hq
  | brk=>exact hq
  | cont=>exact hq
  | ret uv=>
   let⟨v,H',os,bare,un,b7,rv,q⟩:=hq;let hd':H' d=some (.mI o u):=un.mE d o u aB;let off1:∀b,H b=none->upd H d (.mI o u) b=none:=λb n=>by rw[aC (off b n)];exact n
   let back:∀b z,H b=some z->b≠d->upd H d (.mI o u) b=some z:=λb z q n=>by rw[aC n];exact q
   refine{v,upd H' d u,os,bare,{λb ob q n hb hx=>un.keep b ob q (off1 b n) hb hx,λb ob q n hb hx=>un.slot b ob q (off1 b n) hb hx,λb ob q n hx=>by rw[aC (off b n)];exact un.free b ob q (off1 b n) hx,un.there,
    λb xs q=>?_,λb ob uu q=>?_,λb ps' q=>?_},λb ub q=>?_,rv,q}
   ·let n:b≠d:=λz=>by rw[z,hd] at q;exact nt xs (yk q)
    rw[aC n];exact un.oj b xs (back b _ q n)
   ·let n:b≠d:=λz=>by rw[z,hd] at q;exact nf ob uu (yk q)
    rw[aC n];exact un.mE b ob uu (back b _ q n)
   ·let n:b≠d:=λz=>by rw[z,hd] at q;exact nb ps' (yk q)
    let⟨m,z⟩:=un.om b ps' (back b _ q n);exact{m,by rw[aC n];exact z}
   ·let own2:∀c x,H' c=some (.own x)->upd H' d u c=some (.own x):=λc x z=>by rw[aC (λy=>by rw[y,hd'] at z;cases z)];exact z
    let tup2:∀c xs,H' c=some (.tup xs)->upd H' d u c=some (.tup xs):=λc xs z=>by rw[aC (λy=>by rw[y,hd'] at z;cases z)];exact z
    by_cases hbd:b=d
    ·subst hbd
     rw[aB] at q;cases q;let⟨_,ok'⟩:=(show cB P w H' s'.heap b (.mI o u) from b7 b _ hd')
     exact ok'.kQ (λ_ _ _ z=>z) (λc z=>own2 c _ z) tup2
    ·rw[aC hbd] at q
     exact(b7 b ub q).kQ (λ_ _ _ z=>z) (λc z=>own2 c _ z) tup2
def Fn (U:List Str) (x:Str):List Str:=if x∈U then U else U++[x]
def gj (l:List Str):List Str:=l.foldl Fn []
def Ge (l:List Str):⇑(gj l)<=⇑l/\(⇑(gj l)=⇑l↔l.Nodup):=by
 let key:∀(l U:List Str),U.Nodup->⇑(l.foldl Fn U)<=U.length+⇑l/\(⇑(l.foldl Fn U)=U.length+⇑l↔(U++l).Nodup):=by
  intro l
  induction l with
  | nil=>intro U h;simp[h]
  | cons x l ih=>
   intro U h;rw[List.foldl_cons,zv]
   by_cases hx:x∈U
   ·rw[show Fn U x=U from if_pos hx]
    have:=ih U h;refine{nofun,{λe=>nofun,λe=>?_}};exact absurd hx (λz=>(zT.mp e).2.2 x z x zr rfl)
   ·rw[show Fn U x=U++[x] from if_neg hx]
    let hn:(U++[x]).Nodup:=zT.mpr {h,by simp,λa ha b hb e=>by rw[zA.mp hb] at e;exact hx (e▸ha)};have:=ih (U++[x]) hn;rw[zh,List.length_singleton,zF,List.singleton_append] at this;exact{nofun,{λe=>this.2.mp nofun,λe=>by have:=this.2.mpr e;omega}}
 have:=key l [] List.nodup_nil
 simpa[gj] using this
def sub_tuple_set:isSubtype (.type "tuple") (.type "set")=pure false:=by rw[isSubtype_type];kernel_rfl
def sub_tuple_frozenset:isSubtype (.type "tuple") (.type "frozenset")=pure false:=by rw[isSubtype_type];kernel_rfl
section
variable {prog:Program} {w:World}
def L5 {A:Around} {R:Result->Shared->Prop} {I:Addr} {fp wr:List Addr} {G:Array GenState->Array GenState->Prop} {n:Nat} {P:Nat->Value->Prop} {St:Nat->Shared->Prop} (W:WalksS prog w A.in1 I fp wr G n P St) (S:Addr) (hSf:S∉fp)
  (zs:List Str) (hn:n=⇑zs) (hval:∀i v,P i v->∃z t,zs[i]?=some z/\v=.str z t) (hb:n+1<scanBound) :
  ∀(k i:Nat) (s:Shared),n-i=k->i<=n->St i s->s.heap.SetOf (PySem.strKind prog w) S (λx=>decide (x∈gj (zs.take i))) ⇑(gj (zs.take i))->
   (∀s',Moved (S::wr) G s s'->s'.heap.SetOf (PySem.strKind prog w) S (λx=>decide (x∈gj zs)) ⇑(gj zs)->R (.ok (.ret .none)) s')->
   codeAny (model prog w) A (.builtin "set.update.loop" {[.ref S,.ref I],[]}) R s:=by
 let hSw:S∉wr:=λh=>hSf (W.sub _ h);let hsub:∀b∈wr,b∈S::wr:=λb hb=>zp _ hb;intro k
 induction k with
 | zero=>
  intro i s hk hi hst hS hR;let hin:i=n:=nofun
  subst hin;rw[hn,zN] at hS;refine codeAny_builtin F.entry_set_update_loop ?_;rw[Around.under_plainId F.plain_set_update_loop _];show wpAny _ A.in1 (pyNext (.ref I) >>= _) _ _ s;refine yu (W.done s _ _ hst λs' hm=>?_);let⟨o,es,ep,t,ho,rest⟩:=hS;exact yw (hR s' (hm.mono hsub) {o,es,ep,t,hm.heap S _ hSw ho,rest})
 | succ k ih=>
  intro i s hk hi hst hS hR;let hlt:i<n:=nofun
  refine codeAny_builtin F.entry_set_update_loop ?_;rw[Around.under_plainId F.plain_set_update_loop _];show wpAny _ A.in1 (pyNext (.ref I) >>= _) _ _ s;refine yu (W.item i s _ _ hlt hst λv s' hP hst' hm=>?_);let⟨z,t,hz,rfl⟩:=hval i v hP;let⟨o,es,ep,tb,ho,rest⟩:=hS;let hS':s'.heap.SetOf (PySem.strKind prog w) S (λx=>decide (x∈gj (zs.take i))) ⇑(gj (zs.take i)):={o,es,ep,tb,hm.heap S _ hSw ho,rest}
  show wpAny _ A.in1 (holding [Value.str z t] (setAdd S (.str z t)) >>= _) _ _ s';refine yu (wpAny_holding ?_);unfold setAdd;refine wpAny_holding ?_;refine yu ((PySem.strKind prog w).pyHash (k:=z) (strKind_is _ _ _ _) ?_);let hl:=(Ge (zs.take i)).1;rw[zQ] at hl;refine wpAny_setAddHashed_of (knd:=PySem.strKind prog w) (s:={s' with toks:=s'.toks+1}) (strKind_is _ _ _ _) rfl hS' nofun λh' hsb hS2=>?_;let et:zs.take (i+1)=zs.take i++[z]:=by rw[List.take_succ,hz];rfl
  let ed:gj (zs.take (i+1))=Fn (gj (zs.take i)) z:=by rw[et];unfold gj;rw[zY];rfl
  let hSi:h'.SetOf (PySem.strKind prog w) S (λx=>decide (x∈gj (zs.take (i+1)))) ⇑(gj (zs.take (i+1))):=by
   refine SetOf_congr hS2 (λx=>?_) ?_
   ·rw[ed]
    unfold Fn
    by_cases hx:z∈gj (zs.take i)
    ·rw[if_pos hx]
     by_cases e:x=z
     ·subst e;simp[hx]
     ·simp[e]
    ·rw[if_neg hx];simp[zG]
   ·rw[ed]
    unfold Fn
    by_cases hx:z∈gj (zs.take i) <;> simp[hx]
  refine yw {plainId_quiet F.plain_set_update_loop _,ih (i+1) _ nofun hlt (W.frame _ s' _ _ hst' (Nat.le_succ _) λb hb o e=>?_) hSi λs'' hm'' hS''=>?_}
  ·rw[hsb.2 b (λh:b=S=>hSf (by rw[<-h];exact hb))];exact e
  ·refine hR s'' (Moved.trans W.gtrans ((hm.mono hsub).then_heap (Nat.le_succ _) λb o hb e=>?_) hm'') hS''
   rw[hsb.2 b (λh:b=S=>hb (by rw[h];exact zr))];exact e
variable {A:Around} {E:Value->Shared->Prop} {s:Shared}
def Hl {l:Addr} {items:Array Value} {zs:List Str} {Q:Value->Shared->Prop} (hh:A.handled=none) (hl:IsTup s.heap l items) (hi:∀(i:Nat) (v:Value),items[i]?=some v->∃z t,zs[i]?=some z/\v=.str z t) (hn:items.size=⇑zs) (hb:items.size+1<scanBound)
  (h:∀(h':Heap) (tk:Nat),h'.SetOf (PySem.strKind prog w) ↑s (λx=>decide (x∈gj zs)) ⇑(gj zs)->(∀b o,b<↑s->s.heap.get? b=some o->h'.get? b=some o)->Q (.ref ↑s) {s with heap:=h',toks:=tk}) :
  wpAny (model prog w) A (call (.type "set") [.ref l]) Q E s:=by
 let⟨c,tl,hmro⟩:=F.called_set.mro;let hmade:=F.called_set.made;let hsub:=F.called_set.sub;refine wpAny_call (codeAny_of_tree ?_);show wpAny _ _ (callAny (.type "set") _) _ _ _;refine yw {Code.quiet_builtin _ (by decide +kernel),codeAny_builtin F.entry_type_call ?_};rw[Around.under_plain (weight_type_call_type "set" [.ref l] []) rfl];let h1:=F.called_set.notType;let h2:=F.called_set.canCreate;let hct:=F.typeCall_set_1 (.ref l)
 repeat (any_goals (first | assumption | wp_step))
 letI fresh:Bool->Obj:=λled=>{cls:=.type "set",dict:=none,data:=.set #[] 0 (.fresh 0 0 led)}
 refine codeAny_mono (code_set_new_1 (.ref l) (E:=E) (Q₁:=λobj s₁=>∃led:Bool,obj=.ref ↑s/\s₁={s with heap:=s.heap.push (fresh led)}) λled=>{(led),rfl,rfl}) λr s₁ hr=>?_;cases r with
 | error e=>exact hr
 | ok fl=>
  cases fl with
  | next=>exact hr.elim
  | brk=>exact hr.elim
  | cont=>exact hr.elim
  | ret obj=>
   let⟨led,rfl,rfl⟩:=hr;let hS:(s.heap.push (fresh led)).get? ↑s=some (fresh led):=yx _ rfl;let hT:Shared.TypeIs {s with heap:=s.heap.push (fresh led)} (.ref ↑s) "set":={_,hS,rfl}
   let hli:=F.called_set.init.lookup;let hbi:=F.called_set.init.bind (.ref ↑s)
   repeat (any_goals (first | assumption | wp_step))
   refine codeAny_mono (codeAny_call_builtin (R:=wants (λr s₂=>r=.none/\∃h' tk,s₂={s with heap:=h',toks:=tk}/\h'.SetOf (PySem.strKind prog w) ↑s (λx=>decide (x∈gj zs)) ⇑(gj zs)/\
     (∀b o,b<↑s->s.heap.get? b=some o->h'.get? b=some o)) E) F.called_set.init.plain F.entry_set_init (check_set_init_1 hT ?_)) λr₂ s₂ hr₂=>?_
   ·let⟨⟨ocls,odict,odata,oslots⟩,hol,hcl,nl,hdl⟩:=hl
    simp only at hcl hdl;subst hcl hdl;let hol':(s.heap.push (fresh led)).get? l=some {cls:=.type "tuple",dict:=odict,data:=.seq items nl,slots:=oslots}:=yv _ hol;let hsls:=sub_tuple_set;let hslf:=sub_tuple_frozenset;let hne:(Value.type "tuple"== Value.type "dict")=false:=by decide
    let hl1:(s.heap.push (fresh led)).IsTuple l items:={_,hol',rfl,nl,rfl}
    unfold Builtin.«set.__init__» noKeywords Builtin.Frozenset.updateFrom;generalize hPI:pyIter=PI;wp_walk;subst hPI;refine wpAny_pyIter_tuple hl1 ?_;refine yu (wpAny_runValue ?_);let hlS:l<↑s:=yy hol;let hh3:A.in1.in1.in1.handled=none:=by simp[hh]
    let hz:(s.heap.push (fresh led)).objs.size=↑s+1:=Heap.size_push ..;let hSf:↑s∉[(s.heap.push (fresh led)).objs.size,l]:=by
     rw[hz];simp only[zD,zE,or_false,not_or];exact{yj (Nat.lt_succ_self _),yi hlS}
    refine L5 ((Walks.tuple hh3 _ l (by rw[hz];exact yj (Nat.lt_succ_of_lt hlS)) items).toS) ↑s hSf zs hn hi hb (items.size-0) 0 _ nofun (yg _)
     {{_,yx _ rfl,rfl,rfl},(hl1.push _)} ?hS0 ?hR
    case hS0=>
     exact SetOf_congr ((setObjOf_fresh (knd:=PySem.strKind prog w) led).setOf (yv _ hS) (by unfold scanBound;omega)) (λ_=>rfl) rfl
    case hR=>
     intro s' hm hS';let⟨h',g',d',tk',os'⟩:=s';let eg:g'=s.gens:=hm.gens;let ed:d'=s.drawn:=hm.drawn;let eo:os'=s.os:=hm.os;subst eg ed eo;refine yw (yw {rfl,h',tk',rfl,hS',λb o hb e=>?_});refine hm.heap b o ?_ (yv _ (yv _ e));simp only[zD,zE,or_false,not_or];exact{yj hb,by rw[hz];exact yj (Nat.lt_succ_of_lt hb)}
   ·cases r₂ with
    | error e=>exact hr₂
    | ok fl₂=>
     cases fl₂ with
     | next=>exact hr₂.elim
     | brk=>exact hr₂.elim
     | cont=>exact hr₂.elim
     | ret r=>
      let⟨rfl,h',tk,rfl,hS',hk'⟩:=hr₂
      repeat (any_goals (first | assumption | wp_step))
      exact h _ _ hS' hk'
end
def GQ (a:Addr) (n:Nat):HO:=.ext λh=>∃o es ep t,h.get? a=some o/\o.ExactSet/\o.data=.set es ep t/\t.fits es.size=true/\es.size=n
section
variable {X:Cx}
def K0 (hc:X.calm=true):fo X (.type "set") (λxs H Q=>∃(a:Addr) (zs:List Str),xs=[.ref a]/\cY X.K H a (zs.map V.str)/\⇑zs<=1000/\∀p,H p=none->Q (.ref p) (upd H p (GQ p ⇑(gj zs)))):=by
 intro pins s U H xs us Q I r h;let⟨a,zs,rfl,hq,hz,q⟩:=h;let⟨u,rfl,rx⟩:=vals1 r;cases rx;let⟨its,rv,p,_⟩:=I.tuple hq;let hl:⇑zs=⇑its:=by have:=⇑rv;rw[za] at this;exact this
 refine Hl (zs:=zs) (I.ok.hd hc) p (λi v hv=>?_) (by rw[yb,hl]) (by rw[yb];unfold scanBound;omega) λh' tk hS hk=>?_
 ·let hv':its[i]?=some v:=by simpa using hv
  let hi:i<⇑its:=(zy.mp hv').1;let⟨z,t,e1,e2⟩:=LU rv hi;have:=(zy.mp hv').2;exact{z,t,e1,by rw[<-this,e2]}
 ·let⟨o,es,ep,t,ho,hex,hd,hel,hmem,hb,hf,hn⟩:=hS
  refine{.ref _,_,I.laid (t':=tk) (a:=↑s) (o:=GQ ↑s ⇑(gj zs)) (λb ob e=>hk b ob (yy e) e) (zm _) ?_,rfl,q _ (I.b7.fresh (zm _))};exact{{(o),es,ep,t,ho,hex,hd,hf,hn},{(o),ho},λh1 h2 ⟨o,es,ep,t,e1,r⟩ kk=>{o,es,ep,t,kk o e1,r}}
def K2:fo X (.builtin "len") (λxs H Q=>∃(p:Addr) (n:Nat),xs=[.ref p]/\H p=some (GQ p n)/\n<=1000/\Q (.int n) H):=by
 intro pins s U H xs us Q I r h;let⟨p,n,rfl,hp,hn,q⟩:=h;let⟨u,rfl,rx⟩:=vals1 r;cases rx;let⟨⟨o,es,ep,t,ho,hex,hd,hf,rfl⟩,_⟩:=(show cB X.prog X.w H s.heap p (GQ p n) from I.b7 p _ hp)
 exact call_len_set ho hex hd hf nofun {.int _,H,I.tok _,{_,rfl},q}
end
def Oy:V->Bool
 | .bI=>true
 | .int _=>true
 | .str _=>true
 | _=>false
def Fp (h:Oy x=true):mn x=true:=by cases x <;> first | rfl | cases h
def QC {x y:V} (a:Oy x=true) (b:Oy y=true):Ib x y=decide (x=y):=by
 cases x <;> first | cases a;done | skip
 all_goals (cases y <;> first | rfl | exact Dv.symm | exact Ds.symm | cases b)
def Uz (K:yB) (H:Hp) (a b:Addr) (xs ys:List V):Prop:=(aH K H a xs/\aH K H b ys)\/(cY K H a xs/\cY K H b ys)
def Ur (xs ys:List V):Prop:=xs=[]\/ys=[]\/(xs.all Oy=true/\ys.all Oy=true)
inductive T4 (K:yB) (x y:V) (H:Hp) (Q:VK):Prop
 | mk (a b:Addr) (xs ys:List V) (_:x=.ref a) (_:y=.ref b) (_:Uz K H a b xs ys) (_:Ur xs ys) (_:Q (.bl (decide (xs=ys))) H)
inductive Qz (K:yB) (x y:V) (H:Hp) (Q:VK):Prop
 | mk (a b:Addr) (xs ys:List V) (_:x=.ref a) (_:y=.ref b) (_:Uz K H a b xs ys) (_:Ur xs ys) (_:Q (.bl (!decide (xs=ys))) H)
def I0 (r:Vals xs its) (h:j<⇑its):∃x,xs[j]?=some x/\RelV x its[j]:=by
 let hl:=⇑r;let⟨u,hu,ru⟩:=r.get (i:=j) (x:=xs[j]'nofun) (zd nofun);rw[zd h] at hu;cases hu;exact{_,zd nofun,ru}
section
variable {X:Cx}
def Dr (r:Vals xs its) (r':Vals ys jts) (p:Ur xs ys):∀j (h1:j<its.toArray.size) (h2:j<jts.toArray.size),SeqAt.EqAt A s its.toArray[j] jts.toArray[j] (decide (xs[j]?=ys[j]?)):=by
 intro j h1 h2;let h1':j<⇑its:=by simpa using h1
 let h2':j<⇑jts:=by simpa using h2
 let⟨x,ex,rx⟩:=I0 r h1';let⟨y,ey,ry⟩:=I0 r' h2';let l1:=⇑r;let l2:=⇑r';let hp:Oy x=true/\Oy y=true:=by
  rcases p with e | e | ⟨q1,q2⟩
  ·rw[e] at ex;simp at ex
  ·rw[e] at ey;simp at ey
  ·exact{yp.mp q1 x (zC ex),yp.mp q2 y (zC ey)}
 let g1:its.toArray[j]=its[j]:=by simp
 let g2:jts.toArray[j]=jts[j]:=by simp
 let z:=Nh (A:=A) (s:=s) rx ry (Fp hp.1) (Fp hp.2);rw[QC hp.1 hp.2] at z;let e:decide (xs[j]?=ys[j]?)=decide (x=y):=by rw[ex,ey,Bool.eq_iff_iff];simp
 rw[g1,g2,e];exact z
def all_eq {xs ys:List V} (h:⇑xs=⇑ys):((List.range ⇑xs).all λj=>decide (xs[j]?=ys[j]?))=decide (xs=ys):=by
 rw[Bool.eq_iff_iff,yp,decide_eq_true_eq];constructor
 ·intro hh
  refine List.ext_getElem? λj=>?_;rcases Nat.lt_or_ge j ⇑xs with hj | hj
  ·exact ye (hh j (List.mem_range.mpr hj))
  ·rw[List.getElem?_eq_none hj,List.getElem?_eq_none nofun]
 ·intro hh j _
  rw[hh];exact zg rfl
def Dc {xs ys:List V} (h:⇑xs≠⇑ys):decide (xs=ys)=false:=ze λe=>h (by rw[e])
def sQ (hu:X.A.units+64<cLine):nH X (compareOp .Eq) (T4 X.K):=by
 intro pins s U H x y v u Q I rx ry h;let⟨a,b,xs,ys,rfl,rfl,hs,pl,q⟩:=h;cases rx;cases ry;rcases hs with⟨ha,hb⟩ | ⟨ha,hb⟩
 ·let⟨its,r,p,_⟩:=I.list ha
  let⟨jts,r',p',_⟩:=I.list hb;let l1:=⇑r;let l2:=⇑r'
  by_cases hl:⇑xs=⇑ys
  ·let z:=SeqAt.RcAt.lists (A:=X.A) (s:=s) p.isList p'.isList (by rw[yb,yb];omega) nofun (Dr r r' pl)
   rw[yb,<-l1,all_eq hl] at z;exact z _ _ _ _ {.bl _,H,I,rfl,q}
  ·let z:=SeqAt.RcAt.lists_lengths (A:=X.A) (s:=s) p.isList p'.isList (by rw[yb,yb];simp;omega) nofun
   rw[Dc hl] at q;exact z _ _ _ _ {.bl false,H,I,rfl,q}
 ·let⟨its,r,p,_⟩:=I.tuple ha
  let⟨jts,r',p',_⟩:=I.tuple hb;let l1:=⇑r;let l2:=⇑r';let z:=SeqAt.RcAt.tuples (A:=X.A) (s:=s) p p' nofun (Dr r r' pl);rw[yb,yb,<-l1,<-l2] at z
  by_cases hl:⇑xs=⇑ys
  ·let em:min ⇑xs ⇑ys=⇑xs:=nofun
   rw[em,all_eq hl,hl,beq_self_eq_true,Bool.and_true] at z;exact z _ _ _ _ {.bl _,H,I,rfl,q}
  ·rw[show(⇑xs == ⇑ys)=false by simpa using hl,Bool.and_false] at z
   rw[Dc hl] at q;exact z _ _ _ _ {.bl false,H,I,rfl,q}
def wV (hu:X.A.units+64<cLine):nH X (compareOp .NotEq) (Qz X.K):=by
 intro pins s U H x y v u Q I rx ry h;let⟨a,b,xs,ys,rfl,rfl,hs,pl,q⟩:=h;cases rx;cases ry;rcases hs with⟨ha,hb⟩ | ⟨ha,hb⟩
 ·let⟨its,r,p,_⟩:=I.list ha
  let⟨jts,r',p',_⟩:=I.list hb;let l1:=⇑r;let l2:=⇑r'
  by_cases hl:⇑xs=⇑ys
  ·let z:=SeqAt.RcNeAt.lists (A:=X.A) (s:=s) p.isList p'.isList (by rw[yb,yb];omega) nofun (Dr r r' pl)
   rw[yb,<-l1,all_eq hl] at z;exact z _ _ _ _ {.bl _,H,I,rfl,q}
  ·let z:=SeqAt.RcNeAt.lists_lengths (A:=X.A) (s:=s) p.isList p'.isList (by rw[yb,yb];simp;omega) nofun
   rw[Dc hl] at q;exact z _ _ _ _ {.bl true,H,I,rfl,q}
 ·let⟨its,r,p,_⟩:=I.tuple ha
  let⟨jts,r',p',_⟩:=I.tuple hb;let l1:=⇑r;let l2:=⇑r';let z:=SeqAt.RcNeAt.tuples (A:=X.A) (s:=s) p p' nofun (Dr r r' pl);rw[yb,yb,<-l1,<-l2] at z
  by_cases hl:⇑xs=⇑ys
  ·let em:min ⇑xs ⇑ys=⇑xs:=nofun
   rw[em,all_eq hl,hl,beq_self_eq_true,Bool.and_true] at z;exact z _ _ _ _ {.bl _,H,I,rfl,q}
  ·rw[show(⇑xs == ⇑ys)=false by simpa using hl,Bool.and_false] at z
   rw[Dc hl] at q;exact z _ _ _ _ {.bl true,H,I,rfl,q}
def Py (K:yB):V->Option Int->Option Int->Hp->VK->Prop:=λx lo hi H Q=>∃a xs,x=.ref a/\cY K H a xs/\(HT.eY ⇑xs 0 lo=0/\HT.eY ⇑xs ⇑xs hi=⇑xs)/\Q (.ref a) H
def Oa:NM X (Py X.K):=by
 intro pins s U H x v vl vu lo hi sl Q I rx hs pl pu h;let⟨a,xs,rfl,hx,hw,q⟩:=h;cases rx;let⟨its,r,ht,hz⟩:=I.tuple hx;let hlen:its.toArray.size=⇑xs:=by rw[yb];exact r.length.symm
 refine{"tuple",_,PyProof.Rows.slot_tuple_getitem.lookup,ht.typeIs,?_};rw[<-hlen] at hw;let⟨os,hos,hcs,hds⟩:=id hs;let hTs:s.TypeIs (.ref sl) "slice":={(os),hos,hcs}
 unfold getItem
 try with_reducible refine wpAny_holding ?_
 first | refine yu (yw ?_) | skip
 refine yu (wpAny_sequenceKey ht.typeIs ∅ ?_);refine yu (wpAny_callSpecial?_slot (name:=Str.ofString "__getitem__") ht.typeIs PyProof.Rows.slot_tuple_getitem
  (wpAny_call_entry PyProof.Rows.slot_tuple_getitem ht.typeIs entry_tuple_getitem ?_ (args_tuple_getitem _ _)))
 show wpAny _ _ (Builtin.Tuple.tupleItemsOf (.ref a) >>= _) _ _ s;refine yu (tupleItemsOf_ ht ?_);refine yu (wpAny_typeOf hTs ?_);rw[if_pos ∅];refine yu (HT.km hs pl pu ?_);show wpAny _ _ (if(((HT.eY its.toArray.size 0 lo:Nat):Int) == 0&&(1:Int) == 1&&(HT.eY its.toArray.size its.toArray.size hi-HT.eY its.toArray.size 0 lo) == its.toArray.size)=true then _ else _) _ _ s;rw[if_pos (by rw[hw.1,hw.2];simp)];unfold Builtin.Tuple.tupleIsExact;refine yu ?_
 repeat (any_goals (first | assumption | exact⟨_,rfl,yw ⟨.ref a,H,I,rfl,q⟩⟩ | refine yu (wpAny_typeOf ht.typeIs ?_) | wp_step))
def Pz (K:yB):V->Option Int->Option Int->Hp->VK->Prop:=λx lo hi H Q=>RZ K x lo hi H Q\/Py K x lo hi H Q
def Jg:NM X (Pz X.K):=NM.or Qq Oa
def Fm (K:yB):V->List V->Hp->VK->Prop:=λx vs H Q=>∃l b xs zs,x=.ref l/\vs=[.ref b]/\H l=some (.lst xs)/\H b=some (.tup zs)/\⇑xs+⇑zs<=sizeLine/\Q .bI (upd H l (.lst (xs++zs)))
def Mn (K:yB):V->List V->Hp->VK->Prop:=λx vs H Q=>Jk x vs H Q\/Fm K x vs H Q
def HQ:PX X "list.extend" (Fm X.K):=by
 intro pins s U H x vs v us Q I rx rv h;let⟨l,b,xs,zs,rfl,rfl,hH,hB,hz,q⟩:=h;cases rx;let⟨u,rfl,ru⟩:=rv.one;cases ru;let⟨z,its,n,r,hl,e⟩:=I.MQ hH;let⟨_,its2,r2,⟨oc,od,oda,osl⟩,ho,hoc,n2,hod⟩:=(show cB X.prog X.w H s.heap b (.tup zs) from I.b7 b _ hB)
 let l1:=⇑r;let l2:=⇑r2;let hsz:its.toArray.size+its2.toArray.size<=sizeLine:=by rw[yb,yb];omega
 let hlong:¬(!its.toArray.isEmpty&&Builtin.List.listTooLong (its.toArray.size+its2.toArray.size))=true:=by
  rw[FL hsz,Bool.and_false];exact zL
 dsimp only at hoc hod;subst hoc hod;refine wpAny_call_entry F.slot_list_extend {_,e,rfl} F.entry_list_extend ?_ (F.args_list_extend_2 _ _);show wpAny _ _ (Builtin.List.listExtendWith (.ref l) (.ref b) .none) _ _ s;unfold Builtin.List.listExtendWith;refine yu (wpAny_typeOf (T:="tuple") {_,ho,rfl} ?_);let ht:(Value.type "tuple"== Value.type "tuple")=true:=by rfl
 rw[if_pos (by rw[ht];simp)];refine yu (listItems_at ho rfl ?_);refine yu (listItems_at e rfl ?_);rw[if_neg hlong];refine yu (listUpdate_at e rfl ?_ (by rw[yb];omega) (by show(its.toArray++its2.toArray).size<=sizeLine+1;rw[Array.size_append];omega));refine yw {_,rfl,?_};refine{.bI,_,I.OM (its':=its++its2) hH e (by simp) (r.append r2) ?_,rfl,q};rw[zh];omega
def gg:PX X "list.extend" (Mn X.K):=by
 intro pins s U H x vs v us Q I rx rv h;rcases h with h | h
 ·exact Kp pins s U H x vs v us Q I rx rv h
 ·exact HQ pins s U H x vs v us Q I rx rv h
def IA:fo X (.builtin "len") (λxs H Q=>∃p kvs,xs=[.ref p]/\H p=some (.dK kvs)/\Q (.int (⇑kvs:Nat)) H):=by
 intro pins s U H xs us Q I r h;let⟨p,kvs,rfl,hp,q⟩:=h;let⟨u,rfl,rx⟩:=vals1 r;cases rx;exact Sx I (.inl hp) λt s' I'=>{.int _,H,I',{_,rfl},q}
end
abbrev T6 (K:yB):List V->Hp->VK->Prop:=λxs H Q=>∃p ys,xs=[.ref p]/\(aH K H p ys\/cY K H p ys)/\Q (.int ⇑ys) H
abbrev T7 (K:yB):List V->Hp->VK->Prop:=λxs H Q=>∃(a:Addr) (bs:List Bool),xs=[.ref a]/\aH K H a (bs.map V.bl)/\Q (.bl (bs.any id)) H
abbrev R1:List V->Hp->VK->Prop:=λxs H Q=>∃i,xs=[.int i]/\i.natAbs.log2<1920/\Q (.str (toString i)) H
abbrev QA (K:yB):List V->Hp->VK->Prop:=λxs H Q=>∃p ys,xs=[.ref p]/\((aH K H p ys/\∀l,H l=none->Q (.ref l) (upd H l (.tup ys)))\/(cY K H p ys/\Q (.ref p) H))
abbrev R3 (K:yB):List V->Hp->VK->Prop:=λxs H Q=>∃p ys,xs=[.ref p]/\(aH K H p ys\/cY K H p ys)/\∀l,H l=none->Q (.ref l) (upd H l (.lst ys))
def cZ (lo:Int) (n:Nat):List Int:=(List.range n).map λi=>lo+(i:Nat)
def Qg (ta:TA):TE:=λU H Q=>ta U H λvs H1=>∃i j:Int,vs=[.int i,.int j]/\(-(2^62)<=i/\i<2^62/\-(2^62)<=j/\j<2^62)/\(j-i).toNat<=1000000/\∀l,H1 l=none->Q (.ref l) (upd H1 l (.lst ((cZ i (j-i).toNat).map V.int)))
theorem IZ:∀{xs:List V} {us:List Value},⇑xs=⇑us->(∀(i:Nat) (x:V) (u:Value),xs[i]?=some x->us[i]?=some u->RelV x u)->Vals xs us
 | [],[],_,_=>.nil
 | x::xs,u::us,h,k=>.cons (k 0 x u rfl rfl) (IZ (by simpa using h) λi y v e e'=>k (i+1) y v (by simpa using e) (by simpa using e'))
 | [],_::_,h,_=>by simp at h
 | _::_,[],h,_=>by simp at h
section
variable {X:Cx}
def qJ (hc:X.calm=true) (hg0:Gl X "list") (hm0:X.mg "list"= none) (hg:Gl X "range") (hm:X.mg "range"= none) (ha:PA X [a,b] ta)
  (hs:starEach [a,b] X.env=[(false,eval a X.env),(false,eval b X.env)]<|>qe_) (hs2:starEach [b] X.env=[(false,eval b X.env)]<|>qe_)
  (hs1:starEach [.Call (.Name "range" p2) [a,b] [] pos2] X.env=[(false,eval (.Call (.Name "range" p2) [a,b] [] pos2) X.env)]<|>qe_) :
  PE X (.Call (.Name "list" p1) [.Call (.Name "range" p2) [a,b] [] pos2] [] pos1) (Qg ta):=by
 intro pins s U H Q I h;refine wpAny_Call_Name_kw (je I hg0 hm0 (by decide +kernel:bootBuiltins "list"= some (.type "list")) ?_ ∅ ∅);refine yM (Q:=_) ?_ hs1 rfl;rw[hs1];refine Calls.spliced_cons ?_;refine Call_ (je I hg hm boot_range (yM (cU (ha pos2 pins s U H _ I h) λus s1 ⟨vs,H1,I1,r1,q1⟩=>?_) (by rw[hs,hs2]) (by rw[hs2];rfl)));let⟨i,j,e,⟨q1,q2,q3,q4⟩,hz,q⟩:=q1;subst e;cases r1 with
 | cons r rr=>
  cases rr with
  | cons r' rr=>
   cases rr;let⟨t,rfl⟩:=r;let⟨t',rfl⟩:=r';refine call_range_2 ?_;refine Calls.spliced_nil ?_;let I2:Inv X pins U H1 {s1 with heap:=s1.heap.push {cls:=.type "range",data:=.fields #[.int i t,.int j t',.int 1 s1.toks]},toks:=s1.toks+1}:=I1.kept λb o e=>yv _ e;let hn:Builtin.Range.rangeSize i j 1=(((j-i).toNat:Nat):Int):=by rw[rangeSize_one];split <;> omega
   refine call_list_range (I2.ok.hd hc) (IsRange.new ..) (small_one q1 q2 q3 q4) hn (zM hz ∅) λh' tk acc c hk hS hit=>?_;let rv:Vals ((cZ i (j-i).toNat).map V.int) acc.toList:=by
    refine IZ ?_ ?_
    ·let e1:⇑acc.toList=(j-i).toNat:=by rw[Array.length_toList];exact hit.1
     rw[za,e1];unfold cZ;simp
    ·intro k x u hx hu
     rw[Array.getElem?_toList] at hu;let⟨tk',rfl⟩:=hit.2 k u hu;let hk':k<(j-i).toNat:=by
      have:=(Array.getElem?_eq_some_iff.mp hu).1;rw[hit.1] at this;exact this
     unfold cZ at hx;rw[zB,zK,List.getElem?_range hk'] at hx;cases hx;exact{tk',by simp}
   let hl:H1 (s1.heap.push {cls:=.type "range",data:=.fields #[.int i t,.int j t',.int 1 s1.toks]}).objs.size=none:=I2.b7.fresh (zm _);refine{.ref _,_,I2.laid (t':=tk) hk (zm _) (show cB X.prog X.w _ h' _ (.lst ((cZ i (j-i).toNat).map V.int)) from{?_,acc.toList,c,rv,?_}),rfl,q _ hl}
   ·rw[za]
    let sl:=yC;unfold cZ;simp;omega
   ·simpa using hS
end
def GX:typeLookup (.type "zip") "__len__"= pure none:=by rw[typeLookup_type,builtinLookup_eq_fast];kernel_rfl
def Ex:typeLookup (.type "zip") "__length_hint__"= pure none:=by rw[typeLookup_type,builtinLookup_eq_fast];kernel_rfl
section
variable {prog:Program} {w:World} {A:Around} {E:Value->Shared->Prop} {s:Shared}
def uq (ho:s.heap.get? a=some o) (h:Q (some o) s):wpAny (model prog w) A (loadIfAlive a) Q E s:=
 λΓ p _=>by
  unfold loadIfAlive;rw[Sem.wp_loadIfAlive,ho];exact h
abbrev IS (h:Heap) (z TI TO T:Addr) (f1:Bool):Prop:=h.get? z=some {cls:=.type "zip",dict:=none,data:=.fields #[rawInt T,.bool f1,.bool false,.ref TI,.ref TO],slots:=#[]}
structure SY (t1 t2:Bool) (h:Heap) (z TI TO i1 i2 l1 l2:Addr) (k:Nat):Prop where
 z:∃T f1,IS h z TI TO T f1/\(∃o,h.get? T=some o)/\T≠z/\T≠i1/\T≠i2
 ti:IsPair h TI (.ref i1) (.ref i2)
 to:∃o,h.get? TO=some o
 i1:du t1 h i1 l1 k
 i2:du t2 h i2 l2 k
def FK {z TI TO T:Addr} {f1:Bool} {o:Obj} {Q:Bool->Shared->Prop} (hz:IS s.heap z TI TO T f1) (hT:s.heap.get? T=some o)
  (hQ:∀h',IS h' z TI TO T true->Heap.SameBut z s.heap h'->Q false {s with heap:=h'}):wpAny (model prog w) A (Builtin.SmallTypes.ownedTupleIsFree (.ref z)) Q E s:=by
 unfold Builtin.SmallTypes.ownedTupleIsFree;refine yu (wpAny_field hz rfl (x:=rawInt T) rfl ?_);show wpAny _ _ (loadIfAlive ((T:Int).toNat) >>= _) _ _ _;rw[Int.toNat_natCast];refine yu (uq hT ?_);show wpAny _ _ (field (.ref z) 1 >>= _) _ _ _;refine yu (wpAny_field hz rfl (x:=.bool f1) rfl ?_);cases f1 with
 | true=>exact yw (hQ s.heap hz {rfl,λ_ _=>rfl})
 | false=>
  show wpAny _ _ (setField (.ref z) 1 (.bool true) >>= _) _ _ _;exact yu (wpAny_setField_rec hz (by simp) λg1 z1 q1=>yw (hQ g1 z1 q1))
def JQ {t1 t2:Bool} {z TI TO i1 i2 l1 l2:Addr} {k:Nat} {xs ys:Array Value} {x y:Value} {Q:Value->Shared->Prop} (D:Ld z TI TO i1 i2) (L1:y6 l1 z TO i1 i2) (L2:y6 l2 z TO i1 i2)
  (S:SY t1 t2 s.heap z TI TO i1 i2 l1 l2 k) (hl1:fg t1 s.heap l1 xs) (hl2:fg t2 s.heap l2 ys) (hx:xs[k]?=some x) (hy:ys[k]?=some y)
  (hQ:∀h',SY t1 t2 h' z TI TO i1 i2 l1 l2 (k+1)->IsPair h' ↑s x y->rL z TO i1 i2 s.heap h'->Q (.ref ↑s) {s with heap:=h'}) :
  wpAny (model prog w) A (Builtin.«zip.__next__» {[.ref z],[]}) (λfin s'=>∃v,fin=.done (.ret v)/\Q v s') E s:=by
 let⟨⟨T,f1,hz,⟨o,hT⟩,n1,n2,n3⟩,hTI,⟨oT,hTO⟩,h1,h2⟩:=S;show wpAny _ _ (field (.ref z) 2 >>= _) _ _ _;refine yu (wpAny_field hz rfl (x:=.bool false) rfl ?_);show wpAny _ _ (field (.ref z) 3 >>= _) _ _ _;refine yu (wpAny_field hz rfl (x:=.ref TI) rfl (yu (wpAny_seqItems hTI rfl ?_)));show wpAny _ _ (Builtin.SmallTypes.ownedTupleIsFree (.ref z) >>= _) _ _ _;refine yu (FK hz hT λg1 z1 q1=>?_);simp only[Bool.false_eq_true,if_false];refine yu ?_;simp only[List.forIn_toArray,List.forIn_cons,List.forIn_nil];refine yu (yu (wpAny_holding ?_));show wpAny _ _ (Builtin.SmallTypes.nextOf (.ref i1) >>= _) _ _ _;refine yu (pZ (h1.but q1 D.a3) (hl1.but q1 L1.a1) hx λg2 p2 q2=>yw ?_);refine yw ?_;refine yu (yu (wpAny_holding ?_));show wpAny _ _ (Builtin.SmallTypes.nextOf (.ref i2) >>= _) _ _ _;refine yu (pZ ((h2.but q1 D.a4).but q2 D.b1.symm) ((hl2.but q1 L2.a1).but q2 L2.a3) hy λg3 p3 q3=>yw ?_);refine yw (yw ?_);let sz:g3.objs.size=↑s:=by rw[q3.1,q2.1,q1.1]
 let k3:∀c o,c≠z->c≠i1->c≠i2->s.heap.get? c=some o->g3.get? c=some o:=λc o c1 c3 c4 e=>q3.extBut _ _ c4 (q2.extBut _ _ c3 (q1.extBut _ _ c1 e));show wpAny _ _ (newTuple [x,y] >>= _) _ _ _;refine yu (wpAny_newTuple ?_);refine yw {_,rfl,?_};let up:∀c o,g3.get? c=some o->(g3.push {cls:=.type "tuple",data:=.seq #[x,y]}).get? c=some o:=λc o e=>yv _ e;let gp:(g3.push {cls:=.type "tuple",data:=.seq #[x,y]}).get? g3.objs.size=some {cls:=.type "tuple",data:=.seq #[x,y]}:=yx _ rfl;rw[sz] at gp;show Q (.ref g3.objs.size) _;rw[sz];refine hQ _ {{T,true,up _ _ (q3.extBut _ _ D.a4.symm (q2.extBut _ _ D.a3.symm z1)),{o,up _ _ (k3 _ _ n1 n2 n3 hT)},n1,n2,n3},up _ _ (k3 _ _ D.a1 D.a6 D.a7 hTI),{oT,up _ _ (k3 _ _ D.a2 D.a8 D.a9 hTO)},(p2.but q3 D.b1).at (up _),p3.at (up _)} gp λc o c1 c2 c3 c4 e=>up _ _ (k3 c o c1 c3 c4 e)
def JP {t1 t2:Bool} {z TI TO i1 i2 l1 l2:Addr} {k:Nat} {xs:Array Value} {Q:Fin->Shared->Prop} (hh:A.handled=none) (D:Ld z TI TO i1 i2) (L1:y6 l1 z TO i1 i2)
  (S:SY t1 t2 s.heap z TI TO i1 i2 l1 l2 k) (hl1:fg t1 s.heap l1 xs) (hx:xs[k]?=none)
  (hE:∀h' e,rL z TO i1 i2 s.heap h'->(∃o,h'.get? e=some o/\o.cls=.type "StopIteration")->E (.ref e) {s with heap:=h'}) :
  wpAny (model prog w) A (Builtin.«zip.__next__» {[.ref z],[]}) Q E s:=by
 let⟨⟨T,f1,hz,⟨o,hT⟩,n1,n2,n3⟩,hTI,⟨oT,hTO⟩,h1,h2⟩:=S;show wpAny _ _ (field (.ref z) 2 >>= _) _ _ _;refine yu (wpAny_field hz rfl (x:=.bool false) rfl ?_);show wpAny _ _ (field (.ref z) 3 >>= _) _ _ _;refine yu (wpAny_field hz rfl (x:=.ref TI) rfl (yu (wpAny_seqItems hTI rfl ?_)));show wpAny _ _ (Builtin.SmallTypes.ownedTupleIsFree (.ref z) >>= _) _ _ _;refine yu (FK hz hT λg1 z1 q1=>?_);simp only[Bool.false_eq_true,if_false];refine yu ?_;simp only[List.forIn_toArray,List.forIn_cons,List.forIn_nil];refine yu (yu (wpAny_holding ?_));show wpAny _ _ (Builtin.SmallTypes.nextOf (.ref i1) >>= _) _ _ _;refine yu (Cj hh (h1.but q1 D.a3) (hl1.but q1 L1.a1) hx λg2 e q2 he=>?_);exact hE g2 e (λc o c1 c2 c3 c4 x=>q2 _ _ c3 (q1.extBut _ _ c1 x)) he
def Lc (t1 t2:Bool) (h:Heap) (z TI TO i1 i2 l1 l2:Addr) (k:Nat):Prop:=(k=0/\NV t1 t2 h z TI TO i1 i2 l1 l2 0 .none)\/SY t1 t2 h z TI TO i1 i2 l1 l2 k
def Lc.type {t1 t2:Bool} {z TI TO i1 i2 l1 l2:Addr} {k:Nat} (S:Lc t1 t2 s.heap z TI TO i1 i2 l1 l2 k):s.TypeIs (.ref z) "zip":=by
 rcases S with⟨_,S⟩ | S
 ·exact{_,S.z,rfl}
 ·let⟨_,_,e,_⟩:=S.z;exact{_,e,rfl}
theorem Lc.at {t1 t2:Bool} {h h':Heap} {z TI TO i1 i2 l1 l2:Addr} {k:Nat} (S:Lc t1 t2 h z TI TO i1 i2 l1 l2 k) {B:Addr} (hk:∀c o,c≠B->h.get? c=some o->h'.get? c=some o) (hB:∃o,h'.get? B=some o) (nB:B∉[z,TI,TO,i1,i2]):Lc t1 t2 h' z TI TO i1 i2 l1 l2 k:=by
 simp only[zD,zE,or_false,not_or] at nB;let⟨b1,b2,b3,b4,b5⟩:=nB;rcases S with⟨e,S⟩ | S
 ·exact .inl {e,hk _ _ (Ne.symm b1) S.z,hk _ _ (Ne.symm b2) S.ti,(let ⟨x,y,q⟩:=S.to;{x,y,hk _ _ (Ne.symm b3) q}),S.i1.at λo=>hk _ o (Ne.symm b4),S.i2.at λo=>hk _ o (Ne.symm b5)}
 ·let⟨T,f1,z1,⟨o,hT⟩,n1,n2,n3⟩:=S.z
  refine .inr {{T,f1,hk _ _ (Ne.symm b1) z1,?_,n1,n2,n3},hk _ _ (Ne.symm b2) S.ti,(let ⟨x,q⟩:=S.to;{x,hk _ _ (Ne.symm b3) q}),S.i1.at λo=>hk _ o (Ne.symm b4),S.i2.at λo=>hk _ o (Ne.symm b5)}
  by_cases e:T=B
  ·rw[e];exact hB
  ·exact{o,hk _ _ e hT}
def Lc.obj {t1 t2:Bool} {h:Heap} {z TI TO i1 i2 l1 l2:Addr} {k:Nat} (S:Lc t1 t2 h z TI TO i1 i2 l1 l2 k):∀b∈[z,TI,TO,i1,i2],∃o,h.get? b=some o:=by
 intro b hb;simp only[zD,zE,or_false] at hb;rcases S with⟨e,S⟩ | S
 ·rcases hb with rfl | rfl | rfl | rfl | rfl
  ·exact{_,S.z}
  ·exact{_,S.ti}
  ·exact let ⟨x,y,q⟩:=S.to;{_,q}
  ·exact let ⟨o,e,_⟩:=S.i1.get;{(o),e}
  ·exact let ⟨o,e,_⟩:=S.i2.get;{(o),e}
 ·rcases hb with rfl | rfl | rfl | rfl | rfl
  ·let⟨_,_,e,_⟩:=S.z;exact{_,e}
  ·exact{_,S.ti}
  ·exact S.to
  ·exact let ⟨o,e,_⟩:=S.i1.get;{(o),e}
  ·exact let ⟨o,e,_⟩:=S.i2.get;{(o),e}
def JO {t1 t2:Bool} {z TI TO i1 i2 l1 l2:Addr} {k:Nat} {xs ys:Array Value} {x y:Value} {Q:Option Value->Shared->Prop} (D:Ld z TI TO i1 i2) (L1:y6 l1 z TO i1 i2) (L2:y6 l2 z TO i1 i2)
  (S:Lc t1 t2 s.heap z TI TO i1 i2 l1 l2 k) (hl1:fg t1 s.heap l1 xs) (hl2:fg t2 s.heap l2 ys) (hx:xs[k]?=some x) (hy:ys[k]?=some y)
  (hQ:∀h',Lc t1 t2 h' z TI TO i1 i2 l1 l2 (k+1)->IsPair h' ↑s x y->rL z TO i1 i2 s.heap h'->Q (some (.ref ↑s)) {s with heap:=h'}) :
  wpAny (model prog w) A (pyNext (.ref z)) Q E s:=by
 let ob:=S.obj;let lt:∀b∈[z,TI,TO,i1,i2],↑s≠b:=λb hb e=>by
  let⟨o,ho⟩:=ob b hb;rw[<-e] at ho;exact absurd (yy ho) (yf _)
 rcases S with⟨e,S⟩ | S
 ·subst e
  refine Ey D L1 L2 S hl1 hl2 hx hy λh' a1 a2 a3=>hQ h' (.inr {{_,false,a1.z,{_,a2},lt z (by simp),lt i1 (by simp),lt i2 (by simp)},a1.ti,(let ⟨x,y,q⟩:=a1.to;{_,q}),a1.i1,a1.i2}) a2 a3
 ·let hT:s.TypeIs (.ref z) "zip":=by let⟨_,_,e,_⟩:=S.z;exact{_,e,rfl}
  unfold pyNext;exact yu (wpAny_attempt (wpAny_callSpecial?_slot (name:=Str.ofString "__next__") hT F.slot_zip_next (wpAny_call_entry F.slot_zip_next hT F.entry_zip_next (JQ D L1 L2 S hl1 hl2 hx hy λh' a1 a2 a3=>yw (hQ h' (.inr a1) a2 a3)) (F.args_zip_next_1 _))))
def JN {t1 t2:Bool} {z TI TO i1 i2 l1 l2:Addr} {k:Nat} {xs ys:Array Value} {Q:Option Value->Shared->Prop} (hh:A.handled=none) (D:Ld z TI TO i1 i2) (L1:y6 l1 z TO i1 i2) (L2:y6 l2 z TO i1 i2)
  (S:Lc t1 t2 s.heap z TI TO i1 i2 l1 l2 k) (hl1:fg t1 s.heap l1 xs) (hl2:fg t2 s.heap l2 ys) (hx:xs[k]?=none)
  (hQ:∀h',rL z TO i1 i2 s.heap h'->Q none {s with heap:=h'}):wpAny (model prog w) A (pyNext (.ref z)) Q E s:=by
 rcases S with⟨e,S⟩ | S
 ·subst e
  exact Ew hh D L1 L2 S hl1 hl2 (.inl hx) hQ
 ·let hT:s.TypeIs (.ref z) "zip":=by let⟨_,_,e,_⟩:=S.z;exact{_,e,rfl}
  unfold pyNext;refine yu (wpAny_attempt (wpAny_callSpecial?_slot (name:=Str.ofString "__next__") hT F.slot_zip_next (wpAny_call_entry F.slot_zip_next hT F.entry_zip_next (JP hh D L1 S hl1 hx λh' e hk he=>?_) (F.args_zip_next_1 _))));let⟨o,ho,hc⟩:=he;exact yu (wpAny_isInstance (T:="StopIteration") (b:=true) {(o),ho,hc} isSubtype_stop (yw (hQ _ hk)))
end
def Pairs (H:Hp) (xs ys us:List V) (k:Nat):Prop:=⇑us=k/\∀(j:Nat) (x y:V),j<k->xs[j]?=some x->ys[j]?=some y->∃q,us[j]?=some (.ref q)/\H q=some (.tup [x,y])
def au.Pw {t:Bool} {K:yB} {H H':Hp} {a:Addr} {xs:List V} (e:au H H') (h:Bi t K H a xs):Bi t K H' a xs:=by
 cases t
 ·exact e.seq h
 ·exact e.tup h
abbrev JL (h:Heap) (S:Addr) (acc:Array Value) (c:Nat):Prop:=h.get? S=some {cls:=.type "list",dict:=none,data:=.seq acc c,slots:=#[]}
section
variable {X:Cx} {pins:List (Addr×Obj)} {U:St}
def LA {A:Around} {R:Result->Shared->Prop} {t1 t2:Bool} {a b z TI TO i1 i2 S:Addr} {xs ys:List V} {res:Value} (hh:A.handled=none) (D:Ld z TI TO i1 i2) (L1:y6 a z TO i1 i2) (L2:y6 b z TO i1 i2) (hl:⇑xs=⇑ys) (hz:⇑xs<=sizeLine) (nS:S∉[z,TI,TO,i1,i2]) :
  ∀(n k:Nat) (s:Shared) (H:Hp) (acc:Array Value) (c:Nat) (us:List V),⇑xs-k=n->k<=⇑xs->Inv X pins U H s->(∀b∈[z,TI,TO,i1,i2,S],pT X pins H b)->Lc t1 t2 s.heap z TI TO i1 i2 a b k->Bi t1 X.K H a xs->Bi t2 X.K H b ys->
  JL s.heap S acc c->Vals us acc.toList->Pairs H xs ys us k->
  (∀(s':Shared) (H':Hp) (us':List V) (acc':Array Value) (c':Nat),Inv X pins U H' s'->pT X pins H' S->au H H'->JL s'.heap S acc' c'->Vals us' acc'.toList->Pairs H' xs ys us' ⇑xs->R (.ok (.ret res)) s')->
  codeAny (model X.prog X.w) A (.builtin "list.extend.loop" {[.ref S,.ref z,res],[]}) R s:=by
 intro n
 induction n with
 | zero=>
  intro k s H acc c us hk hi I hf S0 q1 q2 hS rv pr hR;let e:k=⇑xs:=nofun
  subst e;let⟨its,rx,p1,_⟩:=I.sq q1;let⟨jts,ry,p2,_⟩:=I.sq q2;refine codeAny_builtin F.entry_extend_loop ?_;rw[Around.under_plainId F.plain_extend_loop _];show wpAny _ A.in1 (pyNext (.ref z) >>= _) _ _ s;let hl:=⇑rx;refine yu (JN (A:=A.in1) hh D L1 L2 S0 p1 p2 (by simp;omega) λh' hk'=>?_);let kk:∀b u,b∉[z,TI,TO,i1,i2,S]->s.heap.get? b=some u->h'.get? b=some u:=λb u hb e=>hk' b u (λz=>hb (by simp[z])) (λz=>hb (by simp[z])) (λz=>hb (by simp[z])) (λz=>hb (by simp[z])) e;let kS:JL h' S acc c:=hk' S _ (λz=>nS (by simp[z])) (λz=>nS (by simp[z])) (λz=>nS (by simp[z])) (λz=>nS (by simp[z])) hS;exact yw (hR _ H us acc c (I.turns (t':=s.toks) hf kk) (hf S (by simp)) (λ_ _ e=>e) kS rv pr)
 | succ n ih=>
  intro k s H acc c us hk hi I hf S0 q1 q2 hS rv pr hR;let hlt:k<⇑xs:=nofun
  let⟨its,rx,p1,_⟩:=I.sq q1;let⟨jts,ry,p2,_⟩:=I.sq q2;let⟨u,hu,ru⟩:=rx.get (zd hlt);let⟨u',hu',ru'⟩:=ry.get (zd (show k<⇑ys by omega));refine codeAny_builtin F.entry_extend_loop ?_;rw[Around.under_plainId F.plain_extend_loop _];show wpAny _ A.in1 (pyNext (.ref z) >>= _) _ _ s;let ob:=S0.obj;let lt:∀b∈[z,TI,TO,i1,i2,S],b≠↑s:=λb hb e=>by
   obtain⟨o,ho⟩:∃o,s.heap.get? b=some o:=by
    rcases zG.mp (show b∈[z,TI,TO,i1,i2]++[S] from hb) with z' | z'
    ·exact ob b z'
    ·rw[zA.mp z'];exact{_,hS}
   rw[e] at ho;exact absurd (yy ho) (yf _)
  refine yu (JO (A:=A.in1) D L1 L2 S0 p1 p2 (x:=u) (y:=u') (by simpa using hu) (by simpa using hu') λh' S1 hT hk'=>?_);let kS:JL h' S acc c:=hk' S _ (λz=>nS (by simp[z])) (λz=>nS (by simp[z])) (λz=>nS (by simp[z])) (λz=>nS (by simp[z])) hS;let az:acc.size=k:=by rw[<-Array.length_toList,<-⇑rv];exact pr.1
  show wpAny _ A.in1 (updateSeq S (·.push (.ref ↑s)) >>= _) _ _ _;refine yu ?_;let oth:∀b o,b≠S->h'.get? b=some o->(h'.update S (Obj.mapSeq (·.push (.ref ↑s)))).get? b=some o:=λb o hb e=>(yz _ _ (Ne.symm hb)).trans e;let S2:=yA (Obj.mapSeq (·.push (Value.ref ↑s))) kS rfl;let hn:H ↑s=none:=I.b7.fresh (zm _);let hT2:=oth _ _ (Ne.symm (lt S (by simp))) hT;let I2:Inv X pins U (upd H ↑s (.tup [xs[k],ys[k]])) {s with heap:=h'.update S (Obj.mapSeq (·.push (.ref ↑s))),toks:=s.toks}:=
   I.vP (t':=s.toks) hf (zm _) (λb o hb e=>oth b o (λz=>hb (by simp[z])) (hk' b o (λz=>hb (by simp[z])) (λz=>hb (by simp[z])) (λz=>hb (by simp[z])) (λz=>hb (by simp[z])) e))
    {by show 2<=sizeLine;decide,[u,u'],.cons ru (.cons ru' .nil),{_,hT2,rfl,_,rfl}}
  let s1:au H (upd H ↑s (.tup [xs[k],ys[k]])):=bq hn;refine wpAny_updateSeq kS rfl (yw {plainId_quiet F.plain_extend_loop _,ih (k+1) _ (upd H ↑s (.tup [xs[k],ys[k]])) (acc.push (.ref ↑s)) _ (us++[.ref ↑s]) nofun hlt I2 (λb hb=>?_) ?_ (s1.Pw q1) (s1.Pw q2) S2 ?_ ?_ ?_})
   (by rw[az];omega) (by show(acc.push _).size<=sizeLine+1;rw[Array.size_push,az];omega)
  ·let⟨f0,f1,f2,f3,f4,f5⟩:=hf b hb
   exact{by rw[aC (lt b hb)];exact f0,f1,f2,f3,f4,f5}
  ·exact S1.at (B:=S) oth {_,S2} nS
  ·rw[Array.toList_push]
   exact Vals.append rv (.cons rfl .nil)
  ·refine{by rw[zh,pr.1];rfl,λj x y hj hx hy=>?_}
   rcases Nat.lt_or_ge j k with z' | z'
   ·let⟨q,e1,e2⟩:=pr.2 j x y z' hx hy
    exact{q,by rw[List.getElem?_append_left (by rw[pr.1];exact z')];exact e1,s1 _ _ e2}
   ·let e:j=k:=nofun
    subst e;rw[zd hlt] at hx;rw[zd (show j<⇑ys by omega)] at hy;cases hx;cases hy;exact{↑s,by rw[z9 (by rw[pr.1];exact zm _),pr.1,Nat.sub_self];rfl,aB}
  ·exact λs' H' us' acc' c' I' f' sm l' v' p'=>hR s' H' us' acc' c' I' f' (s1.trans sm) l' v' p'
def A6 {A:Around} {E:Value->Shared->Prop} {s:Shared} {H:Hp} {Q:Value->Shared->Prop} {t1 t2:Bool} {a b z TI TO i1 i2:Addr} {xs ys:List V} (hh:A.handled=none) (D:Ld z TI TO i1 i2) (L1:y6 a z TO i1 i2) (L2:y6 b z TO i1 i2) (hl:⇑xs=⇑ys) (hz:⇑xs<=sizeLine)
  (I:Inv X pins U H s) (hf:∀b∈[z,TI,TO,i1,i2],pT X pins H b) (Z0:NV t1 t2 s.heap z TI TO i1 i2 a b 0 .none) (q1:Bi t1 X.K H a xs) (q2:Bi t2 X.K H b ys)
  (hQ:∀(s':Shared) (H':Hp) (us':List V) (l:Addr),Inv X pins U H' s'->H l=none->au H H'->H' l=some (.lst us')->Pairs H' xs ys us' ⇑xs->Q (.ref l) s') :
  wpAny (model X.prog X.w) A (call (.type "list") [.ref z]) Q E s:=by
 let S0:Lc t1 t2 s.heap z TI TO i1 i2 a b 0:=.inl {(rfl),Z0};let nS:↑s∉[z,TI,TO,i1,i2]:=λhb=>by
  let⟨o,ho⟩:=S0.obj _ hb;exact absurd (yy ho) (yf _)
 refine callType_codes (Q₁:=λobj s₁=>obj=.ref ↑s/\s₁={s with heap:=s.heap.push {cls:=.type "list",data:=.seq #[]}}) F.called_list (F.typeCall_list_1 _) F.entry_list_init
  (code_list_new _ {(rfl),rfl}) λobj s₁ h₁=>?_
 let⟨rfl,rfl⟩:=h₁;let hS:(s.heap.push {cls:=.type "list",data:=.seq #[]}).get? ↑s=some {cls:=.type "list",data:=.seq #[]}:=yx _ rfl;refine{{_,hS,rfl},F.args_list_init_2 _ _,?_};let kp:∀b o,s.heap.get? b=some o->(s.heap.push {cls:=.type "list",data:=.seq #[]}).get? b=some o:=λb o e=>yv _ e;let fS:pT X pins H ↑s:=I.u9 (zm _) (I.b7.fresh (zm _));let hf6:∀b∈[z,TI,TO,i1,i2,↑s],pT X pins H b:=λb hb=>by
  rcases zG.mp (show b∈[z,TI,TO,i1,i2]++[↑s] from hb) with z' | z'
  ·exact hf b z'
  ·rw[zA.mp z'];exact fS
 let S1:Lc t1 t2 (s.heap.push {cls:=.type "list",data:=.seq #[]}) z TI TO i1 i2 a b 0:=S0.at (B:=↑s) (λc o _ e=>kp c o e) {_,hS} nS;let I1:Inv X pins U H {s with heap:=s.heap.push {cls:=.type "list",data:=.seq #[]}}:=I.kept (t':=s.toks) kp;let zz:IsZip (s.heap.push {cls:=.type "list",data:=.seq #[]}) z TI TO .none:=kp _ _ Z0.z;generalize hS0:↑s=S at hS nS fS hf6 ⊢;let s0S:X.s₀.heap.objs.size<=S:=by rw[<-hS0];exact I.sz
 let lo:↑s<=S:=Nat.le_of_eq hS0;clear kp;generalize (s.heap.push {cls:=.type "list",data:=.seq #[]}:Heap)=h1 at hS S1 I1 zz;show wpAny _ A.in1.in1 (do let old <-Builtin.List.listItems (.ref S);Builtin.List.listUpdate (.ref S) (λ_=>#[]);letGo old.toList.reverse;Builtin.List.listExtendWith (.ref S) (.ref z) .none) _ _ _;refine yu ?_;unfold Builtin.List.listItems;refine yu (wpAny_seqItems hS rfl (yw ?_));show wpAny _ A.in1.in1 (updateSeq S (λ_=>#[]) >>= λ_=>letGo (#[]:Array Value).toList.reverse >>= λ_=>Builtin.List.listExtendWith (.ref S) (.ref z) .none) _ _ _;refine yu (wpAny_updateSeq hS rfl ?_);let hS2:=yA (Obj.mapSeq (λ_=>(#[]:Array Value))) hS rfl;let oth:∀b o,b≠S->h1.get? b=some o->(h1.update S (Obj.mapSeq (λ_=>(#[]:Array Value)))).get? b=some o:=
  λb o hb e=>(yz _ _ (Ne.symm hb)).trans e
 refine yu (wpAny_letGo ?_);let hSI:S≠z:=λe=>nS (by rw[e];simp);replace zz:=oth _ _ hSI.symm zz;let S2:=S1.at (B:=S) oth {_,hS2} nS;let I2:=I1.turns (t':=s.toks) (ch:=[S]) (λb hb=>by rw[zA.mp hb];exact fS) (λb o hb e=>oth b o (λz=>hb (by simp[z])) e);clear oth S1 I1 hS;generalize (h1.update S (Obj.mapSeq (λ_=>(#[]:Array Value))):Heap)=h2 at hS2 S2 I2 zz;dsimp only at I2 ⊢;unfold Builtin.List.listExtendWith;let hT:Shared.TypeIs {s with heap:=h2,toks:=s.toks} (.ref z) "zip":=S2.type (s:={s with heap:=h2,toks:=s.toks});refine yu (wpAny_typeOf hT ?_);let e1:Builtin.List.listSameRef (.ref S) (.ref z)=false:=by simp[Builtin.List.listSameRef,hSI]
 let e2:(Value.type "zip"== Value.type "list")=false:=by decide
 let e3:(Value.type "zip"== Value.type "tuple")=false:=by decide
 simp only[e1,e2,e3,Bool.or_false,Bool.false_eq_true,if_false];refine yu (wpAny_pyIter_zip (s:={s with heap:=h2,toks:=s.toks}) zz ?_);refine yu (wpAny_holding ?_);unfold Builtin.List.listLengthHint;refine yu (wpAny_specialOf hT GX ?_);show wpAny _ A.in1.in1 (specialOf (Value.ref z) (Str.ofString "__length_hint__") >>= _) _ _ _;refine yu (wpAny_specialOf hT Ex ?_);refine yw ?_;show wpAny _ A.in1.in1 (rule "list.extend.makes-room" >>= λ_=>Builtin.List.listTouch (.ref S) >>= λ_=>
  again (.builtin "list.extend.loop" {[.ref S,.ref z,.none],[]})) _ _ _
 refine yu (wpAny_rule ?_);refine yu ?_;show wpAny _ A.in1.in1 (updateSeq S (·.push .none) >>= λ_=>updateSeq S (·.pop)) _ _ _;refine yu (wpAny_updateSeq hS2 rfl ?_);let hS3:=yA (Obj.mapSeq (·.push Value.none)) hS2 rfl;refine wpAny_updateSeq (hz:=by seq_fits) hS3 rfl ?_;let hS4:=yA (Obj.mapSeq (·.pop)) hS3 rfl;let oth:∀b o,b≠S->h2.get? b=some o->((h2.update S (Obj.mapSeq (·.push Value.none))).update S (Obj.mapSeq (·.pop))).get? b=some o:=
  λb o hb e=>(yz _ _ (Ne.symm hb)).trans ((yz _ _ (Ne.symm hb)).trans e)
 let S4:=S2.at (B:=S) oth {_,hS4} nS;let I4:=I2.turns (t':=s.toks) (ch:=[S]) (λb hb=>by rw[zA.mp hb];exact fS) (λb o hb e=>oth b o (λz=>hb (by simp[z])) e);refine yw {plainId_quiet F.plain_extend_loop _,LA (X:=X) (pins:=pins) (U:=U) (A:=A.in1) hh D L1 L2 hl hz nS ⇑xs 0 _ H _ _ [] rfl (yg _) I4 hf6 S4 q1 q2 hS4 .nil {rfl,λj x y hj=>nofun} λs' H' us' acc' c' I' f' sm l' v' p'=>?_};refine{rfl,?_};let⟨f0,f1,f2,f3,f4,f5⟩:=f';let I5:Inv X pins U (upd H' S (.lst us')) s':=I'.RG f0 (by
  cases q:X.s₀.heap.get? S with
  | none=>rfl
  | some o=>exact absurd (yy q) (Nat.not_lt.mpr s0S)) f1 f4 f5 {by rw[p'.1];exact hz,acc'.toList,c',v',l'}
 refine hQ s' _ us' S I5 fS.1 (sm.trans (bq f0)) aB {p'.1,λj x y hj hx hy=>?_};let⟨q,e1,e2⟩:=p'.2 j x y hj hx hy;exact{q,e1,bq f0 _ _ e2}
def Qf (K:yB) (ta:TA):TE:=λU H Q=>ta U H λvs H1=>∃t1 t2 a b xs ys,vs=[.ref a,.ref b]/\Bi t1 K H1 a xs/\Bi t2 K H1 b ys/\⇑xs=⇑ys/\∀l H2 us,au H1 H2->H1 l=none->H2 l=some (.lst us)->Pairs H2 xs ys us ⇑xs->Q (.ref l) H2
def MB (hc:X.calm=true) (hg0:Gl X "list") (hm0:X.mg "list"= none) (hg:Gl X "zip") (hm:X.mg "zip"= none) (ha:PA X [a,b] ta)
  (hs:starEach [a,b] X.env=[(false,eval a X.env),(false,eval b X.env)]<|>qe_) (hs2:starEach [b] X.env=[(false,eval b X.env)]<|>qe_)
  (hs1:starEach [.Call (.Name "zip" p2) [a,b] [] pos2] X.env=[(false,eval (.Call (.Name "zip" p2) [a,b] [] pos2) X.env)]<|>qe_) :
  PE X (.Call (.Name "list" p1) [.Call (.Name "zip" p2) [a,b] [] pos2] [] pos1) (Qf X.K ta):=by
 intro pins s U H Q I h;refine wpAny_Call_Name_kw (je I hg0 hm0 (by decide +kernel:bootBuiltins "list"= some (.type "list")) ?_ ∅ ∅);refine yM (Q:=_) ?_ hs1 rfl;rw[hs1];refine Calls.spliced_cons ?_;refine Call_ (je I hg hm Nz (yM (cU (ha pos2 pins s U H _ I h) λus s1 ⟨vs,H1,I1,r1,q1⟩=>?_) (by rw[hs,hs2]) (by rw[hs2];rfl)));let⟨t1,t2,a,b,xs,ys,e,hq,hq',hl,q⟩:=q1;subst e;cases r1 with
 | cons r rr=>
  cases rr with
  | cons r' rr=>
   cases rr;cases r;cases r';let⟨its,rv,pl,hz⟩:=I1.sq hq;let⟨jts,rv',pl',hz'⟩:=I1.sq hq';let la:=pl.lt;let lb:=pl'.lt;refine Ez pl pl' λg S hk=>?_;refine Calls.spliced_nil ?_;let I2:Inv X pins U H1 {s1 with heap:=g}:=I1.kept (t':=s1.toks) hk;let D:Ld (↑s1+4) (↑s1+2) (↑s1+3) ↑s1 (↑s1+1):=by
    constructor <;> (show _≠(_:Nat)) <;> omega
   let L:∀c,c<↑s1->y6 c (↑s1+4) (↑s1+3) ↑s1 (↑s1+1):=λc hc=>by
    constructor <;> (show _≠(_:Nat)) <;> omega
   refine A6 (I2.ok.hd hc) D (L a la) (L b lb) hl hz I2 (λc hc=>?_) S hq hq' λs' H' us' l I' hn sm e pr=>{.ref l,H',I',rfl,q l H' us' sm hn e pr}
   let hb':↑s1<=c:=by
    simp only[zD,zE,or_false] at hc;rcases hc with e | e | e | e | e <;> (subst e;first | exact Nat.le_add_right _ _ | exact zm _)
   exact I1.u9 hb' (I1.b7.fresh hb')
end
end L2
namespace Sc
open PySem L2 Lm
noncomputable def mixed (c k:Int):Int:=(c%2305843009213693951+1)*(k*k+48271)*40692%2147483399
def cm (h0:0<=i) (h1:i<2^n):Sz n i:=by
 unfold Sz;let e:((2^n:Nat):Int)=(2:Int)^n:=by simp
 rw[<-e] at h1;omega
def Q4 (h1:48<=c) (h2:c<=57):c∈("0123456789": Str).cps.toList:=by
 have:c=48\/c=49\/c=50\/c=51\/c=52\/c=53\/c=54\/c=55\/c=56\/c=57:=nofun
 rcases this with rfl | rfl | rfl | rfl | rfl | rfl | rfl | rfl | rfl | rfl <;> decide
noncomputable def iA (x:Int×Int):Str:=if x.2=1 then dec x.1 else dec x.1 ++"/" ++ dec x.2
abbrev Item:=Option (Int×Int)×(Int×Int)
noncomputable def pE:Item->Str
 | (none,x)=> "r:" ++ iA x
 | (some q,x)=>dec q.1 ++":" ++ dec q.2 ++":" ++ iA x
def NW (x:Int×Int):Prop:=Rd x/\0<x.1/\x.1<10000/\x.2<10000
def NN (q:Int×Int):Prop:=-100<q.1/\q.1<100/\-100<q.2/\q.2<100/\(q.2-7*q.1)%12=0
def Li (it:Item):Prop:=NW it.2/\∀q,it.1=some q->NN q
def fR (h1:c≠45) (h2:¬(48<=c/\c<=57)):c∉(dec n).cps.toList:=by
 intro z
 by_cases h0:0<=n
 ·let⟨m,rfl⟩:=yL h0
  exact h2 (kI z)
 ·obtain⟨m,em⟩:∃m:Nat,-n=(m:Int):={(-n).toNat,nofun}
  rw[vI nofun,em,cG] at z;rcases zG.mp z with z | z
  ·let e:("-": Str).cps.toList=[45]:=rfl
   rw[e] at z;exact h1 (zA.mp z)
  ·exact h2 (kI z)
def BE (h:NW x):58∉(iA x).cps.toList:=by
 unfold iA;split
 ·exact fR ∅ ∅
 ·rw[cG,cG]
  intro z;rcases zG.mp z with z | z
  ·rcases zG.mp z with z | z
   ·exact fR ∅ ∅ z
   ·let e:("/": Str).cps.toList=[47]:=rfl
    rw[e] at z;exact absurd (zA.mp z) ∅
  ·exact fR ∅ ∅ z
def Gg (h0:0<=n) (h:n<10000):⇑(dec n)<=4:=by
 let⟨m,rfl⟩:=yL h0;exact BW ∅ nofun
abbrev jw (x:Int×Int):HO:=.tup [.int x.1,.int x.2]
inductive IP (H:Hp):V->Option (Int×Int)->Prop where
 | bI:IP H .bI none
 | ref {b:Addr} {q:Int×Int}:H b=some (jw q)->IP H (.ref b) (some q)
def IP.mono (s:au H H') (h:IP H v o):IP H' v o:=by
 cases h with
 | bI=>exact .bI
 | ref h=>exact .ref (s _ _ h)
def Us (H:Hp) (v:V) (it:Item):Prop:=∃p pv a,v=.ref p/\H p=some (.tup [pv,.ref a])/\H a=some (jw it.2)/\IP H pv it.1
noncomputable def vb:List Nat:=("0123456789": Str).cps.toList
noncomputable def rn (most:Int) (cs:List Nat):Option Int:=
 if(⇑cs:Int)<1 then none else if most<⇑cs then none else if cs.all (λc=>decide (c∈vb))=true then(if cs[0]?=some 48/\1<⇑cs then none else some ((NumText.digitsVal cs:Nat):Int)) else none
noncomputable def ov:Option Int->V
 | none=>.bI
 | some n=>.int n
noncomputable def rs (most:Int) (t:Str):Option Int:=if t.cps.toList[0]?=some 45 then(match rn most (t.cps.toList.drop 1) with | some n=>if n=0 then none else some (-n) | none=>none) else rn most t.cps.toList
noncomputable def rp (a b:Str):Option (Int×Int):=match rs 2 a,rs 2 b with
 | some f,some h=>if(h-7*f)%12=0 then some (f,h) else none
 | _,_=>none
noncomputable def NT (t:Str):Option (Int×Int):=match Txt.split t "/" with
 | [a]=>(match rn 4 a.cps.toList with | some n=>some (red n 1) | none=>none)
 | [a,b]=>(match rn 4 a.cps.toList,rn 4 b.cps.toList with | some n,some m=>if m=0 then none else some (red n m) | _,_=>none)
 | _=>none
noncomputable def lr (t:Str):Option (Int×Int):=match NT t with
 | some x=>if x.1=0 then none else some x
 | none=>none
noncomputable def ir (t:Str):Option Item:=match lr ((Txt.split t ":").getLast?.getD "") with
 | none=>none
 | some x=>if(Txt.split t ":").dropLast=[("r": Str)] then some (none,x) else match (Txt.split t ":").dropLast with
  | [a,b]=>(match rp a b with | some q=>some (some q,x) | none=>none)
  | _=>none
def Pj (H:Hp) (v:V):Option Item->Prop
 | none=>v=.bI
 | some it=>Us H v it
def F8 (h:c∈vb):48<=c/\c<=57:=by
 let e:vb=[48,49,50,51,52,53,54,55,56,57]:=rfl;rw[e] at h;simp at h;omega
def Md (h:rn most cs=some n) (hm:most<=4):0<=n/\n<10000/\(cs.all (λc=>decide (c∈vb))=true):=by
 unfold rn at h;split at h
 ·cases h
 ·split at h
  ·cases h
  ·split at h
   ·rename_i h1 h2 h3
    split at h
    ·cases h
    ·cases h
     refine{Int.natCast_nonneg _,?_,h3};let hl:⇑cs<=4:=nofun
     let key:∀(l:List Nat) (a:Nat),l.all (λc=>decide (c∈vb))=true->l.foldl (λacc c=>acc*10+(c-48)) a<(a+1)*10^⇑l:=by
      intro l
      induction l with
      | nil=>intro a _;simp
      | cons c l ih=>
       intro a ha;rw[List.all_cons,zO] at ha;let i3:=F8 (ye ha.1);let i1:=ih (a*10+(c-48)) ha.2;let i2:(a*10+(c-48)+1)*10^⇑l<=((a+1)*10)*10^⇑l:=Nat.mul_le_mul_right _ nofun;rw[List.foldl_cons,zv,Nat.pow_succ,Nat.mul_comm (10^⇑l) 10,<-Nat.mul_assoc];exact yc i1 i2
     let k1:NumText.digitsVal cs<10^⇑cs:=by have:=key cs 0 h3;rw[Nat.zero_add,Nat.one_mul] at this;exact this
     let k2:10^⇑cs<=10^4:=Nat.pow_le_pow_right ∅ hl;omega
   ·cases h
def IB (h:cs.all (λc=>decide (c∈vb))=true):NumText.AllDigits cs:=λc hc=>by
 have:=(yp.mp h) c hc;exact F8 (ye this)
inductive jz (vs:List V) (H:Hp) (Q:VK) (E:XK):Prop
 | mk (a b:Int) (_:vs=[.int a,.int b]) (_:0<=a) (_:0<=b) (_:Q (.int (Int.gcd a b:Nat)) H)
inductive fK (vs:List V) (H:Hp) (Q:VK) (E:XK):Prop
 | mk (t b:Int) (_:vs=[.int t,.int b]) (_:0<=t) (_:0<b) (_:Sz 8999 b) (_:∀p H',au H H'->H' p=some (jw (red t b))->Q (.ref p) H')
inductive L3 (vs:List V) (H:Hp) (Q:VK) (E:XK):Prop
 | mk (x y:Int×Int) (p q:Addr) (n m:Nat) (_:vs=[.ref p,.ref q]) (_:H p=some (jw x)) (_:H q=some (jw y)) (_:Rd x) (_:Rd y) (_:y8 n x) (_:y8 m y) (_:n+m<=8999) (_:∀r H',au H H'->H' r=some (jw (add x y))->Q (.ref r) H')
inductive Hf (vs:List V) (H:Hp) (Q:VK) (E:XK):Prop
 | mk (x y:Int×Int) (p q:Addr) (_:vs=[.ref p,.ref q]) (_:H p=some (jw x)) (_:H q=some (jw y)) (_:y8 8999 x) (_:y8 8999 y) (_:Q (.bl (decide (x.1*y.2<y.1*x.2))) H)
inductive Aj (vs:List V) (H:Hp) (Q:VK) (E:XK):Prop
 | mk (c k:Int) (_:vs=[.int c,.int k]) (_:0<=k) (_:k<1000000) (_:Q (.int (mixed c k)) H)
abbrev wc:Sp:=fK
inductive gU (vs:List V) (H:Hp) (Q:VK) (E:XK):Prop
 | mk (t:Str) (most:Int) (_:vs=[.str t,.int most]) (_:⇑t<=600) (_:∀H',au H H'->Q (ov (rn most t.cps.toList)) H')
inductive lW (vs:List V) (H:Hp) (Q:VK) (E:XK):Prop
 | mk (t:Str) (most:Int) (_:vs=[.str t,.int most]) (_:⇑t<=600) (_:∀H',au H H'->Q (ov (rs most t)) H')
inductive mP (vs:List V) (H:Hp) (Q:VK) (E:XK):Prop
 | mk (a b:Str) (_:vs=[.str a,.str b]) (_:⇑a<=600) (_:⇑b<=600) (_:∀v H',au H H'->IP H' v (rp a b)->Q v H')
def lV (C:Addr):Sp:=λvs H Q E=>∃(t:Str),vs=[.str t]/\⇑t<=600/\(∀x,NT t=some x->∀p H',au H H'->H' p=some (jw x)->Q (.ref p) H')/\(NT t=none->∀H',au H H'->E (.ref C) none H')
def gM:Sp:=λvs H Q _=>∃(t:Str),vs=[.str t]/\⇑t<=600/\∀v H',au H H'->IP H' v (lr t)->Q v H'
def oz:Sp:=λvs H Q _=>∃(t:Str),vs=[.str t]/\⇑t<=600/\∀v H',au H H'->Pj H' v (ir t)->Q v H'
noncomputable def dL (x:Int×Int):Dt:=.tup [.int x.1,.int x.2]
noncomputable def dO (f:α->Dt):Option α->Dt
 | none=>.bI
 | some x=>f x
noncomputable def eM (it:Item):Dt:=.tup [dO dL it.1,dL it.2]
noncomputable def jQ (l:List Int):Dt:=.tup (l.map .int)
noncomputable def mr (l:List Str):Dt:=.tup (l.map .str)
abbrev End:=Int×List Int
noncomputable def mG (e:End):Dt:=.tup [.int e.1,jQ e.2]
structure Rep where
 first:Int
 last:Int
 times:Int
 ends:List End
noncomputable def gq (r:Rep):Dt:=.tup [.int r.first,.int r.last,.int r.times,.tup (r.ends.map mG)]
structure Lv where
 aP:Int×Int
 key:Int
 marks:List Str
noncomputable def kJ (b:Lv):Dt:=.tup [dL b.aP,.int b.key,mr b.marks]
structure Jump where
 vE:Int
 y7:Int
 dy:Int
 gw:Option Int
noncomputable def jP (j:Jump):Dt:=.tup [.int j.vE,.int j.y7,.int j.dy,dO .int j.gw]
noncomputable def words (t:Str):List Str:=(Txt.split t " ").filter λw=>decide (w≠ "")
noncomputable def sgn:List Nat:=("abcdefghijklmnopqrstuvwxyz0123456789": Str).cps.toList
noncomputable def cK (t:Str):Option Str:=if(⇑t:Int)<1 then none else if(12:Int)<⇑t then none else if t.cps.toList.all (λc=>decide (c∈sgn))=true then some t else none
noncomputable def os:Option Str->V
 | none=>.bI
 | some x=>.str x
noncomputable def fA (t:Str):Option Int:=rn 3 t.cps.toList
noncomputable def l6 (t:Str) (lo hi:Int):Option Int:=match fA t with
 | some n=>if n<lo then none else if hi<n then none else some n
 | none=>none
noncomputable def wH (a b:Str):Option (Int×Int):=match rp a b with
 | some q=>if 12<(if q.1<0 then -q.1 else q.1) then none else some q
 | none=>none
noncomputable def A9:List Int:=[1,2,4,8,16,32]
noncomputable def iU (t:Str):Option (Int×Int):=match Txt.split t "/" with
 | [a,b]=>(match l6 a 1 32,fA b with | some m,some n=>if n∈A9 then some (m,n) else none | _,_=>none)
 | _=>none
noncomputable def Fh (t:Str):Option Int:=match rs 3 t with
 | some k=>if 7<(if k<0 then -k else k) then none else some k
 | none=>none
noncomputable def nF:List (Option α)->Option (List α)
 | []=>some []
 | none::_=>none
 | some x::r=>match nF r with
  | some l=>some (x::l)
  | none=>none
noncomputable def wI (t:Str):Option End:=match Txt.split t ":" with
 | [a,b]=>(match fA a,nF ((Txt.split b ",").map fA) with | some n,some ps=>some (n,ps) | _,_=>none)
 | _=>none
noncomputable def lh:List Str->Option (Str×(Int×Int)×(Int×Int))
 | [a,b,c,d]=>(match cK a,wH b c,NT d with | some n,some t,some l=>some (n,t,l) | _,_,_=>none)
 | _=>none
noncomputable def o9 (ws:List Str):Option (Str×List Str):=match ws with
 | a::b::r=>(match nF ((a::b::r).map cK) with | some (n::ps)=>some (n,ps) | _=>none)
 | _=>none
noncomputable def AD:List Str->Option Lv
 | m::k::ms=>(match nF (ms.map cK) with | some l=>(match iU m,Fh k with | some x,some y=>some {(x),y,l} | _,_=>none) | none=>none)
 | _=>none
noncomputable def qG:List Str->Option (Str×Int×Str)
 | [a,b,c]=>(match cK a,fA b,cK c with | some x,some y,some z=>some (x,y,z) | _,_,_=>none)
 | _=>none
noncomputable def jX:List Str->Option (Int×Str×List Item)
 | b::p::i::r=>(match nF ((i::r).map ir) with | some l=>if l.all (λit=>it.1.isNone)=true then none else(match fA b,cK p with | some x,some y=>some (x,y,l) | _,_=>none) | none=>none)
 | _=>none
noncomputable def jF:List Str->Option Rep
 | a::b::c::r=>(match nF (r.map wI) with | some l=>(match fA a,fA b,l6 c 2 9 with | some x,some y,some z=>some {(x),y,z,l} | _,_,_=>none) | none=>none)
 | _=>none
noncomputable def tZ:List Str->Option Jump
 | [a,b,c,d]=>(match fA a,fA b,fA c with | some x,some y,some z=>(match fA d with | some n=>some {x,y,z,some n} | none=>if d ="end" then some {(x),y,z,none} else none) | _,_,_=>none)
 | _=>none
noncomputable def one (f:Str->Option α):List Str->Option α
 | [w]=>f w
 | _=>none
inductive Told where
 | bH (n:Str)
 | cL (n:Str) (t l:Int×Int)
 | cq (n:Str) (ps:List Str)
 | bar (b:Lv)
 | aF (l:Int×Int)
 | holds (p:Str) (b:Int) (i:Str)
 | aI (b:Int) (p:Str) (its:List Item)
 | rep (r:Rep)
 | bT (j:Jump)
noncomputable def nO:List Str->Option Told
 | []=>none
 | w::r=>
  if w ="player" then(one cK r).map .bH
  else if w ="instrument" then(lh r).map λx=>.cL x.1 x.2.1 x.2.2
  else if w ="staff" then(o9 r).map λx=>.cq x.1 x.2
  else if w ="bar" then(AD r).map .bar
  else if w ="upbeat" then(one lr r).map .aF
  else if w ="holds" then(qG r).map λx=>.holds x.1 x.2.1 x.2.2
  else if w ="notes" then(jX r).map λx=>.aI x.1 x.2.1 x.2.2
  else if w ="repeat" then(jF r).map .rep
  else if w ="jump" then(tZ r).map .bT
  else none
noncomputable def dz (r:Rep):List (Int×Int×List Int):=(r.ends.zip ((r.ends.drop 1).map (·.1)++[r.last+1])).map λp=>(p.1.1,p.2-1,p.1.2)
noncomputable def sortI (l:List Int):List Int:=l.mergeSort
noncomputable def fP:List End->Int->List Int->Option (Int×List Int)
 | [],a,ps=>some (a,ps)
 | e::r,a,ps=>if e.1<=a then none else if e.2≠sortI e.2 then none else fP r e.1 (ps++e.2)
noncomputable def Kd (lo:Int) (n:Nat):List Int:=(List.range n).map λi=>lo+(i:Nat)
noncomputable def fQ (r:Rep):Bool:=match r.ends with
 | []=>true
 | _=>(match fP r.ends (r.first-1) [] with | none=>false | some (a,ps)=>decide (a<=r.last)&&decide (sortI ps=Kd 1 (r.times+1-1).toNat))
noncomputable def kX (rs:List Rep) (r:Rep):Bool:=match rs.getLast? with
 | some q=>if r.first<=q.last then false else decide (r.first<=r.last)&&fQ r
 | none=>decide (r.first<=r.last)&&fQ r
noncomputable def dE (rs:List Rep) (b:Int):Option Rep:=rs.find? λr=>decide (r.first<=b)&&decide (b<=r.last)
noncomputable def gO (rs:List Rep) (b:Int):Bool:=match dE rs b with
 | none=>true
 | some r=>decide (b=r.last)
noncomputable def dZ (rs:List Rep) (b:Int):Bool:=match dE rs b with
 | none=>true
 | some r=>decide (b=r.first)
noncomputable def lF (rs:List Rep) (b:Int):Bool:=rs.all λr=>(dz r).all λe=>!(decide (e.1<=b)&&decide (b<=e.2.1)&&!decide (r.times∈e.2.2))
noncomputable def gR (rs:List Rep) (j:Jump):Bool:=
 if j.dy<j.y7 then false else if j.vE<j.dy then false else
 match j.gw with
 | some c=>(decide (j.vE<c)&&dZ rs c&&lF rs c)&&(gO rs j.vE&&dZ rs j.y7&&lF rs j.dy)
 | none=>gO rs j.vE&&dZ rs j.y7&&lF rs j.dy
structure bW where
 players:List Str:=[]
 ak:List (Str×(Int×Int)×(Int×Int)):=[]
 aJ:List (Str×List Str):=[]
 aK:List Lv:=[]
 aF:Option (Int×Int):=none
 holds:List (Str×List (Int×Str)):=[]
 aI:List ((Int×Str)×List Item):=[]
 repeats:List Rep:=[]
 bT:Option Jump:=none
noncomputable def bW.aP (S:bW) (b:Nat):Int×Int:=match S.aK[b]? with
 | some x=>red x.aP.1 x.aP.2
 | none=>(0,1)
noncomputable def bW.len (S:bW) (b:Nat):Int×Int:=match S.aF with
 | some u=>if b=0 then u else S.aP b
 | none=>S.aP b
noncomputable def jU (l:List Item):Int×Int:=l.foldl (λt it=>add t it.2) (0,1)
noncomputable def bW.has (S:bW) (bs:List Int):Bool:=bs.all λb=>decide (b<⇑S.aK)
noncomputable def fault (S:bW):Told->Option Str
 | .bH n=>if n∈S.players then some "twice" else if 12<=⇑S.players then some "many" else none
 | .cL n _ _=>if n∈S.ak.map (·.1) then some "twice" else if 12<=⇑S.ak then some "many" else none
 | .cq n ps=>if n∈S.aJ.map (·.1) then some "twice" else if¬ps.Nodup then some "twice" else if S.aJ.any (λq=>ps.any λp=>decide (p∈q.2))=true then some "twice" else if ps.any (λp=>!decide (p∈S.players))=true then some "name" else none
 | .bar _=>if 200<=⇑S.aK then some "many" else none
 | .aF l=>if S.aF.isSome=true then some "twice" else if ⇑S.aK=0 then some "bar" else if¬l.1*(S.aP 0).2<(S.aP 0).1*l.2 then some "length" else if S.aI.any (λp=>decide (p.1.1=0))=true then some "length" else none
 | .holds p b i=>
  let hs:=(S.holds.lookup p).getD []
  if(match hs.getLast? with | some q=>decide (b<=q.1) | none=>false)=true then some "twice" else if p∉S.players then some "name" else if i∉S.ak.map (·.1) then some "name" else if¬S.has [b]=true then some "bar" else if 20<=⇑hs then some "many" else none
 | .aI b p its=>if(b,p)∈S.aI.map (·.1) then some "twice" else if p∉S.players then some "name" else if¬S.has [b]=true then some "bar" else if jU its≠S.len b.toNat then some "length" else if 40<⇑its then some "many" else none
 | .rep r=>if¬S.has ([r.first,r.last]++r.ends.map (·.1))=true then some "bar" else if S.bT.isSome=true then some "form" else if¬kX S.repeats r=true then some "form" else if 20<=⇑S.repeats then some "many" else none
 | .bT j=>if S.bT.isSome=true then some "twice" else if¬S.has ([j.vE,j.y7,j.dy]++j.gw.toList)=true then some "bar" else if¬gR S.repeats j=true then some "form" else none
noncomputable def eX (hs:List (Str×List (Int×Str))) (p:Str) (h:Int×Str):List (Str×List (Int×Str)):=
 if p∈hs.map (·.1) then hs.map λq=>if q.1=p then(q.1,q.2++[h]) else q else hs++[(p,[h])]
noncomputable def bM (S:bW):Told->bW
 | .bH n=>{S with players:=S.players++[n]}
 | .cL n t l=>{S with ak:=S.ak++[(n,t,l)]}
 | .cq n ps=>{S with aJ:=S.aJ++[(n,ps)]}
 | .bar b=>{S with aK:=S.aK++[b]}
 | .aF l=>{S with aF:=some l}
 | .holds p b i=>{S with holds:=eX S.holds p (b,i)}
 | .aI b p its=>{S with aI:=S.aI++[((b,p),its)]}
 | .rep r=>{S with repeats:=S.repeats++[r]}
 | .bT j=>{S with bT:=some j}
theorem cX (h:Is H d v):∀{ds:List Dt} {vs:List V},aD H ds vs->aD H (ds++[d]) (vs++[v])
 | [],_,q=>by unfold aD at q;subst q;show aD H [d] [v];unfold aD;exact{v,[],rfl,h,by unfold aD;rfl}
 | c::ds,_,q=>by
  unfold aD at q;let⟨u,r,rfl,h1,h2⟩:=q;show aD H (c::(ds++[d])) (u::(r++[v]));unfold aD;exact{u,_,rfl,h1,cX h h2}
def BN (h:aH K H p xs) (hi:i<⇑xs):(Lh K p).go i H:={xs,xs[i],h,zd hi}
def Dn (h:cY K H p xs) (hi:i<⇑xs):(Ph K p).go i H:={xs,xs[i],h,zd hi}
def eO (e:au H H') (h:H a=some (.tup xs)):cY K H' a xs:=cY.of (e _ _ h)
theorem _root_.L2.au.back (s:au H H') (h:H' a=none):H a=none:=by
 cases q:H a with
 | none=>rfl
 | some u=>rw[s _ _ q] at h;cases h
def nr {α:Type} {J:It} {ws:List α} {enc:α->V} {U₀:St} {g:TG} {te:TE} {Q:VK} {H1:Hp} (F:α->Dt) (Pσ:St->Prop) (hn:⇑ws<=sizeLine) (h0:Pσ U₀)
  (go:∀i H,i<⇑ws->au H1 H->J.go i H) (stop:∀H,au H1 H->J.stop ⇑ws H) (yl:∀(i:Nat) x H H2 (hi:i<⇑ws),au H1 H->J.JR i H x H2->H2=H/\x=enc ws[i])
  (turn:∀(a:α) (U:St) (H:Hp) (R:St->V->Hp->Prop),a∈ws->au H1 H->Pσ U->(∀U3 y H5,au H H5->Is H5 (F a) y->Pσ U3->R U3 y H5)->g (enc a) U H λU3 H3=>te U3 H3 λy H5=>R U3 y H5)
  (fin:∀D vs H,au H1 H->H1 D=none->H D=some (.lst vs)->aD H (ws.map F) vs->Q (.ref D) H):dh U₀ g rS te Q J H1:=by
 refine{λi m xs U H=>m=⇑ws-i/\i<=⇑ws/\⇑xs=i/\au H1 H/\aD H ((ws.take i).map F) xs/\Pσ U,{_,rfl,yg _,rfl,au.refl _,by simp[aD],h0},?_};rintro i m xs U H ⟨rfl,hi,hx,sm,il,pσ⟩;rcases Nat.lt_or_ge i ⇑ws with hlt | hge
 ·refine .inr {go i H hlt sm,nofun,?_}
  intro x H2 hy;let⟨rfl,rfl⟩:=yl i x H H2 hlt sm hy;refine turn ws[i] U H2 (λU3 y H5=>if true=true then∃m',m'<⇑ws-i/\(m'=⇑ws-(i+1)/\i+1<=⇑ws/\⇑(xs++[y])=i+1/\au H1 H5/\aD H5 ((ws.take (i+1)).map F) (xs++[y])/\Pσ U3) else False) (ym hlt) sm pσ ?_;rintro U3 y H5 s5 iy p3;rw[if_pos rfl];refine{_,nofun,rfl,hlt,by simp[hx],sm.trans s5,?_,p3};rw[List.take_add_one,zd hlt,zk];exact cX iy (il.mono s5)
 ·let e:i=⇑ws:=nofun
  subst e;refine .inl {stop H sm,nofun,λD hD=>?_};let il':aD H (ws.map F) xs:=by rw[zN] at il;exact il
  exact fin D xs _ (sm.trans (bq hD)) (sm.back hD) aB (il'.mono (bq hD))
def xS {α:Type} {J:It} {ws:List α} {enc:α->V} {U₀:St} {g:TG} {te:TE} {Q:VK} {H1:Hp} (F:α->Dt) (Pσ:St->Prop) (hn:⇑ws<=sizeLine) (h0:Pσ U₀)
  (go:∀i H,i<⇑ws->au H1 H->J.go i H) (stop:∀H,au H1 H->J.stop ⇑ws H) (yl:∀(i:Nat) x H H2 (hi:i<⇑ws),au H1 H->J.JR i H x H2->H2=H/\x=enc ws[i])
  (turn:∀(a:α) (U:St) (H:Hp) (R:St->V->Hp->Prop),a∈ws->au H1 H->Pσ U->(∀U3 y H5,au H H5->Is H5 (F a) y->Pσ U3->R U3 y H5)->g (enc a) U H λU3 H3=>te U3 H3 λy H5=>R U3 y H5)
  (fin:∀D vs H,au H1 H->H D=some (.lst vs)->aD H (ws.map F) vs->Q (.ref D) H):dh U₀ g rS te Q J H1:=nr F Pσ hn h0 go stop yl turn λD vs H s _=>fin D vs H s
def dU {K:yB} {α:Type} {p:Addr} {ws:List α} {enc:α->V} {U₀:St} {g:TG} {te:TE} {Q:VK} {H1:Hp} (F:α->Dt) (Pσ:St->Prop) (hn:⇑ws<=sizeLine) (hp:aH K H1 p (ws.map enc)) (h0:Pσ U₀)
  (turn:∀(a:α) (U:St) (H:Hp) (R:St->V->Hp->Prop),a∈ws->au H1 H->Pσ U->(∀U3 y H5,au H H5->Is H5 (F a) y->Pσ U3->R U3 y H5)->g (enc a) U H λU3 H3=>te U3 H3 λy H5=>R U3 y H5)
  (fin:∀D vs H,au H1 H->H1 D=none->H D=some (.lst vs)->aD H (ws.map F) vs->Q (.ref D) H):dh U₀ g rS te Q (Lh K p) H1:=by
 refine nr F Pσ hn h0 (λi H hi sm=>BN (sm.seq hp) (by rw[za];exact hi)) (λH sm=>{_,sm.seq hp,by rw[za];exact zm _}) ?_ turn fin;rintro i x H H2 hi sm ⟨rfl,hy⟩;let hx':=hy _ (sm.seq hp);rw[zK,zd hi] at hx';cases hx';exact{(rfl),rfl}
def eW {K:yB} {α:Type} {p:Addr} {ws:List α} {enc:α->V} {U₀:St} {g:TG} {te:TE} {Q:VK} {H1:Hp} (F:α->Dt) (Pσ:St->Prop) (hn:⇑ws<=sizeLine) (hp:aH K H1 p (ws.map enc)) (h0:Pσ U₀)
  (turn:∀(a:α) (U:St) (H:Hp) (R:St->V->Hp->Prop),a∈ws->au H1 H->Pσ U->(∀U3 y H5,au H H5->Is H5 (F a) y->Pσ U3->R U3 y H5)->g (enc a) U H λU3 H3=>te U3 H3 λy H5=>R U3 y H5)
  (fin:∀D vs H,au H1 H->H D=some (.lst vs)->aD H (ws.map F) vs->Q (.ref D) H):dh U₀ g rS te Q (Lh K p) H1:=by
 refine xS F Pσ hn h0 (λi H hi sm=>BN (sm.seq hp) (by rw[za];exact hi)) (λH sm=>{_,sm.seq hp,by rw[za];exact zm _}) ?_ turn fin;rintro i x H H2 hi sm ⟨rfl,hy⟩;let hx':=hy _ (sm.seq hp);rw[zK,zd hi] at hx';cases hx';exact{(rfl),rfl}
def gr {K:yB} {α:Type} {p:Addr} {ws:List α} {enc:α->V} {U₀:St} {g:TG} {te:TE} {Q:VK} {H1:Hp} (F:α->Dt) (Pσ:St->Prop) (hn:⇑ws<=sizeLine) (hp:H1 p=some (.tup (ws.map enc))) (h0:Pσ U₀)
  (turn:∀(a:α) (U:St) (H:Hp) (R:St->V->Hp->Prop),a∈ws->au H1 H->Pσ U->(∀U3 y H5,au H H5->Is H5 (F a) y->Pσ U3->R U3 y H5)->g (enc a) U H λU3 H3=>te U3 H3 λy H5=>R U3 y H5)
  (fin:∀D vs H,au H1 H->H D=some (.lst vs)->aD H (ws.map F) vs->Q (.ref D) H):dh U₀ g rS te Q (Ph K p) H1:=by
 refine xS F Pσ hn h0 (λi H hi sm=>Dn (eO sm hp) (by rw[za];exact hi)) (λH sm=>{_,eO sm hp,by rw[za];exact zm _}) ?_ turn fin;rintro i x H H2 hi sm ⟨rfl,hy⟩;let hx':=hy _ (eO sm hp);rw[zK,zd hi] at hx';cases hx';exact{(rfl),rfl}
noncomputable def gd (v:V):Bool:=decide (v=.bI)
noncomputable def Dt.gd:Dt->Bool
 | .bI=>true
 | _=>false
def M1:∀{d:Dt} {v:V},Is H d v->gd v=Dt.gd d
 | .bI,_,h=>by unfold Is at h;subst h;rfl
 | .bl _,_,h=>by unfold Is at h;subst h;rfl
 | .int _,_,h=>by unfold Is at h;subst h;rfl
 | .str _,_,h=>by unfold Is at h;subst h;rfl
 | .tup _,_,h=>by unfold Is at h;let⟨a,vs,rfl,_⟩:=h;rfl
theorem jN:∀{ds:List Dt} {vs:List V},aD H ds vs->vs.any gd=ds.any Dt.gd
 | [],_,h=>by unfold aD at h;subst h;rfl
 | d::ds,_,h=>by
  unfold aD at h;let⟨v,r,rfl,h1,h2⟩:=h;rw[List.any_cons,List.any_cons,M1 h1,jN h2]
theorem jZ:∀{bs:List Bool} {vs:List V},aD H (bs.map Dt.bl) vs->vs=bs.map V.bl
 | [],_,h=>by unfold aD at h;exact h
 | b::bs,_,h=>by
  rw[zj] at h;unfold aD at h;let⟨v,r,rfl,h1,h2⟩:=h;unfold Is at h1;rw[h1,jZ h2];rfl
theorem dH:∀{bs:List Str} {vs:List V},aD H (bs.map Dt.str) vs->vs=bs.map V.str
 | [],_,h=>by unfold aD at h;exact h
 | b::bs,_,h=>by
  rw[zj] at h;unfold aD at h;let⟨v,r,rfl,h1,h2⟩:=h;unfold Is at h1;rw[h1,dH h2];rfl
theorem dS:∀{bs:List Int} {vs:List V},aD H (bs.map Dt.int) vs->vs=bs.map V.int
 | [],_,h=>by unfold aD at h;exact h
 | b::bs,_,h=>by
  rw[zj] at h;unfold aD at h;let⟨v,r,rfl,h1,h2⟩:=h;unfold Is at h1;rw[h1,dS h2];rfl
theorem Ce:∀{bs:List Str},aD H (bs.map Dt.str) (bs.map V.str)
 | []=>by simp[aD]
 | b::bs=>by rw[zj,zj];unfold aD;exact{_,_,rfl,by unfold Is;rfl,Ce}
theorem q9:∀{bs:List Int},aD H (bs.map Dt.int) (bs.map V.int)
 | []=>by simp[aD]
 | b::bs=>by rw[zj,zj];unfold aD;exact{_,_,rfl,by unfold Is;rfl,q9}
def IU (d:α->Dt):Prop:=∀a,Dt.gd (d a)=false
theorem iS {α:Type} {d:α->Dt} (f:IU d):∀{l:List (Option α)},(l.map (dO d)).any Dt.gd=true->nF l=none
 | [],h=>by cases h
 | none::_,_=>rfl
 | some x::r,h=>by
  rw[zj,List.any_cons] at h;let e:Dt.gd (dO d (some x))=false:=f x;rw[e,Bool.false_or] at h;show(match nF r with | some l=>some (x::l) | none=>none)=none;rw[iS f h]
theorem iR:∀{l:List (Option α)},(l.map (dO d)).any Dt.gd=false->∃xs,nF l=some xs/\l.map (dO d)=xs.map d/\⇑xs=⇑l
 | [],_=>{[],rfl,rfl,rfl}
 | none::_,h=>by cases h
 | some x::r,h=>by
  rw[zj,List.any_cons,Bool.or_eq_false_iff] at h;let⟨xs,e1,e2,e3⟩:=iR h.2;refine{x::xs,?_,?_,by simp[e3]}
  ·show(match nF r with | some l=>some (x::l) | none=>none)=_
   rw[e1]
  ·rw[zj,zj,e2];rfl
def F5:IU Dt.str:=λ_=>rfl
def Nb:IU Dt.int:=λ_=>rfl
def Q3:IU dL:=λ_=>rfl
def Nc:IU mG:=λ_=>rfl
def KG:IU eM:=λ_=>rfl
def xk (h:IP H v o):Is H (dO dL o) v:=by
 cases h with
 | bI=>unfold dO Is;rfl
 | ref h=>exact iB h
def fc (h:Is H (dO dL o) v):IP H v o:=by
 cases o with
 | none=>unfold dO Is at h;subst h;exact .bI
 | some q=>
  unfold dO dL Is at h;let⟨a,vs,rfl,ha,hl⟩:=h;let e:[Dt.int q.1,Dt.int q.2]=[q.1,q.2].map Dt.int:=rfl;rw[e] at hl;rw[dS hl] at ha;exact .ref ha
def xm (o:Option Int):Is H (dO .int o) (ov o):=by cases o <;> (unfold dO Is;rfl)
def BI (o:Option Str):Is H (dO .str o) (os o):=by cases o <;> (unfold dO Is;rfl)
def Se (h:Pj H v o):Is H (dO eM o) v:=by
 cases o with
 | none=>unfold dO Is;exact h
 | some it=>
  let⟨p,pv,a,rfl,h1,h2,h3⟩:=h;unfold dO eM;unfold Is;refine{p,_,rfl,h1,?_};unfold aD;refine{_,_,rfl,xk h3,?_};unfold aD;exact{_,_,rfl,iB h2,by unfold aD;rfl}
def EO:Sp:=λvs H Q _=>∃(t:Str),vs=[.str t]/\⇑t<=1000000/\∀p H',au H H'->H' p=some (.lst ((words t).map V.str))->Q (.ref p) H'
def kR:Sp:=λvs H Q _=>∃(t:Str),vs=[.str t]/\⇑t<=600/\∀H',au H H'->Q (os (cK t)) H'
def jV:Sp:=λvs H Q _=>∃(t:Str),vs=[.str t]/\⇑t<=600/\∀H',au H H'->Q (ov (fA t)) H'
inductive v8 (vs:List V) (H:Hp) (Q:VK) (E:XK):Prop
 | mk (t:Str) (lo hi:Int) (_:vs=[.str t,.int lo,.int hi]) (_:⇑t<=600) (_:∀H',au H H'->Q (ov (l6 t lo hi)) H')
def Co:Sp:=λvs H Q _=>∃(t:Str),vs=[.str t]/\⇑t<=600/\∀v H',au H H'->IP H' v (NT t)->Q v H'
inductive Cn (vs:List V) (H:Hp) (Q:VK) (E:XK):Prop
 | mk (a b:Str) (_:vs=[.str a,.str b]) (_:⇑a<=600) (_:⇑b<=600) (_:∀v H',au H H'->IP H' v (wH a b)->Q v H')
def Ae (K:yB):Sp:=λvs H Q _=>∃(t:Str),vs=[.str t]/\⇑t<=600/\∀v H',au H H'->IP H' v (iU t)->Q v H'
def ET:Sp:=λvs H Q _=>∃(t:Str),vs=[.str t]/\⇑t<=600/\∀H',au H H'->Q (ov (Fh t)) H'
inductive Ag (K:yB) (vs:List V) (H:Hp) (Q:VK) (E:XK):Prop
 | mk (a:Addr) (us:List V) (_:vs=[.ref a]) (_:aH K H a us) (_:⇑us<=1000000) (_:∀H',au H H'->Q (if us.any gd=true then .bI else .ref a) H')
inductive Af (vs:List V) (H:Hp) (Q:VK) (E:XK):Prop
 | mk (a:Addr) (us:List V) (_:vs=[.ref a]) (_:H a=some (.tup us)) (_:⇑us<=1000000) (_:∀H',au H H'->Q (if us.any gd=true then .bI else .ref a) H')
def tU:Sp:=λvs H Q _=>∃(t:Str),vs=[.str t]/\⇑t<=600/\∀v H',au H H'->Is H' (dO mG (wI t)) v->Q v H'
inductive fJ (K:yB) (D:Hp->Hp->V->List Str->Prop) (vs:List V) (H:Hp) (Q:VK) (E:XK):Prop
 | mk (p:Addr) (ws:List Str) (_:vs=[.ref p]) (_:aH K H p (ws.map V.str)) (_:⇑ws<=1000000) (_:(∀x∈ws,⇑x<=600)) (_:∀v H',au H H'->D H H' v ws->Q v H')
noncomputable def d7 (x:Str×(Int×Int)×(Int×Int)):Dt:=.tup [.str x.1,dL x.2.1,dL x.2.2]
noncomputable def gn (x:Str×List Str):Dt:=.tup [.str x.1,mr x.2]
noncomputable def um (x:Str×Int×Str):Dt:=.tup [.str x.1,.int x.2.1,.str x.2.2]
def JK (H:Hp) (v:V) (x:Int×Str×List Item):Prop:=∃a q vs,v=.ref a/\H a=some (.tup [.int x.1,.str x.2.1,.ref q])/\H q=some (.lst vs)/\aD H (x.2.2.map eM) vs
def iM (H0 H:Hp) (v:V) (x:Int×Str×List Item):Prop:=∃a q vs,v=.ref a/\H a=some (.tup [.int x.1,.str x.2.1,.ref q])/\H q=some (.lst vs)/\aD H (x.2.2.map eM) vs/\H0 q=none
def iM.at (h:iM H0 H v x):JK H v x:=by
 let⟨a,q,vs,h1,h2,h3,h4,_⟩:=h;exact{(a),q,vs,h1,h2,h3,h4}
theorem iM.back (s:au H00 H0) (h:iM H0 H v x):iM H00 H v x:=by
 let⟨a,q,vs,h1,h2,h3,h4,h5⟩:=h;exact{a,q,vs,h1,h2,h3,h4,s.back h5}
def oG (d:α->Dt) (f:List Str->Option α) (_ H:Hp) (v:V) (ws:List Str):Prop:=Is H (dO d (f ws)) v
def SD (H0 H:Hp) (v:V) (ws:List Str):Prop:=match jX ws with
 | none=>v=.bI
 | some x=>iM H0 H v x
def nc (h:Is H d v):aD H [d] [v]:=by unfold aD;exact{_,_,rfl,h,by unfold aD;rfl}
def aN (h:Is H d v) (r:aD H ds vs):aD H (d::ds) (v::vs):=by unfold aD;exact{_,_,rfl,h,r}
def cD:aD H [] []:=by unfold aD;rfl
def cw (h:H a=some (.tup vs)) (r:aD H ds vs):Is H (.tup ds) (.ref a):=by unfold Is;exact{_,_,rfl,h,r}
def eK:Is H (.str x) (.str x):=by unfold Is;rfl
def cE:Is H (.int x) (.int x):=by unfold Is;rfl
def dJ:Is H .bI .bI:=by unfold Is;rfl
def fF (xs:List V) (k:Nat):ka xs (some (k:Int)) none=xs.drop k:=by
 unfold ka;rw[HT.Fd];let e:HT.eY ⇑xs 0 (some (k:Int))=min k ⇑xs:=by unfold HT.eY;simp;omega
 rw[e];rcases Nat.le_total k ⇑xs with h | h
 ·rw[Nat.min_eq_left h]
  exact List.take_of_length_le (by rw[List.length_drop];exact zm _)
 ·rw[Nat.min_eq_right h,List.drop_eq_nil_of_le (zm _),List.drop_eq_nil_of_le h,List.take_nil]
def DO (xs:List V) (k:Nat):ka xs none (some (k:Int))=xs.take k:=by
 unfold ka;rw[HT.Fd,List.drop_zero,Nat.sub_zero];let e:HT.eY ⇑xs ⇑xs (some (k:Int))=min k ⇑xs:=by unfold HT.eY;simp;omega
 rw[e];rcases Nat.le_total k ⇑xs with h | h
 ·rw[Nat.min_eq_left h]
 ·rw[Nat.min_eq_right h,List.take_of_length_le (zm _),List.take_of_length_le h]
def o7 (a b:Str) (r:List Str):o9 (a::b::r)=(match nF ((a::b::r).map cK) with | some (n::ps)=>some (n,ps) | _=>none):=rfl
def gz (H0 H:Hp) (v:V):Option Told->Prop
 | none=>v=.bI
 | some (.bH n)=>v=.str n
 | some (.cL n t l)=>Is H (d7 (n,t,l)) v
 | some (.cq n ps)=>Is H (gn (n,ps)) v
 | some (.bar b)=>Is H (kJ b) v
 | some (.aF l)=>Is H (dL l) v
 | some (.holds p b i)=>Is H (um (p,b,i)) v
 | some (.aI b p its)=>iM H0 H v (b,p,its)
 | some (.rep r)=>Is H (gq r) v
 | some (.bT j)=>Is H (jP j) v
inductive ES (K:yB) (vs:List V) (H:Hp) (Q:VK) (E:XK):Prop
 | mk (p:Addr) (x:Str) (ws:List Str) (_:vs=[.ref p]) (_:aH K H p ((x::ws).map V.str)) (_:⇑ws<=999999) (_:(∀y∈x::ws,⇑y<=600)) (_:∀v H',au H H'->gz H H' v (nO (x::ws))->Q v H')
def mK (h:Is H (dO d o) v) (hg:∀x,Is H (d x) v->gz H0 H v (some (g x))):gz H0 H v (o.map g):=by
 cases o with
 | none=>unfold dO Is at h;exact h
 | some x=>exact hg x h
theorem gz.back (s:au H00 H0):∀{t:Option Told},gz H0 H v t->gz H00 H v t
 | none,h=>h
 | some (.bH _),h=>h
 | some (.cL _ _ _),h=>h
 | some (.cq _ _),h=>h
 | some (.bar _),h=>h
 | some (.aF _),h=>h
 | some (.holds _ _ _),h=>h
 | some (.aI _ _ _),h=>iM.back s h
 | some (.rep _),h=>h
 | some (.bT _),h=>h
def cM {α:Type} {l:List α} {i:Nat} {x:α} (h:l[i]?=some x):l.take (i+1)=l.take i++[x]:=by rw[List.take_add_one,h];rfl
theorem Jx:∀{l:List α} {i:Nat} {x:α},l[i]?=some x->(l.take i).find? p=none->p x=true->l.find? p=some x
 | [],i,x,h,_,_=>by simp at h
 | y::l,0,x,h,_,hx=>by simp at h;subst h;rw[List.find?_cons,hx]
 | y::l,i+1,x,h,hn,hx=>by
  rw[List.take_succ_cons,List.find?_cons] at hn;rw[List.find?_cons];cases q:p y with
  | true=>rw[q] at hn;cases hn
  | false=>rw[q] at hn;exact Jx (by simpa using h) hn hx
def BP {α:Type} {p:α->Bool} {l:List α} {i:Nat} {x:α} (h:l[i]?=some x) (hn:(l.take i).find? p=none) (hx:p x=false):(l.take (i+1)).find? p=none:=by
 rw[cM h,List.find?_append,hn];simp[hx]
def Bj (K:yB) (H:Hp) (p:Addr) (rs:List Rep):Prop:=∃vs,aH K H p vs/\aD H (rs.map gq) vs
theorem Bj.mono {K:yB} {H H':Hp} (s:au H H') {p:Addr} {rs:List Rep} (h:Bj K H p rs):Bj K H' p rs:=by
 let⟨vs,h1,h2⟩:=h;exact{vs,s.seq h1,h2.mono s}
def dB (h:Is H (gq r) v):∃a e,v=.ref a/\H a=some (.tup [.int r.first,.int r.last,.int r.times,.ref e])/\Is H (.tup (r.ends.map mG)) (.ref e):=by
 unfold gq Is at h;let⟨a,vs,rfl,ha,hl⟩:=h;unfold aD at hl;let⟨v1,r1,rfl,h1,hl⟩:=hl;unfold aD at hl;let⟨v2,r2,rfl,h2,hl⟩:=hl;unfold aD at hl;let⟨v3,r3,rfl,h3,hl⟩:=hl;unfold aD at hl;let⟨v4,r4,rfl,h4,hl⟩:=hl;unfold aD at hl;subst hl;unfold Is at h1 h2 h3;subst h1 h2 h3;let h4':=h4;unfold Is at h4;let⟨e,us,rfl,he,hle⟩:=h4;exact{(a),e,rfl,ha,h4'}
def pF (h:Is H (mG e) v):∃a q,v=.ref a/\H a=some (.tup [.int e.1,.ref q])/\H q=some (.tup (e.2.map V.int)):=by
 unfold mG Is at h;let⟨a,vs,rfl,ha,hl⟩:=h;unfold aD at hl;let⟨v1,r1,rfl,h1,hl⟩:=hl;unfold aD at hl;let⟨v2,r2,rfl,h2,hl⟩:=hl;unfold aD at hl;subst hl;unfold Is at h1;subst h1;unfold jQ Is at h2;let⟨q,us,rfl,hq,hle⟩:=h2;rw[dS hle] at hq;exact{(a),q,rfl,ha,hq}
def cT {H:Hp} {α:Type} {d:α->Dt} {xs:List α} {vs:List V} {i:Nat} {v:V} (h:aD H (xs.map d) vs) (e:vs[i]?=some v):∃x,xs[i]?=some x/\Is H (d x) v:=by
 let⟨c,h1,h2⟩:=h.get e;rw[zK] at h1;cases q:xs[i]? with
 | none=>rw[q] at h1;cases h1
 | some x=>rw[q] at h1;cases h1;exact{(x),rfl,h2}
def aO {H:Hp} {α:Type} {d:α->Dt} {xs:List α} {vs:List V} (h:aD H (xs.map d) vs):⇑vs=⇑xs:=by rw[h.len,za]
inductive uy (K:yB) (vs:List V) (H:Hp) (Q:VK) (E:XK):Prop
 | mk (p:Addr) (rs:List Rep) (b:Int) (_:vs=[.ref p,.int b]) (_:Bj K H p rs) (_:∀v,Is H (dO gq (dE rs b)) v->Q v H)
inductive Cp (K:yB) (vs:List V) (H:Hp) (Q:VK) (E:XK):Prop
 | mk (p:Addr) (rs:List Rep) (b:Int) (_:vs=[.ref p,.int b]) (_:Bj K H p rs) (_:Q (.bl (gO rs b)) H)
inductive Cq (K:yB) (vs:List V) (H:Hp) (Q:VK) (E:XK):Prop
 | mk (p:Addr) (rs:List Rep) (b:Int) (_:vs=[.ref p,.int b]) (_:Bj K H p rs) (_:Q (.bl (dZ rs b)) H)
noncomputable def KY (x:Int×Int×List Int):Dt:=.tup [.int x.1,.int x.2.1,jQ x.2.2]
inductive Hg (vs:List V) (H:Hp) (Q:VK) (E:XK):Prop
 | mk (v:V) (r:Rep) (_:vs=[v]) (_:Is H (gq r) v) (_:⇑r.ends<=1000000) (_:∀p us H',au H H'->H' p=some (.lst us)->aD H' ((dz r).map KY) us->Q (.ref p) H')
inductive uB (K:yB) (vs:List V) (H:Hp) (Q:VK) (E:XK):Prop
 | mk (p:Addr) (rs:List Rep) (b:Int) (_:vs=[.ref p,.int b]) (_:Bj K H p rs) (_:(∀r∈rs,⇑r.ends<=1000000)) (_:∀H',au H H'->Q (.bl (lF rs b)) H')
def xR {α:Type} {J:It} {ws:List α} {U₀:St} {g:TG} {te:TE} {Q:VK} {H1:Hp} (Y:α->V->Hp->Prop) (F:α->Dt) (Pσ:St->Prop) (hn:⇑ws<=sizeLine) (h0:Pσ U₀)
  (go:∀i H,i<⇑ws->au H1 H->J.go i H) (stop:∀H,au H1 H->J.stop ⇑ws H) (yl:∀(i:Nat) x H H2 (hi:i<⇑ws),au H1 H->J.JR i H x H2->au H H2/\Y ws[i] x H2)
  (turn:∀(a:α) (x:V) (U:St) (H:Hp) (R:St->V->Hp->Prop),a∈ws->au H1 H->Y a x H->Pσ U->(∀U3 y H5,au H H5->Is H5 (F a) y->Pσ U3->R U3 y H5)->g x U H λU3 H3=>te U3 H3 λy H5=>R U3 y H5)
  (fin:∀D vs H,au H1 H->H D=some (.lst vs)->aD H (ws.map F) vs->Q (.ref D) H):dh U₀ g rS te Q J H1:=by
 refine{λi m xs U H=>m=⇑ws-i/\i<=⇑ws/\⇑xs=i/\au H1 H/\aD H ((ws.take i).map F) xs/\Pσ U,{_,rfl,yg _,rfl,au.refl _,by simp[aD],h0},?_};rintro i m xs U H ⟨rfl,hi,hx,sm,il,pσ⟩;rcases Nat.lt_or_ge i ⇑ws with hlt | hge
 ·refine .inr {go i H hlt sm,nofun,?_}
  intro x H2 hy;let⟨s2,hY⟩:=yl i x H H2 hlt sm hy;refine turn ws[i] x U H2 (λU3 y H5=>if true=true then∃m',m'<⇑ws-i/\(m'=⇑ws-(i+1)/\i+1<=⇑ws/\⇑(xs++[y])=i+1/\au H1 H5/\aD H5 ((ws.take (i+1)).map F) (xs++[y])/\Pσ U3) else False) (ym hlt) (sm.trans s2) hY pσ ?_;rintro U3 y H5 s5 iy p3;rw[if_pos rfl];refine{_,nofun,rfl,hlt,by simp[hx],(sm.trans s2).trans s5,?_,p3};rw[List.take_add_one,zd hlt,zk];exact cX iy (il.mono (s2.trans s5))
 ·let e:i=⇑ws:=nofun
  subst e;refine .inl {stop H sm,nofun,λD hD=>?_};let il':aD H (ws.map F) xs:=by rw[zN] at il;exact il
  exact fin D xs _ (sm.trans (bq hD)) aB (il'.mono (bq hD))
structure Ow where
 dx:Addr
 pl:Addr
 ins:Addr
 st:Addr
 ba:Addr
 ho:Addr
 no:Addr
 re:Addr
 hs:List Addr
 ns:List Addr
noncomputable def Ow.lists (o:Ow):List Addr:=[o.pl,o.ba,o.re]++o.hs++o.ns
noncomputable def Of (o:Ow) (ub jm:V):List (Str×V):=[("players",.ref o.pl),("instruments",.ref o.ins),("staffs",.ref o.st),("bars",.ref o.ba),("upbeat",ub),("holds",.ref o.ho),("notes",.ref o.no),("repeats",.ref o.re),("jump",jm)]
noncomputable def kS (x:Str):Key:=Sum.inr x
noncomputable def kN (x:Int×Str):List Key:=[Sum.inl x.1,Sum.inr x.2]
noncomputable def Nw (x:Str×(Int×Int)×(Int×Int)):Dt:=.tup [dL x.2.1,dL x.2.2]
noncomputable def O6 (x:Str×List Str):Dt:=mr x.2
noncomputable def JC (x:Int×Str):Dt:=.tup [.int x.1,.str x.2]
def cg (H:Hp) (d:α->Dt):List (List α)->List Addr->Prop
 | [],as=>as=[]
 | l::r,as=>∃a t vs,as=a::t/\H a=some (.lst vs)/\aD H (l.map d) vs/\cg H d r t
inductive UA (C:Addr) (H:Hp) (a:Addr) (o:Ow) (u:Option (Int×Int)) (j:Option Jump):Prop
 | mk (ub jm:V) (_:H a=some (.ins C o.dx (Of o ub jm))) (_:Is H (dO dL u) ub) (_:Is H (dO jP j) jm)
inductive NO {α:Type} (H:Hp) (d:α->Dt) (a:Addr) (l:List α):Prop
 | mk (vs:List V) (_:H a=some (.lst vs)) (_:aD H (l.map d) vs)
inductive Pn {α:Type} (H:Hp) (d:Str×α->Dt) (a:Addr) (l:List (Str×α)):Prop
 | mk (vs:List V) (_:H a=some (.dK ((l.map λx=>kS x.1).zip vs))) (_:aD H (l.map d) vs)
structure bY (C:Addr) (H:Hp) (a:Addr) (S:bW) (o:Ow):Prop where
 obj:UA C H a o S.aF S.bT
 pl:H o.pl=some (.lst (S.players.map V.str))
 ins:Pn H Nw o.ins S.ak
 st:Pn H O6 o.st S.aJ
 ba:NO H kJ o.ba S.aK
 ho:H o.ho=some (.dK ((S.holds.map λx=>kS x.1).zip (o.hs.map V.ref)))/\cg H JC (S.holds.map (·.2)) o.hs
 no:H o.no=some (.dT ((S.aI.map λx=>kN x.1).zip (o.ns.map V.ref)))/\cg H eM (S.aI.map (·.2)) o.ns
 re:NO H gq o.re S.repeats
 nd:o.lists.Nodup
 dd:[o.ins,o.st,o.ho].Nodup
theorem cg.mono (s:au H H'):∀{ls:List (List α)} {as:List Addr},cg H d ls as->cg H' d ls as
 | [],_,h=>h
 | l::r,_,⟨a,t,vs,e,h1,h2,h3⟩=>{a,t,vs,e,s _ _ h1,h2.mono s,cg.mono s h3}
theorem bY.mono (s:au H H') (h:bY C H a S o):bY C H' a S o where
 obj:=by let⟨ub,jm,h1,h2,h3⟩:=h.obj;exact{ub,jm,s _ _ h1,h2.mono s,h3.mono s}
 pl:=s _ _ h.pl
 ins:=by let⟨vs,h1,h2⟩:=h.ins;exact{vs,s _ _ h1,h2.mono s}
 st:=by let⟨vs,h1,h2⟩:=h.st;exact{vs,s _ _ h1,h2.mono s}
 ba:=by let⟨vs,h1,h2⟩:=h.ba;exact{vs,s _ _ h1,h2.mono s}
 ho:={s _ _ h.ho.1,h.ho.2.mono s}
 no:={s _ _ h.no.1,h.no.2.mono s}
 re:=by let⟨vs,h1,h2⟩:=h.re;exact{vs,s _ _ h1,h2.mono s}
 nd:=h.nd
 dd:=h.dd
def cj (o:Option HO):Prop:=∀vs,o≠some (.tup vs)
mutual
theorem Is.upd (hx:cj (H x)):∀{d:Dt} {v:V},Is H d v->Is (upd H x o) d v
 | .bI,_,h=>by unfold Is at h ⊢;exact h
 | .bl _,_,h=>by unfold Is at h ⊢;exact h
 | .int _,_,h=>by unfold Is at h ⊢;exact h
 | .str _,_,h=>by unfold Is at h ⊢;exact h
 | .tup l,_,h=>by
  unfold Is at h ⊢;let⟨a,vs,e,ha,hl⟩:=h;let ne:a≠x:=λz=>hx vs (by rw[<-z];exact ha);exact{a,vs,e,by rw[aC ne];exact ha,aD.upd hx hl}
theorem aD.upd (hx:cj (H x)):∀{l:List Dt} {vs:List V},aD H l vs->aD (L2.upd H x o) l vs
 | [],_,h=>by unfold aD at h ⊢;exact h
 | d::l,_,h=>by
  unfold aD at h ⊢;let⟨v,r,e,hv,hr⟩:=h;exact{v,r,e,Is.upd hx hv,aD.upd hx hr}
end
theorem cg.upd (hx:cj (H x)):∀{ls:List (List α)} {as:List Addr},x∉as->cg H d ls as->cg (L2.upd H x o) d ls as
 | [],_,_,h=>h
 | l::r,_,nx,⟨a,t,vs,e,h1,h2,h3⟩=>by
  subst e;let ne:a≠x:=λz=>nx (by rw[z];exact zr);exact{a,t,vs,rfl,by rw[aC ne];exact h1,aD.upd hx h2,cg.upd hx (λz=>nx (zp _ z)) h3}
structure Cf (K:yB) (C:Addr):Prop where
 cls:Po K C
 players:eN K C "players"
 ak:eN K C "instruments"
 aJ:eN K C "staffs"
 aK:eN K C "bars"
 aF:eN K C "upbeat"
 holds:eN K C "holds"
 aI:eN K C "notes"
 repeats:eN K C "repeats"
 bT:eN K C "jump"
def O2 (n:Nat):NumText.digitsVal (dec (n:Int)).cps.toList=n:=by rw[vJ];exact PySem.W.KIN.val_back n
def Qt {most:Int} {n k:Nat} (hk:0<k) (hm:(k:Int)<=most) (h:n<10^k):rn most (dec (n:Int)).cps.toList=some (n:Int):=by
 let l1:=Gf (n:=n);let l2:=BW hk h;let el:⇑(dec (n:Int)).cps.toList=⇑(dec (n:Int)):=Array.length_toList;let ha:((dec (n:Int)).cps.toList.all λc=>decide (c∈vb))=true:=yp.mpr λc hc=>zg (Q4 (kI hc).1 (kI hc).2);unfold rn;rw[if_neg nofun,if_neg nofun,if_pos ha,if_neg,O2];rintro⟨z1,z2⟩;have:=KP (n:=n) (by rw[<-Array.getElem?_toList];exact z1);omega
def nL {most n:Int} {k:Nat} (hk:0<k) (hm:(k:Int)<=most) (h0:0<=n) (h:n<10^k):rn most (dec n).cps.toList=some n:=by
 let⟨m,rfl⟩:=yL h0;exact Qt hk hm (by exact_mod_cast h)
def fq {n:Int} (h0:0<=n) (h:n<1000):fA (dec n)=some n:=nL (k:=3) ∅ ∅ h0 nofun
def Bv (h0:0<=n) (h:n<1000) (h1:lo<=n) (h2:n<=hi):l6 (dec n) lo hi=some n:=by
 unfold l6;rw[fq h0 h];dsimp only;rw[if_neg nofun,if_neg nofun]
def Hw {most n:Int} {k:Nat} (hk:0<k) (hm:(k:Int)<=most) (h1:-(10^k)<n) (h2:n<10^k):rs most (dec n)=some n:=by
 unfold rs
 by_cases h0:0<=n
 ·rw[if_neg,nL hk hm h0 h2]
  intro z;let⟨m,rfl⟩:=yL h0;have:=kI (zC z);omega
 ·let e:(dec n).cps.toList=45::(dec (-n)).cps.toList:=by rw[vI nofun,cG];rfl
  rw[e,if_pos (show(45::(dec (-n)).cps.toList)[0]?=some 45 from rfl)];show(match rn most (dec (-n)).cps.toList with | some n=>if n=0 then none else some (-n) | none=>none)=_;rw[nL hk hm nofun nofun];dsimp only;rw[if_neg nofun,Int.neg_neg]
def Mb {q:Int×Int} (h:NN q):rp (dec q.1) (dec q.2)=some q:=by
 let⟨h1,h2,h3,h4,h5⟩:=h;unfold rp;rw[Hw (k:=2) ∅ ∅ nofun nofun,Hw (k:=2) ∅ ∅ nofun nofun];dsimp only;rw[if_pos h5]
def Gh (n:Int):47∉(dec n).cps.toList:=fR ∅ ∅
def JA (n:Int):58∉(dec n).cps.toList:=fR ∅ ∅
def FV {x:Int×Int} (h:Rd x) (h1:x.1<10000) (h2:x.2<10000):NT (iA x)=some x:=by
 let⟨p1,p2,p3⟩:=h.pos;unfold iA NT
 by_cases c:x.2=1
 ·rw[if_pos c,show Txt.split (dec x.1) "/"= [dec x.1] from split1 (c:=47) (Gh _)]
  dsimp only;rw[nL (k:=4) ∅ ∅ p1 nofun];dsimp only;rw[<-c,p3]
 ·rw[if_neg c,show Txt.split (dec x.1 ++"/" ++ dec x.2) "/"= [dec x.1,dec x.2] from Ck (c:=47) (Gh _) (Gh _)]
  dsimp only;rw[nL (k:=4) ∅ ∅ p1 nofun,nL (k:=4) ∅ ∅ nofun nofun];dsimp only;rw[if_neg nofun,p3]
def De (h:NW x):lr (iA x)=some x:=by
 let⟨h1,h2,h3,h4⟩:=h;unfold lr;rw[FV h1 h3 h4];dsimp only;rw[if_neg nofun]
def OT (h:Li it):ir (pE it)=some it:=by
 let⟨o,x⟩:=it;let⟨h1,h2⟩:=h;cases o with
 | none=>
  let e:Txt.split (pE (none,x)) ":"= [("r": Str),iA x]:=Ck (c:=58) (a:="r") ∅ (BE h1);unfold ir;rw[e];show(match lr (iA x) with | none=>none | some x=>_)=_;rw[De h1];exact if_pos rfl
 | some q=>
  let e:Txt.split (pE (some q,x)) ":"= [dec q.1,dec q.2,iA x]:=Qp (c:=58) (JA _) (JA _) (BE h1);unfold ir;rw[e];show(match lr (iA x) with | none=>none | some x=>_)=_;rw[De h1];dsimp only;rw[if_neg (by simp)];show(match rp (dec q.1) (dec q.2) with | some q=>some (some q,x) | none=>none)=_;rw[Mb (h2 q rfl)]
def Hz (h1:1<=a) (h2:a<=32) (h3:b∈A9):iU (dec a ++"/" ++ dec b)=some (a,b):=by
 let hb:0<=b/\b<1000:=by
  unfold A9 at h3;simp at h3;omega
 unfold iU;rw[show Txt.split (dec a ++"/" ++ dec b) "/"= [dec a,dec b] from Ck (c:=47) (Gh _) (Gh _)];dsimp only;rw[Bv nofun nofun h1 h2,fq hb.1 hb.2];dsimp only;rw[if_pos h3]
def Me {k:Int} (h1:-7<=k) (h2:k<=7):Fh (dec k)=some k:=by
 unfold Fh;rw[Hw (k:=3) ∅ ∅ nofun nofun];dsimp only;rw[if_neg (by split <;> omega)]
def Kb (h:NN q) (h1:-12<=q.1) (h2:q.1<=12):wH (dec q.1) (dec q.2)=some q:=by
 unfold wH;rw[Mb h];dsimp only;rw[if_neg (by split <;> omega)]
theorem nA:∀{l:List α},(∀x∈l,f (g x)=some x)->nF ((l.map g).map f)=some l
 | [],_=>rfl
 | x::l,h=>by
  rw[zj,zj,h x zr];unfold nF;rw[nA λy hy=>h y (zp _ hy)]
noncomputable def oy (e:End):Str:=dec e.1 ++":" ++ Str.join "," (e.2.map dec)
def Ut (e:End):Prop:=0<=e.1/\e.1<1000/\e.2≠[]/\∀p∈e.2,0<=p/\p<1000
theorem nX (hs:c∉sep.cps.toList):∀{zs:List Str},(∀z∈zs,c∉z.cps.toList)->c∉(Str.join sep zs).cps.toList
 | [],_=>by show c∉("": Str).cps.toList;exact zE
 | [z],h=>h z zr
 | z::y::r,h=>by
  rw[eT,cG,cG];intro m;rcases zG.mp m with m | m
  ·rcases zG.mp m with m | m
   ·exact h z zr m
   ·exact hs m
  ·exact nX hs (λx hx=>h x (zp _ hx)) m
def Mg (h:Ut e):wI (oy e)=some e:=by
 let⟨h1,h2,h3,h4⟩:=h;let f:58∉(Str.join "," (e.2.map dec)).cps.toList:=nX ∅ λz hz=>by
  let⟨y,_,rfl⟩:=zH.mp hz;exact JA _
 unfold wI oy;rw[show Txt.split (dec e.1 ++":" ++ Str.join "," (e.2.map dec)) ":"= [dec e.1,Str.join "," (e.2.map dec)] from Ck (c:=58) (JA _) f];dsimp only;rw[show Txt.split (Str.join "," (e.2.map dec)) ","= e.2.map dec from gf (c:=44) (by simpa using h3) λz hz=>by
  let⟨y,_,rfl⟩:=zH.mp hz;exact fR ∅ ∅]
 rw[fq h1 h2,nA λx hx=>fq (h4 x hx).1 (h4 x hx).2]
def Le (w:Str):Prop:=w≠ ""/\32∉w.cps.toList/\10∉w.cps.toList
def G0 (ne:ws≠[]) (h:∀w∈ws,Le w):words (Str.join " " ws)=ws:=by
 unfold words;rw[show Txt.split (Str.join " " ws) " "= ws from gf (c:=32) ne λw hw=>(h w hw).2.1];exact List.filter_eq_self.mpr λw hw=>zg (h w hw).1
def fE (n:Int):Le (dec n):=by
 refine{λz=>?_,fR ∅ ∅,fR ∅ ∅}
 by_cases h:0<=n
 ·let⟨m,rfl⟩:=yL h
  have:=Gf (n:=m);rw[z] at this;exact absurd this ∅
 ·let e:(dec n).cps.toList=45::(dec (-n)).cps.toList:=by rw[vI nofun,cG];rfl
  rw[z] at e;cases e
def GC (ha:Le a) (hb1:32∉b.cps.toList) (hb2:10∉b.cps.toList):Le (a++b):=by
 refine{λz=>ha.1 (kP ?_),λm=>?_,λm=>?_}
 ·let e:(a++b).cps.toList=("": Str).cps.toList:=by rw[z]
  rw[cG] at e;exact(List.append_eq_nil_iff.mp e).1
 ·rw[cG] at m
  rcases zG.mp m with m | m
  ·exact ha.2.1 m
  ·exact hb1 m
 ·rw[cG] at m
  rcases zG.mp m with m | m
  ·exact ha.2.2 m
  ·exact hb2 m
def DY (ha:Le a) (hb1:32∉b.cps.toList) (hb2:10∉b.cps.toList) (hc:Le c):Le (a++b++c):=GC (GC ha hb1 hb2) hc.2.1 hc.2.2
def xf (x:Int×Int):Le (iA x):=by
 unfold iA;split
 ·exact fE _
 ·exact DY (fE _) ∅ ∅ (fE _)
def QZ (it:Item):Le (pE it):=by
 let⟨o,x⟩:=it;cases o with
 | none=>exact GC (a:="r:") {∅,∅,∅} (xf x).2.1 (xf x).2.2
 | some q=>exact DY (DY (fE _) ∅ ∅ (fE _)) ∅ ∅ (xf x)
def Ra (e:End):Le (oy e):=by
 let f:∀c,c≠44->c≠45->¬(48<=c/\c<=57)->c∉(Str.join "," (e.2.map dec)).cps.toList:=λc h0 h1 h2=>nX (by show c∉[44];simpa using h0) λz hz=>by
  let⟨y,_,rfl⟩:=zH.mp hz;exact fR h1 h2
 unfold oy;exact GC (GC (fE _) ∅ ∅) (f 32 ∅ ∅ ∅) (f 10 ∅ ∅ ∅)
def gc (n:Str):Prop:=cK n=some n
def gc.w (h:gc n):Le n:=by
 unfold gc cK at h;split at h
 ·cases h
 ·split at h
  ·cases h
  ·split at h
   ·rename_i h1 _ h3
    let hs:∀c,c∉sgn->c∉n.cps.toList:=λc hc m=>hc (ye (yp.mp h3 c m));refine{λz=>h1 (by rw[z];decide),hs 32 ∅,hs 10 ∅}
   ·cases h
noncomputable def ctxt:Option Int->Str
 | none=> "end"
 | some n=>dec n
noncomputable def wordsOf:Told->List Str
 | .bH n=>["player",n]
 | .cL n t l=>["instrument",n,dec t.1,dec t.2,iA l]
 | .cq n ps=> "staff":: n::ps
 | .bar b=> "bar":: (dec b.aP.1 ++"/" ++ dec b.aP.2)::dec b.key::b.marks
 | .aF l=>["upbeat",iA l]
 | .holds p b i=>["holds",p,dec b,i]
 | .aI b p its=> "notes":: dec b::p::its.map pE
 | .rep r=> "repeat":: dec r.first::dec r.last::dec r.times::r.ends.map oy
 | .bT j=>["jump",dec j.vE,dec j.y7,dec j.dy,ctxt j.gw]
noncomputable def rowOf (t:Told):Str:=Str.join " " (wordsOf t)
def NB (n:Int):Prop:=0<=n/\n<1000
def PR:Told->Prop
 | .bH n=>gc n
 | .cL n t l=>gc n/\NN t/\-12<=t.1/\t.1<=12/\Lm.Rd l/\l.1<10000/\l.2<10000
 | .cq n ps=>gc n/\ps≠[]/\∀p∈ps,gc p
 | .bar b=>1<=b.aP.1/\b.aP.1<=32/\b.aP.2∈A9/\-7<=b.key/\b.key<=7/\∀m∈b.marks,gc m
 | .aF l=>NW l
 | .holds p b i=>gc p/\NB b/\gc i
 | .aI b p its=>NB b/\gc p/\(∀it∈its,Li it)/\its.all (λit=>it.1.isNone)=false
 | .rep r=>NB r.first/\NB r.last/\2<=r.times/\r.times<=9/\∀e∈r.ends,Ut e
 | .bT j=>NB j.vE/\NB j.y7/\NB j.dy/\∀c,j.gw=some c->NB c
def JI (h:∀p∈l,gc p):nF (l.map cK)=some l:=by
 have:=nA (f:=cK) (g:=λx:Str=>x) (l:=l) h
 rwa [List.map_id'] at this
def HI (h:PR t):nO (wordsOf t)=some t:=by
 cases t with
 | bH n=>
  show(cK n).map Told.bH=_;rw[show cK n=some n from h];rfl
 | cL n t l=>
  let⟨h1,h2,h3,h4,h5,h6,h7⟩:=h;show(lh [n,dec t.1,dec t.2,iA l]).map (λx=>Told.cL x.1 x.2.1 x.2.2)=_;unfold lh;dsimp only;rw[show cK n=some n from h1,Kb h2 h3 h4,FV h5 h6 h7];rfl
 | cq n ps=>
  let⟨h1,h2,h3⟩:=h;show(o9 (n::ps)).map (λx=>Told.cq x.1 x.2)=_;let⟨b,r,rfl⟩:=List.exists_cons_of_ne_nil h2;rw[o7,JI (l:=n::b::r) λp hp=>by
   rcases zD.mp hp with e | e
   ·rw[e];exact h1
   ·exact h3 p e]
  rfl
 | bar b=>
  let⟨h1,h2,h3,h4,h5,h6⟩:=h;show(AD ((dec b.aP.1 ++"/" ++ dec b.aP.2)::dec b.key::b.marks)).map Told.bar=_;unfold AD;dsimp only;rw[JI h6,Hz h1 h2 h3,Me h4 h5];rfl
 | aF l=>
  show(lr (iA l)).map Told.aF=_;rw[De h];rfl
 | holds p b i=>
  let⟨h1,h2,h3⟩:=h;show(qG [p,dec b,i]).map (λx=>Told.holds x.1 x.2.1 x.2.2)=_;unfold qG;dsimp only;rw[show cK p=some p from h1,fq h2.1 h2.2,show cK i=some i from h3];rfl
 | aI b p its=>
  let⟨h1,h2,h3,h4⟩:=h;show(jX (dec b::p::its.map pE)).map (λx=>Told.aI x.1 x.2.1 x.2.2)=_;cases its with
  | nil=>cases h4
  | cons i r=>
   show(jX (dec b::p::pE i::r.map pE)).map _=_;unfold jX;let e:=nA (f:=ir) (g:=pE) (l:=i::r) λx hx=>OT (h3 x hx);rw[zj] at e;dsimp only;rw[e];dsimp only;rw[h4,fq h1.1 h1.2,show cK p=some p from h2];rfl
 | rep r=>
  let⟨h1,h2,h3,h4,h5⟩:=h;show(jF (dec r.first::dec r.last::dec r.times::r.ends.map oy)).map Told.rep=_;unfold jF;dsimp only;rw[nA λx hx=>Mg (h5 x hx),fq h1.1 h1.2,fq h2.1 h2.2,Bv nofun nofun h3 h4];rfl
 | bT j=>
  let⟨h1,h2,h3,h4⟩:=h;show(tZ [dec j.vE,dec j.y7,dec j.dy,ctxt j.gw]).map Told.bT=_;unfold tZ;dsimp only;rw[fq h1.1 h1.2,fq h2.1 h2.2,fq h3.1 h3.2];let⟨a,b,c,d⟩:=j;cases d with
  | none=>rfl
  | some n=>
   dsimp only[ctxt];rw[fq (h4 n rfl).1 (h4 n rfl).2];rfl
def IY (h:PR t):∀w∈wordsOf t,Le w:=by
 let lit:∀s:Str,s≠ ""->32∉s.cps.toList->10∉s.cps.toList->Le s:=λs a b c=>{(a),b,c}
 cases t with
 | bH n=>
  intro w hw;simp only[wordsOf,zD,zE,or_false] at hw;rcases hw with rfl | rfl
  ·exact lit _ ∅ ∅ ∅
  ·exact gc.w h
 | cL n t l=>
  intro w hw;simp only[wordsOf,zD,zE,or_false] at hw;rcases hw with rfl | rfl | rfl | rfl | rfl
  ·exact lit _ ∅ ∅ ∅
  ·exact gc.w h.1
  ·exact fE _
  ·exact fE _
  ·exact xf _
 | cq n ps=>
  intro w hw;simp only[wordsOf,zD] at hw;rcases hw with rfl | rfl | hw
  ·exact lit _ ∅ ∅ ∅
  ·exact gc.w h.1
  ·exact gc.w (h.2.2 _ hw)
 | bar b=>
  intro w hw;simp only[wordsOf,zD] at hw;rcases hw with rfl | rfl | rfl | hw
  ·exact lit _ ∅ ∅ ∅
  ·exact DY (fE _) ∅ ∅ (fE _)
  ·exact fE _
  ·exact gc.w (h.2.2.2.2.2 _ hw)
 | aF l=>
  intro w hw;simp only[wordsOf,zD,zE,or_false] at hw;rcases hw with rfl | rfl
  ·exact lit _ ∅ ∅ ∅
  ·exact xf _
 | holds p b i=>
  intro w hw;simp only[wordsOf,zD,zE,or_false] at hw;rcases hw with rfl | rfl | rfl | rfl
  ·exact lit _ ∅ ∅ ∅
  ·exact gc.w h.1
  ·exact fE _
  ·exact gc.w h.2.2
 | aI b p its=>
  intro w hw;simp only[wordsOf,zD,zH] at hw;rcases hw with rfl | rfl | rfl | ⟨x,_,rfl⟩
  ·exact lit _ ∅ ∅ ∅
  ·exact fE _
  ·exact gc.w h.2.1
  ·exact QZ _
 | rep r=>
  intro w hw;simp only[wordsOf,zD,zH] at hw;rcases hw with rfl | rfl | rfl | rfl | ⟨x,_,rfl⟩
  ·exact lit _ ∅ ∅ ∅
  ·exact fE _
  ·exact fE _
  ·exact fE _
  ·exact Ra _
 | bT j=>
  intro w hw;simp only[wordsOf,zD,zE,or_false] at hw;rcases hw with rfl | rfl | rfl | rfl | rfl
  ·exact lit _ ∅ ∅ ∅
  ·exact fE _
  ·exact fE _
  ·exact fE _
  ·unfold ctxt
   cases j.gw with
   | none=>exact lit _ ∅ ∅ ∅
   | some n=>exact fE _
def G1 (t:Told):wordsOf t≠[]:=by cases t <;> simp[wordsOf]
def Kc (h:PR t):words (rowOf t)=wordsOf t:=G0 (G1 t) (IY h)
def Mc (h:PR t):10∉(rowOf t).cps.toList:=nX ∅ λw hw=>(IY h w hw).2.2
noncomputable def kindOf:HO->Nat
 | .lst _=>0
 | .tup _=>1
 | .ins _ _ _=>2
 | .dK _=>3
 | .dT _=>4
 | _=>5
def bf {H:Hp} {a b:Addr} {u v:HO} (h1:H a=some u) (h2:H b=some v) (k:kindOf u≠kindOf v):a≠b:=λz=>by
 rw[z,h2] at h1;cases h1;exact k rfl
noncomputable def own (a:Addr) (o:Ow):List Addr:=[a,o.pl,o.ins,o.st,o.ba,o.ho,o.no,o.re]++o.hs++o.ns
def vy (L:List Addr) (H H':Hp):Prop:=∀b u,b∉L->H b=some u->H' b=some u
def vy.of (s:au H H'):vy L H H':=λb u _ h=>s b u h
def vy.trans (s:vy L H H') (t:vy L H' H''):vy L H H'':=λb u n h=>t b u n (s b u n h)
theorem vy.upd (h:x∈L):vy L H (L2.upd H x o):=λb u n e=>by
 rw[aC (λz=>n (by rw[z];exact h))];exact e
structure Nd (o:Ow):Prop where
 pb:o.pl≠o.ba
 pr:o.pl≠o.re
 ph:o.pl∉o.hs
 pn:o.pl∉o.ns
 br:o.ba≠o.re
 bh:o.ba∉o.hs
 bn:o.ba∉o.ns
 rh:o.re∉o.hs
 rn:o.re∉o.ns
 hh:o.hs.Nodup
 nn:o.ns.Nodup
 hn:∀x∈o.hs,x∉o.ns
def Nd.of (h:o.lists.Nodup):Nd o:=by
 unfold Ow.lists at h;rw[zT] at h;let⟨h1,h2,h3⟩:=h;rw[zT] at h1;let⟨h4,h5,h6⟩:=h1;simp only[yd,zD,zE,or_false,not_or] at h4;refine{h4.1.1,h4.1.2,λz=>?_,λz=>?_,h4.2.1,λz=>?_,λz=>?_,λz=>?_,λz=>?_,h5,h2,λx hx z=>?_}
 ·exact h6 o.pl (by simp) o.pl z rfl
 ·exact h3 o.pl (by simp) o.pl z rfl
 ·exact h6 o.ba (by simp) o.ba z rfl
 ·exact h3 o.ba (by simp) o.ba z rfl
 ·exact h6 o.re (by simp) o.re z rfl
 ·exact h3 o.re (by simp) o.re z rfl
 ·exact h3 x (by simp[hx]) x z rfl
def Nd.to (h:Nd o):o.lists.Nodup:=by
 unfold Ow.lists;rw[zT];refine{?_,h.nn,?_}
 ·rw[zT]
  refine{?_,h.hh,?_}
  ·simp only[yd,zD,zE,or_false,not_or]
   exact{{(h.pb),h.pr},h.br,λz=>z,List.nodup_nil}
  ·intro x hx y hy e
   subst e;simp only[zD,zE,or_false] at hx;rcases hx with rfl | rfl | rfl
   ·exact h.ph hy
   ·exact h.bh hy
   ·exact h.rh hy
 ·intro x hx y hy e
  subst e;rw[zG] at hx;rcases hx with hx | hx
  ·simp only[zD,zE,or_false] at hx
   rcases hx with rfl | rfl | rfl
   ·exact h.pn hy
   ·exact h.bn hy
   ·exact h.rn hy
  ·exact h.hn x hx hy
section
variable {C a x:Addr} {H:Hp} {S:bW} {o:Ow} {u:HO}
def bY.BD (h:bY C H a S o) (nx:cj (H x)) (n:a≠x):UA C (L2.upd H x u) a o S.aF S.bT:=by
 let⟨ub,jm,h1,h2,h3⟩:=h.obj;exact{ub,jm,by rw[aC n];exact h1,Is.upd nx h2,Is.upd nx h3}
def bY.CQ (h:bY C H a S o) (n:o.pl≠x):L2.upd H x u o.pl=some (.lst (S.players.map V.str)):=by rw[aC n];exact h.pl
def bY.ra (h:bY C H a S o) (nx:cj (H x)) (n:o.ins≠x):Pn (L2.upd H x u) Nw o.ins S.ak:=by
 let⟨vs,h1,h2⟩:=h.ins;exact{vs,by rw[aC n];exact h1,aD.upd nx h2}
def bY.Ci (h:bY C H a S o) (nx:cj (H x)) (n:o.st≠x):Pn (L2.upd H x u) O6 o.st S.aJ:=by
 let⟨vs,h1,h2⟩:=h.st;exact{vs,by rw[aC n];exact h1,aD.upd nx h2}
def bY.DW (h:bY C H a S o) (nx:cj (H x)) (n:o.ba≠x):NO (L2.upd H x u) kJ o.ba S.aK:=by
 let⟨vs,h1,h2⟩:=h.ba;exact{vs,by rw[aC n];exact h1,aD.upd nx h2}
def bY.CM (h:bY C H a S o) (nx:cj (H x)) (n:o.re≠x):NO (L2.upd H x u) gq o.re S.repeats:=by
 let⟨vs,h1,h2⟩:=h.re;exact{vs,by rw[aC n];exact h1,aD.upd nx h2}
def bY.FZ (h:bY C H a S o) (nx:cj (H x)) (n:o.ho≠x) (nn:x∉o.hs):L2.upd H x u o.ho=some (.dK ((S.holds.map λx=>kS x.1).zip (o.hs.map V.ref)))/\cg (L2.upd H x u) JC (S.holds.map (·.2)) o.hs:=
 {by rw[aC n];exact h.ho.1,cg.upd nx nn h.ho.2}
def bY.C7 (h:bY C H a S o) (nx:cj (H x)) (n:o.no≠x) (nn:x∉o.ns):L2.upd H x u o.no=some (.dT ((S.aI.map λx=>kN x.1).zip (o.ns.map V.ref)))/\cg (L2.upd H x u) eM (S.aI.map (·.2)) o.ns:=
 {by rw[aC n];exact h.no.1,cg.upd nx nn h.no.2}
end
theorem cJ:∀{ls:List (List α)} {as:List Addr},cg H d ls as->x∈as->∃vs,H x=some (.lst vs)
 | [],_,h,hx=>by unfold cg at h;subst h;simp at hx
 | l::r,_,⟨a,t,vs,e,h1,_,h3⟩,hx=>by
  subst e;rcases zD.mp hx with rfl | hx
  ·exact{(vs),h1}
  ·exact cJ h3 hx
theorem cg.snoc (hx:H x=some (.lst vs)) (im:aD H (m.map d) vs):∀{ls:List (List α)} {as:List Addr},cg H d ls as->cg H d (ls++[m]) (as++[x])
 | [],_,h=>by unfold cg at h;subst h;exact{x,[],vs,rfl,hx,im,rfl}
 | l::r,_,⟨a,t,vs',e,h1,h2,h3⟩=>by
  subst e;exact{a,t++[x],vs',rfl,h1,h2,cg.snoc hx im h3}
def Ly (h:l.length=m.length) (x:α) (y:β):(l++[x]).zip (m++[y])=l.zip m++[(x,y)]:=by
 rw[List.zip_append h];rfl
def qH {κ:Type} [DecidableEq κ] {ks:List κ} {vs:List V} (hl:⇑ks=⇑vs) {k:κ} {v:V} (h:cR (ks.zip vs) k=none):putK (ks.zip vs) k v=(ks++[k]).zip (vs++[v]):=by
 rw[Ly hl];exact Mo v h
theorem BK (p:Str):∀{hs:List (Str×List α)} {as:List Addr},cg H d (hs.map (·.2)) as->as.Nodup->(hs.map (·.1)).Nodup->p∈hs.map (·.1)->
  ∃x vs,cR ((hs.map λx=>kS x.1).zip (as.map V.ref)) (kS p)=some (.ref x)/\x∈as/\H x=some (.lst vs)/\∀y e,Is (L2.upd H x (.lst (vs++[y]))) (d e) y->
   cg (L2.upd H x (.lst (vs++[y]))) d ((hs.map λq=>if q.1=p then(q.1,q.2++[e]) else q).map (·.2)) as
 | [],_,_,_,_,h=>by simp at h
 | (k,l)::r,_,hL,na,nk,hm=>by
  rw[zj] at hL;let⟨a,t,vs,rfl,h1,h2,h3⟩:=hL;rw[zj,yd] at nk;rw[yd] at na
  by_cases e:k=p
  ·subst e
   refine{a,vs,?_,zr,h1,λy e iy=>?_}
   ·rw[zj,zj,List.zip_cons_cons]
    unfold cR;rw[List.find?_cons];simp
   ·let nx:cj (H a):=by rw[h1];exact λ_ z=>by cases z
    let er:(r.map λq=>if q.1=k then(q.1,q.2++[e]) else q)=r:=by
     conv=>rhs;rw[<-List.map_id r]
     refine List.map_congr_left λq hq=>?_;rw[if_neg (λz=>nk.1 (by rw[show(k,l).1=q.1 from z.symm];exact zP (f:=λx:Str×List α=>x.1) hq))];rfl
    rw[zj,zj,if_pos rfl,er];refine{a,t,vs++[y],rfl,aB,?_,cg.upd nx na.1 h3};rw[zk];exact cX iy (aD.upd nx h2)
  ·let hm':p∈r.map (·.1):=by
    rcases zD.mp hm with z | z
    ·exact absurd z.symm e
    ·exact z
   let⟨x,vs',e1,e2,e3,e4⟩:=BK p h3 na.2 nk.2 hm';refine{x,vs',?_,zp _ e2,e3,λy e iy=>?_}
   ·let e':¬kS k=kS p:=λz=>e (Sum.inr.inj z)
    rw[zj,zj,List.zip_cons_cons];unfold cR at e1 ⊢;rw[List.find?_cons];simp only[e',decide_false];exact e1
   ·let nx:cj (H x):=by rw[e3];exact λ_ z=>by cases z
    rw[zj,zj,if_neg (by assumption)];refine{a,t,vs,rfl,?_,aD.upd nx h2,e4 y e iy};rw[aC (λz=>na.1 (by rw[z];exact e2))];exact h1
section
variable {C a:Addr} {H:Hp} {S:bW} {o:Ow}
def bY.IE (h:bY C H a S o) (n:Str):bY C (L2.upd H o.pl (.lst (S.players.map V.str++[.str n]))) a (bM S (.bH n)) o:=by
 let d:=Nd.of h.nd;let hp:=h.pl;let nx:cj (H o.pl):=by rw[hp];exact λ_ z=>by cases z
 let⟨_,_,ha,_⟩:=h.obj;let⟨_,hi,_⟩:=h.ins;let⟨_,hs,_⟩:=h.st;exact{h.BD nx (bf ha hp (by simp[kindOf])),by rw[aB];show _=some (HO.lst ((S.players++[n]).map V.str));rw[zk];rfl,h.ra nx (bf hi hp (by simp[kindOf])),h.Ci nx (bf hs hp (by simp[kindOf])),h.DW nx d.pb.symm,
  h.FZ nx (bf h.ho.1 hp (by simp[kindOf])) d.ph,h.C7 nx (bf h.no.1 hp (by simp[kindOf])) d.pn,h.CM nx d.pr.symm,h.nd,h.dd}
def bY.Pb (h:bY C H a S o) {b:Lv} {v:V} {vs:List V} (hb:H o.ba=some (.lst vs)) (il:aD H (S.aK.map kJ) vs) (iv:Is H (kJ b) v):bY C (L2.upd H o.ba (.lst (vs++[v]))) a (bM S (.bar b)) o:=by
 let d:=Nd.of h.nd;let nx:cj (H o.ba):=by rw[hb];exact λ_ z=>by cases z
 let⟨_,_,ha,_⟩:=h.obj;let⟨_,hi,_⟩:=h.ins;let⟨_,hs,_⟩:=h.st;refine{h.BD nx (bf ha hb (by simp[kindOf])),h.CQ d.pb,h.ra nx (bf hi hb (by simp[kindOf])),h.Ci nx (bf hs hb (by simp[kindOf])),{_,aB,?_},
  h.FZ nx (bf h.ho.1 hb (by simp[kindOf])) d.bh,h.C7 nx (bf h.no.1 hb (by simp[kindOf])) d.bn,h.CM nx d.br.symm,h.nd,h.dd}
 show aD _ ((S.aK++[b]).map kJ) _;rw[zk];exact cX (Is.upd nx iv) (aD.upd nx il)
def bY.O9 (h:bY C H a S o) {r:Rep} {v:V} {vs:List V} (hb:H o.re=some (.lst vs)) (il:aD H (S.repeats.map gq) vs) (iv:Is H (gq r) v):bY C (L2.upd H o.re (.lst (vs++[v]))) a (bM S (.rep r)) o:=by
 let d:=Nd.of h.nd;let nx:cj (H o.re):=by rw[hb];exact λ_ z=>by cases z
 let⟨_,_,ha,_⟩:=h.obj;let⟨_,hi,_⟩:=h.ins;let⟨_,hs,_⟩:=h.st;refine{h.BD nx (bf ha hb (by simp[kindOf])),h.CQ d.pr,h.ra nx (bf hi hb (by simp[kindOf])),h.Ci nx (bf hs hb (by simp[kindOf])),h.DW nx d.br,
  h.FZ nx (bf h.ho.1 hb (by simp[kindOf])) d.rh,h.C7 nx (bf h.no.1 hb (by simp[kindOf])) d.rn,{_,aB,?_},h.nd,h.dd}
 show aD _ ((S.repeats++[r]).map gq) _;rw[zk];exact cX (Is.upd nx iv) (aD.upd nx il)
def vN {n:Str} {ks:List Str} {vs:List V} (h:n∉ks):cR ((ks.map kS).zip vs) (kS n)=none:=by
 unfold cR;rw[Option.map_eq_none_iff,List.find?_eq_none];intro x hx z;let e:=ye z;let m:=(List.of_mem_zip hx).1;let⟨k,hk,ek⟩:=zH.mp m;rw[<-ek] at e;exact h ((Sum.inr.inj e)▸hk)
def Nr (h:[o.ins,o.st,o.ho].Nodup):o.ins≠o.st/\o.ins≠o.ho/\o.st≠o.ho:=by
 simp only[yd,zD,zE,or_false,not_or] at h;exact{(h.1.1),h.1.2,h.2.1}
def bY.K8 (h:bY C H a S o) {n:Str} {t l:Int×Int} {p:Addr} {vs:List V} (hb:H o.ins=some (.dK ((S.ak.map λx=>kS x.1).zip vs))) (il:aD H (S.ak.map Nw) vs) (iv:Is H (Nw (n,t,l)) (.ref p))
  (fr:n∉S.ak.map (·.1)):bY C (L2.upd H o.ins (.dK (putK ((S.ak.map λx=>kS x.1).zip vs) (kS n) (.ref p)))) a (bM S (.cL n t l)) o:=by
 let d:=Nd.of h.nd;let⟨d1,d2,d3⟩:=Nr h.dd;let nx:cj (H o.ins):=by rw[hb];exact λ_ z=>by cases z
 let⟨_,_,ha,_⟩:=h.obj;let⟨_,hba,_⟩:=h.ba;let⟨_,hre,_⟩:=h.re;let vl:=aO il;let em:(S.ak.map λx=>kS x.1)=(S.ak.map (·.1)).map kS:=by rw[zB];rfl
 let hns:o.ins∉o.ns:=λz=>by
  let⟨_,q⟩:=cJ h.no.2 z;rw[hb] at q;cases q
 let hhs:o.ins∉o.hs:=λz=>by
  let⟨_,q⟩:=cJ h.ho.2 z;rw[hb] at q;cases q
 refine{h.BD nx (bf ha hb (by simp[kindOf])),h.CQ (bf h.pl hb (by simp[kindOf])),{vs++[.ref p],?_,?_},h.Ci nx d1.symm,h.DW nx (bf hba hb (by simp[kindOf])),
  h.FZ nx d2.symm hhs,h.C7 nx (bf h.no.1 hb (by simp[kindOf])) hns,h.CM nx (bf hre hb (by simp[kindOf])),h.nd,h.dd}
 ·rw[aB,qH (by rw[za];exact vl.symm) (by rw[em];exact vN fr)]
  show _=some (HO.dK (((S.ak++[(n,t,l)]).map λx=>kS x.1).zip (vs++[.ref p])));rw[zk];rfl
 ·show aD _ ((S.ak++[(n,t,l)]).map Nw) _
  rw[zk];exact cX (Is.upd nx iv) (aD.upd nx il)
def bY.K6 (h:bY C H a S o) {n:Str} {ps:List Str} {v:V} {vs:List V} (hb:H o.st=some (.dK ((S.aJ.map λx=>kS x.1).zip vs))) (il:aD H (S.aJ.map O6) vs) (iv:Is H (O6 (n,ps)) v)
  (fr:n∉S.aJ.map (·.1)):bY C (L2.upd H o.st (.dK (putK ((S.aJ.map λx=>kS x.1).zip vs) (kS n) v))) a (bM S (.cq n ps)) o:=by
 let d:=Nd.of h.nd;let⟨d1,d2,d3⟩:=Nr h.dd;let nx:cj (H o.st):=by rw[hb];exact λ_ z=>by cases z
 let⟨_,_,ha,_⟩:=h.obj;let⟨_,hba,_⟩:=h.ba;let⟨_,hre,_⟩:=h.re;let vl:=aO il;let em:(S.aJ.map λx=>kS x.1)=(S.aJ.map (·.1)).map kS:=by rw[zB];rfl
 let hns:o.st∉o.ns:=λz=>by
  let⟨_,q⟩:=cJ h.no.2 z;rw[hb] at q;cases q
 let hhs:o.st∉o.hs:=λz=>by
  let⟨_,q⟩:=cJ h.ho.2 z;rw[hb] at q;cases q
 refine{h.BD nx (bf ha hb (by simp[kindOf])),h.CQ (bf h.pl hb (by simp[kindOf])),h.ra nx d1,{vs++[v],?_,?_},h.DW nx (bf hba hb (by simp[kindOf])),
  h.FZ nx d3.symm hhs,h.C7 nx (bf h.no.1 hb (by simp[kindOf])) hns,h.CM nx (bf hre hb (by simp[kindOf])),h.nd,h.dd}
 ·rw[aB,qH (by rw[za];exact vl.symm) (by rw[em];exact vN fr)]
  show _=some (HO.dK (((S.aJ++[(n,ps)]).map λx=>kS x.1).zip (vs++[v])));rw[zk];rfl
 ·show aD _ ((S.aJ++[(n,ps)]).map O6) _
  rw[zk];exact cX (Is.upd nx iv) (aD.upd nx il)
def JS {n:Int×Str} {ks:List (Int×Str)} {vs:List V} (h:n∉ks):cR ((ks.map kN).zip vs) (kN n)=none:=by
 unfold cR;rw[Option.map_eq_none_iff,List.find?_eq_none];intro x hx z;let e:=ye z;let m:=(List.of_mem_zip hx).1;let⟨k,hk,ek⟩:=zH.mp m;rw[<-ek] at e;unfold kN at e;simp at e;have:k=n:=Prod.ext e.1 e.2;exact h (this▸hk)
def bY.K7 (h:bY C H a S o) {b:Int} {pn:Str} {its:List Item} {q:Addr} {us:List V} (hq:H q=some (.lst us)) (iq:aD H (its.map eM) us) (nq:q∉o.lists) (fr:(b,pn)∉S.aI.map (·.1)) :
  bY C (L2.upd H o.no (.dT (putK ((S.aI.map λx=>kN x.1).zip (o.ns.map V.ref)) (kN (b,pn)) (.ref q)))) a (bM S (.aI b pn its)) {o with ns:=o.ns++[q]}:=by
 let d:=Nd.of h.nd;let hb:=h.no.1;let nx:cj (H o.no):=by rw[hb];exact λ_ z=>by cases z
 let⟨ub,jm,ha,hub,hjm⟩:=h.obj;let⟨_,hi,_⟩:=h.ins;let⟨_,hs,_⟩:=h.st;let⟨_,hba,_⟩:=h.ba;let⟨_,hre,_⟩:=h.re;let em:(S.aI.map λx=>kN x.1)=(S.aI.map (·.1)).map kN:=by rw[zB];rfl
 let hns:o.no∉o.ns:=λz=>by
  let⟨_,q⟩:=cJ h.no.2 z;rw[hb] at q;cases q
 let hhs:o.no∉o.hs:=λz=>by
  let⟨_,q⟩:=cJ h.ho.2 z;rw[hb] at q;cases q
 let ll:⇑(o.ns.map V.ref)=⇑S.aI:=by
  have:∀{ls:List (List Item)} {as:List Addr},cg H eM ls as->⇑as=⇑ls:=by
   intro ls
   induction ls with
   | nil=>intro as z;unfold cg at z;rw[z];rfl
   | cons l r ih=>rintro _ ⟨a,t,vs,rfl,_,_,h3⟩;rw[zv,zv,ih h3]
  rw[za,this h.no.2,za]
 let nn:q∉[o.pl,o.ba,o.re]/\q∉o.hs/\q∉o.ns:=by
  unfold Ow.lists at nq;rw[zG,zG] at nq;exact{λz=>nq (.inl (.inl z)),λz=>nq (.inl (.inr z)),λz=>nq (.inr z)}
 let⟨n1,n2,n3⟩:=nn;simp only[zD,zE,or_false,not_or] at n1;refine{{ub,jm,by rw[aC (bf ha hb (by simp[kindOf]))];exact ha,Is.upd nx hub,Is.upd nx hjm},h.CQ (bf h.pl hb (by simp[kindOf])),h.ra nx (bf hi hb (by simp[kindOf])),h.Ci nx (bf hs hb (by simp[kindOf])),h.DW nx (bf hba hb (by simp[kindOf])),
  h.FZ nx (bf h.ho.1 hb (by simp[kindOf])) hhs,{?_,?_},h.CM nx (bf hre hb (by simp[kindOf])),?_,h.dd}
 ·show L2.upd H o.no _ o.no=some (HO.dT (((S.aI++[((b,pn),its)]).map λx=>kN x.1).zip ((o.ns++[q]).map V.ref)))
  rw[aB,qH (by rw[za];exact ll.symm) (by rw[em];exact JS fr),zk,zk];rfl
 ·show cg _ eM ((S.aI++[((b,pn),its)]).map (·.2)) (o.ns++[q])
  rw[zk];exact cg.snoc (by rw[aC (bf hq hb (by simp[kindOf]))];exact hq) (aD.upd nx iq) (cg.upd nx hns h.no.2)
 ·refine Nd.to {d.pb,d.pr,d.ph,?_,d.br,d.bh,?_,d.rh,?_,d.hh,?_,?_}
  ·show o.pl∉o.ns++[q]
   rw[zG,zA];rintro(z | z)
   ·exact d.pn z
   ·exact n1.1 z.symm
  ·show o.ba∉o.ns++[q]
   rw[zG,zA];rintro(z | z)
   ·exact d.bn z
   ·exact n1.2.1 z.symm
  ·show o.re∉o.ns++[q]
   rw[zG,zA];rintro(z | z)
   ·exact d.rn z
   ·exact n1.2.2 z.symm
  ·show(o.ns++[q]).Nodup
   rw[zT];exact{d.nn,by simp,λx hx y hy e=>by rw[zA] at hy;subst hy;subst e;exact n3 hx}
  ·intro x hx z
   let z':x∈o.ns++[q]:=z;rw[zG,zA] at z';rcases z' with z' | z'
   ·exact d.hn x hx z'
   ·subst z';exact n2 hx
def bY.ID (h:bY C H a S o) {l:Int×Int} {v ub jm:V} (ha:H a=some (.ins C o.dx (Of o ub jm))) (ij:Is H (dO jP S.bT) jm) (iv:Is H (dL l) v):bY C (L2.upd H a (.ins C o.dx (Of o v jm))) a (bM S (.aF l)) o:=by
 let nx:cj (H a):=by rw[ha];exact λ_ z=>by cases z
 let⟨_,hi,_⟩:=h.ins;let⟨_,hs,_⟩:=h.st;let⟨_,hba,_⟩:=h.ba;let⟨_,hre,_⟩:=h.re;let hns:a∉o.ns:=λz=>by
  let⟨_,q⟩:=cJ h.no.2 z;rw[ha] at q;cases q
 let hhs:a∉o.hs:=λz=>by
  let⟨_,q⟩:=cJ h.ho.2 z;rw[ha] at q;cases q
 exact{{v,jm,aB,Is.upd nx iv,Is.upd nx ij},h.CQ (bf h.pl ha (by simp[kindOf])),h.ra nx (bf hi ha (by simp[kindOf])),h.Ci nx (bf hs ha (by simp[kindOf])),h.DW nx (bf hba ha (by simp[kindOf])),
  h.FZ nx (bf h.ho.1 ha (by simp[kindOf])) hhs,h.C7 nx (bf h.no.1 ha (by simp[kindOf])) hns,h.CM nx (bf hre ha (by simp[kindOf])),h.nd,h.dd}
def bY.NI (h:bY C H a S o) {j:Jump} {v ub jm:V} (ha:H a=some (.ins C o.dx (Of o ub jm))) (iu:Is H (dO dL S.aF) ub) (iv:Is H (jP j) v):bY C (L2.upd H a (.ins C o.dx (Of o ub v))) a (bM S (.bT j)) o:=by
 let nx:cj (H a):=by rw[ha];exact λ_ z=>by cases z
 let⟨_,hi,_⟩:=h.ins;let⟨_,hs,_⟩:=h.st;let⟨_,hba,_⟩:=h.ba;let⟨_,hre,_⟩:=h.re;let hns:a∉o.ns:=λz=>by
  let⟨_,q⟩:=cJ h.no.2 z;rw[ha] at q;cases q
 let hhs:a∉o.hs:=λz=>by
  let⟨_,q⟩:=cJ h.ho.2 z;rw[ha] at q;cases q
 exact{{ub,v,aB,Is.upd nx iu,Is.upd nx iv},h.CQ (bf h.pl ha (by simp[kindOf])),h.ra nx (bf hi ha (by simp[kindOf])),h.Ci nx (bf hs ha (by simp[kindOf])),h.DW nx (bf hba ha (by simp[kindOf])),
  h.FZ nx (bf h.ho.1 ha (by simp[kindOf])) hhs,h.C7 nx (bf h.no.1 ha (by simp[kindOf])) hns,h.CM nx (bf hre ha (by simp[kindOf])),h.nd,h.dd}
def bY.MK (h:bY C H a S o) {pn:Str} {q:Addr} (hq:H q=some (.lst [])) (nq:q∉o.lists) (fr:pn∉S.holds.map (·.1)) :
  bY C (L2.upd H o.ho (.dK (putK ((S.holds.map λx=>kS x.1).zip (o.hs.map V.ref)) (kS pn) (.ref q)))) a {S with holds:=S.holds++[(pn,[])]} {o with hs:=o.hs++[q]}:=by
 let d:=Nd.of h.nd;let⟨d1,d2,d3⟩:=Nr h.dd;let hb:=h.ho.1;let nx:cj (H o.ho):=by rw[hb];exact λ_ z=>by cases z
 let⟨ub,jm,ha,hub,hjm⟩:=h.obj;let⟨_,hba,_⟩:=h.ba;let⟨_,hre,_⟩:=h.re;let em:(S.holds.map λx=>kS x.1)=(S.holds.map (·.1)).map kS:=by rw[zB];rfl
 let hns:o.ho∉o.ns:=λz=>by
  let⟨_,q⟩:=cJ h.no.2 z;rw[hb] at q;cases q
 let hhs:o.ho∉o.hs:=λz=>by
  let⟨_,q⟩:=cJ h.ho.2 z;rw[hb] at q;cases q
 let ll:⇑(o.hs.map V.ref)=⇑S.holds:=by
  have:∀{ls:List (List (Int×Str))} {as:List Addr},cg H JC ls as->⇑as=⇑ls:=by
   intro ls
   induction ls with
   | nil=>intro as z;unfold cg at z;rw[z];rfl
   | cons l r ih=>rintro _ ⟨a,t,vs,rfl,_,_,h3⟩;rw[zv,zv,ih h3]
  rw[za,this h.ho.2,za]
 let nn:q∉[o.pl,o.ba,o.re]/\q∉o.hs/\q∉o.ns:=by
  unfold Ow.lists at nq;rw[zG,zG] at nq;exact{λz=>nq (.inl (.inl z)),λz=>nq (.inl (.inr z)),λz=>nq (.inr z)}
 let⟨n1,n2,n3⟩:=nn;simp only[zD,zE,or_false,not_or] at n1;refine{{ub,jm,by rw[aC (bf ha hb (by simp[kindOf]))];exact ha,Is.upd nx hub,Is.upd nx hjm},h.CQ (bf h.pl hb (by simp[kindOf])),h.ra nx d2,h.Ci nx d3,h.DW nx (bf hba hb (by simp[kindOf])),
  {?_,?_},h.C7 nx (bf h.no.1 hb (by simp[kindOf])) hns,h.CM nx (bf hre hb (by simp[kindOf])),?_,h.dd}
 ·show L2.upd H o.ho _ o.ho=some (HO.dK (((S.holds++[((pn,[]):Str×List (Int×Str))]).map λx:Str×List (Int×Str)=>kS x.1).zip ((o.hs++[q]).map V.ref)))
  rw[aB,qH (by rw[za];exact ll.symm) (by rw[em];exact vN fr),zk,zk];rfl
 ·show cg _ JC ((S.holds++[((pn,[]):Str×List (Int×Str))]).map λx:Str×List (Int×Str)=>x.2) (o.hs++[q])
  rw[zk];exact cg.snoc (vs:=[]) (by rw[aC (bf hq hb (by simp[kindOf]))];exact hq) (by show aD _ [] [];unfold aD;rfl) (cg.upd nx hhs h.ho.2)
 ·refine Nd.to {d.pb,d.pr,?_,d.pn,d.br,?_,d.bn,?_,d.rn,?_,d.nn,?_}
  ·show o.pl∉o.hs++[q]
   rw[zG,zA];rintro(z | z)
   ·exact d.ph z
   ·exact n1.1 z.symm
  ·show o.ba∉o.hs++[q]
   rw[zG,zA];rintro(z | z)
   ·exact d.bh z
   ·exact n1.2.1 z.symm
  ·show o.re∉o.hs++[q]
   rw[zG,zA];rintro(z | z)
   ·exact d.rh z
   ·exact n1.2.2 z.symm
  ·show(o.hs++[q]).Nodup
   rw[zT];exact{d.hh,by simp,λx hx y hy e=>by rw[zA] at hy;subst hy;subst e;exact n2 hx}
  ·intro x hx z
   let hx':x∈o.hs++[q]:=hx;rw[zG,zA] at hx';rcases hx' with hx' | hx'
   ·exact d.hn x hx' z
   ·subst hx';exact n3 z
def bY.nQ (h:bY C H a S o) {pn:Str} (nk:(S.holds.map (·.1)).Nodup) (hm:pn∈S.holds.map (·.1)) :
  ∃x vs,cR ((S.holds.map λx=>kS x.1).zip (o.hs.map V.ref)) (kS pn)=some (.ref x)/\x∈o.hs/\H x=some (.lst vs)/\∀y b i,Is H (JC (b,i)) y->bY C (L2.upd H x (.lst (vs++[y]))) a (bM S (.holds pn b i)) o:=by
 let d:=Nd.of h.nd;let⟨x,vs,e1,e2,e3,e4⟩:=BK pn h.ho.2 d.hh nk hm;refine{x,vs,e1,e2,e3,λy b i iy=>?_};let nx:cj (H x):=by rw[e3];exact λ_ z=>by cases z
 let⟨ub,jm,ha,hub,hjm⟩:=h.obj;let⟨_,hi,_⟩:=h.ins;let⟨_,hs,_⟩:=h.st;let ea:bM S (.holds pn b i)={S with holds:=S.holds.map λq:Str×List (Int×Str)=>if q.1=pn then(q.1,q.2++[(b,i)]) else q}:=by
  show({S with holds:=eX S.holds pn (b,i)}:bW)=_;unfold eX;rw[if_pos hm]
 rw[ea];refine{h.BD nx (bf ha e3 (by simp[kindOf])),h.CQ (λz=>d.ph (by rw[z];exact e2)),h.ra nx (bf hi e3 (by simp[kindOf])),h.Ci nx (bf hs e3 (by simp[kindOf])),h.DW nx (λz=>d.bh (by rw[z];exact e2)),
  {?_,e4 y (b,i) (Is.upd nx iy)},h.C7 nx (bf h.no.1 e3 (by simp[kindOf])) (d.hn x e2),h.CM nx (λz=>d.rh (by rw[z];exact e2)),h.nd,h.dd}
 rw[aC (bf h.ho.1 e3 (by simp[kindOf])),h.ho.1];show _=some (HO.dK (((S.holds.map λq:Str×List (Int×Str)=>if q.1=pn then(q.1,q.2++[(b,i)]) else q).map λx:Str×List (Int×Str)=>kS x.1).zip _));rw[zB];have:(S.holds.map λx:Str×List (Int×Str)=>kS x.1)=S.holds.map ((λx:Str×List (Int×Str)=>kS x.1)∘λq:Str×List (Int×Str)=>if q.1=pn then(q.1,q.2++[(b,i)]) else q):=by
  refine List.map_congr_left λq _=>?_;show kS q.1=kS (if q.1=pn then((q.1,q.2++[(b,i)]):Str×List (Int×Str)) else q).1;split <;> rfl
 rw[this]
end
end Sc
namespace L2
open PySem PySem.Spec PyProof.Rows
noncomputable def noStar:Expr->Bool
 | .Starred ..=>false
 | _=>true
def nJ (h:noStar e=true):starEach (e::es) env=(false,eval e env)::starEach es env:=by
 cases e <;> first | rfl | (simp[noStar] at h)
def aa (ha:PE X e te) (hr:PA X es t) (hs:noStar e=true<|>qe_):PA X (e::es) (bR te t):=ah ha hr (nJ hs)
end L2
namespace Sc
open PySem L2 Lm
def lK (F:Nat->Dt) (Pσ:St->Prop) (hn:n<=sizeLine) (h0:Pσ U₀)
  (turn:∀(i:Nat) (U:St) (H:Hp) (R:St->V->Hp->Prop),i<n->au H1 H->Pσ U->(∀U3 y H5,au H H5->Is H5 (F i) y->Pσ U3->R U3 y H5)->g (.int (lo+i)) U H λU3 H3=>te U3 H3 λy H5=>R U3 y H5)
  (fin:∀D vs H,au H1 H->H1 D=none->H D=some (.lst vs)->aD H ((List.range n).map F) vs->Q (.ref D) H):dh U₀ g rS te Q (NP lo n) H1:=by
 refine nr (ws:=List.range n) (enc:=λi=>.int (lo+(i:Nat))) F Pσ (by rw[zR];exact hn) h0 (λi H hi _=>by rw[zR] at hi;exact hi) (λH _=>by rw[zR];exact zm _) ?_ ?_ fin
 ·rintro i x H H2 hi _ ⟨rfl,rfl⟩
  exact{rfl,by rw[List.getElem_range]}
 ·intro i U H R hi s p r
  exact turn i U H R (List.mem_range.mp hi) s p r
def d5 {c:Bool} {T:(Bool->Hp->Prop)->Prop} {Z:Bool->Hp->Prop} {H:Hp} (v:Bool) (h1:c=true->∀Z,Z v H->T Z) (h2:c=false->v=false) (hz:Z v H):if c=true then T Z else Z false H:=by
 cases c with
 | true=>rw[if_pos rfl];exact h1 rfl Z hz
 | false=>rw[if_neg (by simp)];rw[<-h2 rfl];exact hz
def EI:List (Int×Int)->TA
 | []=>eD
 | p::r=>bR (EH (bR (tC (.int p.1)) (bR (tC (.int p.2)) eD))) (EI r)
theorem Mv:∀{ps:List (Int×Int)} {H:Hp} {R:List V->Hp->Prop},(∀vs H',au H H'->aD H' (ps.map dL) vs->R vs H')->EI ps U H R
 | [],H,R,h=>h [] H (au.refl _) cD
 | p::r,H,R,h=>by
  let sl:=yC;refine{by show 2<=sizeLine;omega,λq hq=>?_};refine Mv λvs H' s' il=>?_;let s1:=bq (o:=HO.tup [.int p.1,.int p.2]) hq;exact h _ _ (s1.trans s') (aN (iB (s' _ _ aB)) il)
def SS (ps:List (Int×Int)):TE:=λ_ H Q=>∀D vs H',au H H'->H' D=some (.lst vs)->aD H' (ps.map dL) vs->Q (.ref D) H'
def OL (hl:⇑ps<=1000) (h:SS ps U H Q):EJ (EI ps) U H Q:=by
 let sl:=yC;refine Mv λvs H' s' il=>{by have:=aO il;omega,λD hD=>?_}
 exact h D vs _ (s'.trans (bq hD)) aB (il.mono (bq hD))
def QH:PA X [] (EI []):=ag
def R4 (h:PA X es (EI r)):PA X (.Tuple [.Constant (.int a) x1 p1,.Constant (.int b) x2 p2] k pos::es) (EI ((a,b)::r)):=
 ah (bz (ah ae (ah ae ag (nJ rfl)) (nJ rfl))) h (nJ rfl)
def QE (h:PA X es (EI ps)) (hl:⇑ps<=1000<|>qb_):PE X (.List es pos) (SS ps):=by
 intro pins s U H Q I hq;exact aY h pins s U H Q I (OL hl hq)
def oh (h:xs[⇑xs-1]?=some x):B5 xs (-1)=some x:=by
 let hp:0<⇑xs:=by
  have:=(zy.mp h).1;omega
 let ne:xs≠[]:=yr.mp hp;let e:=List.dropLast_concat_getLast ne;let e2:xs.getLast ne=x:=by
  have:=(zy.mp h).2;rw[List.getLast_eq_getElem];exact this
 rw[<-e,e2];exact L2.rF _ _
theorem xj:∀l:List Str,aD H (l.map Dt.str) (l.map V.str)
 | []=>cD
 | x::r=>aN eK (xj r)
def vC (h:Is H (kJ b) v):∃a m q,v=.ref a/\H a=some (.tup [m,.int b.key,.ref q])/\Is H (dL b.aP) m/\H q=some (.tup (b.marks.map V.str)):=by
 unfold kJ Is at h;let⟨a,vs,rfl,ha,hl⟩:=h;unfold aD at hl;let⟨v1,r1,rfl,h1,hl⟩:=hl;unfold aD at hl;let⟨v2,r2,rfl,h2,hl⟩:=hl;unfold aD at hl;let⟨v3,r3,rfl,h3,hl⟩:=hl;unfold aD at hl;subst hl;unfold Is at h2;subst h2;unfold mr Is at h3;let⟨q,us,rfl,hq,hle⟩:=h3;rw[dH hle] at hq;exact{(a),v1,q,rfl,ha,h1,hq}
noncomputable def lets:Str:="abcdefghijklmnopqrstuvwxyz"
def MU:∀j:Fin 26,lets.cps.toList[j.val]?=some (97+j.val):=by decide
def Jp (h0:0<=i) (h:i<26):B5 lets.cps.toList i=some (97+i.toNat):=by
 let⟨j,rfl⟩:=yL h0;exact bC (MU {(j),nofun})
def Ob:∀j:Fin 36,(lets ++"0123456789").cps.toList[j.val]?=some (sgn.getD j.val 0)/\sgn.getD j.val 0∈sgn:=by decide
def Qr (h0:0<=i) (h:i<36):∃c,c∈sgn/\B5 (lets ++"0123456789").cps.toList i=some c:=by
 let⟨j,rfl⟩:=yL h0;have:=Ob {(j),nofun};exact{_,this.2,bC this.1}
noncomputable def Oc (i:Int):Nat:=(B5 (lets ++"0123456789").cps.toList i).getD 0
def L4 (h0:0<=i) (h:i<36):B5 (lets ++"0123456789").cps.toList i=some (Oc i)/\Oc i∈sgn:=by
 let⟨c,h1,h2⟩:=Qr h0 h;unfold Oc;rw[h2];exact{(rfl),h1}
def Jq:∀j:Fin 26,97+j.val∈sgn:=by decide
def MV {i:Int} (h0:0<=i) (h:i<26):97+i.toNat∈sgn:=Jq {(i.toNat),nofun}
def PF (h1:1<=⇑n) (h2:⇑n<=12) (h3:∀c∈n.cps.toList,c∈sgn):gc n:=by
 unfold gc cK;rw[if_neg nofun,if_neg nofun,if_pos (yp.mpr λc hc=>zg (h3 c hc))]
def yZ (ns:List Str):Prop:=(∀n∈ns,gc n)/\ns.Nodup
theorem sY:∀{l:List α},l.Nodup->(∀x∈l,∀y∈l,f x=f y->x=y)->(l.map f).Nodup
 | [],_,_=>List.nodup_nil
 | x::r,h,k=>by
  rw[yd] at h;rw[zj,yd];refine{λz=>?_,sY h.2 λa ha b hb e=>k a (zp _ ha) b (zp _ hb) e};let⟨y,hy,e⟩:=zH.mp z;have:=k y (zp _ hy) x zr e;subst this;exact h.1 hy
def Ko (hm:m<=12) (hc:c∈sgn):yZ ((List.range m).map λk=>oY {#[c]} (m-k)):=by
 let el:∀k,⇑(oY {#[c]} k)=k:=λk=>by rw[Fj];exact Nat.mul_one k
 refine{λn hn=>?_,sY List.nodup_range λx hx y hy e=>?_}
 ·let⟨k,hk,rfl⟩:=zH.mp hn
  have:=List.mem_range.mp hk;refine PF (by rw[el];omega) (by rw[el];omega) λd hd=>?_;rw[qD] at hd;let⟨l,hl,hd⟩:=List.mem_flatten.mp hd;rw[List.mem_replicate] at hl;rw[hl.2] at hd;have:d=c:=by simpa using hd
  rw[this];exact hc
 ·have:=congrArg Str.length e
  rw[el,el] at this;have:=List.mem_range.mp hx;have:=List.mem_range.mp hy;omega
def HP {stem:Str} {pl first m:Nat} (hs:⇑stem<=11) (hp:pl<=⇑stem) (hc:∀c∈stem.cps.toList,c∈sgn) (hm:m<=26) :
  yZ ((List.range m).map λk=>Txt.slice stem none (some (pl:Int))++{#[97+(first+5*k)%26]}++Txt.slice stem (some (pl:Int)) none):=by
 let sl:⇑stem.cps.toList=⇑stem:=Array.length_toList;let cp:∀k,(Txt.slice stem none (some (pl:Int))++{#[97+(first+5*k)%26]}++Txt.slice stem (some (pl:Int)) none).cps.toList=stem.cps.toList.take pl++[97+(first+5*k)%26]++stem.cps.toList.drop pl:=λk=>by
  rw[cG,cG,EX stem hp,oP stem hp]
 refine{λn hn=>?_,sY List.nodup_range λx hx y hy e=>?_}
 ·let⟨k,hk,rfl⟩:=zH.mp hn
  let el:⇑(Txt.slice stem none (some (pl:Int))++{#[97+(first+5*k)%26]}++Txt.slice stem (some (pl:Int)) none)=⇑stem+1:=by
   rw[<-show _=⇑(Txt.slice stem none (some (pl:Int))++{#[97+(first+5*k)%26]}++Txt.slice stem (some (pl:Int)) none) from Array.length_toList,cp,zh,zh,zQ,List.length_drop,List.length_singleton];omega
  refine PF nofun nofun λd hd=>?_;rw[cp,zG,zG,zA] at hd;rcases hd with(hd | hd) | hd
  ·exact hc d (List.mem_of_mem_take hd)
  ·rw[hd];exact Jq {(first+5*k)%26,Nat.mod_lt _ ∅}
  ·exact hc d (List.mem_of_mem_drop hd)
 ·let q:(Txt.slice stem none (some (pl:Int))++{#[97+(first+5*x)%26]}++Txt.slice stem (some (pl:Int)) none).cps.toList=(Txt.slice stem none (some (pl:Int))++{#[97+(first+5*y)%26]}++Txt.slice stem (some (pl:Int)) none).cps.toList:=by rw[e]
  rw[cp,cp,zF,zF] at q;let q2:=List.append_cancel_left q;simp at q2;have:=List.mem_range.mp hx;have:=List.mem_range.mp hy;omega
theorem qX:∀zs:List Str,(Str.join "" zs).cps.toList=(zs.map λz:Str=>z.cps.toList).flatten
 | []=>rfl
 | [z]=>by rw[join_one];simp
 | z::y::r=>by
  rw[eT,cG,cG,qX (y::r)];show z.cps.toList++[]++_=_;rw[zV];rfl
noncomputable def mO (c:Int) (n:Nat):List Str:=(List.range n).map λk=>{#[Oc ((c/16224+7*(0+(k:Nat)))%36)]}
theorem F4 (f:α->β):∀l:List α,((l.map f).map λx=>[x]).flatten=l.map f
 | []=>rfl
 | x::r=>by rw[zj,zj,ya,F4 f r];rfl
def EM (c:Int) (n:Nat):(Str.join "" (mO c n)).cps.toList=(List.range n).map λk:Nat=>Oc ((c/16224+7*(0+(k:Nat)))%36):=by
 rw[qX];unfold mO;rw[zB];have:=F4 (λk:Nat=>Oc ((c/16224+7*(0+(k:Nat)))%36)) (List.range n);rw[zB] at this;exact this
def LX (c:Int) (n:Nat):(Str.join "" (mO c n)).length=n:=by
 rw[<-show _=(Str.join "" (mO c n)).length from Array.length_toList,EM,za,zR]
def LW:∀d∈(Str.join "" (mO c n)).cps.toList,d∈sgn:=λd hd=>by
 rw[EM] at hd;let⟨k,_,rfl⟩:=zH.mp hd;exact(L4 (zw _ ∅) (zt _ ∅)).2
def LV (c:Int) (n:Nat):((mO c n).map (λz:Str=>⇑z+("": Str).length)).sum=n:=by
 unfold mO;rw[zB];have:((λz:Str=>⇑z+("": Str).length)∘λk:Nat=>({#[Oc ((c/16224+7*(0+(k:Nat)))%36)]}:Str))=λ_=>1:=rfl;rw[this,List.map_const',List.sum_replicate_nat,zR,Nat.mul_one]
end Sc
namespace Sc
open PySem L2 Lm
def bj (n:H D=none) (s:au H H2):au H (L2.upd H2 D u):=λb v hb=>by
 rw[aC (λz=>by rw[z,n] at hb;cases hb)];exact s b v hb
def Eo (its:List Item) (x:Int×Int):Prop:=⇑its<=40/\(∀it∈its,Li it)/\jU its=x/\its.all (λit=>it.1.isNone)=false
def IQ (x:Int×Int):Prop:=Lm.Rd x/\0<x.1/\x.1<=32/\x.2<=160
def G9 (l:List Item) (it:Item):jU (l++[it])=add (jU l) it.2:=by unfold jU;rw[zY];rfl
def LQ {x:Int×Int} (hx:0<x.2) {W:Int} (hW:0<W) {l:List Item} {t w:Int} {it:Item} (h:jU l=red (x.1*t) (x.2*W)) (e:it.2=red (x.1*w) (x.2*W)):jU (l++[it])=red (x.1*(t+w)) (x.2*W):=by
 let hb:0<x.2*W:=Int.mul_pos hx hW;rw[G9,h,e,Pa hb hb,<-kY hb hb (t:=x.1*(t+w))]
 congr 1
 rw[<-Int.add_mul,<-Int.mul_add,Int.mul_comm]
def LR {x:Int×Int} (hx:0<x.2) {W:Int} (hW:0<W):jU []=red (x.1*0) (x.2*W):=by
 let hb:0<x.2*W:=Int.mul_pos hx hW;show((0,1):Int×Int)=_;rw[Int.mul_zero];have:=kY (t:=0) (b:=1) (k:=x.2*W) hb ∅;rw[Int.mul_zero,Int.mul_one] at this;rw[this];decide
def JZ (hx:Lm.Rd x) (hW:0<W):red (x.1*W) (x.2*W)=x:=by
 let⟨_,p2,p3⟩:=hx.pos;rw[Int.mul_comm x.1,Int.mul_comm x.2,kY hW p2,p3]
def MS (h:IQ x) (w1:1<=w) (w2:w<=4) (W1:1<=W) (W2:W<=24):NW (red (x.1*w) (x.2*W)):=by
 let⟨hr,h1,h2,h3⟩:=h;let⟨_,p2,_⟩:=hr.pos;let a1:0<x.1*w:=Int.mul_pos h1 nofun;let a2:x.1*w<=32*4:=Int.mul_le_mul h2 w2 nofun ∅;let b1:0<x.2*W:=Int.mul_pos p2 nofun;let b2:x.2*W<=160*24:=Int.mul_le_mul h3 W2 nofun ∅;let⟨g,g1,g2,g3,g4,g5⟩:=iV (t:=x.1*w) b1;let r1:=wK (t:=x.1*w) (b:=x.2*W) (Int.le_of_lt a1);refine{Lm.Rd.of (Int.le_of_lt a1) b1,?_,nofun,nofun};let r0:=wJ (t:=x.1*w) (b:=x.2*W) (Int.le_of_lt a1);rcases Int.lt_or_eq_of_le r0 with z | z
 ·exact z
 ·rw[<-z,Int.mul_zero] at g2;omega
noncomputable def rN (m:Int) (n:Nat):List Int:=(List.range n).map λj=>1+m/(7+5*(0+(j:Nat)))%4
def NY (m:Int) (n:Nat):⇑(rN m n)=n:=by unfold rN;rw[za,zR]
def GZ (h:w∈rN m n):1<=w/\w<=4:=by
 unfold rN at h;let⟨j,_,rfl⟩:=zH.mp h;let a:=zw (m/(7+5*(0+(j:Int)))) (b:=4) ∅;let b:=zt (m/(7+5*(0+(j:Int)))) (b:=4) ∅;omega
theorem LS:∀{l:List Int},(∀w∈l,1<=w/\w<=4)->(⇑l:Int)<=l.sum/\l.sum<=4*⇑l
 | [],_=>by simp
 | w::r,h=>by
  let ih:=LS (l:=r) λz hz=>h z (zp _ hz);have:=h w zr;rw[List.sum_cons,zv];omega
def Kh (m:Int):NN (m%41-20,7*(m%41-20)%12+(m/41%14-7)*12):=by
 let a:=zw m (b:=41) ∅;let b:=zt m (b:=41) ∅;let c:=zw (m/41) (b:=14) ∅;let d:=zt (m/41) (b:=14) ∅;unfold NN;dsimp only;omega
def join {c:Bool} {t1 t2:TS} {D:Ends} {U:St} {H:Hp} (P:St->Hp->Prop) (ha:∀N:St->Hp->Prop,(∀U H,P U H->N U H)->c=true->t1 {D with nx:=N} U H)
  (hb:∀N:St->Hp->Prop,(∀U H,P U H->N U H)->c=false->t2 {D with nx:=N} U H) (hN:∀U H,P U H->D.nx U H):if c=true then t1 D U H else t2 D U H:=by
 cases c with
 | true=>rw[if_pos rfl];exact ha D.nx hN rfl
 | false=>rw[if_neg (by simp)];exact hb D.nx hN rfl
def RL (R:α->V->Prop):List α->List V->Prop
 | [],vs=>vs=[]
 | x::xs,vs=>∃v r,vs=v::r/\R x v/\RL R xs r
theorem RL.imp {α:Type} {R R':α->V->Prop} (h:∀x v,R x v->R' x v):∀{xs:List α} {vs:List V},RL R xs vs->RL R' xs vs
 | [],_,e=>e
 | _::_,_,⟨v,r,e,h1,h2⟩=>{v,r,e,h _ _ h1,RL.imp h h2}
theorem RL.snoc {α:Type} {R:α->V->Prop} {x:α} {v:V} (h:R x v):∀{xs:List α} {vs:List V},RL R xs vs->RL R (xs++[x]) (vs++[v])
 | [],_,e=>by unfold RL at e;subst e;exact{v,[],rfl,h,rfl}
 | _::_,_,⟨u,r,e,h1,h2⟩=>by subst e;exact{u,r++[v],rfl,h1,RL.snoc h h2}
theorem RL.len:∀{xs:List α} {vs:List V},RL R xs vs->⇑vs=⇑xs
 | [],_,e=>by unfold RL at e;rw[e];rfl
 | _::_,_,⟨u,r,e,_,h2⟩=>by rw[e,zv,zv,RL.len h2]
theorem RL.at:∀{xs:List α} {vs:List V} {i:Nat} {v:V},RL R xs vs->vs[i]?=some v->∃x,xs[i]?=some x/\R x v
 | [],_,_,_,e,h=>by unfold RL at e;subst e;simp at h
 | x::_,_,0,_,⟨u,r,e,h1,_⟩,h=>by subst e;simp at h;subst h;exact{(x),rfl,h1}
 | _::_,_,i+1,_,⟨u,r,e,_,h2⟩,h=>by subst e;simpa using RL.at (i:=i) h2 (by simpa using h)
inductive jx (D:Addr) (H:Hp) (x:Str×List (Int×Str)) (v:V):Prop
 | mk (a r:Addr) (us:List V) (_:v=.ref a) (_:H a=some (.tup [.str x.1,.ref r])) (_:H r=some (.lst us)) (_:aD H (x.2.map JC) us) (_:r≠D)
theorem jx.mono (s:au H H') (h:jx D H x v):jx D H' x v:=by
 let⟨a,r,us,h1,h2,h3,h4,h5⟩:=h;exact{a,r,us,h1,s _ _ h2,s _ _ h3,h4.mono s,h5}
theorem jx.upd (hD:H D=some (.lst vs)) (h:jx D H x v):jx D (L2.upd H D o) x v:=by
 let⟨a,r,us,h1,h2,h3,h4,h5⟩:=h;let nt:cj (H D):=by rw[hD];exact λ_ z=>by cases z
 exact{a,r,us,h1,by rw[aC (Sc.bf h2 hD (by simp[kindOf]))];exact h2,by rw[aC h5];exact h3,aD.upd nt h4,h5}
inductive hV (D:Addr) (H:Hp) (x:(Int×Str)×List Item) (v:V):Prop
 | mk (a q:Addr) (us:List V) (_:v=.ref a) (_:H a=some (.tup [.int x.1.1,.str x.1.2,.ref q])) (_:H q=some (.lst us)) (_:aD H (x.2.map eM) us) (_:q≠D)
theorem hV.mono (s:au H H') (h:hV D H x v):hV D H' x v:=by
 let⟨a,r,us,h1,h2,h3,h4,h5⟩:=h;exact{a,r,us,h1,s _ _ h2,s _ _ h3,h4.mono s,h5}
theorem hV.upd (hD:H D=some (.lst vs)) (h:hV D H x v):hV D (L2.upd H D o) x v:=by
 let⟨a,r,us,h1,h2,h3,h4,h5⟩:=h;let nt:cj (H D):=by rw[hD];exact λ_ z=>by cases z
 exact{a,r,us,h1,by rw[aC (Sc.bf h2 hD (by simp[kindOf]))];exact h2,by rw[aC h5];exact h3,aD.upd nt h4,h5}
def JJ (ins:List Str) (many:Int) (row:List (Int×Str)):Prop:=row≠[]/\⇑row<=4/\(row.map (·.1)).Pairwise (·<·)/\∀h∈row,0<=h.1/\h.1<many/\h.2∈ins
noncomputable def eC (S:bW):List Told:=
 S.players.map .bH++(S.ak.map λx=>.cL x.1 x.2.1 x.2.2)++(S.aJ.map λx=>.cq x.1 x.2)++S.aK.map .bar++S.aF.toList.map .aF ++
 (S.holds.map λx=>x.2.map λh=>Told.holds x.1 h.1 h.2).flatten++(S.aI.map λx=>.aI x.1.1 x.1.2 x.2)++(S.repeats.map .rep++S.bT.toList.map .bT)
inductive kM (H:Hp) (p:Addr) (S:bW):Prop
 | mk (pl il sl bl hl nl rl:Addr) (ub jm:V) (iv sv bv hv nv rv:List V) (_:H p=some (.tup [.ref pl,.ref il,.ref sl,.ref bl,ub,.ref hl,.ref nl,.ref rl,jm])) (_:H pl=some (.lst (S.players.map V.str)))
  (_:H il=some (.lst iv)/\aD H (S.ak.map d7) iv) (_:H sl=some (.lst sv)/\aD H (S.aJ.map gn) sv) (_:H bl=some (.lst bv)/\aD H (S.aK.map kJ) bv) (_:Is H (dO dL S.aF) ub)
  (_:H hl=some (.lst hv)/\RL (jx hl H) S.holds hv) (_:H nl=some (.lst nv)/\RL (hV nl H) S.aI nv) (_:H rl=some (.lst rv)/\aD H (S.repeats.map gq) rv) (_:Is H (dO jP S.bT) jm)
def kM.at' {H:Hp} {p:Addr} {S:bW} (h:kM H p S):kM H p S:=h
theorem kM.mono (s:au H H') (h:kM H p S):kM H' p S:=by
 let⟨pl,il,sl,bl,hl,nl,rl,ub,jm,iv,sv,bv,hv,nv,rv,h1,h2,h3,h4,h5,h6,h7,h8,h9,ha⟩:=h;exact{pl,il,sl,bl,hl,nl,rl,ub,jm,iv,sv,bv,hv,nv,rv,s _ _ h1,s _ _ h2,{s _ _ h3.1,h3.2.mono s},{s _ _ h4.1,h4.2.mono s},{s _ _ h5.1,h5.2.mono s},h6.mono s,{s _ _ h7.1,h7.2.imp λx v z=>z.mono s},{s _ _ h8.1,h8.2.imp λx v z=>z.mono s},{s _ _ h9.1,h9.2.mono s},ha.mono s}
def bD (h1:-10000<n) (h2:n<10000):⇑(dec n)<=5:=by
 by_cases h:0<=n
 ·have:=Gg h h2;omega
 ·rw[vI nofun,len_app]
  have:=Gg (n:=-n) nofun nofun;have:("-": Str).length=1:=rfl;omega
def bP (h1:-10000<n) (h2:n<10000):n.natAbs.log2<1920:=by
 by_cases z:n.natAbs=0
 ·rw[z];decide
 ·exact yc ((Nat.log2_lt z).mpr (show n.natAbs<2^14 by omega)) ∅
def kA (h1:-10000<x.1) (h2:x.1<10000) (h3:-10000<x.2) (h4:x.2<10000):⇑(iA x)<=11:=by
 unfold iA;let a:=bD h1 h2;let b:=bD h3 h4;split
 ·omega
 ·rw[len_app,len_app]
  have:("/": Str).length=1:=rfl;omega
def Kw (h:Li it):⇑(pE it)<=30:=by
 let⟨o,x⟩:=it;let⟨⟨hr,h1,h2,h3⟩,hq⟩:=h;let⟨_,p2,_⟩:=hr.pos;dsimp only at h1 h2 h3 p2 hq;let lx:=kA (x:=x) nofun h2 nofun h3;cases o with
 | none=>
  show("r:" ++ iA x).length<=30;rw[len_app];have:("r:": Str).length=2:=rfl;omega
 | some q=>
  let⟨q1,q2,q3,q4,_⟩:=hq q rfl;let a:=bD (n:=q.1) nofun nofun;let b:=bD (n:=q.2) nofun nofun;show(dec q.1 ++":" ++ dec q.2 ++":" ++ iA x).length<=30;rw[len_app,len_app,len_app,len_app];have:(":": Str).length=1:=rfl;omega
theorem oJ {sep:Str} {k:Nat}:∀{zs:List Str},(∀z∈zs,⇑z<=k)->(zs.map (λz:Str=>⇑z+⇑sep)).sum<=⇑zs*(k+⇑sep)
 | [],_=>by simp
 | z::r,h=>by
  let ih:=oJ (sep:=sep) (zs:=r) λy hy=>h y (zp _ hy);have:=h z zr;rw[zj,List.sum_cons,zv,Nat.succ_mul];omega
theorem join_le (sep:Str):∀zs:List Str,⇑(Str.join sep zs)<=(zs.map (λz:Str=>⇑z+⇑sep)).sum
 | []=>zm _
 | [z]=>by rw[join_one];simp
 | z::y::r=>by
  let ih:=join_le sep (y::r);rw[eT,len_app,len_app,zj,List.sum_cons];omega
def xi (h:∀z∈zs,⇑z<=k):⇑(Str.join sep zs)<=⇑zs*(k+⇑sep):=zM (join_le sep zs) (oJ h)
def Lf (r:Rep):Prop:=PR (.rep r)/\⇑r.ends<=9/\∀e∈r.ends,⇑e.2<=9
def F9 (h:Ut e) (hl:⇑e.2<=9):⇑(oy e)<=60:=by
 let⟨h1,h2,h3,h4⟩:=h;let a:=bD (n:=e.1) nofun nofun;let b:(Str.join "," (e.2.map dec)).length<=⇑(e.2.map dec)*(5+(",": Str).length):=xi λz hz=>by
  let⟨p,hp,rfl⟩:=zH.mp hz;have:=h4 p hp;exact bD nofun nofun
 let l1:(":": Str).length=1:=rfl;let l2:(",": Str).length=1:=rfl;rw[za,l2] at b;unfold oy;rw[len_app,len_app];omega
def Jf (h1:ns.Perm l) (h2:ns.Pairwise (·<=·)):sortI l=ns:=by
 unfold sortI;refine(List.Perm.eq_of_pairwise (le:=λa b:Int=>a<=b) (λa b _ _ x y=>Int.le_antisymm x y) h2 ?_ (h1.trans (List.mergeSort_perm _ _).symm)).symm;have:=List.pairwise_mergeSort (le:=λa b:Int=>decide (a<=b)) (λa b c x y=>by simp at x y ⊢;omega) (λa b=>by simp;omega) l;exact this.imp λh=>ye h
theorem xx:∀{es:List End} {a:Int} {ps:List Int},(es.map (·.1)).Pairwise (·<·)->(∀e∈es,a<e.1)->(∀e∈es,e.2.Pairwise (·<=·))->fP es a ps=some (((es.map (·.1)).getLast?).getD a,ps++(es.map (·.2)).flatten)
 | [],a,ps,_,_,_=>by simp[fP]
 | e::r,a,ps,h1,h2,h3=>by
  rw[zj,List.pairwise_cons] at h1;let ih:=xx (es:=r) (a:=e.1) (ps:=ps++e.2) h1.2 (λx hx=>h1.1 _ (zP (f:=λy:End=>y.1) hx)) (λx hx=>h3 x (zp _ hx));show(if e.1<=a then none else if e.2≠sortI e.2 then none else fP r e.1 (ps++e.2))=_;let c1:=h2 e zr;rw[if_neg nofun,if_neg (λz=>z (Jf (List.Perm.refl _) (h3 e zr)).symm),ih,zj,zj,ya,zF]
  congr 2
  cases r with
  | nil=>rfl
  | cons x t=>rw[zj,List.getLast?_cons_cons,List.getLast?_cons];rfl
theorem F3:∀{n:Nat},k<n->((List.range n).map λi=>if i=k then g i++[x] else g i).flatten.Perm (((List.range n).map g).flatten++[x])
 | 0,h=>nofun
 | n+1,h=>by
  rw[List.range_succ,zk,zk,List.flatten_append,List.flatten_append];simp only[zj,yn,ya,List.flatten_nil,zV]
  by_cases e:n=k
  ·rw[if_pos e,<-zF]
   have:((List.range n).map λi=>if i=k then g i++[x] else g i)=(List.range n).map g:=List.map_congr_left λi hi=>by
    have:=List.mem_range.mp hi;rw[if_neg nofun]
   rw[this]
  ·rw[if_neg e]
   let ih:=F3 (g:=g) (x:=x) (k:=k) (n:=n) nofun;refine(ih.append_right _).trans ?_;rw[zF,zF];exact List.Perm.append_left _ (List.perm_append_comm)
noncomputable def cO (sp:Nat->Nat):Nat->Nat->List Int
 | 0,_=>[]
 | k+1,i=>if i=sp k then cO sp k i++[(k:Int)+1] else cO sp k i
theorem qK:∀{k:Nat},p∈cO sp k i->∃j,j<k/\p=(j:Int)+1/\i=sp j
 | 0,h=>by cases h
 | k+1,h=>by
  unfold cO at h;split at h
  ·rename_i e
   rcases zG.mp h with h | h
   ·let⟨j,h1,h2⟩:=qK h
    exact{(j),nofun,h2}
   ·exact{k,nofun,by simpa using h,e}
  ·let⟨j,h1,h2⟩:=qK h
   exact{(j),nofun,h2}
theorem wU:∀{k:Nat},(cO sp k i).Pairwise (·<=·)
 | 0=>List.Pairwise.nil
 | k+1=>by
  unfold cO;split
  ·rw[zU]
   refine{wU,by simp,λa ha b hb=>?_};let⟨j,h1,h2,_⟩:=qK ha;have:b=(k:Int)+1:=by simpa using hb
   omega
  ·exact wU
theorem Fx (e:i=sp j):∀{k:Nat},j<k->((j:Int)+1)∈cO sp k i
 | 0,h=>nofun
 | k+1,h=>by
  unfold cO
  by_cases c:j=k
  ·subst c
   rw[if_pos e];exact zI _ (zA.mpr rfl)
  ·let ih:=Fx e (k:=k) nofun
   split
   ·exact zJ _ ih
   ·exact ih
theorem wR:∀{k:Nat},⇑(cO sp k i)<=k
 | 0=>zm _
 | k+1=>by
  let ih:=wR (sp:=sp) (i:=i) (k:=k);unfold cO;split
  ·rw[zh];simp;omega
  ·omega
theorem Bz:∀{k:Nat},(∀j,j<k->sp j<n)->((List.range n).map (cO sp k)).flatten.Perm (Kd 1 k)
 | 0,_=>by
  have:((List.range n).map (cO sp 0)).flatten=[]:=by
   rw[List.flatten_eq_nil_iff];intro l hl;let⟨i,_,rfl⟩:=zH.mp hl;rfl
  rw[this];exact List.Perm.refl _
 | k+1,h=>by
  let ih:=Bz (sp:=sp) (n:=n) (k:=k) λj hj=>h j nofun;let e:(List.range n).map (cO sp (k+1))=(List.range n).map λi=>if i=sp k then cO sp k i++[(k:Int)+1] else cO sp k i:=List.map_congr_left λi _=>by rw[cO]
  rw[e];refine(F3 (h k nofun)).trans ?_;unfold Kd at ih ⊢;rw[List.range_succ,zk];refine(ih.append_right _).trans ?_;rw[List.map_singleton,Int.add_comm]
def Oi (k:Nat):(Kd 1 k).Pairwise (·<=·):=by
 unfold Kd;rw[List.pairwise_map];exact(List.pairwise_lt_range).imp λh=>nofun
noncomputable def rk (bs:List Int) (sp:Nat->Nat) (t:Nat):List End:=bs.zip ((List.range ⇑bs).map (cO sp t))
theorem Eu:∀{a:List α} {b:List β},⇑a=⇑b->(a.zip b).map (·.1)=a
 | [],[],_=>rfl
 | x::xs,y::ys,h=>by rw[List.zip_cons_cons,zj,Eu (by simpa using h)]
 | [],_::_,h=>by simp at h
 | _::_,[],h=>by simp at h
theorem Et:∀{a:List α} {b:List β},⇑a=⇑b->(a.zip b).map (·.2)=b
 | [],[],_=>rfl
 | x::xs,y::ys,h=>by rw[List.zip_cons_cons,zj,Et (by simpa using h)]
 | [],_::_,h=>by simp at h
 | _::_,[],h=>by simp at h
def kF:(rk bs sp t).map (·.1)=bs:=Eu (by simp)
def tq:(rk bs sp t).map (·.2)=(List.range ⇑bs).map (cO sp t):=Et (by simp)
def KL:⇑(rk bs sp t)=⇑bs:=by
 have:=congrArg List.length (kF (bs:=bs) (sp:=sp) (t:=t))
 rwa [za] at this
def tw (h:e∈rk bs sp t):e.1∈bs/\∃i,i<⇑bs/\e.2=cO sp t i:=by
 let h1:=zP (f:=λx:End=>x.1) h;let h2:=zP (f:=λx:End=>x.2) h;rw[kF] at h1;rw[tq] at h2;let⟨i,hi,e2⟩:=zH.mp h2;exact{h1,i,List.mem_range.mp hi,e2.symm}
def JM (first last times:Int) (es:List End):Prop:=fQ {(first),last,times,es}=true/\⇑es<=9/\(∀e∈es,first<=e.1/\e.1<=last/\e.2≠[]/\⇑e.2<=9/\∀p∈e.2,0<=p/\p<1000)/\⇑((es.map (·.2)).flatten)<=9/\(es.map (·.1)).Pairwise (·<·)
def KI:JM first last times []:={rfl,∅,by simp,by simp,by simp}
def Ie (t9:t<=9) (ne:bs≠[]) (asc:bs.Pairwise (·<·)) (hin:∀b∈bs,first<=b/\b<=last) (hsp:∀j,j<t->sp j<⇑bs) (hon:∀i,i<⇑bs->∃j,j<t/\sp j=i) (bt:⇑bs<=t):JM first last t (rk bs sp t):=by
 let pm:=Bz (k:=t) hsp;let pl:((List.range ⇑bs).map (cO sp t)).flatten.length=t:=by rw[pm.length_eq];unfold Kd;simp
 refine{?_,by rw[KL];omega,λe he=>?_,by rw[tq,pl];exact t9,by rw[kF];exact asc}
 ·let e1:=xx (es:=rk bs sp t) (a:=first-1) (ps:=[]) (by rw[kF];exact asc) (λe he=>by have:=hin _ (tw he).1;omega) (λe he=>by let⟨_,i,_,e2⟩:=tw he;rw[e2];exact wU)
  let e2:sortI (([]:List Int)++((rk bs sp t).map (·.2)).flatten)=Kd 1 t:=by rw[List.nil_append,tq];exact Jf pm.symm (Oi t)
  unfold fQ;dsimp only;cases q:rk bs sp t with
  | nil=>rfl
  | cons x r=>
   rw[q] at e1 e2;dsimp only;rw[e1];dsimp only;rw[e2,show((t:Int)+1-1).toNat=t by omega,zg rfl,Bool.and_true,decide_eq_true_eq,<-q,kF];cases q2:bs.getLast? with
   | none=>exact absurd (List.getLast?_eq_none_iff.mp q2) ne
   | some b=>exact(hin b (List.mem_of_getLast? q2)).2
 ·let⟨hb,i,hi,e2⟩:=tw he
  let⟨j,hj,ej⟩:=hon i hi;refine{(hin _ hb).1,(hin _ hb).2,?_,?_,λp hp=>?_}
  ·rw[e2];exact List.ne_nil_of_mem (Fx ej.symm hj)
  ·rw[e2];have:=wR (sp:=sp) (i:=i) (k:=t);omega
  ·rw[e2] at hp
   let⟨j,h1,h2,_⟩:=qK hp;omega
def N9 {n c:Nat} {i:Nat} (hi:i<n):∃j,j<n/\(j+c)%n=i:=by
 refine{(i+(n-c%n))%n,Nat.mod_lt _ nofun,?_};let hc:c%n<n:=Nat.mod_lt _ nofun;rw[Nat.add_mod,Nat.mod_mod,<-Nat.add_mod];let e:i+(n-c%n)+c=i+n+n*(c/n):=by
  have:=Nat.div_add_mod c n;omega
 rw[e,Nat.add_mul_mod_self_left,Nat.add_mod_right,Nat.mod_eq_of_lt hi]
def rO (Pv:Nat->St->Hp->Prop) (Pe:St->Hp->Prop) (h0:∃m,Pv m U H)
  (turn:∀m U H,Pv m U H->∀N:St->Hp->Prop,(∀U H,Pe U H->N U H)->c U H λb H1=>if b=true then∃N':St->Hp->Prop,(∀U' H',N' U' H'->∃m',m'<m/\Pv m' U' H')/\tb {D with nx:=N',ct:=N',bk:=N} U H1 else N U H1)
  (hd:∀U H,Pe U H->D.nx U H):LL c tb D U H:={Pv,h0,λm U H p=>turn m U H p D.nx hd}
def CV {c:Bool} {T:(Bool->Hp->Prop)->Prop} {Z:Bool->Hp->Prop} {H:Hp} (v:Bool) (h1:c=false->∀Z,Z v H->T Z) (h2:c=true->v=true) (hz:Z v H):if c=true then Z true H else T Z:=by
 cases c with
 | false=>rw[if_neg (by simp)];exact h1 rfl Z hz
 | true=>rw[if_pos rfl];rw[<-h2 rfl];exact hz
def Iw {K:yB} {α:Type} {t1 t2:Bool} {a b:Addr} {ws:List α} {e1 e2:α->V} {U₀:St} {g:TG} {te:TE} {Q:VK} {H1:Hp} (F:α->Dt) (Pσ:St->Prop) (hn:⇑ws<=sizeLine) (ha:Bi t1 K H1 a (ws.map e1)) (hb:Bi t2 K H1 b (ws.map e2)) (h0:Pσ U₀)
  (turn:∀(x:α) (U:St) (H:Hp) (p:Addr) (R:St->V->Hp->Prop),x∈ws->au H1 H->H p=some (.tup [e1 x,e2 x])->Pσ U->(∀U3 y H5,au H H5->Is H5 (F x) y->Pσ U3->R U3 y H5)->g (.ref p) U H λU3 H3=>te U3 H3 λy H5=>R U3 y H5)
  (fin:∀D vs H,au H1 H->H1 D=none->H D=some (.lst vs)->aD H (ws.map F) vs->Q (.ref D) H):dh U₀ g rS te Q (Ta t1 t2 K a b) H1:=by
 refine{λi m xs U H=>m=⇑ws-i/\i<=⇑ws/\⇑xs=i/\au H1 H/\aD H ((ws.take i).map F) xs/\Pσ U,{_,rfl,yg _,rfl,au.refl _,by simp[aD],h0},?_};rintro i m xs U H ⟨rfl,hi,hx,sm,il,pσ⟩;rcases Nat.lt_or_ge i ⇑ws with hlt | hge
 ·let g1:(ws.map e1)[i]?=some (e1 ws[i]):=by rw[zK,zd hlt];rfl
  let g2:(ws.map e2)[i]?=some (e2 ws[i]):=by rw[zK,zd hlt];rfl
  refine .inr {{_,_,_,_,sm.Pw ha,sm.Pw hb,g1,g2},nofun,?_};rintro x H2 ⟨p,u,v,np,rfl,rfl,hu,hv⟩;let eu:=hu _ (sm.Pw ha);let ev:=hv _ (sm.Pw hb);rw[g1] at eu;rw[g2] at ev;cases eu;cases ev;let s2:au H (upd H p (.tup [e1 ws[i],e2 ws[i]])):=bq np;refine turn ws[i] U _ p (λU3 y H5=>if true=true then∃m',m'<⇑ws-i/\(m'=⇑ws-(i+1)/\i+1<=⇑ws/\⇑(xs++[y])=i+1/\au H1 H5/\aD H5 ((ws.take (i+1)).map F) (xs++[y])/\Pσ U3) else False) (ym hlt) (sm.trans s2) aB pσ ?_;rintro U3 y H5 s5 iy p3;rw[if_pos rfl];refine{_,nofun,rfl,hlt,by simp[hx],(sm.trans s2).trans s5,?_,p3};rw[List.take_add_one,zd hlt,zk];exact cX iy ((il.mono s2).mono s5)
 ·let e:i=⇑ws:=nofun
  subst e;refine .inl {{_,_,sm.Pw ha,sm.Pw hb,.inl (by rw[za];exact zm _)},nofun,λD hD=>?_};let il':aD H (ws.map F) xs:=by rw[zN] at il;exact il
  exact fin D xs _ (sm.trans (bq hD)) (sm.back hD) aB (il'.mono (bq hD))
def DP (hn:⇑xs<=sizeLine) (hp:aH K H1 p xs) (h0:∃v,U₀=[v])
  (fin:∀(D:Addr) (qs:List Addr) (H:Hp),au H1 H->H1 D=none->H D=some (.lst (qs.map V.ref))->qs.Nodup->D∉qs->⇑qs=⇑xs->(∀q∈qs,H1 q=none/\H q=some (.lst []))->Q (.ref D) H):dh U₀ (bS 0) rS (EJ eD) Q (Lh K p) H1:=by
 refine{λi m ys U H=>m=⇑xs-i/\i<=⇑xs/\⇑ys=i/\(∃v,U=[v])/\au H1 H/\∃qs:List Addr,ys=qs.map V.ref/\qs.Nodup/\∀q∈qs,H1 q=none/\H q=some (.lst []),{_,rfl,yg _,rfl,h0,au.refl _,[],rfl,List.nodup_nil,by simp},?_};rintro i m ys U H ⟨rfl,hi,hx,⟨v,rfl⟩,sm,qs,rfl,nd,hq⟩;rw[za] at hx;rcases Nat.lt_or_ge i ⇑xs with hlt | hge
 ·refine .inr {BN (sm.seq hp) hlt,by rw[za];omega,?_}
  rintro x H2 ⟨rfl,_⟩;refine{yg _,λq n=>?_};refine{_,nofun,rfl,hlt,by rw[zh,za,hx];rfl,{_,rfl},sm.trans (bq n),qs++[q],by rw[zk];rfl,?_,λr hr=>?_}
  ·rw[zT]
   refine{nd,by simp,λa ha b hb e=>?_};have:b=q:=by simpa using hb
   subst this;subst e;rw[(hq a ha).2] at n;cases n
  ·rcases zG.mp hr with z | z
   ·exact{(hq r z).1,bq n _ _ (hq r z).2}
   ·rw[zA.mp z]
    exact{sm.back n,aB}
 ·let e:i=⇑xs:=nofun
  subst e;refine .inl {{_,sm.seq hp,zm _},by rw[za];omega,λD hD=>?_};exact fin D qs _ (sm.trans (bq hD)) (sm.back hD) aB nd (λz=>by rw[(hq D z).2] at hD;cases hD) hx λq z=>{(hq q z).1,bq hD _ _ (hq q z).2}
theorem sL (f:α->β) (d:α):∀l:List α,(List.range ⇑l).map (λi=>f (l.getD i d))=l.map f
 | []=>rfl
 | x::r=>by
  rw[zv,List.range_succ_eq_map,zj,zB,zj]
  congr 1
  exact sL f d r
theorem Bl (F:α->β->γ) (g:Nat->β) (d:α):∀(l:List α) (k:Nat),(List.range ⇑l).map (λi=>F (l.getD i d) (g (k+i)))=(l.zip ((List.range ⇑l).map λi=>g (k+i))).map λp=>F p.1 p.2
 | [],_=>rfl
 | x::r,k=>by
  rw[zv,List.range_succ_eq_map,zj,zB,zj,zB,List.zip_cons_cons,zj]
  congr 1
  have:=Bl F g d r (k+1);let e:∀i,k+1+i=k+(i+1):=λi=>nofun
  simp only[e] at this;exact this
theorem FP:∀{l:List α} {i j:Nat},l.Nodup->l[i]?=some x->l[j]?=some x->i=j
 | [],_,_,_,h,_=>by simp at h
 | y::r,0,0,_,_,_=>rfl
 | y::r,0,j+1,n,h,k=>by
  simp at h k;subst h;exact absurd (zC k) (yd.mp n).1
 | y::r,i+1,0,n,h,k=>by
  simp at h k;subst k;exact absurd (zC h) (yd.mp n).1
 | y::r,i+1,j+1,n,h,k=>by
  simp at h k;rw[FP (yd.mp n).2 h k]
def KJ (bs:List Int) (sp:Nat->Nat) (t:Nat):(List.range ⇑bs).map (λi=>mG (bs.getD i 0,cO sp t i))=(rk bs sp t).map mG:=by
 have:=Bl (λb p=>mG (b,p)) (cO sp t) 0 bs 0;simp only[Nat.zero_add] at this;rw[this];rfl
theorem vF (n:Int):∀ns:List Int,Di (.int n) (ns.map V.int)=decide (n∈ns)
 | []=>rfl
 | m::ns=>by
  let ih:=vF n ns;unfold Di at ih ⊢;rw[zj,List.any_cons,ih]
  by_cases e:n=m
  ·subst e
   simp[Ib]
  ·simp[Ib,e,Ne.symm (a:=m) (b:=n) (λz=>e z.symm)]
   try omega
def lJ {α:Type} {J:It} {ws:List α} {enc:α->V} {U₀:St} {g:TG} {tc:TT} {te:TE} {Q:VK} {H1:Hp} (f:α->Bool) (F:α->Dt) (Pσ:St->Prop) (hn:⇑ws<=sizeLine) (h0:Pσ U₀)
  (go:∀i H,i<⇑ws->au H1 H->J.go i H) (stop:∀H,au H1 H->J.stop ⇑ws H) (yl:∀(i:Nat) x H H2 (hi:i<⇑ws),au H1 H->J.JR i H x H2->H2=H/\x=enc ws[i])
  (turn:∀(a:α) (U:St) (H:Hp) (R:St->V->Hp->Prop) (N:St->Hp->Prop),a∈ws->au H1 H->Pσ U->(f a=true->∀U3 y H5,au H H5->Is H5 (F a) y->Pσ U3->R U3 y H5)->(f a=false->∀U3 H5,au H H5->Pσ U3->N U3 H5)->g (enc a) U H λU3 H3=>tc U3 H3 λb H4=>if b=true then te U3 H4 λy H5=>R U3 y H5 else N U3 H4)
  (fin:∀D vs H,au H1 H->H1 D=none->H D=some (.lst vs)->aD H ((ws.filter f).map F) vs->Q (.ref D) H):dh U₀ g tc te Q J H1:=by
 refine{λi m xs U H=>m=⇑ws-i/\i<=⇑ws/\⇑xs<=i/\au H1 H/\aD H (((ws.take i).filter f).map F) xs/\Pσ U,{_,rfl,yg _,zm _,au.refl _,by simp[aD],h0},?_};rintro i m xs U H ⟨rfl,hi,hx,sm,il,pσ⟩;rcases Nat.lt_or_ge i ⇑ws with hlt | hge
 ·refine .inr {go i H hlt sm,nofun,?_}
  intro x H2 hy;let⟨rfl,rfl⟩:=yl i x H H2 hlt sm hy;let tk:ws.take (i+1)=ws.take i++[ws[i]]:=by rw[List.take_add_one,zd hlt];rfl
  refine turn ws[i] U H2 _ _ (ym hlt) sm pσ ?_ ?_
  ·intro ff U3 y H5 s5 iy p3
   refine{_,nofun,rfl,hlt,by rw[zh];show ⇑xs+1<=i+1;omega,sm.trans s5,?_,p3};rw[tk,List.filter_append,zk];have:[ws[i]].filter f=[ws[i]]:=by simp[ff]
   rw[this];exact cX iy (il.mono s5)
  ·intro ff U3 H5 s5 p3
   refine{_,nofun,rfl,hlt,nofun,sm.trans s5,?_,p3};rw[tk,List.filter_append,zk];have:[ws[i]].filter f=[]:=by simp[ff]
   rw[this,yn,zV];exact il.mono s5
 ·let e:i=⇑ws:=nofun
  subst e;refine .inl {stop H sm,nofun,λD hD=>?_};let il':aD H ((ws.filter f).map F) xs:=by rw[zN] at il;exact il
  exact fin D xs _ (sm.trans (bq hD)) (sm.back hD) aB (il'.mono (bq hD))
noncomputable def mq (f:Int->Bool) (lo:Int) (n:Nat):List Int:=((List.range n).map λi=>lo+(i:Nat)).filter f
def nZ (h:x∈mq f lo n):lo<=x/\x<lo+n/\f x=true:=by
 unfold mq at h;rw[List.mem_filter] at h;let⟨i,hi,rfl⟩:=zH.mp h.1;have:=List.mem_range.mp hi;exact{(nofun),nofun,h.2}
def KH:⇑(mq f lo n)<=n:=by
 unfold mq;refine zM (List.length_filter_le _ _) ?_;simp
def F7 {f:Int->Bool} {lo x:Int} {n:Nat} (h1:lo<=x) (h2:x<lo+n) (h3:f x=true):x∈mq f lo n:=by
 unfold mq;rw[List.mem_filter];exact{zH.mpr {(x-lo).toNat,List.mem_range.mpr nofun,nofun},h3}
def jf {lo:Int} {n:Nat} {U₀ rest:St} {tc:TT} {Q:VK} {H1:Hp} (f:Int->Bool) (hn:n<=sizeLine) (h0:∃v,U₀=v::rest)
  (turn:∀(i:Int) (H:Hp) (R:Bool->Hp->Prop),lo<=i->i<lo+n->au H1 H->(∀H',au H H'->R (f i) H')->tc (some (.int i)::rest) H R)
  (fin:∀D H,au H1 H->H1 D=none->H D=some (.lst ((mq f lo n).map V.int))->Q (.ref D) H):dh U₀ (bS 0) tc (aX 0) Q (NP lo n) H1:=by
 refine lJ (ws:=(List.range n).map λi=>lo+(i:Nat)) (enc:=V.int) f Dt.int (λU=>∃v,U=v::rest) (by simp;exact hn) h0 (λi H hi _=>by rw[za,zR] at hi;exact hi) (λH _=>by rw[za,zR];exact zm n) ?_ ?_ ?_
 ·rintro i x H H2 hi _ ⟨rfl,rfl⟩
  exact{rfl,by simp}
 ·rintro a U H R N ha s1 ⟨v,rfl⟩ hR hN
  let⟨i,hi,rfl⟩:=zH.mp ha;have:=List.mem_range.mp hi;refine turn (lo+(i:Nat)) H _ nofun nofun s1 λH' s'=>?_;cases q:f (lo+(i:Nat)) with
  | true=>exact bU rfl {_,rfl,hR q _ _ _ s' cE {_,rfl}}
  | false=>exact b9 rfl (hN q _ _ s' {_,rfl})
 ·intro D vs H s1 nD hD il
  rw[dS il] at hD;exact fin D H s1 nD hD
noncomputable def jM (rs:List Rep) (b:Int):Bool:=match dE rs b with
 | none=>true
 | some r=>match (r.ends.filter λe=>decide (e.1<=b)).getLast? with
  | none=>true
  | some e=>decide (r.times∈e.2)
noncomputable def eL (rs:List Rep) (b:Int):Bool:=rs.any λr=>decide (r.first<b)&&decide (b<=r.last)
noncomputable def Es (r:Rep) (b:Int):Bool:=decide (r.first<=b)&&decide (b<=r.last)
theorem xq:∀{l:List α} {i:Nat} {x:α},l[i]?=some x->p x=true->(∀y∈l.take i,p y=false)->l.find? p=some x
 | [],_,_,h,_,_=>by simp at h
 | y::r,0,x,h,hx,_=>by simp at h;subst h;rw[List.find?_cons,hx]
 | y::r,i+1,x,h,hx,hn=>by
  rw[List.find?_cons,hn y (by rw[List.take_succ_cons];exact zr)];exact xq (i:=i) (by simpa using h) hx λz hz=>hn z (by rw[List.take_succ_cons];exact zp _ hz)
theorem BQ:∀{es:List End},(es.map (·.1)).Pairwise (·<·)->x∈(es.zip ((es.drop 1).map (·.1)++[hi])).map (λp=>(p.1.1,p.2-1,p.1.2))->x.1<=b->b<=x.2.1->∃e,(es.filter λe=>decide (e.1<=b)).getLast?=some e/\e.2=x.2.2
 | [],_,h,_,_=>by simp at h
 | [e],_,h,h1,h2=>by
  simp at h;subst h;exact{e,by simp at h1 ⊢;exact h1,rfl}
 | e::e'::r,asc,h,h1,h2=>by
  rw[zj,List.pairwise_cons] at asc;rw[List.drop_one,List.tail_cons,zj,List.cons_append,List.zip_cons_cons,zj,zD] at h;rcases h with h | h
  ·subst h
   dsimp only at h1 h2;let no:(e'::r).filter (λe=>decide (e.1<=b))=[]:=by
    rw[List.filter_eq_nil_iff];intro y hy;let hm:y.1∈(e'::r).map (·.1):=zP (f:=λz:End=>z.1) hy;let a2:=asc.2;rw[zj,List.pairwise_cons] at a2;rw[zj,zD] at hm;rcases hm with z | z
    ·simp;omega
    ·have:=a2.1 _ z
     simp;omega
   refine{e,?_,rfl};rw[List.filter_cons,if_pos (zg h1),no];rfl
  ·let⟨e2,f1,f2⟩:=BQ (es:=e'::r) asc.2 (by rw[List.drop_one,List.tail_cons];exact h) h1 h2
   refine{e2,?_,f2};rw[List.filter_cons];split
   ·cases q:(e'::r).filter (λe=>decide (e.1<=b)) with
    | nil=>rw[q] at f1;cases f1
    | cons y t=>rw[q] at f1;rw[List.getLast?_cons_cons];exact f1
   ·exact f1
theorem Jy:∀{es:List End},(∀e∈es,lo<=e.1/\e.1<hi)->x∈(es.zip ((es.drop 1).map (·.1)++[hi])).map (λp=>(p.1.1,p.2-1,p.1.2))->lo<=x.1/\x.2.1<hi
 | [],_,h=>by simp at h
 | [e],hx,h=>by
  simp at h;subst h;have:=hx e (by simp);exact{this.1,by show hi-1<hi;omega}
 | e::e'::r,hx,h=>by
  rw[List.drop_one,List.tail_cons,zj,List.cons_append,List.zip_cons_cons,zj,zD] at h;rcases h with h | h
  ·subst h
   let a:=hx e (by simp);let c:=hx e' (by simp);exact{a.1,by show e'.1-1<hi;omega}
  ·exact Jy (es:=e'::r) (λy hy=>hx y (zp _ hy)) (by rw[List.drop_one,List.tail_cons];exact h)
def Apart (rs:List Rep):Prop:=(∀r∈rs,r.first<=r.last/\(r.ends.map (·.1)).Pairwise (·<·)/\∀e∈r.ends,r.first<=e.1/\e.1<=r.last)/\rs.Pairwise λa b=>a.last<b.first
theorem tK:∀{rs:List Rep} {r r':Rep} {b:Int},(∀r∈rs,r.first<=r.last)->rs.Pairwise (λa b=>a.last<b.first)->r∈rs->r'∈rs->r.first<=b->b<=r.last->r'.first<=b->b<=r'.last->r=r'
 | [],_,_,_,_,_,h,_,_,_,_,_=>by cases h
 | x::l,r,r',b,hf,hp,h,h',h1,h2,h3,h4=>by
  rw[List.pairwise_cons] at hp;rcases zD.mp h with e | e <;> rcases zD.mp h' with e' | e'
  ·rw[e,e']
  ·subst e
   have:=hp.1 r' e';omega
  ·subst e'
   have:=hp.1 r e;omega
  ·exact tK (λy hy=>hf y (zp _ hy)) hp.2 e e' h1 h2 h3 h4
def oX {rs:List Rep} {b:Int} {r:Rep} (h:dE rs b=some r):r∈rs/\r.first<=b/\b<=r.last:=by
 unfold dE at h;let h1:=List.mem_of_find?_eq_some h;let h2:=List.find?_some h;simp at h2;exact{(h1),h2}
def Jr {rs:List Rep} {b:Int} (ap:Apart rs) (h:jM rs b=true):lF rs b=true:=by
 unfold lF;rw[yp];intro r hr;rw[yp];intro x hx;let⟨a1,a2,a3⟩:=ap.1 r hr
 by_cases c1:x.1<=b
 ·by_cases c2:b<=x.2.1
  ·unfold dz at hx
   let ein:=Jy (lo:=r.first) (λe he=>{(a3 e he).1,by have:=(a3 e he).2;omega}) hx;let⟨e,f1,f2⟩:=BQ a2 hx c1 c2;unfold jM at h;let hro:dE rs b=some r:=by
    cases q:dE rs b with
    | none=>
     unfold dE at q;have:=List.find?_eq_none.mp q r hr;simp at this;omega
    | some r'=>
     let⟨g1,g2,g3⟩:=oX q;rw[tK (λy hy=>(ap.1 y hy).1) ap.2 g1 hr g2 g3 nofun nofun]
   rw[hro] at h;dsimp only at h;rw[f1] at h;dsimp only at h;rw[f2] at h;rw[h];simp
  ·rw[ze c2];simp
 ·rw[ze c1];simp
def ui {rs:List Rep} {b:Int} (h:eL rs b=false):dZ rs b=true:=by
 unfold dZ;cases q:dE rs b with
 | none=>rfl
 | some r=>
  let⟨g1,g2,g3⟩:=oX q;dsimp only;unfold eL at h;rw[List.any_eq_false] at h;have:=h r g1;simp at this;exact zg nofun
def MW {rs:List Rep} {b:Int} (ap:Apart rs) (h:(∃r∈rs,r.last=b)\/(rs.any λr=>Es r b)=false):gO rs b=true:=by
 unfold gO;cases q:dE rs b with
 | none=>rfl
 | some r=>
  let⟨g1,g2,g3⟩:=oX q;dsimp only;rcases h with⟨r',hr',e⟩ | h
  ·have:=tK (b:=b) (λy hy=>(ap.1 y hy).1) ap.2 g1 hr' g2 g3 (by have:=(ap.1 r' hr').1;omega) nofun
   rw[this,e];exact zg rfl
  ·rw[List.any_eq_false] at h
   have:=h r g1;unfold Es at this;simp at this;omega
def Pg (many:Int) (rs:List Rep) (j:Jump):Prop:=gR rs j=true/\(0<=j.vE/\j.vE<many)/\(0<=j.y7/\j.y7<many)/\(0<=j.dy/\j.dy<many)/\∀c,j.gw=some c->0<=c/\c<many
def QX {many:Int} {rs:List Rep} (ap:Apart rs) {a t u:Int} {c:Option Int} (ha:0<=a) (ha2:a<many) (hl:(∃r∈rs,r.last=a)\/(rs.any λr=>Es r a)=false) (ht:0<=t) (ht2:t<=a) (hti:eL rs t=false)
  (hu:t<=u) (hu2:u<=a) (hul:jM rs u=true) (hc:∀x,c=some x->a<x/\x<many/\eL rs x=false/\jM rs x=true):Pg many rs {(a),t,u,c}:=by
 refine{?_,{(ha),ha2},{ht,by show t<many;omega},{by show 0<=u;omega,by show u<many;omega},λx hx=>?_}
 ·unfold gR
  dsimp only;rw[if_neg nofun,if_neg nofun,MW ap hl,ui hti,Jr ap hul];cases c with
  | none=>rfl
  | some x=>
   let⟨h1,h2,h3,h4⟩:=hc x rfl;dsimp only;rw[zg h1,ui h3,Jr ap h4];rfl
 ·let⟨h1,h2,_⟩:=hc x hx
  exact{(nofun),h2}
def HV (t1:0<t) (t2:t<=32) (b1:0<b) (b2:b<=160):IQ (red t b):=by
 let⟨g,g1,g2,g3,g4,g5⟩:=iV (t:=t) b1;let r1:=wK (t:=t) (b:=b) (Int.le_of_lt t1);let r0:=wJ (t:=t) (b:=b) (Int.le_of_lt t1);refine{Lm.Rd.of (Int.le_of_lt t1) b1,?_,nofun,nofun};rcases Int.lt_or_eq_of_le r0 with z | z
 ·exact z
 ·rw[<-z,Int.mul_zero] at g2;omega
inductive Kt:List Expr->List (Int×Int)->Prop
 | n:Kt [] []
 | c {a b:Int} {x y u v m k r ps} (h:Kt r ps):Kt (.Tuple [.Constant (.int a) x y,.Constant (.int b) u v] m k::r) ((a,b)::ps)
def QI {X:Cx} {es:List Expr} {ps:List (Int×Int)} (h:Kt es ps):PA X es (EI ps):=by
 induction h with
 | n=>exact QH
 | c _ q=>exact R4 q
def QG {X:Cx} {es:List Expr} {p1 pos:Pos} {b:Expr} {tb:TE} (ps:List (Int×Int)) (hb:PE X b tb) (hs:rM b) (h:Kt es ps<|>qh_) (hl:⇑ps<=1000<|>qb_):PE X (.Subscript (.List es p1) b pos) (e9 (Ot X.K) (SS ps) tb):=wQ Js (QE (QI h) hl) hb hs
@[irreducible] def PV (X:Cx) (s:Stmt) (t:TS):Prop:=PS X s t
@[irreducible] def S7 (X:Cx) (e:Expr) (t:TE):Prop:=PE X e t
def T8 {X:Cx} {x:Str} {e:Expr} {te:TE} {pos pos':Pos} (i:Nat) (hN:X.N.Nodup) (he:S7 X e te) (hi:X.N[i]?=some x<|>qe_) (hx:Loc X.env.scope x<|>qi_) (hs:swapsWith e (some (.Name x pos')) pos.line X.env=pure false<|>qe_) (hf:X.fn x=true\/X.env.scope.names.lookup x=some .local<|>qa_) :
  PV X (.Assign [.Name x pos'] e pos) (EL te (bS i)):=by
 unfold PV;unfold S7 at he;exact Mq hN hi hx he hs hf
def OA {X:Cx} {es:List Expr} {p1 pos:Pos} {b:Expr} {tb:TE} (ps:List (Int×Int)) (hb:PE X b tb) (hs:rM b) (h:Kt es ps<|>qh_) (hl:⇑ps<=1000<|>qb_):S7 X (.Subscript (.List es p1) b pos) (e9 (Ot X.K) (SS ps) tb):=by
 unfold S7;exact QG ps hb hs h hl
@[irreducible] def IM (X:Cx) (s:List Stmt) (t:TS):Prop:=Bk X s t
def zS {X:Cx} {s:Stmt} {t:TS} (h:PS X s t):PV X s t:=by unfold PV;exact h
def zo {X:Cx} {s:Stmt} {t:TS} (h:PV X s t):IM X [s] t:=by unfold IM;unfold PV at h;exact aj h
def zc {X:Cx} {s:Stmt} {r:List Stmt} {t u:TS} (h:PV X s t) (h2:IM X r u):IM X (s::r) (Qc t u):=by unfold IM at h2 ⊢;unfold PV at h;exact af h h2
def zf {X:Cx} {s:List Stmt} {t:TS} (h:IM X s t):Bk X s t:=by unfold IM at h;exact h
def Iv {K:yB} {a:Addr} {ns:List Int} {U₀ rest:St} {tc:TT} {Q:VK} {H1:Hp} (f:Int->Bool) (hn:⇑ns<=sizeLine) (ha:aH K H1 a (ns.map V.int)) (h0:∃v,U₀=v::rest)
  (turn:∀(n:Int) (H:Hp) (R:Bool->Hp->Prop),au H1 H->(∀H',au H H'->R (f n) H')->tc (some (.int n)::rest) H R)
  (fin:∀D H,au H1 H->H1 D=none->H D=some (.lst ((ns.filter f).map V.int))->Q (.ref D) H):dh U₀ (bS 0) tc (aX 0) Q (Lh K a) H1:=by
 refine lJ (ws:=ns) (enc:=V.int) f Dt.int (λU=>∃v,U=v::rest) hn h0 (λi H hi sm=>BN (sm.seq ha) (by rw[za];exact hi)) (λH sm=>{_,sm.seq ha,by rw[za];exact zm _}) ?_ ?_ ?_
 ·rintro i x H H2 hi sm ⟨rfl,hy⟩
  let hx':=hy _ (sm.seq ha);rw[zK,zd hi] at hx';cases hx';exact{(rfl),rfl}
 ·rintro n U H R N hn s1 ⟨v,rfl⟩ hR hN
  refine turn n H _ s1 λH' s'=>?_;cases q:f n with
  | true=>exact bU rfl {_,rfl,hR q _ _ _ s' cE {_,rfl}}
  | false=>exact b9 rfl (hN q _ _ s' {_,rfl})
 ·intro D vs H s1 nD hD il
  rw[dS il] at hD;exact fin D H s1 nD hD
def Rw (r:Rep):Prop:=0<=r.first/\r.first<=r.last/\r.last<200/\2<=r.times/\r.times<=9/\⇑r.ends<=9/\∀e∈r.ends,r.first<=e.1/\e.1<=r.last
def lU (lo hi:Int) (n:Nat) (bs:List Int):Prop:=⇑bs<=n/\∀b∈bs,lo<=b/\b<=hi
def lU.app {lo hi:Int} {n m:Nat} {a b:List Int} (h:lU lo hi n a) (k:lU lo hi m b):lU lo hi (n+m) (a++b):=
 {by rw[zh];exact Nat.add_le_add h.1 k.1,λx hx=>(zG.mp hx).elim (h.2 x) (k.2 x)}
def lU.mono {lo hi lo' hi':Int} {n m:Nat} {a:List Int} (h:lU lo hi n a) (l:lo'<=lo) (u:hi<=hi') (k:n<=m):lU lo' hi' m a:=
 {zM h.1 k,λx hx=>{Int.le_trans l (h.2 x hx).1,Int.le_trans (h.2 x hx).2 u}}
def Hy {i j lo hi:Int} (a:lo<=i) (b:j-1<=hi) {n:Nat} (k:(j-i).toNat<=n):lU lo hi n (cZ i (j-i).toNat):=by
 unfold cZ;refine{by rw[za,zR];exact k,λx hx=>?_};let⟨t,ht,rfl⟩:=zH.mp hx;have:=List.mem_range.mp ht;omega
def Ni {r:Rep} (h:Rw r):⇑(dz r)<=9/\∀x∈dz r,(r.first<=x.1/\x.1<=r.last)/\r.first-1<=x.2.1/\x.2.1<=r.last:=by
 let⟨_,h2,_,_,_,h6,h7⟩:=h;unfold dz;refine{by rw[za,List.length_zip];omega,λx hx=>?_};let⟨⟨e,b⟩,hz,rfl⟩:=zH.mp hx;let⟨z1,z2⟩:=List.of_mem_zip hz;refine{h7 e z1,?_};rcases zG.mp z2 with z | z
 ·let⟨e',he,rfl⟩:=zH.mp z
  have:=h7 e' (List.mem_of_mem_drop he);show r.first-1<=e'.1-1/\e'.1-1<=r.last;omega
 ·cases zA.mp z
  show r.first-1<=r.last+1-1/\r.last+1-1<=r.last;omega
noncomputable def uj (last:Int):List End->List (Int×Int×List Int)
 | []=>[]
 | e::es=>(e.1,(es.head?.map (·.1)).getD (last+1)-1,e.2)::uj last es
theorem BR (last:Int):∀es:List End,(es.zip ((es.drop 1).map (·.1)++[last+1])).map (λp=>(p.1.1,p.2-1,p.1.2))=uj last es
 | []=>rfl
 | [e]=>rfl
 | e::f::es=>by
  let h:=BR last (f::es);rw[uj,<-h];rfl
def xw (r:Rep):dz r=uj r.last r.ends:=BR r.last r.ends
noncomputable def Cw (n:Int) (l:List (Int×Int×List Int)):List Int:=(l.map λx=>if n∈x.2.2 then cZ x.1 (x.2.1+1-x.1).toNat else []).flatten
noncomputable def i4 (r:Rep) (n:Int):List Int:=cZ r.first (((r.ends.head?.map (·.1)).getD (r.last+1))-r.first).toNat++Cw n (dz r)
def Lp (es:List End) (n b:Int):Bool:=((es.filter λe=>decide (e.1<=b)).getLast?.map λe=>decide (n∈e.2)).getD true
noncomputable def MY (r:Rep) (n:Int):List Int:=(cZ r.first (r.last+1-r.first).toNat).filter (Lp r.ends n)
def Fg {a b c:Int} (h:a<=b) (k:b<=c):cZ a (c-a).toNat=cZ a (b-a).toNat++cZ b (c-b).toNat:=by
 unfold cZ;rw[show(c-a).toNat=(b-a).toNat+(c-b).toNat from by omega,List.range_add,zk,zB]
 congr 1
 refine List.map_congr_left λi _=>?_;show a+(((b-a).toNat+i:Nat):Int)=b+(i:Int);omega
def ko {a c x:Int} (h:x∈cZ a (c-a).toNat):a<=x/\x<c:=by
 unfold cZ at h;let⟨t,ht,rfl⟩:=zH.mp h;have:=List.mem_range.mp ht;omega
theorem nh {α:Type} {f:α->Bool} {c:Bool}:∀{l:List α},(∀x∈l,f x=c)->l.filter f=if c=true then l else []
 | [],_=>by cases c <;> rfl
 | x::l,h=>by
  rw[List.filter_cons,h x zr,nh λy hy=>h y (zp _ hy)];cases c <;> rfl
def MJ {pre es:List End} {e:End} {n b:Int} (h1:∀x∈pre,x.1<=b) (h2:e.1<=b) (h3:∀x∈es,b<x.1):Lp (pre++e::es) n b=decide (n∈e.2):=by
 unfold Lp;rw[List.filter_append,List.filter_cons,if_pos (zg h2),nh (l:=pre) (c:=true) λx hx=>zg (h1 x hx),nh (l:=es) (c:=false) λx hx=>ze (by have:=h3 x hx;omega)];simp
theorem Jh {last n:Int}:∀{es pre:List End} {e:End},(∀x∈pre,x.1<=e.1)->(e::es).Pairwise (λa b=>a.1<b.1)->(∀x∈e::es,x.1<=last)->
  (cZ e.1 (last+1-e.1).toNat).filter (Lp (pre++e::es) n)=Cw n (uj last (e::es))
 | [],pre,e,h1,h2,h3=>by
  let hl:=h3 e zr;rw[nh (c:=decide (n∈e.2)) λx hx=>MJ (λy hy=>by have:=h1 y hy;have:=ko hx;omega) (ko hx).1 (by simp)];show _=(if n∈e.2 then cZ e.1 (last+1-1+1-e.1).toNat else [])++[];rw[zV,show last+1-1+1-e.1=last+1-e.1 from by omega]
  by_cases c:n∈e.2 <;> simp[c]
 | f::es,pre,e,h1,h2,h3=>by
  let⟨p1,p2⟩:=List.pairwise_cons.mp h2;let ef:=p1 f zr;let fl:=h3 f (zp _ zr);rw[Fg (a:=e.1) (b:=f.1) (c:=last+1) nofun nofun,List.filter_append];let ih:=Jh (last:=last) (n:=n) (es:=es) (pre:=pre++[e]) (e:=f) (λx hx=>by
   rcases zG.mp hx with z | z
   ·have:=h1 x z;omega
   ·cases zA.mp z;omega) p2 λx hx=>h3 x (zp _ hx)
  rw[zF] at ih;show _=(if n∈e.2 then cZ e.1 (f.1-1+1-e.1).toNat else [])++Cw n (uj last (f::es));rw[<-ih]
  congr 1
  rw[nh (c:=decide (n∈e.2)) λx hx=>MJ (λy hy=>by have:=h1 y hy;have:=ko hx;omega) (ko hx).1 λy hy=>by
   let b:=(ko hx).2;rcases zD.mp hy with rfl | hy
   ·exact b
   ·have:=(List.pairwise_cons.mp p2).1 y hy;omega]
  rw[show f.1-1+1-e.1=f.1-e.1 from by omega]
  by_cases c:n∈e.2 <;> simp[c]
def Jm {r:Rep} {n:Int} (h0:r.first<=r.last) (h2:r.ends.Pairwise λa b=>a.1<b.1) (h3:∀x∈r.ends,r.first<=x.1/\x.1<=r.last):i4 r n=MY r n:=by
 unfold i4 MY;rw[xw];cases q:r.ends with
 | nil=>
  show cZ r.first (r.last+1-r.first).toNat++[]=_;rw[zV,nh (f:=Lp [] n) (c:=true) λx _=>rfl];rfl
 | cons e es=>
  rw[q] at h2 h3;let⟨e1,e2⟩:=h3 e zr;rw[Fg (a:=r.first) (b:=e.1) (c:=r.last+1) e1 nofun,List.filter_append,<-Jh (pre:=[]) (by simp) h2 λx hx=>(h3 x hx).2]
  congr 1
  show cZ r.first (e.1-r.first).toNat=_;rw[nh (c:=true) λx hx=>?_]
  ·rfl
  ·unfold Lp
   rw[nh (l:=e::es) (c:=false) λy hy=>ze (by
    have:=(ko hx).2;rcases zD.mp hy with rfl | hy
    ·omega
    ·have:=(List.pairwise_cons.mp h2).1 y hy;omega)]
   rfl
theorem BS (last:Int):∀es:List End,⇑(uj last es)=⇑es
 | []=>rfl
 | e::es=>by rw[uj,zv,BS last es,zv]
def MG {r:Rep} {n:Int} (h:⇑(dz r)=0):i4 r n=cZ r.first (r.last+1-r.first).toNat:=by
 unfold i4;rw[yt.mp h];rw[xw,BS] at h;rw[yt.mp h];exact zV _
def Kl {r:Rep} {n:Int} {t:Int×Int×List Int} (h:(dz r)[0]?=some t):i4 r n=cZ r.first (t.1-r.first).toNat++Cw n (dz r):=by
 unfold i4
 congr 1
 rw[xw] at h;cases q:r.ends with
 | nil=>rw[q] at h;cases h
 | cons e es=>rw[q] at h;cases h;rfl
def J5 {n:Int} {l:List (Int×Int×List Int)} {y:Int×Int×List Int}:Cw n (l++[y])=Cw n l++if n∈y.2.2 then cZ y.1 (y.2.1+1-y.1).toNat else []:=by
 unfold Cw;rw[zk,List.flatten_append];simp
def nK {a:Int} {k:Nat}:cZ a (k+1)=cZ a k++[a+(k:Int)]:=by unfold cZ;rw[List.range_succ,zk];rfl
noncomputable def Qv (once:Bool) (r:Rep):List Int:=if once=true then i4 r r.times else((cZ 1 r.times.toNat).map (i4 r)).flatten
noncomputable def Er (S:bW) (once:Bool) (c:Int):List Int×Int:=((S.repeats.find? λr=>decide (r.first=c)).map λr=>(Qv once r,r.last)).getD ([c],c)
noncomputable def j6 (S:bW) (once:Bool) (b:Int):Nat->List (List Int×Int)×Int
 | 0=>([],b)
 | k+1=>if(j6 S once b k).2<⇑S.aK then((j6 S once b k).1++[Er S once (j6 S once b k).2],(Er S once (j6 S once b k).2).2+1) else j6 S once b k
theorem Dm {S:bW} {once:Bool} {b:Int} {k:Nat} (h:¬(j6 S once b k).2<⇑S.aK):∀j,j6 S once b (k+j)=j6 S once b k
 | 0=>rfl
 | j+1=>by
  let e:=Dm h j;show(if(j6 S once b (k+j)).2<⇑S.aK then _ else j6 S once b (k+j))=_;rw[e,if_neg h]
def go_eq {S:bW} {once:Bool} {b:Int} {k m:Nat} (h:¬(j6 S once b k).2<⇑S.aK) (h':¬(j6 S once b m).2<⇑S.aK):j6 S once b k=j6 S once b m:=by
 by_cases c:k<=m
 ·rw[show m=k+(m-k) from by omega,Dm h]
 ·rw[show k=m+(k-m) from by omega,Dm h']
def LY {S:bW} {once:Bool} (d:S.repeats.Pairwise λa b=>a.last<b.first) (l:∀r∈S.repeats,Rw r) {r:Rep} (hr:r∈S.repeats):Er S once r.first=(Qv once r,r.last):=by
 unfold Er;let h:S.repeats.find? (λx=>decide (x.first=r.first))=some r:=by
  generalize S.repeats=rs at d l hr
  induction rs with
  | nil=>cases hr
  | cons x xs ih=>
   let⟨d1,d2⟩:=List.pairwise_cons.mp d;rw[List.find?_cons];rcases zD.mp hr with rfl | hr
   ·rw[zg rfl]
   ·have:=d1 r hr
    have:=(l x zr).2.1;rw[ze nofun];exact ih d2 (λy hy=>l y (zp _ hy)) hr
 rw[h];rfl
def Jd {S:bW} {once:Bool} {c:Int} (h:∀r∈S.repeats,r.first≠c):Er S once c=([c],c):=by
 unfold Er;rw[List.find?_eq_none.mpr λr hr=>by simp[h r hr]];rfl
def GR (S:bW):Prop:=(∀r∈S.repeats,Rw r)/\⇑S.repeats<=1000/\(S.repeats.Pairwise λa b=>a.last<b.first)/\∀r∈S.repeats,r.last<⇑S.aK
def Ll (S:bW) (H:Hp) (i:Nat) (kvs:List (Key×V)):Prop:=(∀(k:Int) v,cR kvs (.inl k)=some v->∃r∈S.repeats,r.first=k/\Is H (gq r) v)/\∀r∈S.repeats.take i,cR kvs (.inl r.first)≠none
def Ll.nil {S:bW} {H:Hp}:Ll S H 0 []:={λ_ _ z=>(by rw[EA] at z;cases z),λ_ z=>by simp at z}
def Ll.put {S:bW} {H:Hp} {i:Nat} {kvs:List (Key×V)} {r:Rep} {v:V} (h:Ll S H i kvs) (hr:S.repeats[i]?=some r) (iv:Is H (gq r) v):Ll S H (i+1) (putK kvs (.inl r.first) v):=by
 refine{λk u hu=>?_,λx hx z=>?_}
 ·rw[pX] at hu
  split at hu
  ·rename_i e
   cases hu;exact{r,zC hr,(Sum.inl.inj e).symm,iv}
  ·exact h.1 k u hu
 ·rw[pX] at z
  split at z
  ·cases z
  ·rename_i ne
   rw[cM hr] at hx;rcases zG.mp hx with hx | hx
   ·exact h.2 x hx z
   ·cases zA.mp hx
    exact ne rfl
def S8 (x:Int×Int):Prop:=IQ x/\x.2 ∣ 960
def NL (j:Nat) (t:Int×Int):Prop:=Lm.Rd t/\t.2 ∣ 960/\t.1<=32*j*t.2
def N1:NL 0 (0,1):={.zero,{960,rfl},∅}
def Rb {t b s M:Int} (hb:0<b) (hM:0<M) (h:t*M=s*b):(red t b).2 ∣ M:=by
 rw[Qw hb hM h];let⟨g,_,_,e,_⟩:=iV (t:=s) hM;exact{g,by rw[Int.mul_comm];exact e}
def Qa {j:Nat} {t y:Int×Int} (h:NL j t) (hy:S8 y):NL (j+1) (Lm.add t y):=by
 let⟨h1,⟨p,ep⟩,h3⟩:=h;let⟨⟨y1,y2,y3,y4⟩,⟨q,eq⟩⟩:=hy;let⟨t0,t1,_⟩:=h1.pos;let⟨_,w1,_⟩:=y1.pos;let hb:0<t.2*y.2:=Int.mul_pos t1 w1;refine{h1.add y1,Rb (s:=t.1*p+y.1*q) hb ∅ ?_,?_}
 ·rw[Int.add_mul,Int.add_mul]
  congr 1
  ·rw[ep];simp only[Int.mul_assoc,Int.mul_comm,Int.mul_left_comm]
  ·rw[eq];simp only[Int.mul_assoc,Int.mul_comm,Int.mul_left_comm]
 ·let⟨g,g0,e1,e2,_⟩:=iV (t:=t.1*y.2+y.1*t.2) hb
  let a:t.1*y.2<=32*j*t.2*y.2:=Int.mul_le_mul_of_nonneg_right h3 (Int.le_of_lt w1);let b:y.1*t.2<=32*y.2*t.2:=Int.mul_le_mul_of_nonneg_right nofun (Int.le_of_lt t1);let c:t.1*y.2+y.1*t.2<=32*((j+1:Nat):Int)*(t.2*y.2):=by
   let e:32*((j+1:Nat):Int)*(t.2*y.2)=32*j*t.2*y.2+32*y.2*t.2:=by
    rw[Int.natCast_add,Int.mul_add,Int.add_mul]
    congr 1
    ·simp only[Int.mul_assoc]
    ·show 32*1*(t.2*y.2)=_
     simp only[Int.mul_one,Int.mul_assoc,Int.mul_comm t.2 y.2]
   rw[e];omega
  unfold Lm.add;generalize red (t.1*y.2+y.1*t.2) (t.2*y.2)=r at e1 e2;rw[e1,e2] at c;refine Int.le_of_mul_le_mul_left (a:=g) ?_ g0;rw[Int.mul_left_comm];exact c
def RH {j:Nat} {t:Int×Int} (h:NL j t) (hj:j<=16777216):(0<=t.1/\t.1<=515396075520)/\0<t.2/\t.2<=960:=by
 let⟨h1,h2,h3⟩:=h;let⟨t0,t1,_⟩:=h1.pos;let d:=Int.le_of_dvd ∅ h2;refine{{t0,?_},t1,d};let a:32*(j:Int)*t.2<=32*16777216*960:=Int.mul_le_mul nofun d (Int.le_of_lt t1) ∅;exact Int.le_trans h3 a
noncomputable def EK (S:bW) (l:List Nat):Int×Int:=l.foldl (λt b=>Lm.add t (S.len b)) (0,1)
def Br (S:bW) (l:List Nat) (b:Nat):EK S (l++[b])=Lm.add (EK S l) (S.len b):=by unfold EK;rw[zY];rfl
def N7 {S:bW} {n:Nat} (h:∀b,b<n->S8 (S.len b)):∀{l:List Nat},(∀b∈l,b<n)->∀i,NL (min i ⇑l) (EK S (l.take i)):=by
 intro l hl i
 induction i with
 | zero=>rw[List.take_zero,Nat.zero_min];exact N1
 | succ i ih=>
  by_cases c:i<⇑l
  ·rw[cM (zd c),Br,show min (i+1) ⇑l=min i ⇑l+1 from by omega]
   exact Qa ih (h _ (hl _ (ym c)))
  ·rw[List.take_of_length_le nofun,show min (i+1) ⇑l=min i ⇑l from by omega]
   rw[List.take_of_length_le nofun] at ih;exact ih
inductive vx (S:bW) (l:List Nat) (H:Hp) (i:Nat) (v:V):Prop
 | mk (a q:Addr) (c:Int) (b:Nat) (_:v=.ref a) (_:H a=some (.tup [.int (b:Nat),.ref q,.int c])) (_:H q=some (jw (EK S (l.take i)))) (_:l[i]?=some b)
def vx.mono {S:bW} {l:List Nat} {H H':Hp} (s:au H H') {i:Nat} {v:V} (h:vx S l H i v):vx S l H' i v:=by
 let⟨a,q,c,b,h1,h2,h3,h4⟩:=h;exact{a,q,c,b,h1,s _ _ h2,s _ _ h3,h4}
theorem vx.upd {S:bW} {l:List Nat} {H:Hp} {D:Addr} {o:HO} (hD:cj (H D)) {i:Nat} {v:V} (h:vx S l H i v):vx S l (L2.upd H D o) i v:=by
 let⟨a,q,c,b,h1,h2,h3,h4⟩:=h;exact{a,q,c,b,h1,by rw[aC λe=>hD _ (e▸h2)];exact h2,by rw[aC λe=>hD _ (e▸h3)];exact h3,h4}
def OS {H:Hp} {q:Addr} {l:List Int} (h:H q=some (.tup (l.map V.int))):Is H (jQ l) (.ref q):=by
 refine cw h ?_;clear h
 induction l with
 | nil=>exact cD
 | cons x l ih=>exact aN cE ih
def OU {H:Hp} {l:List Int} {v:V} (h:Is H (jQ l) v):∃q,v=.ref q/\H q=some (.tup (l.map V.int)):=by
 unfold jQ Is at h;let⟨q,vs,e,hq,hl⟩:=h;rw[dS hl] at hq;exact{(q),e,hq}
def Pl (S:bW):Prop:=∀r∈S.repeats,r.ends.Pairwise λa b=>a.1<b.1
def OO {r:Rep} {n:Int} (h:r.last<200) (h0:0<=r.first):⇑(MY r n)<=200:=by
 unfold MY;refine zM (List.length_filter_le _ _) ?_;unfold cZ;rw[za,zR];omega
theorem xo {r:Rep} (h:∀n,⇑(i4 r n)<=200):∀i,⇑(((cZ 1 i).map (i4 r)).flatten)<=200*i
 | 0=>zm _
 | i+1=>by
  let a:=xo h i;let b:=h (1+(i:Int));rw[nK,zk,List.flatten_append,zh];simp only[zj,yn,ya,List.flatten_nil,zV];omega
def RQ {S:bW} {once:Bool} {c:Int} (h:GR S) (c0:0<=c) (c1:c<⇑S.aK):c<=(Er S once c).2/\(Er S once c).2<⇑S.aK:=by
 unfold Er;cases q:S.repeats.find? λr=>decide (r.first=c) with
 | none=>exact{Int.le_refl _,c1}
 | some r=>
  let m:=List.mem_of_find?_eq_some q;let e:=List.find?_some q;let e2:r.first=c:=ye e;let a:=(h.1 r m).2.1;let b:=h.2.2.2 r m;show c<=r.last/\r.last<⇑S.aK;omega
def Iu {K:yB} {α:Type} {p:Addr} {ws:List α} {enc:α->V} {U₀:St} {g:TG} {tc:TT} {te:TE} {Q:VK} {H1:Hp} (f:α->Bool) (F:α->Dt) (Pσ:St->Prop) (hn:⇑ws<=sizeLine) (hp:H1 p=some (.tup (ws.map enc))) (h0:Pσ U₀)
  (turn:∀(a:α) (U:St) (H:Hp) (R:St->V->Hp->Prop) (N:St->Hp->Prop),a∈ws->au H1 H->Pσ U->(f a=true->∀U3 y H5,au H H5->Is H5 (F a) y->Pσ U3->R U3 y H5)->(f a=false->∀U3 H5,au H H5->Pσ U3->N U3 H5)->g (enc a) U H λU3 H3=>tc U3 H3 λb H4=>if b=true then te U3 H4 λy H5=>R U3 y H5 else N U3 H4)
  (fin:∀D vs H,au H1 H->H1 D=none->H D=some (.lst vs)->aD H ((ws.filter f).map F) vs->Q (.ref D) H):dh U₀ g tc te Q (Ph K p) H1:=by
 refine lJ f F Pσ hn h0 (λi H hi sm=>Dn (eO sm hp) (by rw[za];exact hi)) (λH sm=>{_,eO sm hp,by rw[za];exact zm _}) ?_ turn fin;rintro i x H H2 hi sm ⟨rfl,hy⟩;let hx':=hy _ (eO sm hp);rw[zK,zd hi] at hx';cases hx';exact{(rfl),rfl}
inductive pQ (H0:Hp) (H:Hp) (x:List Int×Int) (v:V):Prop
 | mk (a q:Addr) (_:v=.ref a) (_:H a=some (.tup [.ref q,.int x.2])) (_:H q=some (.lst (x.1.map V.int))) (_:H0 q=none) (_:⇑x.1<=18000)
def pQ.mono {H0 H H':Hp} (s:au H H') {x:List Int×Int} {v:V} (h:pQ H0 H x v):pQ H0 H' x v:=by
 let⟨a,q,h1,h2,h3,h4,h5⟩:=h;exact{a,q,h1,s _ _ h2,s _ _ h3,h4,h5}
theorem pQ.upd {H0 H:Hp} {D:Addr} {o:HO} (hD:H0 D≠none) (nt:cj (H D)) {x:List Int×Int} {v:V} (h:pQ H0 H x v):pQ H0 (L2.upd H D o) x v:=by
 let⟨a,q,h1,h2,h3,h4,h5⟩:=h;exact{a,q,h1,by rw[aC λe=>nt _ (e▸h2)];exact h2,by rw[aC (show q≠D from λe=>hD (by rw[<-e];exact h4))];exact h3,h4,h5}
theorem Ll.mono {S:bW} {H H':Hp} (s:au H H') {i:Nat} {kvs:List (Key×V)} (h:Ll S H i kvs):Ll S H' i kvs:=
 {λk v e=>(h.1 k v e).imp λ_ z=>{z.1,z.2.1,z.2.2.mono s},h.2}
theorem RL.zip {α:Type} {R:α->V->Prop}:∀{xs:List α} {vs:List V},RL R xs vs->∃ps:List (α×V),ps.map (·.1)=xs/\ps.map (·.2)=vs/\∀z∈ps,R z.1 z.2
 | [],_,e=>{[],rfl,by unfold RL at e;rw[e];rfl,by simp}
 | x::xs,_,⟨v,r,e,h1,h2⟩=>by
  let⟨ps,a,b,c⟩:=RL.zip h2;refine{(x,v)::ps,by rw[zj,a],by rw[zj,b,e],λz hz=>?_};rcases zD.mp hz with rfl | hz
  ·exact h1
  ·exact c z hz
def vK (l:List Int):(l.map V.int).all Oy=true:=by rw[List.all_map];exact yp.mpr λ_ _=>rfl
def BX {K:yB} {D:Addr} {us:List V} {S:bW} {bs:List Nat} {v:Option V} {Q:VK} {H1:Hp} (hD:H1 D=some (.lst us)) (rl:RL (vx S bs H1) (List.range ⇑bs) us) (hn:⇑bs<=4000000)
  (fin:∀D' H,au H1 H->H D'=some (.lst ((bs.map λb:Nat=>(b:Int)).map V.int))->Q (.ref D') H):dh [v] (bS 0) rS (e9 (mC K) (aX 0) (tC (.int 0))) Q (Lh K D) H1:=by
 let⟨ps,e1,e2,e3⟩:=rl.zip;let sl:=yC;let psl:⇑ps=⇑bs:=by rw[<-zR (n:=⇑bs),<-e1,za]
 refine eW (enc:=λz:Nat×V=>z.2) (ws:=ps) (λz=>.int ((bs[z.1]?.getD 0:Nat):Int)) (λU=>∃v1,U=[v1]) nofun (by rw[e2];exact aH.of hD) {_,rfl} ?_ ?_
 ·rintro z U H R hz s ⟨v1,rfl⟩ rr
  let⟨a,q,c,b,ev,ha,hq,hb⟩:=(e3 z hz).mono s;rw[ev];exact{_,rfl,a,_,0,_,rfl,rfl,cY.of ha,bC (j:=0) rfl,rr _ _ _ (au.refl _) (by rw[hb];exact cE) {_,rfl}}
 ·intro D' vs H s h il
  let ee:ps.map (λz:Nat×V=>Dt.int ((bs[z.1]?.getD 0:Nat):Int))=(bs.map λb:Nat=>(b:Int)).map Dt.int:=by
   let e4:ps.map (λz:Nat×V=>Dt.int ((bs[z.1]?.getD 0:Nat):Int))=(List.range ⇑bs).map λi=>Dt.int ((bs[i]?.getD 0:Nat):Int):=by rw[<-e1,zB];rfl
   rw[e4];refine List.ext_getElem (by simp) λi h1 h2=>?_;simp at h1;simp[h1]
  rw[ee] at il;rw[dS il] at h;exact fin D' H s h
end Sc
namespace K22
open PySem L2 Lm Sc
def top (i:Nat):Stmt:=PySem.Challenge.pw_partsmith_k18_played_without_jump.main.body.getD i (.Pass {0,0,0,0})
abbrev Ax:=top 6
abbrev Au:=top 7
abbrev sj:=top 10
abbrev Az:=top 11
abbrev Og:=top 12
abbrev J7:=top 13
abbrev oC:=top 14
abbrev CC:=top 20
abbrev oR:=top 21
abbrev E4:=top 22
abbrev Hm:=top 32
abbrev Hu:=top 33
abbrev E2:=top 34
abbrev CB:=top 35
abbrev Ar:=top 36
abbrev E1:=top 37
abbrev EZ:=top 38
abbrev CF:=top 39
abbrev Hn:=top 40
abbrev Ho:=top 41
abbrev Aw:=top 42
abbrev qo:=top 43
abbrev Cz:=top 44
abbrev Hr:=top 45
abbrev As:=top 46
abbrev E5:=top 47
abbrev CD:=top 48
abbrev Av:=top 49
abbrev E3:=top 50
abbrev uJ:=top 52
abbrev oQ:=top 53
abbrev J8:=top 54
abbrev Ht:=top 55
abbrev Aq:=top 56
abbrev wj:=top 57
abbrev E6:=top 58
abbrev E7:=top 59
abbrev wt:=top 60
abbrev E9:=top 61
abbrev E8:=top 62
abbrev wo:=top 71
abbrev Ao:=top 72
abbrev wq:=top 73
abbrev Hs:=top 74
abbrev wm:=top 75
abbrev oS:=top 76
abbrev Ap:=top 77
abbrev Fb:=top 78
abbrev wg:=top 79
abbrev CH:=top 80
abbrev Ay:=top 81
abbrev wk:=top 82
abbrev CG:=top 83
abbrev oU:=top 85
abbrev Hv:=top 86
abbrev J9:=top 87
abbrev CA:=top 88
abbrev wu:=top 90
abbrev sk:=top 91
abbrev L6:=top 92
abbrev Cy:=top 93
abbrev L7:=top 94
abbrev wB:=top 96
abbrev CK:=top 97
abbrev uN:=top 98
abbrev AB:=top 99
abbrev uL:=top 100
abbrev uO:=top 101
abbrev wC:=top 102
abbrev sr:=top 103
abbrev uP:=top 104
abbrev uM:=top 105
abbrev wA:=top 106
abbrev qt:=top 107
abbrev wy:=top 108
abbrev CL:=top 109
abbrev wz:=top 110
abbrev mB:=top 111
abbrev so:=top 112
abbrev uK:=top 113
abbrev oW:=top 114
abbrev su:=top 115
abbrev oV:=top 116
abbrev sG:=top 117
abbrev qq:=top 118
abbrev qp:=top 119
abbrev CI:=top 120
abbrev Fc:=top 121
abbrev wx:=top 122
abbrev AA:=top 123
abbrev CJ:=top 124
abbrev RV:=top 125
abbrev qB:=inClass (top 70) 0
structure Df (K:yB) (mg:Str->Option Value) (x:Str) (st:Stmt) (a:Addr) (d:FuncData) (ps:List Str):Prop where
 F:NR K x x st a d
 g:mg x=some (.ref a)
 b:Binds K d ps []
structure UG (K:yB) (x y:Str) (st:Stmt) (a:Addr) (d:FuncData) (ps:List Str):Prop where
 F:NR K x y st a d
 b:Binds K d ps []
set_option genInjectivity false in
set_option genSizeOf false in
structure Txt (K:yB) (mg:Str->Option Value) where
 (Be Bd tL Bf Pc K9 kb Ed pL GJ IF IK GI Ec Bc GH GG Ee IG IH gI d8 iF lM gG jS iG gH jR vm x9 La IJ Bb x8 GK GL yP GO GN yN Ba yO II fX dW gF jT fV iI gJ fW iH yQ IL Lb Eb yR tM NJ Ea NK yW Eh vt Bh vo vv yX tO vw vq yV rK yT Ei yU mH tN vn pN tP pM tQ rJ rH Ef GP yS Bg Eg Sy lN lL jg dX iO qF:Addr)
 (A0 AX tD A2 O5 KQ j8 DC pG Gp Ig Ip Gm DB AV Gk Gj DG Ii Ij AZ rm Dy Ik AW Gq DD AY Gn vc Ih KU Io AU xD Gr Gs xI Gv Gu xG AR xH Il xF pH AS Gw xC DI A1 xE DH Im Iq KW DA xJ tE Nt Dw Nu xP DL vg A4 ve vh xQ tG vi vf xO rC xM DM xN mF tF vd pJ tH pI tI rB rA DJ Gx xK A3 DK Nv rD:FuncData)
 (JX rR Aa vR Ab uw B9 vU rQ vV ux vW Ca vT oI EG Cc Cb vS:Tok)
 dA:Df K mg "read_number" Ax Be A0 ["text","most"]
 fB:Df K mg "read_signed" Au Bd AX ["text","most"]
 fT:Df K mg "common_divisor" sj tL tD ["one","other"]
 eJ:Df K mg "made_length" Az Bf A2 ["top","bottom"]
 added:Df K mg "added" Og Pc O5 ["one","other"]
 Cv:Df K mg "shorter" J7 K9 KQ ["one","other"]
 eG:Df K mg "read_length" oC kb j8 ["text"]
 iW:Df K mg "read_pitch" CC Ed DC ["fifths_text","steps_text"]
 dI:Df K mg "read_item_length" oR pL pG ["text"]
 sJ:Df K mg "read_item" E4 GJ Gp ["text"]
 words_of:Df K mg "words_of" Hm IF Ig ["row"]
 dt:Df K mg "all_read" Hu IK Ip ["values"]
 eP:Df K mg "read_name" E2 GI Gm ["word"]
 cS:Df K mg "read_plain" CB Ec DB ["word"]
 jB:Df K mg "read_within" Ar Bc AV ["word","lowest","highest"]
 sI:Df K mg "read_time" E1 GH Gk ["word"]
 sH:Df K mg "read_turn" EZ GG Gj ["fifths_word","steps_word"]
 o6:Df K mg "read_metre" CF Ee DG ["word"]
 wM:Df K mg "read_key" Hn IG Ii ["word"]
 wN:Df K mg "read_end" Ho IH Ij ["word"]
 jE:Df K mg "read_player" Aw gI AZ ["words"]
 fu:Df K mg "read_instrument" qo d8 rm ["words"]
 kZ:Df K mg "read_staff" Cz iF Dy ["words"]
 qE:Df K mg "read_bar" Hr lM Ik ["words"]
 jC:Df K mg "read_upbeat" As gG AW ["words"]
 nN:Df K mg "read_hold" E5 jS Gq ["words"]
 lg:Df K mg "read_notes" CD iG DD ["words"]
 jD:Df K mg "read_repeat" Av gH AY ["words"]
 nM:Df K mg "read_jump" E3 jR Gn ["words"]
 j0:Df K mg "is_score_word" uJ vm vc ["word"]
 wL:Df K mg "read_row" oQ x9 Ih ["words"]
 vH:Df K mg "ends_of" J8 La KU ["repeat"]
 xu:Df K mg "ends_fit" Ht IJ Io ["repeat"]
 mT:Df K mg "repeat_fits" Aq Bb AU ["repeats","repeat"]
 ia:Df K mg "repeat_round" wj x8 xD ["repeats","bar"]
 sX:Df K mg "may_leave" E6 GK Gr ["repeats","bar"]
 nT:Df K mg "may_enter" E7 GL Gs ["repeats","bar"]
 iC:Df K mg "in_last_pass" wt yP xI ["repeats","bar"]
 tJ:Df K mg "coda_fits" E9 GO Gv ["repeats","at","coda"]
 tm:Df K mg "jump_fits" E8 GN Gu ["repeats","jump"]
 iw:Df K mg "metre_length" wo yN xG ["score","bar"]
 jy:Df K mg "told_length" Ao Ba AR ["score","bar"]
 lD:Df K mg "items_length" wq yO xH ["items"]
 kD:Df K mg "has_bars" Hs II Il ["score","bars"]
 ig:Df K mg "player_fault" wm fX xF ["score","player"]
 eU:Df K mg "instrument_fault" oS dW pH ["score","told"]
 gL:Df K mg "staff_fault" Ap gF AS ["score","told"]
 og:Df K mg "bar_fault" Fb jT Gw ["score","told"]
 fI:Df K mg "upbeat_fault" wg fV xC ["score","length"]
 lG:Df K mg "hold_fault" CH iI DI ["score","told"]
 jI:Df K mg "notes_fault" Ay gJ A1 ["score","told"]
 ic:Df K mg "repeat_fault" wk fW xE ["score","repeat"]
 lC:Df K mg "jump_fault" CG iH DH ["score","jump"]
 xt:Df K mg "fault_of" oU yQ Im ["score","sort","told"]
 x6:Df K mg "add_hold" Hv IL Iq ["score","told"]
 D1:Df K mg "add_row" J9 Lb KW ["score","sort","told"]
 oZ:Df K mg "read_score" CA Eb DA ["text"]
 iE:Df K mg "bars_of_pass" wu yR xJ ["repeat","number"]
 jh:Df K mg "bars_of_repeat" sk tM tE ["repeat","once"]
 walked:Df K mg "walked" L6 NJ Nt ["score","first","last","once"]
 oH:Df K mg "taken_bars" Cy Ea Dw ["score"]
 CP:Df K mg "played" L7 NK Nu ["score"]
 cz:Df K mg "_law_cell_at" wB yW xP ["_law_script","_law_k"]
 cy:Df K mg "_law_mixed" CK Eh DL ["_law_cell","_law_k"]
 d6:Df K mg "_law_names_by" uN vt vg ["_law_cell","_law_many"]
 fG:Df K mg "_law_lowest" AB Bh A4 ["_law_top","_law_bottom"]
 ke:Df K mg "_law_pitch_by" uL vo ve ["_law_m"]
 kg:Df K mg "_law_items_by" uO vv vh ["_law_m","_law_length"]
 lS:Df K mg "_law_bars_by" wC yX xQ ["_law_cell","_law_many"]
 jq:Df K mg "_law_length_of" sr tO tG ["_law_bars","_law_upbeat","_law_bar"]
 kh:Df K mg "_law_holds_by" uP vw vi ["_law_cell","_law_players","_law_instruments","_law_many"]
 kf:Df K mg "_law_notes_by" uM vq vf ["_law_cell","_law_players","_law_bars","_law_upbeat"]
 lR:Df K mg "_law_ends_by" wA yV xO ["_law_m","_law_first","_law_last","_law_times"]
 hJ:Df K mg "_law_repeats_by" qt rK rC ["_law_cell","_law_many"]
 iK:Df K mg "_law_lasting" wy yT xM ["_law_repeats","_law_bar"]
 lQ:Df K mg "_law_inner" CL Ei DM ["_law_repeats","_law_bar"]
 lP:Df K mg "_law_jump_by" wz yU xN ["_law_cell","_law_many","_law_repeats"]
 fe:Df K mg "_law_instruments_by" mB mH mF ["_law_cell"]
 jn:Df K mg "_law_staffs_by" so tN tF ["_law_cell","_law_players"]
 kc:Df K mg "_law_score_by" uK vn vd ["_law_script","_law_most"]
 dm:Df K mg "_law_length_text" oW pN pJ ["_law_length"]
 jr:Df K mg "_law_item_text" su tP tH ["_law_item"]
 gy:Df K mg "_law_repeat_text" oV pM pI ["_law_repeat"]
 jt:Df K mg "_law_form_rows" sG tQ tI ["_law_s"]
 g9:Df K mg "_law_score_rows" qq rJ rB ["_law_s"]
 gZ:Df K mg "_law_score_text" qp rH rA ["_law_s"]
 pO:Df K mg "_law_whole" CI Ef DJ ["_law_found"]
 tR:Df K mg "_law_pass" Fc GP Gx ["_law_repeat","_law_number"]
 lO:Df K mg "_law_stretch" wx yS xK ["_law_firsts","_law_at","_law_once"]
 nG:Df K mg "_law_onward" AA Bg A3 ["_law_s","_law_at","_law_once"]
 pP:Df K mg "_law_taken" CJ Eg DK ["_law_s"]
 Ua:Df K mg "law" RV Sy Nv ["_law_script"]
 N0:mg "Score"= some (.ref lL)
 Pf:Mk K lL lN
 yY:UG K "__init__" "Score.__init__" qB lN rD ["self"]
 K4:mg "FIGURES"= some (.str "0123456789" JX)
 kL:mg "LENGTH_FIGURES"= some (.int (4) rR)
 A7:mg "HIGHEST_KEY"= some (.int (7) Aa)
 xU:mg "OCTAVE_STEPS"= some (.int (12) vR)
 A8:mg "FIFTH_STEPS"= some (.int (7) Ab)
 mw:mg "PITCH_FIGURES"= some (.int (2) uw)
 DR:mg "NAME_SIGNS"= some (.str "abcdefghijklmnopqrstuvwxyz0123456789" B9)
 xX:mg "LONGEST_NAME"= some (.int (12) vU)
 kK:mg "NUMBER_FIGURES"= some (.int (3) rQ)
 xY:mg "HIGHEST_TURN"= some (.int (12) vV)
 vk:mg "HIGHEST_METRE"= some (.int (32) ux)
 vj:mg "METRE_BOTTOMS"= some (.ref dX)
 mm:∀H,cY K H dX [.int 1,.int 2,.int 4,.int 8,.int 16,.int 32]
 xZ:mg "FEWEST_TIMES"= some (.int (2) vW)
 DS:mg "MOST_TIMES"= some (.int (9) Ca)
 BZ:mg "READERS"= some (.ref iO)
 xW:mg "MOST_PLAYERS"= some (.int (12) vT)
 pK:mg "MOST_INSTRUMENTS"= some (.int (12) oI)
 GA:mg "MOST_BARS"= some (.int (200) EG)
 DU:mg "MOST_HOLDS"= some (.int (20) Cc)
 DT:mg "MOST_ITEMS"= some (.int (40) Cb)
 xV:mg "MOST_REPEATS"= some (.int (20) vS)
 Ny:mg "FAULTS"= some (.ref qF)
 PH:mg "abs"= none
 Jo:mg "all"= none
 xb:mg "any"= none
 QO:mg "bool"= none
 jJ:mg "enumerate"= none
 MN:mg "int"= none
 ik:mg "isinstance"= none
 bF:mg "len"= none
 jY:mg "list"= none
 R8:mg "min"= none
 cF:mg "range"= none
 R7:mg "set"= none
 FR:mg "sorted"= none
 fk:mg "str"= none
 R6:mg "sum"= none
 gD:mg "tuple"= none
 MM:mg "zip"= none
 lH:PySem.W.nsIn K mainGlobals "NoLength"= some (some (.ref jg))
 lj:PySem.W.excIn K jg [.type "ValueError",.type "Exception",.type "BaseException",.type "object"] "ValueError.__new__"= true
 P6:mg "NoLength"= some (.ref jg)
 cf:Cf K lL
def bN {X:Cx} {x:Str} {st:Stmt} {k n:Nat} {f:Addr} {fd:FuncData} {ps:List Str} {sp:Sp} {e:Expr} {es:List Expr} {t:TA} {p pos:Pos} (F:dC X.prog X.w X.K X.mg X.base GV k f fd ps sp) (hr:fH n X.A) (D:Df X.K X.mg x st f fd ps)
  (ha:PA X (e::es) t) (hk:k<=n<|>qb_) (hg:Gl X x<|>qe_) (hdb:(x == ("__debug__": Str))=false<|>qb_) (he:starEach (e::es) X.env=(false,eval e X.env)::starEach es X.env<|>qe_) (hpl:(backTo pos (starEach es X.env)).any (·.1)=false<|>qe_) :
  PE X (.Call (.Name x p) (e::es) [] pos) (gK sp [] E0 t):=OB F (hr.mono hk) hg D.g D.F.kp D.b .nil Jn ha hdb he hpl
def fw {X:Cx} {a b:Expr} {ta tb:TE} {pos:Pos} (ha:PE X a ta) (hb:PE X b tb) (hs:rM b<|>qj_):PE X (.Subscript a b pos) (e9 (Ot X.K) ta tb):=wQ Js ha hb hs
def bG {X:Cx} {a b:Expr} {ta tb:TE} {pos:Pos} (ha:PE X a ta) (hb:PE X b tb) (hs:rM b<|>qj_):PE X (.Subscript a b pos) (e9 (mC X.K) ta tb):=wQ QY ha hb hs
def ptr {X:Cx} {a b:Expr} {ta tb:TE} {pos:Pos} {op:CmpOp} {r:R2} (ho:nH X (compareOp op) r) (ha:PE X a ta) (hb:PE X b tb) (h:op≠.In<|>qb_) (h2:op≠.NotIn<|>qb_):PT X (.Compare a [op] [b] pos) (ki (e9 r ta tb)):=gB ho ha hb (gY b h h2)
def Lo (p:St) (n:Nat) (U:St):Prop:=∃e:Nat->Option V,U=p++(List.range n).map e
def Lo.of {p:St} {n:Nat} {U:St} (h:U.take ⇑p=p) (l:U.length=⇑p+n):Lo p n U:=by
 refine{λi=>U[⇑p+i]?.join,List.ext_getElem? λi=>?_}
 by_cases c:i<⇑p
 ·rw[List.getElem?_append_left c]
  conv=>rhs;rw[<-h]
  rw[List.getElem?_take_of_lt c]
 ·rw[z9 nofun,zK]
  by_cases d:i-⇑p<n
  ·rw[List.getElem?_range d]
   have:⇑p+(i-⇑p)=i:=nofun
   simp only[Option.map_some,this];rw[zd nofun];rfl
  ·rw[List.getElem?_eq_none nofun,List.getElem?_eq_none (by simp;omega)]
   rfl
abbrev At (b:yB->TS) (K:yB):TS:=b K
abbrev Sq (b:yB->TS) (K:yB) (D:Ends):Ends:={D with nx:=b K D}
abbrev Dz (Q:VK):Ends:={nx:=λ_ H'=>Q .bI H',rt:=Q}
def Ev (t:TE) (U:St) (H:Hp) (v:V):Prop:=∀Q:VK,Q v H->t U H Q
def NX (t:TA) (U:St) (H:Hp) (vs:List V):Prop:=∀R:List V->Hp->Prop,R vs H->t U H R
def Pk (t:TT) (U:St) (H:Hp) (b:Bool):Prop:=∀R:Bool->Hp->Prop,R b H->t U H R
inductive Uh (K:yB) (f:Str) (x:V) (H:Hp) (Q:VK):Prop
 | mk (a C dx:Addr) (fs:List (Str×V)) (v:V) (_:x=.ref a) (_:H a=some (.ins C dx fs)) (_:Po K C) (_:eN K C f) (_:fs.lookup f=some v) (_:Q v H)
section
variable {t u:TE} {ta:TA} {c:TT} {wi:TI} {a b:TS} {gt:TG} {D:Ends} {U:St} {H:Hp} {v x y:V} {vs:List V} {g:Int->Int->V} {i j:Int} {r:R2} {Q:VK} {R:List V->Hp->Prop} {S:Bool->Hp->Prop} {k:Bool} {K:yB} {p:Addr} {xs:List V}
def Q6 {n:Nat} (e:U[n]?=some (some v)):Ev (aX n) U H v:=λ_ q=>{(v),e,q}
def Uk:Ev (tC v) U H v:=λ_ q=>q
def So (a:Ev t U H (.int i)) (b:Ev u U H (.int j)):Ev (e9 (sM g) t u) U H (g i j):=λ_ q=>a _ (b _ {_,_,rfl,rfl,q})
def Sn {C:Int->Int->Prop} (a:Ev t U H (.int i)) (b:Ev u U H (.int j)) (c:C i j):Ev (e9 (rI C g) t u) U H (g i j):=λ_ q=>a _ (b _ {_,_,rfl,rfl,c,q})
def Sm (a:Ev t U H (.ref p)) (b:Ev u U H (.int j)) (h:H p=some (.tup xs)) (e:B5 xs j=some v):Ev (e9 (mC K) t u) U H v:=λ_ q=>a _ (b _ {_,_,_,_,rfl,rfl,cY.of h,e,q})
def Q8:NX eD U H []:=λ_ q=>q
def OY (a:Ev t U H v) (b:NX ta U H vs):NX (bR t ta) U H (v::vs):=λ_ q=>a _ (b _ q)
def Q9 (a:Ev t U H v):Ev (LP t) U H (.bl (decide (v=.bI))):=λ_ q=>a _ q
def OX (a:Ev t U H v):Ev (LN t) U H (.bl (!decide (v=.bI))):=λ_ q=>a _ q
def Q7 (a:Ev t U H (.bl k)):Ev (Pp t) U H (.bl (!k)):=λ_ q=>a _ {_,rfl,q}
def Sr (a:Ev t U H x) (b:Ev u U H y) (s:Oe x y=true):Ev (e9 T5 t u) U H (.bl (decide (x=y))):=λ_ q=>a _ (b _ {(s),q})
def Sl (a:Ev t U H x) (b:Ev u U H y) (s:Oe x y=true):Ev (e9 T3 t u) U H (.bl (!decide (x=y))):=λ_ q=>a _ (b _ {(s),q})
def Ui (a:Ev t U H (.bl k)):Pk (ki t) U H k:=λ_ q=>a _ {_,rfl,q}
def Ul (a:Ev t U H (.bl k)):Pk (tB t) U H k:=λ_ q=>a _ {_,rfl,q}
def Uj (a:Pk c U H k):Pk (N4 c) U H (!k):=λ_ q=>a _ q
def RW (e:Ev t U H v) (q:gt v U H D.nx):EL t gt D U H:=e _ q
def RU (e:Ev t U H v) (q:D.rt v H):Qd t D U H:=e _ q
def TV {a b:yB->TS} (e:Pk c U H k) (q:if k=true then At a K D U H else At b K D U H):N5 c (a K) (b K) D U H:=e _ q
def Tc {b:yB->TS} (q:a (Sq b K D) U H):Qc a (b K) D U H:=q
def Ti {n:Nat} {S:St->Hp->Prop} (q:S (U.set n (some v)) H):bS n v U H S:=q
def Tf {b:yB->TS} (q:b K D U H):(Sq b K D).nx U H:=q
def Te (q:D.nx U H):Pq D U H:=q
def RC (q:t U H λx H1=>gt x U H1 D.nx):EL t gt D U H:=q
def Rz (q:t U H D.rt):Qd t D U H:=q
def P0 (q:t U H λ_ H1=>D.nx U H1):Pr t D U H:=q
def Th (q:c U H λz H1=>if z=true then a D U H1 else b D U H1):N5 c a b D U H:=q
def Tj {a b:yB->TS} (q:c U H λz H1=>if z=true then At a K D U H1 else At b K D U H1):N5 c (a K) (b K) D U H:=q
def RS (e:Pk c U H k) (q:S k H):c U H S:=e S q
def UI (q:t U H λx H'=>∃k,x=.bl k/\S k H'):ki t U H S:=q
def UJ (q:t U H λx H'=>∃k,x=.bl k/\S k H'):tB t U H S:=q
def Tq (e:Ev t U H v) (q:Q v H):t U H Q:=e Q q
def w_arg (e:NX ta U H vs) (q:R vs H):ta U H R:=e R q
def x_call {sp:Sp} {dv:List V} {E:XK} (q:ta U H λvs H1=>sp (vs++dv) H1 Q E):gK sp dv E ta U H Q:=q
def Tn {q':List V->Hp->VK->Prop} (q:ta U H λvs H1=>q' vs H1 Q):JY q' ta U H Q:=q
def Ry (q:ta U H λxs H1=>⇑xs<=sizeLine/\∀p,H1 p=none->Q (.ref p) (upd H1 p (.tup xs))):EH ta U H Q:=q
def RA (q:ta U H λxs H1=>⇑xs<=sizeLine/\∀p,H1 p=none->Q (.ref p) (upd H1 p (.lst xs))):EJ ta U H Q:=q
def P1 {fr:List (Option Nat)} (q:wi U H λJ H1=>dh (fr.map λo=>o.bind λj=>(U[j]?).join) gt c t Q J H1):mL fr wi gt c t U H Q:=q
def TU {R:It->Hp->Prop} (e:Ev t U H (.ref p)) (q:(∃xs,aH K H p xs)/\R (Lh K p) H):Jt K t U H R:=e _ {_,rfl,q}
def Td {R:It->Hp->Prop} (q:ta U H λvs H1=>∃j:Int,vs=[.int j]/\-(2^62)<=j/\j<2^62/\R (NP 0 j.toNat) H1):M3 ta U H R:=q
abbrev iJ (J:It):TI:=λ_ H R=>R J H
def Fr (g:TG) (b:TS) (D:Ends) (U:St) (J:It) (H:Hp):Prop:=Qh (iJ J) g b D U H
def RB {b:yB->TS} (q:wi U H (Fr gt (At b K) D U)):Qh wi gt (b K) D U H:=q
def x_at {b:yB->TS} (q:b K D U H):At b K D U H:=q
def Tg {R:It->Hp->Prop} (q:t U H λx H1=>∃a,x=.ref a/\(∃xs,aH K H1 a xs)/\R (Lh K a) H1):Jt K t U H R:=q
def TB {R:It->Hp->Prop} (e:NX ta U H vs) (q:∃a xs,vs=[.ref a]/\aH K H a xs/\R (Ro K a) H):PL K ta U H R:=e _ q
def Tv {R:It->Hp->Prop} (e:NX ta U H vs) (q:∃j:Int,vs=[.int j]/\-(2^62)<=j/\j<2^62/\R (NP 0 j.toNat) H):M3 ta U H R:=e _ q
def P5 {sp:Sp} {dv:List V} {E:XK} (e:NX ta U H vs) (q:sp (vs++dv) H Q E):gK sp dv E ta U H Q:=e _ q
def TC {q':List V->Hp->VK->Prop} (e:NX ta U H vs) (q:q' vs H Q):JY q' ta U H Q:=e _ q
def Tu (e:NX ta U H vs) (q:⇑vs<=sizeLine/\∀p,H p=none->Q (.ref p) (upd H p (.tup vs))):EH ta U H Q:=e _ q
def Tz (e:NX ta U H vs) (q:⇑vs<=sizeLine/\∀p,H p=none->Q (.ref p) (upd H p (.lst vs))):EJ ta U H Q:=e _ q
def RX {d:TT} (e:Pk c U H k) (q:if k=true then d U H S else S false H):Qo c d U H S:=e _ q
def TR {d:TT} (e:Pk c U H k) (q:if k=true then S true H else d U H S):TL c d U H S:=e _ q
def TX (e:Pk c U H k) (q:if k=true then t U H Q else u U H Q):Uu c t u U H Q:=e _ q
def RE {f:Str} (e:Ev t U H x) (q:Uh K f x H Q):N6 K t f U H Q:=e _ (by let⟨a,C,dx,fs,v,h1,h2,h3,h4,h5,h6⟩:=q;exact{(a),C,dx,fs,v,h1,h2,h3,h4,h5,h6})
def TF {T:String} {q':V->List V->Hp->VK->Prop} (e:Ev t U H x) (q:SQ K T x H/\ta U H λxs H2=>q' x xs H2 Q):SU K T q' t ta U H Q:=e _ q
def RF (e:Ev t U H (.bl k)) (q:if k=true then u U H Q else Q (.bl false) H):Pt t u U H Q:=e _ {_,rfl,q}
def Tw (e:Ev t U H (.bl k)) (q:if k=true then Q (.bl true) H else u U H Q):RM t u U H Q:=e _ {_,rfl,q}
def Tx (q:t U H λx H1=>u U H1 λy H2=>r x y H2 Q):e9 r t u U H Q:=q
def P4 (q:t U H λx H1=>ta U H1 λxs H2=>R (x::xs) H2):bR t ta U H R:=q
def To (e:Ev t U H x) (q:u U H λy H2=>r x y H2 Q):e9 r t u U H Q:=e _ q
def P2 (e:Ev t U H v) (q:ta U H λxs H2=>R (v::xs) H2):bR t ta U H R:=e _ q
def Tp (q:Q (g i j) H):sM g (.int i) (.int j) H Q:={(i),j,rfl,rfl,q}
def RD (h:H p=some (.tup xs)) (e:B5 xs j=some v) (q:Q v H):mC K (.ref p) (.int j) H Q:={_,_,_,_,rfl,rfl,cY.of h,e,q}
end
def cC {g:TG} {tb:TS} {x:V} {U:St} {H:Hp} {A C:St->Hp->Prop} {B:VK} (h:∀N:Ends,(∀U H,A U H->N.nx U H)->(∀v H,B v H->N.rt v H)->(∀U H,A U H->N.ct U H)->(∀U H,C U H->N.bk U H)->g x U H λU2 H2=>tb N U2 H2):g x U H λU2 H2=>tb {nx:=A,rt:=B,bk:=C,ct:=A} U2 H2:=h _ (λ_ _ z=>z) (λ_ _ z=>z) (λ_ _ z=>z) λ_ _ z=>z
def Ts {r:Sp} {vs:List V} {H:Hp} {Q:VK} {E:XK} (h:∀Q':VK,(∀v H',Q v H'->Q' v H')->r vs H Q' E):r vs H Q E:=h Q λ_ _ z=>z
def Tt {r:R2} {x y:V} {H:Hp} {Q:VK} (h:∀Q':VK,(∀v H',Q v H'->Q' v H')->r x y H Q'):r x y H Q:=h Q λ_ _ z=>z
def Tr {r:V->Hp->VK->Prop} {x:V} {H:Hp} {Q:VK} (h:∀Q':VK,(∀v H',Q v H'->Q' v H')->r x H Q'):r x H Q:=h Q λ_ _ z=>z
abbrev cV (P:Program) (w:World) (base:Heap) (n:Nat) {K:yB} {mg:Str->Option Value} {x:Str} {st:Stmt} {a:Addr} {d:FuncData} {ps:List Str} (_:Df K mg x st a d ps) (sp:Sp):Prop:=dC P w K mg base GV n a d ps sp
theorem _root_.L2.NR.SV {P:Program} {w:World} {K:yB} {mg:Str->Option Value} {base:Heap} {x qual:Str} {st:Stmt} {f:Addr} {fd:FuncData} {N ps:List Str} {k:Nat} {sp:Sp} (F:NR K x qual st f fd) (S:fY N ps (aT st))
  (hbody:∀(cdv:Value) (A:Around) (outer:List Env) (s:Shared) (H:Hp) (vs:List V) (Q:VK) (E:XK),fH k (A.deeper (PyProof.Rows.envOfC qual (aT st) ↑s f cdv))->sp vs H Q E->
   ∃t,Bk (j9 GV P w K mg base N qual (aT st) f cdv A outer s H E).HN (cx st) t/\t (Dz Q) (start N vs) H)
  (len:(∀vs H Q E,sp vs H Q E->⇑vs=⇑ps)<|>qk_):dC P w K mg base GV (k+1) f fd ps sp:=F.ok S len hbody
def Uv {P:Program} {w:World} {K:yB} {mg:Str->Option Value} {base:Heap} {x:Str} {st:Stmt} {f:Addr} {fd:FuncData} {N ps:List Str} {k:Nat} {sp:Sp} (D:Df K mg x st f fd ps) (S:fY N ps (aT st))
  (hbody:N.Nodup->∀(cdv:Value) (A:Around) (outer:List Env) (s:Shared) (H:Hp) (vs:List V) (Q:VK) (E:XK),fH k (A.deeper (PyProof.Rows.envOfC x (aT st) ↑s f cdv))->sp vs H Q E->
   ∃t,Bk (j9 GV P w K mg base N x (aT st) f cdv A outer s H E).HN (cx st) t/\t (Dz Q) (start N vs) H)
  (len:(∀vs H Q E,sp vs H Q E->⇑vs=⇑ps)<|>qk_):dC P w K mg base GV (k+1) f fd ps sp:=D.F.ok S len (hbody S.nd)
def Sk {N P:List Str} {sc:Scope} (h1:sc.kind=.function<|>qe_) (h2:sc.isCoroutine=false<|>qe_) (h3:sc.isGenerator=false<|>qe_) (h4:N.Nodup<|>ql_) (h5:N.take P.length=P<|>qe_) (h6:(∀x∈P,sc.names.lookup x=some .local\/sc.names.lookup x=some .cell)<|>ql_) (h7:(∀y∈sc.names,y.2≠.free)<|>ql_):fY N P sc:={(h1),h2,h3,h4,h5,h6,h7}
def d9 {X:Cx} {x:Str} {id:String} {r:List V->Hp->VK->Prop} {e:Expr} {es:List Expr} {t:TA} {p pos:Pos} (hc:fo X (.builtin id) r) (hm:X.mg x=none) (ha:PA X (e::es) t) (hg:Gl X x<|>qe_) (hv:bootBuiltins x=some (.builtin id)<|>ql_) (hn:x≠ "__name__"<|>qb_) (hdb:(x == ("__debug__": Str))=false<|>qb_)
  (he:starEach (e::es) X.env=(false,eval e X.env)::starEach es X.env<|>qe_) (hpl:(backTo pos (starEach es X.env)).any (·.1)=false<|>qe_):PE X (.Call (.Name x p) (e::es) [] pos) (JY r t):=Fw hc hg hm hv ha hn hdb he hpl
def mD {X:Cx} {x:Str} {id:String} {r:List V->Hp->VK->Prop} {e:Expr} {es:List Expr} {t:TA} {p pos:Pos} (hc:fo X (.type id) r) (hm:X.mg x=none) (ha:PA X (e::es) t) (hg:Gl X x<|>qe_) (hv:bootBuiltins x=some (.type id)<|>ql_) (hn:x≠ "__name__"<|>qb_) (hdb:(x == ("__debug__": Str))=false<|>qb_)
  (he:starEach (e::es) X.env=(false,eval e X.env)::starEach es X.env<|>qe_) (hpl:(backTo pos (starEach es X.env)).any (·.1)=false<|>qe_):PE X (.Call (.Name x p) (e::es) [] pos) (JY r t):=Kk hc hg hm hv ha hn hdb he hpl
def bJ {X:Cx} {x:Str} {e:Expr} {te:TE} {pos pos':Pos} (i:Nat) (hN:X.N.Nodup) (he:PE X e te) (hi:X.N[i]?=some x<|>qe_) (hx:Loc X.env.scope x<|>qi_) (hs:swapsWith e (some (.Name x pos')) pos.line X.env=pure false<|>qe_) (hf:X.fn x=true\/X.env.scope.names.lookup x=some .local<|>qa_) :
  PS X (.Assign [.Name x pos'] e pos) (EL te (bS i)):=Mq hN hi hx he hs hf
def iZ {X:Cx} {x:Str} {pos:Pos} (i:Nat) (hN:X.N.Nodup) (hi:X.N[i]?=some x<|>qe_) (hx:Loc X.env.scope x<|>qi_) (hf:X.fn x=true\/X.env.scope.names.lookup x=some .local<|>qa_):PG X (.Name x pos) (bS i):=Jl hN hi hx hf
def fZ {X:Cx} {ts ys:List Str} {scope:Scope} {cl:List (Str×Addr)} {C:Addr} {s₀:Shared} {H₀:Hp} {ex:List Addr} {x:Str} {pos:Pos} (i:Nat) (hN:(ts++ys).Nodup<|>ql_) (hi:(ts++ys)[i]?=some x<|>qe_) (hx:Loc (cP X (ts++ys) scope cl C s₀ H₀ ex).env.scope x<|>qi_) (hf:(cP X (ts++ys) scope cl C s₀ H₀ ex).fn x=true\/(cP X (ts++ys) scope cl C s₀ H₀ ex).env.scope.names.lookup x=some .local<|>qa_):PG (cP X (ts++ys) scope cl C s₀ H₀ ex) (.Name x pos) (bS i):=Jl hN hi hx hf
section
variable {X:Cx} {pos:Pos} {elt target iter:Expr} {ifs:List Expr} {scope:Scope} {ts ys:List Str} {js:List Nat} {cl:List (Str×Addr)} {wi:TI} {g:TG} {tc:TT} {te:TE}
def mX (hi:PI X target iter wi) (hg:∀{C s₀ H₀ ex},PG (cP X (ts++ys) scope cl C s₀ H₀ ex) target g) (hif:∀{C s₀ H₀ ex},Pd (cP X (ts++ys) scope cl C s₀ H₀ ex) ifs tc) (he:∀{C s₀ H₀ ex},PE (cP X (ts++ys) scope cl C s₀ H₀ ex) elt te)
  (hclos:closureFor scope X.env=pure cl<|>qe_) (hc:X.calm=true<|>qe_) (hcl:Ej X.env.cells cl<|>qm_)
  (hLo:((relabel scope X.env).names.all λp=>(p.2 != .cell&&p.2 != .free)||ys.contains p.1||scope.names.contains (p.1,.cell))=true<|>qe_) (hno:(∀p∈scope.names,p.2=.cell->p.1∉ys)<|>ql_)
  (hfr:Lj X scope cl ys js<|>qm_)
  (hkind:scope.kind=.function<|>qe_) (hnames:(∀y∈scope.names,y.2=.local->scope.names.lookup y.1=some .local)<|>ql_) (hs:(∀x,foldedSetIterable iter X.env x=pure x)<|>qd_) :
  PE X (.ListComp elt [{target,iter,ifs,0}] scope pos) (mL (ts.map (λ_=>none)++js.map some) wi g tc te):=MD hc hclos hcl hLo hno hfr hkind hnames hi (λ_ _ _ _=>hg) (λ_ _ _ _=>hif) (λ_ _ _ _=>he) hs
def MF {i:Nat} {x:Str} {ps pa:Pos} (hi:PI X target iter wi) (hg:∀{C s₀ H₀ ex},PG (cP X (ts++ys) scope cl C s₀ H₀ ex) target g) (hif:∀{C s₀ H₀ ex},Pd (cP X (ts++ys) scope cl C s₀ H₀ ex) ifs tc) (he:∀{C s₀ H₀ ex},PE (cP X (ts++ys) scope cl C s₀ H₀ ex) elt te) (hN:X.N.Nodup)
  (hclos:closureFor scope X.env=pure cl<|>qe_) (hc:X.calm=true<|>qe_) (hcl:Ej X.env.cells cl<|>qm_)
  (hLo:((relabel scope X.env).names.all λp=>(p.2 != .cell&&p.2 != .free)||ys.contains p.1||scope.names.contains (p.1,.cell))=true<|>qe_) (hno:(∀p∈scope.names,p.2=.cell->p.1∉ys)<|>ql_)
  (hfr:Lj X scope cl ys js<|>qm_)
  (hkind:scope.kind=.function<|>qe_) (hnames:(∀y∈scope.names,y.2=.local->scope.names.lookup y.1=some .local)<|>ql_) (hx1:X.N[i]?=some x<|>qe_) (hx2:Loc X.env.scope x<|>qi_) (hs:(∀x,foldedSetIterable iter X.env x=pure x)<|>qd_) (hsw:swapsWith (.ListComp elt [{target,iter,ifs,0}] scope pos) (some (.Name x ps)) pa.line X.env=pure true<|>qe_)
  (hf:X.fn x=true\/X.env.scope.names.lookup x=some .local<|>qa_) :
  PS X (.Assign [.Name x ps] (.ListComp elt [{target,iter,ifs,0}] scope pos) pa) (EL (mL (ts.map (λ_=>none)++js.map some) wi g tc te) (bS i)):=Mt hc hclos hcl hLo hno hfr hkind hnames hi (λ_ _ _ _=>hg) (λ_ _ _ _=>hif) (λ_ _ _ _=>he) hN hx1 hx2 hs hsw hf
end
section
variable {P:Program} {w:World} {K:yB} {mg:Str->Option Value} {base:Heap} (T:Txt K mg)
local macro_rules | `(tactic|right) => `(tactic| (intro pp hn; generalize hG : upd _ pp _ = HH; have sm := au.i9 hG hn; have hh := ji hG; clear hG hn))
local macro_rules | `(tactic| intros $D:ident $n:ident $s:ident $h:ident $H:ident) => `(tactic| ((try refine ⟨yg _, ?_⟩); intro $D $n; generalize hG : upd _ $D _ = $H; have $s:ident := au.i9 hG $n; have $h:ident := ji hG; clear hG))
local macro_rules|`(tactic|ac_rfl)=>`(tactic|try dsimp only[j9,Cx.HN])
local macro_rules|`(tactic|intros $p:ident $H:ident $s:ident $h:ident)=>`(tactic|(intro $p hn;generalize hG:upd _ $p _=$H;have $s:ident:=au.i9 hG hn;have $h:ident:=ji hG;clear hG hn))
local macro_rules|`(tactic|change $e:term)=>`(tactic|(left ;exact $e))
set_option hygiene false
local macro_rules|`(tactic|fail "h")=>`(tactic|(refine au.on (by assumption) ?_; fail "h"))
local macro_rules|`(tactic|fail "h")=>`(tactic|assumption)
local macro_rules|`(tactic|fail "e")=>`(tactic|((with_reducible apply Sn); fail "e"; fail "e"; (first | (show (0 : Int) < _; decide) | exact And.intro ∅ ∅ | exact Or.inl ⟨∅, by decide⟩ | exact Or.inr ⟨∅, by decide⟩)))
local macro_rules|`(tactic|fail "e")=>`(tactic|((with_reducible (first | apply Sr | apply Sl)); fail "e"; fail "e"; exact rfl))
local macro_rules|`(tactic|fail "e")=>`(tactic|((with_reducible (first | apply Ui | apply Ul | apply Uj | apply Q9 | apply OX | apply Q7)); fail "e"))
local macro_rules|`(tactic|fail "e")=>`(tactic|((with_reducible apply Sm); fail "e"; fail "e"; fail "h"; exact rfl))
local macro_rules|`(tactic|fail "e")=>`(tactic|((with_reducible (first | apply So | apply OY)); fail "e"; fail "e"))
local macro_rules|`(tactic|fail "e")=>`(tactic|with_reducible (first | exact Uk | exact Q8))
local macro_rules|`(tactic|fail "e")=>`(tactic|((with_reducible apply Q6); exact rfl))
local macro_rules | `(tactic| exists $es,*) => `(tactic| (left; first | ((with_reducible (first | refine Ts fun _ kq => ?_ | refine Tt fun _ kq => ?_ | refine Tr fun _ kq => ?_)); refine ⟨$es,*⟩; refine kq _ _ ?_) | refine ⟨$es,*⟩))
local macro_rules|`(tactic|fail "s")=>`(tactic|refine Or.inr ⟨_, rfl, ?_⟩)
local macro_rules|`(tactic|fail "s")=>`(tactic|refine ⟨Or.inr ⟨∅, by decide⟩, ?_⟩)
local macro_rules|`(tactic|fail "s")=>`(tactic|refine ⟨Or.inl ⟨∅, by decide⟩, ?_⟩)
local macro_rules|`(tactic|fail "s")=>`(tactic|refine ⟨(And.intro ∅ ∅), ?_⟩)
local macro_rules|`(tactic|fail "s")=>`(tactic|refine ⟨(by show (0 : Int) < _; decide), ?_⟩)
local macro_rules|`(tactic|fail "s")=>`(tactic|refine ⟨_, N2 (by fail "h"), ?_⟩)
local macro_rules|`(tactic|fail "s")=>`(tactic|refine ⟨_, _, _, _, rfl, rfl, cY.of (by fail "h"), rfl, ?_⟩)
local macro_rules|`(tactic|fail "s")=>`(tactic|refine Uc ?_)
local macro_rules|`(tactic|fail "s")=>`(tactic|refine Sd ?_)
local macro_rules|`(tactic|fail "s")=>`(tactic|refine ⟨rfl, ?_⟩)
local macro_rules|`(tactic|fail "s")=>`(tactic|refine ⟨_, _, rfl, rfl, ?_⟩)
local macro_rules|`(tactic|fail "s")=>`(tactic|refine ⟨_, rfl, ?_⟩)
local macro_rules|`(tactic|fail "s")=>`(tactic|with_reducible (first | apply Tp | apply UI | apply UJ | apply x_call | apply Tn | apply Ry | apply RA | apply P1 | apply Td | apply Tg | apply Tx | apply P4))
local macro_rules|`(tactic|fail "s")=>`(tactic|((with_reducible apply RD); fail "h"; exact rfl))
local macro_rules|`(tactic|fail "s")=>`(tactic|((with_reducible (first | apply P5 | apply TC | apply TU | apply RE | apply TF | apply RF | apply Tw | apply To | apply P2 | apply Tu | apply Tz | apply TB | apply Tv | apply RX | apply TR | apply TX)); fail "e"))
local macro_rules|`(tactic|fail "s")=>`(tactic|((with_reducible apply RS); fail "e"))
local macro_rules|`(tactic|fail "s")=>`(tactic|((with_reducible apply w_arg); fail "e"))
local macro_rules|`(tactic|fail "s")=>`(tactic|((with_reducible apply Tq); fail "e"))
local macro_rules|`(tactic|fail "s")=>`(tactic|with_reducible (first | apply Tc (K := K) | apply Ti | apply Tf | apply Te | apply x_at | apply RC | apply Rz | apply P0 | apply Tj (K := K) | apply Th | apply RB (K := K)))
local macro_rules|`(tactic|fail "s")=>`(tactic|((with_reducible (first | apply RW | apply RU | apply TV (K := K))); fail "e"))
local macro_rules | `(tactic|left) => `(tactic| ((repeat fail "s"); (first | (first | apply kN4 | apply kN3 | apply kN2 | apply kN1 | apply kN0 | apply kR4 | apply kR3 | apply kR2 | apply kR1 | apply kR0); left | skip)))
local macro_rules | `(tactic| nomatch $a:term, $b:term) => `(tactic| refine Uv $a (N := $b) Sk fun qN _ _ _ _ H vs Q E hr h => ?_)
set_option hygiene true
def qP:cV P w base 1 T.fT jz:=by
 nomatch T.fT,["one","other","rest"]
 let⟨a,b,rfl,h1,h2,kk⟩:=h;refine{_,(af (mU PassesOwn.never (ptr jG (pv 1) ae)
  (af (bJ 2 qN (aq aQ (pv 0) (pv 1)))
   (af (bJ 0 qN (pv 1))
   (aj (bJ 1 qN (pv 2))))))
  (aj (ao (pv 0)))),?_}
 refine{λm U H'=>H'=H/\∃(x y:Int) (r:Option V),U=[some (.int x),some (.int y),r]/\0<=x/\0<=y/\Int.gcd x y=Int.gcd a b/\m=y.toNat,{_,rfl,a,b,none,rfl,h1,h2,rfl,rfl},?_};rintro m U H' ⟨rfl,x,y,r,rfl,hx,hy,hg,rfl⟩;left
 by_cases e:y=0
 ·subst e
  refine PK rfl ?_;refine{_,rfl,?_};let e2:Int.gcd a b=x.natAbs:=by rw[<-hg];simp
  let e3:((Int.gcd a b:Nat):Int)=x:=by rw[e2];omega
  rw[e3] at kk;exact kk
 ·refine bU (by simp[e]) ?_
  refine{λU' H''=>∃m',m'<y.toNat/\H''=H'/\∃(x y:Int) (r:Option V),U'=[some (.int x),some (.int y),r]/\0<=x/\0<=y/\Int.gcd x y=Int.gcd a b/\m'=y.toNat,λ_ _ h=>h,?_};exists(by show(0:Int)<y;omega),?_;left;let hp:(0:Int)<y:=nofun
  let l1:=zw x (by omega:y≠0);let l2:=zt x hp;exact{(x%y).toNat,nofun,rfl,y,x%y,_,rfl,hy,l1,(F0 hx hp).trans hg,rfl}
def i7:cV P w base 2 T.eJ fK:=by
 let G_common_divisor:cV P w base 1 T.fT jz:=qP T
 nomatch T.eJ,["top","bottom","divisor"]
 let⟨t,b,rfl,h1,h2,h3,kk⟩:=h;refine{_,(af (bJ 2 qN (bN G_common_divisor hr T.fT (ah (pv 0) (ah (pv 1) ag))))
  (aj (ao (bz (ah (aq qM (pv 0) (pv 2)) (ah (aq qM (pv 1) (pv 2)) ag)))))),?_}
 exists t,b,rfl,h1,Int.le_of_lt h2,?_;let g0:=vG (t:=t) h2;let g1:Sz 8999 ((Int.gcd t b:Nat):Int):=h3.le (Int.le_of_lt g0) (M7 h2);exists{(g0),g1},?_;exists{(g0),g1},?_;refine{cH,laid λp H' sm hp=>kk p H' sm ?_};exact hp
def FI:cV P w base 3 T.added L3:=by
 let G_made_length:cV P w base 2 T.eJ fK:=i7 T
 nomatch T.added,["one","other"]
 let⟨x,y,p,q,n,m,rfl,hp,hq,rx,ry,sx,sy,hnm,kk⟩:=h;let⟨x1,x2,_⟩:=rx.pos;let⟨y1,y2,_⟩:=ry.pos;let bx1:Sz 20000 x.1:=sx.1.mono nofun;let bx2:Sz 20000 x.2:=sx.2.mono nofun;let by1:Sz 20000 y.1:=sy.1.mono nofun;let by2:Sz 20000 y.2:=sy.2.mono nofun;refine{_,(aj (ao (bN G_made_length hr T.eJ (ah (aq aS (aq qL (bG (pv 0) ae) (bG (pv 1) ae)) (aq qL (bG (pv 1) ae) (bG (pv 0) ae))) (ah (aq qL (bG (pv 0) ae) (bG (pv 1) ae)) ag))))),?_};exists{(bx1),by2},?_;exists{(by1),bx2},?_;exists{(bx2),by2},?_;refine{_,_,rfl,Int.add_nonneg (Int.mul_nonneg x1 (Int.le_of_lt y2)) (Int.mul_nonneg y1 (Int.le_of_lt x2)),Int.mul_pos x2 y2,(sx.2.mul sy.2).mono hnm,λr H' sm hr'=>kk r H' sm hr'}
def HL:cV P w base 1 T.Cv Hf:=by
 nomatch T.Cv,["one","other"]
 let⟨x,y,p,q,rfl,hp,hq,sx,sy,kk⟩:=h;let bx1:Sz 20000 x.1:=sx.1.mono nofun;let bx2:Sz 20000 x.2:=sx.2.mono nofun;let by1:Sz 20000 y.1:=sy.1.mono nofun;let by2:Sz 20000 y.2:=sy.2.mono nofun;refine{_,(aj (ao (dF eZ (aq qL (bG (pv 0) ae) (bG (pv 1) ae)) (aq qL (bG (pv 1) ae) (bG (pv 0) ae)) (gY _)))),?_};exists{(bx1),by2},?_;exists{(by1),bx2},?_;change kk
def bQ:cV P w base 1 T.cy Aj:=by
 nomatch T.cy,["_law_cell","_law_k"]
 let⟨c,k,rfl,h1,h2,kk⟩:=h;refine{_,(aj (ao (aq aQ (aq dQ (aq dQ (aq aS (aq aQ (pv 0) ae) ae) (aq aS (aq dQ (pv 1) (pv 1)) ae)) ae) ae))),?_};exists Or.inl {(nofun),nofun},?_;left;let e1:0<=c%2305843009213693951:=zw _ ∅;let e2:c%2305843009213693951<2305843009213693951:=zt _ ∅;refine{Or.inl {(nofun),nofun},?_};change kk
def fO:cV P w base 1 T.fG wc:=by
 nomatch T.fG,["_law_top","_law_bottom","_law_one","_law_other"]
 let⟨t,b,rfl,h1,h2,h3,kk⟩:=h;let g0:=vG (t:=t) h2;let g1:Sz 8999 ((Int.gcd t b:Nat):Int):=h3.le (Int.le_of_lt g0) (M7 h2);refine{_,(af (Mr (i:=2) (j:=3) rfl qN rfl rfl ∅ rfl rfl (ah (pv 0) (ah (pv 1) ag)) rfl)
  (af (mU PassesOwn.never (ptr fi (pv 3) ae)
  (aj (Mr (i:=2) (j:=3) rfl qN rfl rfl ∅ rfl rfl (ah (pv 3) (ah (aq aQ (pv 2) (pv 3)) ag)) rfl)))
  (aj (ao (bz (ah (aq qM (pv 0) (pv 2)) (ah (aq qM (pv 1) (pv 2)) ag))))))),?_}
 exists _,_,rfl,?_;refine{λm U H'=>H'=H/\∃(x y:Int),U=[some (.int t),some (.int b),some (.int x),some (.int y)]/\0<=x/\0<=y/\Int.gcd x y=Int.gcd t b/\m=y.toNat,{_,rfl,t,b,rfl,h1,Int.le_of_lt h2,rfl,rfl},?_};rintro m U H' ⟨rfl,x,y,rfl,hx,hy,hg,rfl⟩;left
 by_cases e:y=0
 ·subst e
  refine b9 (by simp) ?_;let e2:Int.gcd t b=x.natAbs:=by rw[<-hg];simp
  let e3:x=((Int.gcd t b:Nat):Int):=by rw[e2];omega
  subst e3;exists{(g0),g1},?_;exists{(g0),g1},?_;refine{cH,laid λp H' sm hp=>kk p H' sm ?_};exact hp
 ·let hp:(0:Int)<y:=nofun
  refine bU (zg hp) ?_;refine{λU' H''=>∃m',m'<y.toNat/\H''=H'/\∃(x y:Int),U'=[some (.int t),some (.int b),some (.int x),some (.int y)]/\0<=x/\0<=y/\Int.gcd x y=Int.gcd t b/\m'=y.toNat,λ_ _ h=>h,?_};exists(by show(0:Int)<y;omega),?_;refine{_,_,rfl,?_};let l1:=zw x (by omega:y≠0);let l2:=zt x hp;exact{(x%y).toNat,nofun,rfl,y,x%y,rfl,hy,l1,(F0 hx hp).trans hg,rfl}
def eF:fY ["text","parts","top","bottom"] ["text"] (aT oC):=Sk
def gX:cV P w base 1 T.dA gU:=by
 nomatch T.dA,["text","most"]
 let⟨t,most,rfl,hl,kk⟩:=h;let sl:=yC;let hz:⇑t<=sizeLine:=nofun
 let el:⇑t.cps.toList=⇑t:=Array.length_toList;unfold rn at kk;rw[el] at kk;refine{_,(af (aG (PW.pt (dY (ptr eZ (d9 fU T.bF (ah (pv 0) ag)) ae) (dw (ptr fi (d9 fU T.bF (ah (pv 0) ag)) (pv 1)))))
  (aj (ao aR))
  ax)
  (af (aG (eI (cI (d9 (oa rfl) T.Jo (ah (mX (ts:=["sign"]) (ys:=[]) (js:=[]) (te:=(e9 (λx y H Q=>∃i j,x=.str i/\y=.str j/\Q (.bl (!(Builtin.Str.occurrences j i 0 ⇑j 1).isEmpty)) H) (aX 0) (tC (.str "0123456789")))) (My (pv 0)) (fZ 0) bx (dF BB (pv 0) (bX (v:=.str "0123456789") (by rfl) T.K4 {_,rfl}) (by with_unfolding_all rfl))) ag))))
  (aj (ao aR))
  ax)
  (af (aG (PW.pt (dn (ptr cW (wQ Dg (pv 0) ae (λ_ _=>rfl)) aL) (cQ (ptr fi (d9 fU T.bF (ah (pv 0) ag)) ae))))
  (aj (ao aR))
  ax)
  (aj (ao (mD DQ T.MN (ah (pv 0) ag))))))),?_}
 exists hz,?_;left;refine uZ (λc1=>?_) (λc1=>?_)
 ·left
  let z:=kk H (au.refl H);rw[if_pos (ye c1)] at z;exact z
 let c1':¬(⇑t:Int)<1:=λz=>c1 (zg z);rw[if_neg c1'] at kk;exists hz,?_;left;refine uZ (λc2=>?_) (λc2=>?_)
 ·left
  let z:=kk H (au.refl H);rw[if_pos (ye c2)] at z;exact z
 let c2':¬most<(⇑t:Int):=λz=>c2 (zg z);rw[if_neg c2'] at kk;left;refine nu ⇑t (λi=>(t.cps.toList.take i).map λc=>V.bl (decide (c∈vb))) (λi U H'=>H'=H/\∃v,U=[v]) (λi hi=>by rw[za,zQ];omega) nofun rfl {(rfl),none,rfl} (λi U H' hi _=>hi) (λU H' _=>zm _) ?_ ?_
 ·rintro i x U H1 H2 hi ⟨rfl,v,rfl⟩ ⟨rfl,c,hc,rfl⟩
  left;refine GW.push hi ?_ {rfl,_,rfl};rw[PySem.StrLaws.found_one];rw[<-Array.getElem?_toList] at hc;show List.map _ (List.take (i+1) t.cps.toList)=_;rw[List.take_add_one,hc,zk];rfl
 ·rintro U H1 ⟨rfl,_⟩
  rw[<-el,zN];intros D H2 sm h2;refine{D,t.cps.toList.map (λc=>decide (c∈vb)),rfl,aH.of (by rw[h2,zB];rfl),?_};let ea:(t.cps.toList.map (λc=>decide (c∈vb))).all id=t.cps.toList.all (λc=>decide (c∈vb)):=by rw[List.all_map];rfl
  rw[ea]
  by_cases ha:t.cps.toList.all (λc=>decide (c∈vb))=true
  ·rw[ha]
   rw[if_pos ha] at kk;left;let h1:0<t.cps.size:=by show 0<⇑t;omega
   obtain⟨c,hc⟩:∃c,t.cps[0]?=some c:={t.cps[0]'h1,Array.getElem?_eq_getElem h1}
   let hc':t.cps.toList[0]?=some c:=by rw[Array.getElem?_toList];exact hc
   rw[hc'] at kk;refine{_,0,c,rfl,rfl,hz,bC (j:=0) hc',?_};left;let rd:PySem.intText? t=some ((NumText.digitsVal t.cps.toList:Nat):Int):=PySem.intText_digits (IB ha) (λz=>by rw[z] at el;simp at el;omega) nofun
   by_cases e0:c=48
   ·subst e0
    refine bU ∅ ?_;exists hz,?_;left;refine uZ (λc3=>?_) (λc3=>?_)
    ·left
     let c3':1<⇑t:=by have:=ye c3;omega
     let z:=kk H2 sm;rw[if_pos {(rfl),c3'}] at z;exact z
    ·let c3':¬1<⇑t:=λz=>c3 (zg nofun)
     let z:=kk H2 sm;rw[if_neg (λq=>c3' q.2)] at z;change{_,_,rfl,rd,nofun,z}
   ·refine b9 (ze λz=>e0 ?_) ?_
    ·let z':=V.str.inj z
     exact(List.cons.inj (show [c]=[48] from congrArg (λy:Str=>y.cps.toList) z')).1
    let z:=kk H2 sm;rw[if_neg (λq=>e0 (yk q.1))] at z;change{_,_,rfl,rd,nofun,z}
  ·rw[if_neg ha] at kk
   rw[Bool.eq_false_iff.mpr ha];change kk H2 sm
def ma:cV P w base 2 T.fB lW:=by
 let G_read_number:cV P w base 1 T.dA gU:=gX T
 nomatch T.fB,["text","most","number"]
 let⟨t,most,rfl,hl,kk⟩:=h;let sl:=yC;unfold rs at kk;refine{_,(af (aG (eI (cI (bO yG PySem.F.slot_str_startswith PySem.F.type_str_startswith AQ (pv 0) (ah aL ag))))
  (aj (ao (bN G_read_number hr T.dA (ah (pv 0) (ah (pv 1) ag)))))
  ax)
  (af (bJ 2 qN (bN G_read_number hr T.dA (ah (dq Hj (pv 0) (dM ae) dN) (ah (pv 1) ag))))
  (af (aG (PW.pt (dY (bE (cu (pv 2))) (dw (ptr cW (pv 2) ae))))
  (aj (ao aR))
  ax)
  (aj (ao (mV iT (pv 2))))))),?_}
 left
 by_cases hn:t.cps.toList[0]?=some 45
 ·rw[if_pos hn] at kk
  let q:=(PySem.StrLaws.subAt_one t 45 0).mpr hn;let es:(decide (0+("-": Str).length<=⇑t)&&Builtin.Str.subAt t "-" 0)=true:=by
   rw[zO];exact{zg q.1,q.2}
  rw[es];exists by omega,?_
  let h1:1<=⇑t:=by have:=q.1;let e:⇑({#[45]}:Str)=1:=rfl;omega
  let e1:(PySem.Txt.slice t (some 1) none).cps.toList=t.cps.toList.drop 1:=oP t h1;exists _,most,rfl,zM (PySem.Txt.slice_le t _ _) hl,λH1 s1=>?_;rw[e1];let z:=kk H1 s1;cases hr':rn most (t.cps.toList.drop 1) with
  | none=>
   rw[hr'] at z;change z
  | some n=>
   rw[hr'] at z;left
   by_cases e0:n=0
   ·subst e0
    refine bU ∅ ?_;change z
   ·refine b9 (ze λy=>e0 (V.int.inj y)) ?_
    left;let z':Q (ov (if n=0 then none else some (-n))) H1:=z;rw[if_neg e0] at z';exact z'
 ·rw[if_neg hn] at kk
  let es:(decide (0+("-": Str).length<=⇑t)&&Builtin.Str.subAt t "-" 0)=false:=by
   rw[Bool.eq_false_iff];intro z;rw[zO] at z;exact hn ((PySem.StrLaws.subAt_one t 45 0).mp {ye z.1,z.2})
  rw[es];change{t,most,rfl,hl,λH1 s1=>kk H1 s1}
def mY:cV P w base 3 T.iW mP:=by
 let G_read_signed:cV P w base 2 T.fB lW:=ma T
 nomatch T.iW,["fifths_text","steps_text","fifths","steps"]
 let⟨a,b,rfl,la,lb,kk⟩:=h;unfold rp at kk;refine{_,(af (bJ 2 qN (bN G_read_signed hr T.fB (ah (pv 0) (ah (bX (v:=.int 2) (by rfl) T.mw {_,rfl}) ag))))
  (af (bJ 3 qN (bN G_read_signed hr T.fB (ah (pv 1) (ah (bX (v:=.int 2) (by rfl) T.mw {_,rfl}) ag))))
  (af (aG (PW.pt (dY (bE (cu (pv 2))) (dw (bE (cu (pv 3))))))
  (aj (ao aR))
  ax)
  (af (aG (ptr jG (aq aQ (aq i6 (pv 3) (aq dQ (bX (v:=.int 7) (by rfl) T.A8 {_,rfl}) (pv 2))) (bX (v:=.int 12) (by rfl) T.xU {_,rfl})) ae)
  (aj (ao aR))
  ax)
  (aj (ao (bz (ah (pv 2) (ah (pv 3) ag))))))))),?_}
 exists a,2,rfl,la,λH1 s1=>?_;exists b,2,rfl,lb,λH2 s2=>?_;let S2:=s1.trans s2;cases ea:rs 2 a with
 | none=>
  rw[ea] at kk;change kk .bI H2 S2 .bI
 | some f=>
  cases eb:rs 2 b with
  | none=>
   rw[ea,eb] at kk;change kk .bI H2 S2 .bI
  | some g=>
   rw[ea,eb] at kk;left
   by_cases hm:(g-7*f)%12=0
   ·refine PK (congrArg V.int hm) ?_
    left;refine{cH,laid λp H3 s3 hp=>kk (.ref p) H3 (S2.trans s3) ?_};show IP H3 (.ref p) (if(g-7*f)%12=0 then some (f,g) else none);rw[if_pos hm];exact .ref hp
   ·refine bU (by simp[hm]) ?_
    left;refine kk .bI H2 S2 ?_;show IP H2 .bI (if(g-7*f)%12=0 then some (f,g) else none);rw[if_neg hm];exact .bI
def l8:dC P w K mg base (GU P w) 3 T.kb T.j8 ["text"] (lV T.jg):=by
 let G_read_number:cV P w base 1 T.dA gU:=gX T;let G_made_length:cV P w base 2 T.eJ fK:=i7 T;refine T.eG.F.UM eF (λvs H Q E h=>?_) (λcdv A' outer s H vs Q E hr h=>?_)
 ·let⟨_,rfl,_⟩:=h;rfl
 ·let⟨t,rfl,lt,k1,k2⟩:=h
  let sl:=yC;let pl:=PyProof.Rows.split_pos t "/";let sh:∀z∈Txt.split t "/",⇑z<=600:=λz hz=>zM (PyProof.Rows.part_short hz) lt;unfold NT at k1 k2;refine{_,(af (bJ 1 eF.nd (bO yG yK yJ jd (pv 0) (ah aL ag)))
   (af (aG (ptr fi (d9 aE T.bF (ah (pv 1) ag)) ae)
   (aj (Fo T.lH T.lj PySem.F.excBase_ValueError rfl (ah aL ag)))
   ax)
   (af (bJ 2 eF.nd (bN G_read_number hr T.dA (ah (fw (pv 1) ae) (ah (bX (v:=.int 4) (by rfl) T.kL {_,rfl}) ag))))
   (af (bJ 3 eF.nd ae)
   (af (aG (ptr cW (d9 aE T.bF (ah (pv 1) ag)) ae)
   (aj (bJ 3 eF.nd (bN G_read_number hr T.dA (ah (fw (pv 1) ae) (ah (bX (v:=.int 4) (by rfl) T.kL {_,rfl}) ag)))))
   ax)
   (af (aG (PW.pt (dY (bE (cu (pv 2))) (dY (bE (cu (pv 3))) (dw (ptr cW (pv 3) ae)))))
   (aj (Fo T.lH T.lj PySem.F.excBase_ValueError rfl (ah aL ag)))
   ax)
   (aj (ao (bN G_made_length hr T.eJ (ah (pv 2) (ah (pv 3) ag))))))))))),?_}
  exists by omega,?_
  generalize Txt.split t "/"= ws at k1 k2 pl sh;intros p1 H1 s1 h1;exists p1,_,rfl,.inl (aH.of h1),?_
  match ws,pl,sh,k1,k2,h1 with
  | [a],_,sh,k1,k2,h1=>
   exists p1,_,0,_,rfl,rfl,aH.of h1,rfl,?_;exists a,4,rfl,sh a (by simp),λH2 s2=>?_;replace h1:=s2 _ _ h1;exists p1,_,rfl,.inl (aH.of h1),?_;cases ea:rn 4 a.cps.toList with
   | none=>
    simp only[ea] at k1 k2;left;refine{by show 1<=sizeLine;decide,k2 trivial H2 (s1.trans s2)}
   | some n=>
    simp only[ea] at k1 k2;let⟨n0,n1,_⟩:=Md ea ∅;change{_,_,rfl,n0,∅,(cm (n:=1) ∅ ∅).mono ∅,λp3 H3 s3 h3=>k1 _ rfl p3 H3 ((s1.trans s2).trans s3) h3}
  | [a,b],_,sh,k1,k2,h1=>
   exists p1,_,0,_,rfl,rfl,aH.of h1,rfl,?_;exists a,4,rfl,sh a (by simp),λH2 s2=>?_;replace h1:=s2 _ _ h1;exists p1,_,rfl,.inl (aH.of h1),?_;exists p1,_,1,_,rfl,rfl,aH.of h1,rfl,?_;exists b,4,rfl,sh b (by simp),λH3 s3=>?_;let S3:=(s1.trans s2).trans s3;cases ea:rn 4 a.cps.toList with
   | none=>
    simp only[ea] at k1 k2;change{by show 1<=sizeLine;decide,k2 trivial H3 S3}
   | some n=>
    cases eb:rn 4 b.cps.toList with
    | none=>
     simp only[ea,eb] at k1 k2;change{by show 1<=sizeLine;decide,k2 trivial H3 S3}
    | some m=>
     simp only[ea,eb] at k1 k2;let⟨n0,n1,_⟩:=Md ea ∅;let⟨m0,m1,_⟩:=Md eb ∅;left
     by_cases e0:m=0
     ·subst e0
      refine bU ∅ ?_;change{by show 1<=sizeLine;decide,k2 rfl H3 S3}
     ·rw[if_neg e0] at k1
      refine b9 (ze λy=>e0 (V.int.inj y)) ?_;change{_,_,rfl,n0,nofun,(cm (n:=14) nofun nofun).mono ∅,λp4 H4 s4 h4=>k1 _ rfl p4 H4 (S3.trans s4) h4}
  | a::b::c::r,_,sh,k1,k2,h1=>
   left;refine bU (zg (show(2:Int)<(⇑((a::b::c::r).map V.str):Int) by rw[za];simp only[zv];omega)) ?_;change{by show 1<=sizeLine;decide,k2 rfl H1 s1}
def gN:cV P w base 4 T.dI gM:=by
 let G_read_length:dC P w K mg base (GU P w) 3 T.kb T.j8 ["text"] (lV T.jg):=l8 T
 nomatch T.dI,["text","length"]
 let⟨t,rfl,lt,kk⟩:=h;unfold lr at kk;refine{_,(af (Ox G_read_length (hr.mono ∅) rfl T.eG.g T.eG.F.kp T.eG.b (ah (pv 0) ag) rfl qN (i:=1) rfl (Or.inl rfl) rfl T.lH T.lj rfl rfl rfl (λe=>(aj (ao aR))))
  (af (aG (ptr cW (bG (pv 1) ae) ae)
  (aj (ao aR))
  ax)
  (aj (ao (pv 1))))),?_}
 left;refine{lt,λx ex p1 H1 s1 h1=>?_,λen H1 s1=>{rfl,?_}}
 ·simp only[ex] at kk
  left
  by_cases e0:x.1=0
  ·refine bU (by rw[e0];rfl) ?_
   left;rw[if_pos e0] at kk;exact kk .bI H1 s1 .bI
  ·refine b9 (ze λy=>e0 (V.int.inj y)) ?_
   left;rw[if_neg e0] at kk;exact kk (.ref p1) H1 s1 (.ref h1)
 ·simp only[en] at kk
  change kk .bI H1 s1 .bI
def OP {ws:List Str} (h:1<=⇑ws):B5 (ws.map V.str) (-1)=some (.str (ws.getLast?.getD "")):=by
 let ne:ws≠[]:=λz=>by rw[z] at h;simp at h
 let e:=List.dropLast_concat_getLast ne;let e2:ws.getLast?.getD ""= ws.getLast ne:=by rw[List.getLast?_eq_some_getLast ne];rfl
 rw[e2];let e3:ws.map V.str=ws.dropLast.map V.str++[V.str (ws.getLast ne)]:=by rw[<-List.map_singleton (f:=V.str),<-zk,e]
 rw[e3];exact rF _ _
def MZ {ws:List Str} (h:1<=⇑ws):ws.getLast?.getD "" ∈ws:=by
 let ne:ws≠[]:=λz=>by rw[z] at h;simp at h
 rw[List.getLast?_eq_some_getLast ne];exact List.getLast_mem ne
def AE:cV P w base 5 T.sJ oz:=by
 let G_read_item_length:cV P w base 4 T.dI gM:=gN T;let G_read_pitch:cV P w base 3 T.iW mP:=mY T
 nomatch T.sJ,["text","parts","length","pitch"]
 let⟨t,rfl,lt,kk⟩:=h;let sl:=yC;let pl:=PyProof.Rows.split_pos t ":";let sh:∀z∈Txt.split t ":",⇑z<=600:=λz hz=>zM (PyProof.Rows.part_short hz) lt;unfold ir at kk;refine{_,(af (bJ 1 qN (bO yG yK yJ jd (pv 0) (ah aL ag)))
  (af (bJ 2 qN (bN G_read_item_length hr T.dI (ah (fw (pv 1) (mV iT ae)) ag)))
  (af (aG (bE (cu (pv 2)))
  (aj (ao aR))
  ax)
  (af (aG (PW.pt (dn (ptr cW (d9 aE T.bF (ah (pv 1) ag)) ae) (cQ (ptr cW (fw (pv 1) ae) aL))))
  (aj (ao (bz (ah aR (ah (pv 2) ag)))))
  ax)
  (af (aG (ptr jG (d9 aE T.bF (ah (pv 1) ag)) ae)
  (aj (ao aR))
  ax)
  (af (bJ 3 qN (bN G_read_pitch hr T.iW (ah (fw (pv 1) ae) (ah (fw (pv 1) ae) ag))))
  (af (aG (bE (cu (pv 3)))
  (aj (ao aR))
  ax)
  (aj (ao (bz (ah (pv 3) (ah (pv 2) ag)))))))))))),?_}
 exists by omega,?_
 generalize Txt.split t ":"= ws at kk pl sh;intros p1 H1 s1 h1;exists p1,_,-1,_,rfl,rfl,aH.of h1,OP pl,?_;refine{_,rfl,sh _ (MZ pl),λv H2 s2 hv=>?_};let h2:=s2 _ _ h1;let S2:=s1.trans s2;generalize lr (ws.getLast?.getD "")=o at kk hv;cases hv with
 | bI=>
  change kk .bI H2 S2 rfl
 | @ref p2 x hx=>
  let kk':∀v H',au H H'->Pj H' v (if ws.dropLast=[("r": Str)] then some (none,x) else match ws.dropLast with
   | [a,b]=>(match rp a b with | some q=>some (some q,x) | none=>none)
   | _=>none)->Q v H':=kk
  clear kk;exists p1,_,rfl,.inl (aH.of h2),?_
  match ws,pl,sh,kk',h2 with
  | [a],_,sh,kk,h2=>
   exists p1,_,rfl,.inl (aH.of h2),?_;change kk .bI H2 S2 rfl
  | [a,b],_,sh,kk,h2=>
   exists p1,_,0,_,rfl,rfl,aH.of h2,rfl,?_;left
   by_cases ea:a ="r"
   ·subst ea
    refine bU ∅ ?_;change{cH,laid λp3 H3 s3 h3=>kk (.ref p3) H3 (S2.trans s3) {p3,_,p2,rfl,h3,s3 _ _ hx,.bI}}
   ·refine b9 (ze λz=>ea (V.str.inj z)) ?_
    exists p1,_,rfl,.inl (aH.of h2),?_;left;refine kk .bI H2 S2 ?_;rw[if_neg (by intro z;exact ea (List.cons.inj z).1)];rfl
  | [a,b,c],_,sh,kk,h2=>
   exists p1,_,rfl,.inl (aH.of h2),?_;exists p1,_,0,_,rfl,rfl,aH.of h2,rfl,?_;exists p1,_,1,_,rfl,rfl,aH.of h2,rfl,?_;refine{a,b,rfl,sh a (by simp),sh b (by simp),λv H3 s3 hv=>?_};let kk2:∀v H',au H H'->Pj H' v (match rp a b with | some q=>some (some q,x) | none=>none)->Q v H':=λv H' s' z=>kk v H' s' (by
    rw[if_neg (by intro y;simp at y)];exact z)
   generalize rp a b=o at kk2 hv;cases hv with
   | bI=>
    change kk2 .bI H3 (S2.trans s3) rfl
   | @ref p4 q hq=>
    change{cH,laid λp5 H5 s5 h5=>kk2 (.ref p5) H5 ((S2.trans s3).trans s5) {p5,_,p2,rfl,h5,s5 _ _ (s3 _ _ hx),.ref (s5 _ _ hq)}}
  | a::b::c::d::r,_,sh,kk,h2=>
   exists p1,_,rfl,.inl (aH.of h2),?_;left;refine kk .bI H2 S2 ?_;rw[if_neg (by intro y;simp at y)];rfl
def Fz:cV P w base 1 T.words_of EO:=by
 nomatch T.words_of,["row"]
 let⟨t,rfl,hl,kk⟩:=h;let sl:=yC;let ple:=PyProof.Rows.split_le t " ";refine{_,(aj (ao (mX (ts:=["word"]) (ys:=[]) (js:=[]) (g:=(bS 0)) (tc:=(ki (e9 T3 (aX 0) (tC (.str ""))))) (te:=(aX 0)) (aZ (bO yG yK yJ jd (pv 0) (ah aL ag))) (fZ 0) (fL (ptr jG (pv 0) aL)) (pv 0)))),?_};ac_rfl;exists by omega,?_
 unfold words at kk;generalize Txt.split t " "= ws at kk ple;intros p1 H1 s1 h1;refine{p1,rfl,{_,aH.of h1},?_};refine nu ⇑ws (λi=>((ws.take i).filter λw=>decide (w≠("": Str))).map V.str) (λi U H'=>H'=H1/\∃v,U=[v]) ?_ nofun rfl {(rfl),none,rfl} ?_ ?_ ?_ ?_
 ·intro i hi
  rw[za];exact zM (List.length_filter_le _ _) (by rw[zQ];omega)
 ·rintro i U H' hi ⟨rfl,_⟩
  exact BN (aH.of h1) (by rw[za];exact hi)
 ·rintro U H' ⟨rfl,_⟩
  exact{_,aH.of h1,by rw[za];exact zm _}
 ·rintro i x U H' H2 hi ⟨rfl,v,rfl⟩ ⟨rfl,hy⟩
  let hx:=hy _ (aH.of h1);rw[zK,zd hi] at hx;cases hx;left
  by_cases e:ws[i] =""
  ·refine b9 (by rw[e];rfl) ?_
   refine GW.skip hi ?_ {rfl,_,rfl};show List.map V.str (List.filter _ (List.take (i+1) ws))=List.map V.str (List.filter _ (List.take i ws));rw[List.take_add_one,zd hi,e,List.filter_append];simp
  ·refine bU (by rw[ze λz=>e (V.str.inj z)];rfl) ?_
   left;refine GW.push hi ?_ {rfl,_,rfl};show List.map V.str (List.filter _ (List.take (i+1) ws))=List.map V.str (List.filter _ (List.take i ws))++[V.str ws[i]];rw[List.take_add_one,zd hi,List.filter_append,zk];have:List.filter (λw=>decide (w≠("": Str))) (Option.toList (some ws[i]))=[ws[i]]:=by simp[e]
   rw[this];rfl
 ·rintro U H' ⟨rfl,_⟩
  rw[zN];exact laid λp H' sm h=>kk p H' (s1.trans sm) h
def ck:cV P w base 2 T.cS jV:=by
 nomatch T.cS,["word"]
 let⟨t,rfl,hl,kk⟩:=h;refine{_,(aj (ao (bN (gX T) hr T.dA (ah (pv 0) (ah (bX (v:=.int (3)) (by rfl) T.kK {_,rfl}) ag))))),?_};ac_rfl;change{_,_,rfl,hl,kk}
def dR:cV P w base 1 T.eP kR:=by
 nomatch T.eP,["word"]
 let⟨t,rfl,hl,kk⟩:=h;let sl:=yC;let hz:⇑t<=sizeLine:=nofun
 let el:⇑t.cps.toList=⇑t:=Array.length_toList;unfold cK at kk;refine{_,(af (aG (PW.pt (dY (ptr eZ (d9 fU T.bF (ah (pv 0) ag)) ae) (dw (ptr fi (d9 fU T.bF (ah (pv 0) ag)) (bX (v:=.int (12)) (by rfl) T.xX {_,rfl})))))
  (aj (ao aR))
  ax)
  (af (aG (eI (cI (d9 (oa rfl) T.Jo (ah (mX (ts:=["sign"]) (ys:=[]) (js:=[]) (te:=(e9 (λx y H Q=>∃i j,x=.str i/\y=.str j/\Q (.bl (!(Builtin.Str.occurrences j i 0 ⇑j 1).isEmpty)) H) (aX 0) (tC (.str "abcdefghijklmnopqrstuvwxyz0123456789")))) (My (pv 0)) (fZ 0) bx (dF BB (pv 0) (bX (v:=.str "abcdefghijklmnopqrstuvwxyz0123456789") (by rfl) T.DR {_,rfl}) (by with_unfolding_all rfl))) ag))))
  (aj (ao aR))
  ax)
  (aj (ao (pv 0))))),?_}
 ac_rfl;exists hz,?_;left;refine uZ (λc1=>?_) (λc1=>?_)
 ·left
  let z:=kk H (au.refl H);rw[if_pos (ye c1)] at z;exact z
 let c1':¬(⇑t:Int)<1:=λz=>c1 (zg z);rw[if_neg c1'] at kk;exists hz,?_;left;refine uZ (λc2=>?_) (λc2=>?_)
 ·left
  let z:=kk H (au.refl H);rw[if_pos (ye c2)] at z;exact z
 let c2':¬(12:Int)<(⇑t:Int):=λz=>c2 (zg z);rw[if_neg c2'] at kk;left;refine nu ⇑t (λi=>(t.cps.toList.take i).map λc=>V.bl (decide (c∈sgn))) (λi U H'=>H'=H/\∃v,U=[v]) (λi hi=>by rw[za,zQ];omega) nofun rfl {(rfl),none,rfl} (λi U H' hi _=>hi) (λU H' _=>zm _) ?_ ?_
 ·rintro i x U H1 H2 hi ⟨rfl,v,rfl⟩ ⟨rfl,c,hc,rfl⟩
  left;refine GW.push hi ?_ {rfl,_,rfl};rw[PySem.StrLaws.found_one];rw[<-Array.getElem?_toList] at hc;show List.map _ (List.take (i+1) t.cps.toList)=_;rw[List.take_add_one,hc,zk];rfl
 ·rintro U H1 ⟨rfl,_⟩
  rw[<-el,zN];intros D H2 s2 h2;refine{D,t.cps.toList.map (λc=>decide (c∈sgn)),rfl,aH.of (by rw[h2,zB];rfl),?_};let ea:(t.cps.toList.map (λc=>decide (c∈sgn))).all id=t.cps.toList.all (λc=>decide (c∈sgn)):=by rw[List.all_map];rfl
  rw[ea]
  by_cases ha:t.cps.toList.all (λc=>decide (c∈sgn))=true
  ·rw[ha]
   rw[if_pos ha] at kk;change kk _ s2
  ·rw[if_neg ha] at kk
   rw[show t.cps.toList.all (λc=>decide (c∈sgn))=false from by simpa using ha];change kk _ s2
def m6:cV P w base 3 T.jB v8:=by
 nomatch T.jB,["word","lowest","highest","number"]
 let⟨t,lo,hi,rfl,hl,kk⟩:=h;unfold l6 at kk;refine{_,(af (bJ 3 qN (bN (ck T) hr T.cS (ah (pv 0) ag)))
  (af (aG (PW.pt (dY (bE (cu (pv 3))) (dY (ptr eZ (pv 3) (pv 1)) (dw (ptr fi (pv 3) (pv 2))))))
  (aj (ao aR))
  ax)
  (aj (ao (pv 3))))),?_}
 ac_rfl;exists hl,λH1 s1=>?_;cases e:fA t with
 | none=>
  rw[e] at kk;change kk _ s1
 | some n=>
  rw[e] at kk;left
  by_cases c1:n<lo
  ·refine bU (zg c1) ?_
   simp only[if_pos c1] at kk;change kk _ s1
  ·refine b9 (ze c1) ?_
   simp only[if_neg c1] at kk;left
   by_cases c2:hi<n
   ·refine bU (zg c2) ?_
    simp only[if_pos c2] at kk;change kk _ s1
   ·refine b9 (ze c2) ?_
    simp only[if_neg c2] at kk;change kk _ s1
def CZ:cV P w base 4 T.sI Co:=by
 nomatch T.sI,["word"]
 let⟨t,rfl,hl,kk⟩:=h;refine{_,(aj (Ov (l8 T) (hr.mono ∅) rfl T.eG.g T.eG.F.kp T.eG.b (ah (pv 0) ag) rfl rfl T.lH T.lj rfl rfl rfl (λe=>(aj (ao aR))))),?_};ac_rfl;left;refine{hl,λx e p H1 s1 h1=>?_,λe H1 s1=>{rfl,?_}}
 ·rw[e] at kk
  exact kk _ H1 s1 (.ref h1)
 ·rw[e] at kk
  change kk _ H1 s1 .bI
def CY:cV P w base 4 T.sH Cn:=by
 nomatch T.sH,["fifths_word","steps_word","turn"]
 let⟨a,b,rfl,la,lb,kk⟩:=h;unfold wH at kk;refine{_,(af (bJ 2 qN (bN (mY T) hr T.iW (ah (pv 0) (ah (pv 1) ag))))
  (af (aG (PW.pt (dY (bE (cu (pv 2))) (dw (ptr fi (d9 Gz T.PH (ah (bG (pv 2) ae) ag)) (bX (v:=.int (12)) (by rfl) T.xY {_,rfl})))))
  (aj (ao aR))
  ax)
  (aj (ao (pv 2))))),?_}
 ac_rfl;exists _,_,rfl,la,lb,λv H1 s1 h1=>?_;cases e:rp a b with
 | none=>
  rw[e] at kk h1;cases h1;change kk _ _ s1 .bI
 | some q=>
  rw[e] at kk h1;cases h1 with
  | ref h1=>
   left;refine uZ (λc=>?_) (λc=>?_)
   ·simp only[if_pos (ye c)] at kk
    change kk _ _ s1 .bI
   ·simp only[if_neg (λz=>c (zg z))] at kk
    change kk _ _ s1 (.ref h1)
def FD:cV P w base 3 T.wM ET:=by
 nomatch T.wM,["word","key"]
 let⟨t,rfl,hl,kk⟩:=h;unfold Fh at kk;refine{_,(af (bJ 1 qN (bN (ma T) hr T.fB (ah (pv 0) (ah (bX (v:=.int (3)) (by rfl) T.kK {_,rfl}) ag))))
  (af (aG (PW.pt (dY (bE (cu (pv 1))) (dw (ptr fi (d9 Gz T.PH (ah (pv 1) ag)) (bX (v:=.int (7)) (by rfl) T.A7 {_,rfl})))))
  (aj (ao aR))
  ax)
  (aj (ao (pv 1))))),?_}
 ac_rfl;exists _,_,rfl,hl,λH1 s1=>?_;cases e:rs 3 t with
 | none=>
  rw[e] at kk;change kk _ s1
 | some n=>
  rw[e] at kk;left;refine uZ (λc=>?_) (λc=>?_)
  ·simp only[if_pos (ye c)] at kk
   change kk _ s1
  ·simp only[if_neg (λz=>c (zg z))] at kk
   change kk _ s1
def d4:cV P w base 1 T.dt (Ag K):=by
 nomatch T.dt,["values"]
 let⟨a,us,rfl,ha,hl,kk⟩:=h;let sl:=yC;refine{_,(af (aG (cI (d9 (gx rfl) T.xb (ah (mX (ts:=["value"]) (ys:=[]) (js:=[]) (te:=(LP (aX 0))) (aZ (pv 0)) (fZ 0) bx (sO (cu (pv 0)))) ag)))
  (aj (ao aR))
  ax)
  (aj (ao (pv 0)))),?_}
 ac_rfl;exists{_,ha},?_;refine eW (enc:=λv=>v) (ws:=us) (λv=>.bl (gd v)) (λU=>∃v,U=[v]) nofun (by rw[List.map_id'];exact ha) {(none),rfl} ?_ ?_
 ·rintro v U H1 R hv s1 ⟨_,rfl⟩ r
  change r _ _ _ (au.refl _) (by unfold Is;rfl) {_,rfl}
 ·intro D vs H1 s1 hD il
  let e:us.map (λv=>Dt.bl (gd v))=(us.map gd).map Dt.bl:=by rw[zB];rfl
  rw[e] at il;rw[jZ il] at hD;refine{D,us.map gd,rfl,aH.of hD,?_};let e2:(us.map gd).any id=us.any gd:=by rw[List.any_map];rfl
  rw[e2];cases q:us.any gd with
  | true=>
   rw[q] at kk;change kk _ s1
  | false=>
   rw[q] at kk;change kk _ s1
def fj:cV P w base 1 T.dt Af:=by
 nomatch T.dt,["values"]
 let⟨a,us,rfl,ha,hl,kk⟩:=h;let sl:=yC;refine{_,(af (aG (cI (d9 (gx rfl) T.xb (ah (mX (ts:=["value"]) (ys:=[]) (js:=[]) (te:=(LP (aX 0))) (iY (pv 0)) (fZ 0) bx (sO (cu (pv 0)))) ag)))
  (aj (ao aR))
  ax)
  (aj (ao (pv 0)))),?_}
 ac_rfl;exists{_,cY.of ha},?_;refine gr (enc:=λv=>v) (ws:=us) (λv=>.bl (gd v)) (λU=>∃v,U=[v]) nofun (by rw[List.map_id'];exact ha) {(none),rfl} ?_ ?_
 ·rintro v U H1 R hv s1 ⟨_,rfl⟩ r
  change r _ _ _ (au.refl _) (by unfold Is;rfl) {_,rfl}
 ·intro D vs H1 s1 hD il
  let e:us.map (λv=>Dt.bl (gd v))=(us.map gd).map Dt.bl:=by rw[zB];rfl
  rw[e] at il;rw[jZ il] at hD;refine{D,us.map gd,rfl,aH.of hD,?_};let e2:(us.map gd).any id=us.any gd:=by rw[List.any_map];rfl
  rw[e2];cases q:us.any gd with
  | true=>
   rw[q] at kk;change kk _ s1
  | false=>
   rw[q] at kk;change kk _ s1
theorem ng (n:Int):∀ns:List Int,Di (.int n) (ns.map V.int)=decide (n∈ns)
 | []=>rfl
 | m::ns=>by
  let ih:=ng n ns;unfold Di at ih ⊢;rw[zj,List.any_cons,ih]
  by_cases e:n=m
  ·subst e
   simp[Ib]
  ·simp[Ib,e,Ne.symm (a:=m) (b:=n) (λz=>e z.symm)]
   try omega
def HG {t a b:Str} (h:Txt.split t "/"= [a,b]):iU t=(match l6 a 1 32,fA b with | some m,some n=>if n∈A9 then some (m,n) else none | _,_=>none):=by unfold iU;rw[h];try rfl
def Ke {t:Str} (h:(Txt.split t "/").length≠2):iU t=none:=by
 unfold iU;split
 ·rename_i e;rw[e] at h;exact absurd rfl h
 ·rfl
def Mh {t a b:Str} (h:Txt.split t ":"= [a,b]):wI t=(match fA a,nF ((Txt.split b ",").map fA) with | some n,some ps=>some (n,ps) | _,_=>none):=by unfold wI;rw[h];try rfl
def Oj {t:Str} (h:(Txt.split t ":").length≠2):wI t=none:=by
 unfold wI;split
 ·rename_i e;rw[e] at h;exact absurd rfl h
 ·rfl
def AJ:cV P w base 4 T.o6 (Ae K):=by
 nomatch T.o6,["word","parts","top","bottom"]
 let⟨t,rfl,hl,kk⟩:=h;let sl:=yC;let sh:∀z∈Txt.split t "/",⇑z<=600:=λz hz=>zM (PyProof.Rows.part_short hz) hl;refine{_,(af (bJ 1 qN (bO yG yK yJ jd (pv 0) (ah aL ag)))
  (af (aG (ptr jG (d9 aE T.bF (ah (pv 1) ag)) ae)
  (aj (ao aR))
  ax)
  (af (bJ 2 qN (bN (m6 T) hr T.jB (ah (fw (pv 1) ae) (ah ae (ah (bX (v:=.int (32)) (by rfl) T.vk {_,rfl}) ag)))))
  (af (bJ 3 qN (bN (ck T) hr T.cS (ah (fw (pv 1) ae) ag)))
  (af (aG (PW.pt (dY (bE (cu (pv 2))) (dw (gB eQ (pv 3) (bX (v:=.ref T.dX) (by rfl) T.vj rfl) (by with_unfolding_all rfl)))))
  (aj (ao aR))
  ax)
  (aj (ao (bz (ah (pv 2) (ah (pv 3) ag)))))))))),?_}
 ac_rfl;exists by omega,?_
 generalize ew:Txt.split t "/"= ws at sh;intros p1 H1 s1 h1;exists p1,_,rfl,.inl (aH.of h1),?_;rw[za];left
 by_cases hw:⇑ws=2
 ·obtain⟨a,b,rfl⟩:∃a b,ws=[a,b]:=by
   match ws,hw with
   | [a,b],_=>exact{(a),b,rfl}
  refine b9 rfl ?_;exists p1,_,0,_,rfl,rfl,aH.of h1,rfl,?_;refine{_,_,_,rfl,sh a (by simp),λH2 s2=>?_};exists p1,_,1,_,rfl,rfl,aH.of (s2 _ _ h1),rfl,?_;refine{_,rfl,sh b (by simp),λH3 s3=>?_};let s03:=(s1.trans s2).trans s3;rw[HG ew] at kk;cases ea:l6 a 1 32 with
  | none=>
   rw[ea] at kk;change kk _ _ s03 .bI
  | some m=>
   rw[ea] at kk;left;cases eb:fA b with
   | none=>
    rw[eb] at kk;refine{T.dX,_,rfl,.inr (T.mm H3),rfl,rfl,?_};change kk _ _ s03 .bI
   | some n=>
    rw[eb] at kk;refine{T.dX,A9.map V.int,rfl,.inr (T.mm H3),rfl,rfl,?_};show∃k,V.bl (!Di (.int n) (A9.map V.int))=.bl k/\_;rw[ng]
    by_cases c:n∈A9
    ·rw[zg c]
     simp only[if_pos c] at kk;left;refine{cH,laid λp4 H4 s4 h4=>kk _ _ (s03.trans s4) (.ref h4)}
    ·rw[ze c]
     simp only[if_neg c] at kk;change kk _ _ s03 .bI
 ·refine bU (by rw[ze λz=>hw (by have:=V.int.inj z;omega)];rfl) ?_
  left;rw[Ke (by rw[ew];exact hw)] at kk;exact kk _ _ s1 .bI
def FE:cV P w base 4 T.wN tU:=by
 nomatch T.wN,["word","parts","bar","passes"]
 let⟨t,rfl,hl,kk⟩:=h;let sl:=yC;let sh:∀z∈Txt.split t ":",⇑z<=600:=λz hz=>zM (PyProof.Rows.part_short hz) hl;refine{_,(af (bJ 1 qN (bO yG yK yJ jd (pv 0) (ah aL ag)))
  (af (aG (ptr jG (d9 aE T.bF (ah (pv 1) ag)) ae)
  (aj (ao aR))
  ax)
  (af (bJ 2 qN (bN (ck T) hr T.cS (ah (fw (pv 1) ae) ag)))
  (af (bJ 3 qN (bN (d4 T) hr T.dt (ah (mX (ts:=["part"]) (ys:=[]) (js:=[]) (te:=(gK jV [] E0 (bR (aX 0) eD))) (aZ (bO yG yK yJ jd (fw (pv 1) ae) (ah aL ag))) (fZ 0) bx (bN (ck T) hr T.cS (ah (pv 0) ag))) ag)))
  (af (aG (PW.pt (dY (bE (cu (pv 2))) (dw (bE (cu (pv 3))))))
  (aj (ao aR))
  ax)
  (aj (ao (bz (ah (pv 2) (ah (mD cN T.gD (ah (pv 3) ag)) ag)))))))))),?_}
 ac_rfl;exists by omega,?_
 generalize ew:Txt.split t ":"= ws at sh;intros p1 H1 s1 h1;exists p1,_,rfl,.inl (aH.of h1),?_;rw[za];left
 by_cases hw:⇑ws=2
 ·obtain⟨a,b,rfl⟩:∃a b,ws=[a,b]:=by
   match ws,hw with
   | [a,b],_=>exact{(a),b,rfl}
  refine b9 rfl ?_;exists p1,_,0,_,rfl,rfl,aH.of h1,rfl,?_;refine{_,rfl,sh a (by simp),λH2 s2=>?_};exists p1,_,1,_,rfl,rfl,aH.of (s2 _ _ h1),rfl,?_;left;let lb:=sh b (by simp);let bl:=PyProof.Rows.split_le b ",";let bsh:∀z∈Txt.split b ",",⇑z<=600:=λz hz=>zM (PyProof.Rows.part_short hz) lb;refine{nofun,?_};rw[Mh ew] at kk;generalize Txt.split b ","= bs at kk bl bsh;intros p3 H3 s3 h3;exists{_,aH.of h3},?_;refine eW (enc:=V.str) (ws:=bs) (λz=>dO .int (fA z)) (λU=>∃v,U=[v]) nofun (aH.of h3) {(none),rfl} ?_ ?_
  ·rintro z U H4 R hz s4 ⟨_,rfl⟩ r
   change{bsh z hz,λH5 s5=>r _ _ _ s5 (xm _) {_,rfl}}
  ·intro D vs H4 s4 hD il
   let s04:=((s1.trans s2).trans s3).trans s4;refine{D,vs,rfl,aH.of hD,by rw[il.len,za];omega,λH5 s5=>?_};let e1:bs.map (λz=>dO Dt.int (fA z))=(bs.map fA).map (dO Dt.int):=by rw[zB];rfl
   rw[e1] at il;rw[jN il];cases q:((bs.map fA).map (dO Dt.int)).any Dt.gd with
   | true=>
    rw[iS Nb q] at kk;let kn:=kk .bI H5 (s04.trans s5) (by cases fA a <;> (unfold dO Is;rfl));cases ea:fA a with
    | none=>change kn
    | some n=>change kn
   | false=>
    let⟨xs,e2,e3,e4⟩:=iR q;rw[e2] at kk;rw[e3] at il;let ev:=dS il;subst ev;cases ea:fA a with
    | none=>
     rw[ea] at kk;change kk .bI H5 (s04.trans s5) (by unfold dO Is;rfl)
    | some n=>
     rw[ea] at kk;left;refine{D,_,rfl,.inl {aH.of (s5 _ _ hD),?_}};intros p6 H6 s6 h6;left;refine{cH,laid λp7 H7 s7 h7=>kk _ _ (((s04.trans s5).trans s6).trans s7) ?_};show Is H7 (.tup [.int n,.tup (xs.map .int)]) _;unfold Is;refine{p7,_,rfl,h7,?_};unfold aD;refine{_,_,rfl,by unfold Is;rfl,?_};unfold aD;refine{_,_,rfl,?_,by unfold aD;rfl};unfold Is;exact{p6,_,rfl,s7 _ _ h6,q9}
 ·refine bU (by rw[ze λz=>hw (by have:=V.int.inj z;omega)];rfl) ?_
  left;rw[Oj (by rw[ew];exact hw)] at kk;exact kk _ _ s1 (by unfold dO Is;rfl)
def MI {α:Type} {f:Str->Option α} {ws:List Str} (h:⇑ws≠1):one f ws=none:=by
 match ws,h with
 | [],_=>rfl
 | [_],h=>exact absurd rfl h
 | _::_::_,_=>rfl
def w6:cV P w base 2 T.jE (fJ K (oG .str (one cK))):=by
 nomatch T.jE,["words"]
 let⟨p,ws,rfl,hp,hl,sh,kk⟩:=h;refine{_,(af (aG (ptr jG (d9 aE T.bF (ah (pv 0) ag)) ae)
  (aj (ao aR))
  ax)
  (aj (ao (bN (dR T) hr T.eP (ah (fw (pv 0) ae) ag))))),?_}
 ac_rfl;exists p,_,rfl,.inl hp,?_;rw[za];left
 by_cases hw:⇑ws=1
 ·obtain⟨a,rfl⟩:∃a,ws=[a]:=by
   match ws,hw with
   | [a],_=>exact{(a),rfl}
  refine b9 rfl ?_;exists p,_,0,_,rfl,rfl,hp,rfl,?_;exact{_,rfl,sh a (by simp),λH1 s1=>kk _ _ s1 (BI _)}
 ·refine bU (by rw[ze λz=>hw (by have:=V.int.inj z;omega)];rfl) ?_
  left;refine kk _ _ (au.refl _) ?_;unfold oG;rw[MI hw];exact dJ
def wY:cV P w base 5 T.jC (fJ K (oG dL (one lr))):=by
 nomatch T.jC,["words"]
 let⟨p,ws,rfl,hp,hl,sh,kk⟩:=h;refine{_,(af (aG (ptr jG (d9 aE T.bF (ah (pv 0) ag)) ae)
  (aj (ao aR))
  ax)
  (aj (ao (bN (gN T) hr T.dI (ah (fw (pv 0) ae) ag))))),?_}
 ac_rfl;exists p,_,rfl,.inl hp,?_;rw[za];left
 by_cases hw:⇑ws=1
 ·obtain⟨a,rfl⟩:∃a,ws=[a]:=by
   match ws,hw with
   | [a],_=>exact{(a),rfl}
  refine b9 rfl ?_;exists p,_,0,_,rfl,rfl,hp,rfl,?_;exact{_,rfl,sh a (by simp),λv H1 s1 h1=>kk _ _ s1 (xk h1)}
 ·refine bU (by rw[ze λz=>hw (by have:=V.int.inj z;omega)];rfl) ?_
  left;refine kk _ _ (au.refl _) ?_;unfold oG;rw[MI hw];exact dJ
def DN {α:Type} (d:α->Dt) (o:Option α):dO d o=(o.map d).getD .bI:=by cases o <;> rfl
def DZ {H:Hp} {ds:List Dt} {us:List V} {a:Addr} {d:Option Dt} (ha:H a=some (.tup us)) (il:aD H ds us) (h1:ds.any Dt.gd=true->d=none) (h2:ds.any Dt.gd=false->d=some (.tup ds)):Is H (d.getD .bI) (if us.any gd=true then .bI else .ref a):=by
 rw[jN il];cases q:ds.any Dt.gd with
 | true=>rw[h1 q];exact dJ
 | false=>rw[h2 q];exact cw ha il
def pk:cV P w base 5 T.fu (fJ K (oG d7 lh)):=by
 nomatch T.fu,["words"]
 let⟨p,ws,rfl,hp,hl,sh,kk⟩:=h;refine{_,(af (aG (ptr jG (d9 aE T.bF (ah (pv 0) ag)) ae)
  (aj (ao aR))
  ax)
  (aj (ao (bN (fj T) hr T.dt (ah (bz (ah (bN (dR T) hr T.eP (ah (fw (pv 0) ae) ag)) (ah (bN (CY T) hr T.sH (ah (fw (pv 0) ae) (ah (fw (pv 0) ae) ag))) (ah (bN (CZ T) hr T.sI (ah (fw (pv 0) ae) ag)) ag)))) ag))))),?_}
 ac_rfl;exists p,_,rfl,.inl hp,?_;rw[za];left
 by_cases hw:⇑ws=4
 ·obtain⟨a,b,c,d,rfl⟩:∃a b c d,ws=[a,b,c,d]:=by
   match ws,hw with
   | [a,b,c,d],_=>exact{(a),b,c,d,rfl}
  refine b9 rfl ?_;exists p,_,0,_,rfl,rfl,hp,rfl,?_;refine{_,rfl,sh a (by simp),λH1 s1=>?_};exists p,_,1,_,rfl,rfl,s1.seq hp,rfl,?_;exists p,_,2,_,rfl,rfl,s1.seq hp,rfl,?_;refine{_,_,rfl,sh b (by simp),sh c (by simp),λv2 H2 s2 h2=>?_};exists p,_,3,_,rfl,rfl,(s1.trans s2).seq hp,rfl,?_;refine{_,rfl,sh d (by simp),λv3 H3 s3 h3=>?_};exists mS,?_;intros p4 H4 s4 h4;let s24:=s3.trans s4;refine{p4,_,rfl,h4,(by show 3<=1000000;decide),λH5 s5=>kk _ _ (((s1.trans s2).trans s24).trans s5) ?_};unfold oG;rw[DN];refine DZ (s5 _ _ h4) (aN (BI _) (aN (xk (h2.mono (s24.trans s5))) (nc (xk (h3.mono (s4.trans s5)))))) ?_ ?_
  ·simp only[lh]
   cases cK a <;> cases wH b c <;> cases NT d <;> first | (intro _;rfl) | (intro q;exact absurd q (by simp[dO,dL,Dt.gd]))
  ·simp only[lh]
   cases cK a <;> cases wH b c <;> cases NT d <;> first | (intro _;rfl) | (intro q;exact absurd q (by simp[dO,dL,Dt.gd]))
 ·refine bU (by rw[ze λz=>hw (by have:=V.int.inj z;omega)];rfl) ?_
  left;refine kk _ _ (au.refl _) ?_;let e:lh ws=none:=by
   unfold lh;split
   ·exact absurd rfl hw
   ·rfl
  unfold oG;rw[e];exact dJ
def C1:cV P w base 3 T.nN (fJ K (oG um qG)):=by
 nomatch T.nN,["words"]
 let⟨p,ws,rfl,hp,hl,sh,kk⟩:=h;refine{_,(af (aG (ptr jG (d9 aE T.bF (ah (pv 0) ag)) ae)
  (aj (ao aR))
  ax)
  (aj (ao (bN (fj T) hr T.dt (ah (bz (ah (bN (dR T) hr T.eP (ah (fw (pv 0) ae) ag)) (ah (bN (ck T) hr T.cS (ah (fw (pv 0) ae) ag)) (ah (bN (dR T) hr T.eP (ah (fw (pv 0) ae) ag)) ag)))) ag))))),?_}
 ac_rfl;exists p,_,rfl,.inl hp,?_;rw[za];left
 by_cases hw:⇑ws=3
 ·obtain⟨a,b,c,rfl⟩:∃a b c,ws=[a,b,c]:=by
   match ws,hw with
   | [a,b,c],_=>exact{(a),b,c,rfl}
  refine b9 rfl ?_;exists p,_,0,_,rfl,rfl,hp,rfl,?_;refine{_,rfl,sh a (by simp),λH1 s1=>?_};exists p,_,1,_,rfl,rfl,s1.seq hp,rfl,?_;refine{_,rfl,sh b (by simp),λH2 s2=>?_};exists p,_,2,_,rfl,rfl,(s1.trans s2).seq hp,rfl,?_;refine{_,rfl,sh c (by simp),λH3 s3=>?_};exists mS,?_;intros p4 H4 s4 h4;refine{p4,_,rfl,h4,(by show 3<=1000000;decide),λH5 s5=>kk _ _ (((s1.trans s2).trans (s3.trans s4)).trans s5) ?_};unfold oG;rw[DN];refine DZ (s5 _ _ h4) (aN (BI _) (aN (xm _) (nc (BI _)))) ?_ ?_
  ·simp only[qG]
   cases cK a <;> cases fA b <;> cases cK c <;> first | (intro _;rfl) | (intro q;exact absurd q (by simp[dO,dL,Dt.gd]))
  ·simp only[qG]
   cases cK a <;> cases fA b <;> cases cK c <;> first | (intro _;rfl) | (intro q;exact absurd q (by simp[dO,dL,Dt.gd]))
 ·refine bU (by rw[ze λz=>hw (by have:=V.int.inj z;omega)];rfl) ?_
  left;refine kk _ _ (au.refl _) ?_;let e:qG ws=none:=by
   unfold qG;split
   ·exact absurd rfl hw
   ·rfl
  unfold oG;rw[e];exact dJ
def m8 {H:Hp} {ws:List Str} {vs:List V} {α:Type} {d:α->Dt} {f:Str->Option α} (il:aD H (ws.map λz=>dO d (f z)) vs):aD H ((ws.map f).map (dO d)) vs:=by
 let e:ws.map (λz=>dO d (f z))=(ws.map f).map (dO d):=by rw[zB];rfl
 rw[<-e];exact il
def AG:cV P w base 2 T.kZ (fJ K (oG gn o9)):=by
 nomatch T.kZ,["words","names"]
 let⟨p,ws,rfl,hp,hl,sh,kk⟩:=h;let sl:=yC;refine{_,(af (aG (ptr eZ (d9 aE T.bF (ah (pv 0) ag)) ae)
  (aj (ao aR))
  ax)
  (af (bJ 1 qN (bN (d4 T) hr T.dt (ah (mX (ts:=["word"]) (ys:=[]) (js:=[]) (te:=(gK kR [] E0 (bR (aX 0) eD))) (aZ (pv 0)) (fZ 0) bx (bN (dR T) hr T.eP (ah (pv 0) ag))) ag)))
  (af (aG (bE (cu (pv 1)))
  (aj (ao aR))
  ax)
  (aj (ao (bz (ah (fw (pv 1) ae) (ah (mD cN T.gD (ah (dq gA (pv 1) (dM ae) dN) ag)) ag)))))))),?_}
 ac_rfl;exists p,_,rfl,.inl hp,?_;rw[za];left;refine uZ (λc=>?_) (λc=>?_)
 ·left
  refine kk _ _ (au.refl _) ?_;let hw:=ye c;let e:o9 ws=none:=by
   unfold o9;split
   ·simp at hw;omega
   ·rfl
  unfold oG;rw[e];exact dJ
 ·let hw:¬(⇑ws:Int)<2:=λz=>c (zg z)
  obtain⟨a,b,r,rfl⟩:∃a b r,ws=a::b::r:=by
   match ws,hw with
   | [],h=>exact absurd (by simp) h
   | [_],h=>exact absurd (by simp) h
   | a::b::r,_=>exact{(a),b,r,rfl}
  exists{_,hp},?_;refine eW (enc:=V.str) (ws:=a::b::r) (λz=>dO .str (cK z)) (λU=>∃v,U=[v]) nofun hp {(none),rfl} ?_ ?_
  ·rintro z U H4 R hz s4 ⟨_,rfl⟩ r
   change{sh z hz,λH5 s5=>r _ _ _ s5 (BI _) {_,rfl}}
  ·intro D vs H4 s4 hD il
   refine{D,vs,rfl,aH.of hD,by rw[il.len,za];omega,λH5 s5=>?_};let il:=m8 il;rw[jN il];cases q:(((a::b::r).map cK).map (dO Dt.str)).any Dt.gd with
   | true=>
    left;refine kk _ _ (s4.trans s5) ?_;unfold oG;rw[o7,iS F5 q];exact dJ
   | false=>
    let⟨xs,e2,e3,e4⟩:=iR q;rw[e3] at il;let ev:=dH il;subst ev;obtain⟨n,ps,rfl⟩:∃n ps,xs=n::ps:=by
     match xs,e4 with
     | n::ps,_=>exact{(n),ps,rfl}
    let hD5:=s5 _ _ hD;exists D,_,0,_,rfl,rfl,aH.of hD5,bC (j:=0) rfl,?_;exists D,_,rfl,aH.of hD5,?_;rw[show ka (List.map V.str (n::ps)) (some 1) none=ps.map V.str from(fF _ 1).trans rfl];intros p6 H6 s6 h6;left;refine{p6,_,rfl,.inl {aH.of h6,?_}};intros p7 H7 s7 h7;left;refine{cH,laid λp8 H8 s8 h8=>kk _ _ (((((s4.trans s5).trans s6).trans s7)).trans s8) ?_};unfold oG;rw[o7,e2];exact cw h8 (aN eK (nc (cw (s8 _ _ h7) Ce)))
def FF:cV P w base 5 T.qE (fJ K (oG kJ AD)):=by
 nomatch T.qE,["words","marks"]
 let⟨p,ws,rfl,hp,hl,sh,kk⟩:=h;let sl:=yC;refine{_,(af (aG (ptr eZ (d9 aE T.bF (ah (pv 0) ag)) ae)
  (aj (ao aR))
  ax)
  (af (bJ 1 qN (bN (d4 T) hr T.dt (ah (mX (ts:=["word"]) (ys:=[]) (js:=[]) (te:=(gK kR [] E0 (bR (aX 0) eD))) (aZ (dq gA (pv 0) (dM ae) dN)) (fZ 0) bx (bN (dR T) hr T.eP (ah (pv 0) ag))) ag)))
  (af (aG (bE (cu (pv 1)))
  (aj (ao aR))
  ax)
  (aj (ao (bN (fj T) hr T.dt (ah (bz (ah (bN (AJ T) hr T.o6 (ah (fw (pv 0) ae) ag)) (ah (bN (FD T) hr T.wM (ah (fw (pv 0) ae) ag)) (ah (mD cN T.gD (ah (pv 1) ag)) ag)))) ag))))))),?_}
 ac_rfl;exists p,_,rfl,.inl hp,?_;rw[za];left;refine uZ (λc=>?_) (λc=>?_)
 ·left
  refine kk _ _ (au.refl _) ?_;let hw:=ye c;let e:AD ws=none:=by
   unfold AD;split
   ·simp at hw;omega
   ·rfl
  unfold oG;rw[e];exact dJ
 ·let hw:¬(⇑ws:Int)<2:=λz=>c (zg z)
  obtain⟨a,b,r,rfl⟩:∃a b r,ws=a::b::r:=by
   match ws,hw with
   | [],h=>exact absurd (by simp) h
   | [_],h=>exact absurd (by simp) h
   | a::b::r,_=>exact{(a),b,r,rfl}
  rw[zv,zv] at hl;exists p,_,rfl,hp,?_;rw[show ka (List.map V.str (a::b::r)) (some 2) none=r.map V.str from(fF _ 2).trans rfl];intros p1 H1 s1 h1;exists{_,aH.of h1},?_;refine eW (enc:=V.str) (ws:=r) (λz=>dO .str (cK z)) (λU=>∃v,U=[v]) nofun (aH.of h1) {(none),rfl} ?_ ?_
  ·rintro z U H4 R hz s4 ⟨_,rfl⟩ r
   change{sh z (by simp[hz]),λH5 s5=>r _ _ _ s5 (BI _) {_,rfl}}
  ·intro D vs H4 s4 hD il
   refine{D,vs,rfl,aH.of hD,by rw[il.len,za];omega,λH5 s5=>?_};let il:=m8 il;rw[jN il];let s05:=(s1.trans s4).trans s5;cases q:((r.map cK).map (dO Dt.str)).any Dt.gd with
   | true=>
    left;refine kk _ _ s05 ?_;unfold oG;simp only[AD];rw[iS F5 q];exact dJ
   | false=>
    let⟨xs,e2,e3,e4⟩:=iR q;rw[e3] at il;let ev:=dH il;subst ev;let hD5:=s5 _ _ hD;exists p,_,0,_,rfl,rfl,s05.seq hp,bC (j:=0) rfl,?_;refine{_,rfl,sh a (by simp),λv6 H6 s6 h6=>?_};exists p,_,1,_,rfl,rfl,(s05.trans s6).seq hp,bC (j:=1) rfl,?_;refine{_,rfl,sh b (by simp),λH7 s7=>?_};left;refine{D,_,rfl,.inl {aH.of (s7 _ _ (s6 _ _ hD5)),?_}};intros p8 H8 s8 h8;exists mS,?_;intros p9 H9 s9 h9;refine{p9,_,rfl,h9,(by show 3<=1000000;decide),λHx sx=>kk _ _ (((((s05.trans s6).trans s7).trans s8).trans s9).trans sx) ?_};unfold oG;rw[DN];refine DZ (ds:=[dO dL (iU a),dO .int (Fh b),mr xs]) (sx _ _ h9) (aN (xk (h6.mono (((s7.trans s8).trans s9).trans sx))) (aN (xm _) (nc (cw (sx _ _ (s9 _ _ h8)) Ce)))) ?_ ?_
    ·simp only[AD]
     rw[e2];cases iU a <;> cases Fh b <;> first | (intro _;rfl) | (intro q;exact absurd q (by simp[dO,dL,Dt.gd,mr]))
    ·simp only[AD]
     rw[e2];cases iU a <;> cases Fh b <;> first | (intro _;rfl) | (intro q;exact absurd q (by simp[dO,dL,Dt.gd,mr]))
theorem qZ {H:Hp} {α:Type} {d:α->Dt}:∀{xs:List α} {vs:List V},aD H (xs.map d) vs->∃ps:List (α×V),ps.map (·.1)=xs/\ps.map (·.2)=vs/\∀q∈ps,Is H (d q.1) q.2
 | [],_,h=>by unfold aD at h;exact{[],rfl,h.symm,λ_ z=>nomatch z}
 | x::xs,_,h=>by
  rw[zj] at h;unfold aD at h;let⟨u,r,rfl,h1,h2⟩:=h;let⟨ps,e1,e2,hh⟩:=qZ h2;refine{(x,u)::ps,by simp[e1],by simp[e2],λq m=>?_};rcases zD.mp m with e | m
  ·subst e;exact h1
  ·exact hh q m
def item_at {H:Hp} {it:Item} {v:V} (h:Is H (eM it) v):∃a pv lv,v=.ref a/\H a=some (.tup [pv,lv])/\Is H (dO dL it.1) pv/\Is H (dL it.2) lv:=by
 unfold eM Is at h;let⟨a,vs,rfl,ha,hl⟩:=h;unfold aD at hl;let⟨pv,r,rfl,h1,hl⟩:=hl;unfold aD at hl;let⟨lv,r,rfl,h2,hl⟩:=hl;unfold aD at hl;subst hl;exact{(a),pv,lv,rfl,ha,h1,h2}
def Sf {H:Hp} {α:Type} {d:α->Dt} (f:IU d) {o:Option α} {v:V} (h:Is H (dO d o) v):gd v=o.isNone:=by
 rw[M1 h];cases o with
 | none=>rfl
 | some x=>exact f x
def AI:cV P w base 6 T.lg (fJ K SD):=by
 nomatch T.lg,["words","items"]
 let⟨p,ws,rfl,hp,hl,sh,kk⟩:=h;let sl:=yC;refine{_,(af (aG (ptr eZ (d9 aE T.bF (ah (pv 0) ag)) ae)
  (aj (ao aR))
  ax)
  (af (bJ 1 qN (bN (d4 T) hr T.dt (ah (mX (ts:=["word"]) (ys:=[]) (js:=[]) (te:=(gK oz [] E0 (bR (aX 0) eD))) (aZ (dq gA (pv 0) (dM ae) dN)) (fZ 0) bx (bN (AE T) hr T.sJ (ah (pv 0) ag))) ag)))
  (af (aG (PW.pt (dY (bE (cu (pv 1))) (dw (cI (d9 (oa rfl) T.Jo (ah (mX (ts:=["item"]) (ys:=[]) (js:=[]) (te:=(LP (e9 (mC K) (aX 0) (tC (.int (0)))))) (aZ (pv 1)) (fZ 0) bx (sO (cu (bG (pv 0) ae)))) ag))))))
  (aj (ao aR))
  ax)
  (aj (ao (bN (fj T) hr T.dt (ah (bz (ah (bN (ck T) hr T.cS (ah (fw (pv 0) ae) ag)) (ah (bN (dR T) hr T.eP (ah (fw (pv 0) ae) ag)) (ah (pv 1) ag)))) ag))))))),?_}
 ac_rfl;exists p,_,rfl,.inl hp,?_;rw[za];left;refine uZ (λc=>?_) (λc=>?_)
 ·left
  refine kk _ _ (au.refl _) ?_;let hw:=ye c;let e:jX ws=none:=by
   unfold jX;split
   ·simp at hw;omega
   ·rfl
  unfold SD;rw[e]
 ·let hw:¬(⇑ws:Int)<3:=λz=>c (zg z)
  obtain⟨a,b,i,r,rfl⟩:∃a b i r,ws=a::b::i::r:=by
   match ws,hw with
   | [],h=>exact absurd (by simp) h
   | [_],h=>exact absurd (by simp) h
   | [_,_],h=>exact absurd (by simp) h
   | a::b::i::r,_=>exact{(a),b,i,r,rfl}
  let en:jX (a::b::i::r)=(match nF ((i::r).map ir) with | some l=>if l.all (λit=>it.1.isNone)=true then none else(match fA a,cK b with | some x,some y=>some (x,y,l) | _,_=>none) | none=>none):=rfl;unfold SD at kk;rw[en] at kk;let sh':∀z∈i::r,⇑z<=600:=λz hz=>sh z (by simp at hz ⊢;rcases hz with h | h <;> simp[h]);let hl':⇑(i::r)<=1000000:=by simp at hl ⊢;omega
  exists p,_,rfl,hp,?_;rw[show ka (List.map V.str (a::b::i::r)) (some 2) none=(i::r).map V.str from(fF _ 2).trans rfl];clear en;generalize i::r=its at kk sh' hl';intros p1 H1 s1 h1;exists{_,aH.of h1},?_;refine dU (enc:=V.str) (ws:=its) (λz=>dO eM (ir z)) (λU=>∃v,U=[v]) nofun (aH.of h1) {(none),rfl} ?_ ?_
  ·rintro z U H4 R hz s4 ⟨_,rfl⟩ r
   change{sh' z hz,λv H5 s5 h5=>r _ _ _ s5 (Se h5) {_,rfl}}
  ·intro D vs H4 s4 nD hD il
   refine{D,vs,rfl,aH.of hD,by rw[il.len,za];omega,λH5 s5=>?_};let il:=m8 il;rw[jN il];let s05:=(s1.trans s4).trans s5;cases q:((its.map ir).map (dO eM)).any Dt.gd with
   | true=>
    left;refine kk _ _ s05 ?_;rw[iS KG q]
   | false=>
    let⟨xs,e2,e3,e4⟩:=iR q;rw[e3] at il;rw[e2] at kk;let il5:=il.mono s5;let hD5:=s5 _ _ hD;let⟨ps,f1,f2,f3⟩:=qZ il5;let pl:⇑ps<=1000000:=by
     have:⇑ps=⇑xs:=by rw[<-f1,za]
     rw[this,e4,za];exact hl'
    exists{_,aH.of hD5},?_;refine eW (enc:=λq:Item×V=>q.2) (ws:=ps) (λq=>.bl q.1.1.isNone) (λU=>∃v,U=[v]) nofun (by rw[f2];exact aH.of hD5) {(none),rfl} ?_ ?_
    ·rintro z U H6 R hz s6 ⟨_,rfl⟩ r
     let⟨a6,pv,lv,ev,h6,h7,h8⟩:=item_at (f3 z hz);rw[ev];let h66:=s6 _ _ h6;left;refine r _ _ _ (au.refl _) ?_ {_,rfl};rw[<-Sf Q3 h7];unfold Is;rfl
    ·intro D2 vs2 H6 s6 hD2 il2
     let e5:ps.map (λq=>Dt.bl q.1.1.isNone)=(ps.map λq=>q.1.1.isNone).map Dt.bl:=by rw[zB];rfl
     rw[e5] at il2;rw[jZ il2] at hD2;refine{D2,_,rfl,aH.of hD2,?_};let e6:(ps.map λq=>q.1.1.isNone).all id=xs.all λit=>it.1.isNone:=by rw[<-f1,List.all_map,List.all_map];rfl
     rw[e6];cases qa:xs.all λit=>it.1.isNone with
     | true=>
      dsimp only at kk;rw[qa] at kk;change kk _ _ (s05.trans s6) rfl
     | false=>
      dsimp only at kk;rw[qa] at kk;let s06:=s05.trans s6;exists p,_,0,_,rfl,rfl,s06.seq hp,bC (j:=0) rfl,?_;refine{_,rfl,sh a (by simp),λH7 s7=>?_};exists p,_,1,_,rfl,rfl,(s06.trans s7).seq hp,bC (j:=1) rfl,?_;refine{_,rfl,sh b (by simp),λH8 s8=>?_};exists mS,?_;intros p9 H9 s9 h9;let s59:=((s6.trans s7).trans s8).trans s9;refine{p9,_,rfl,h9,(by show 3<=1000000;decide),λHx sx=>kk _ _ ((s05.trans s59).trans sx) ?_};let s5x:=s59.trans sx;let h9x:=sx _ _ h9;clear h9
      revert h9x
      cases fA a <;> cases cK b <;> intro h9x <;> first | rfl | exact⟨p9,D,vs,rfl,h9x,s5x _ _ hD5,il5.mono s5x,s1.back nD⟩
def wZ:cV P w base 5 T.jD (fJ K (oG gq jF)):=by
 nomatch T.jD,["words","times","ends"]
 let⟨p,ws,rfl,hp,hl,sh,kk⟩:=h;let sl:=yC;refine{_,(af (aG (ptr eZ (d9 aE T.bF (ah (pv 0) ag)) ae)
  (aj (ao aR))
  ax)
  (af (bJ 1 qN (bN (m6 T) hr T.jB (ah (fw (pv 0) ae) (ah (bX (v:=.int (2)) (by rfl) T.xZ {_,rfl}) (ah (bX (v:=.int (9)) (by rfl) T.DS {_,rfl}) ag)))))
  (af (bJ 2 qN (bN (d4 T) hr T.dt (ah (mX (ts:=["word"]) (ys:=[]) (js:=[]) (te:=(gK tU [] E0 (bR (aX 0) eD))) (aZ (dq gA (pv 0) (dM ae) dN)) (fZ 0) bx (bN (FE T) hr T.wN (ah (pv 0) ag))) ag)))
  (af (aG (bE (cu (pv 2)))
  (aj (ao aR))
  ax)
  (aj (ao (bN (fj T) hr T.dt (ah (bz (ah (bN (ck T) hr T.cS (ah (fw (pv 0) ae) ag)) (ah (bN (ck T) hr T.cS (ah (fw (pv 0) ae) ag)) (ah (pv 1) (ah (mD cN T.gD (ah (pv 2) ag)) ag))))) ag)))))))),?_}
 ac_rfl;exists p,_,rfl,.inl hp,?_;rw[za];left;refine uZ (λc=>?_) (λc=>?_)
 ·left
  refine kk _ _ (au.refl _) ?_;let hw:=ye c;let e:jF ws=none:=by
   unfold jF;split
   ·simp at hw;omega
   ·rfl
  unfold oG;rw[e];exact dJ
 ·let hw:¬(⇑ws:Int)<3:=λz=>c (zg z)
  obtain⟨a,b,c',r,rfl⟩:∃a b i r,ws=a::b::i::r:=by
   match ws,hw with
   | [],h=>exact absurd (by simp) h
   | [_],h=>exact absurd (by simp) h
   | [_,_],h=>exact absurd (by simp) h
   | a::b::i::r,_=>exact{(a),b,i,r,rfl}
  let en:jF (a::b::c'::r)=(match nF (r.map wI) with | some l=>(match fA a,fA b,l6 c' 2 9 with | some x,some y,some z=>some {(x),y,z,l} | _,_,_=>none) | none=>none):=rfl;unfold oG at kk;rw[en] at kk;let sh':∀z∈r,⇑z<=600:=λz hz=>sh z (by simp[hz]);let hl':⇑r<=1000000:=by simp at hl ⊢;omega
  exists p,_,2,_,rfl,rfl,hp,bC (j:=2) rfl,?_;refine{_,_,_,rfl,sh c' (by simp),λH0 s0=>?_};exists p,_,rfl,s0.seq hp,?_;rw[show ka (List.map V.str (a::b::c'::r)) (some 3) none=r.map V.str from(fF _ 3).trans rfl];intros p1 H1 s1 h1;exists{_,aH.of h1},?_;refine eW (enc:=V.str) (ws:=r) (λz=>dO mG (wI z)) (λU=>∃v,U=[v]) nofun (aH.of h1) {(none),rfl} ?_ ?_
  ·rintro z U H4 R hz s4 ⟨_,rfl⟩ r
   change{sh' z hz,λv H5 s5 h5=>r _ _ _ s5 h5 {_,rfl}}
  ·intro D vs H4 s4 hD il
   refine{D,vs,rfl,aH.of hD,by rw[il.len,za];omega,λH5 s5=>?_};let il:=m8 il;rw[jN il];let s05:=((s0.trans s1).trans s4).trans s5;cases q:((r.map wI).map (dO mG)).any Dt.gd with
   | true=>
    left;refine kk _ _ s05 ?_;rw[iS Nc q];exact dJ
   | false=>
    let⟨xs,e2,e3,e4⟩:=iR q;rw[e3] at il;rw[e2] at kk;let il5:=il.mono s5;let hD5:=s5 _ _ hD;exists p,_,0,_,rfl,rfl,s05.seq hp,bC (j:=0) rfl,?_;refine{_,rfl,sh a (by simp),λH6 s6=>?_};exists p,_,1,_,rfl,rfl,(s05.trans s6).seq hp,bC (j:=1) rfl,?_;refine{_,rfl,sh b (by simp),λH7 s7=>?_};left;refine{D,_,rfl,.inl {aH.of (s7 _ _ (s6 _ _ hD5)),?_}};intros p8 H8 s8 h8;exists by show 4<=sizeLine;omega,?_
    intros p9 H9 s9 h9;let s59:=((s6.trans s7).trans s8).trans s9;refine{p9,_,rfl,h9,(by show 4<=1000000;decide),λHx sx=>kk _ _ ((s05.trans s59).trans sx) ?_};rw[DN];refine DZ (ds:=[dO .int (fA a),dO .int (fA b),dO .int (l6 c' 2 9),.tup (xs.map mG)]) (sx _ _ h9) (aN (xm _) (aN (xm _) (aN (xm _) (nc (cw (sx _ _ (s9 _ _ h8)) (il5.mono (s59.trans sx))))))) ?_ ?_
    ·cases fA a <;> cases fA b <;> cases l6 c' 2 9 <;> first | (intro _;rfl) | (intro q;exact absurd q (by simp[dO,dL,Dt.gd]))
    ·cases fA a <;> cases fA b <;> cases l6 c' 2 9 <;> first | (intro _;rfl) | (intro q;exact absurd q (by simp[dO,dL,Dt.gd]))
def C0:cV P w base 3 T.nM (fJ K (oG jP tZ)):=by
 nomatch T.nM,["words","stops","coda"]
 let⟨p,ws,rfl,hp,hl,sh,kk⟩:=h;let sl:=yC;refine{_,(af (aG (ptr jG (d9 aE T.bF (ah (pv 0) ag)) ae)
  (aj (ao aR))
  ax)
  (af (bJ 1 qN (bN (d4 T) hr T.dt (ah (mX (ts:=["word"]) (ys:=[]) (js:=[]) (te:=(gK jV [] E0 (bR (aX 0) eD))) (aZ (dq gA (pv 0) dN (dM ae))) (fZ 0) bx (bN (ck T) hr T.cS (ah (pv 0) ag))) ag)))
  (af (bJ 2 qN (bN (ck T) hr T.cS (ah (fw (pv 0) ae) ag)))
  (af (aG (PW.pt (dY (bE (cu (pv 1))) (dw (PW.pt (dn (bE (cu (pv 2))) (cQ (ptr jG (fw (pv 0) ae) aL)))))))
  (aj (ao aR))
  ax)
  (aj (ao (bz (ah (fw (pv 1) ae) (ah (fw (pv 1) ae) (ah (fw (pv 1) ae) (ah (pv 2) ag))))))))))),?_}
 ac_rfl;exists p,_,rfl,.inl hp,?_;rw[za];left
 by_cases hw:⇑ws=4
 ·obtain⟨a,b,c,d,rfl⟩:∃a b c d,ws=[a,b,c,d]:=by
   match ws,hw with
   | [a,b,c,d],_=>exact{(a),b,c,d,rfl}
  let en:tZ [a,b,c,d]=(match fA a,fA b,fA c with | some x,some y,some z=>(match fA d with | some n=>some {x,y,z,some n} | none=>if d ="end" then some {(x),y,z,none} else none) | _,_,_=>none):=rfl;unfold oG at kk;rw[en] at kk;refine b9 rfl ?_;exists p,_,rfl,hp,?_;rw[show ka (List.map V.str [a,b,c,d]) none (some 3)=[a,b,c].map V.str from(DO _ 3).trans rfl];intros p1 H1 s1 h1;exists{_,aH.of h1},?_;refine eW (enc:=V.str) (ws:=[a,b,c]) (λz=>dO .int (fA z)) (λU=>∃v,U=[v]) (by show 3<=sizeLine;omega) (aH.of h1) {(none),rfl} ?_ ?_
  ·rintro z U H4 R hz s4 ⟨_,rfl⟩ r
   change{sh z (by simp at hz ⊢;rcases hz with h | h | h <;> simp[h]),λH5 s5=>r _ _ _ s5 (xm _) {_,rfl}}
  ·intro D vs H4 s4 hD il
   refine{D,vs,rfl,aH.of hD,by rw[il.len];show 3<=1000000;decide,λH5 s5=>?_};let il:=m8 il;rw[jN il];let s05:=(s1.trans s4).trans s5;cases q:(([a,b,c].map fA).map (dO Dt.int)).any Dt.gd with
   | true=>
    exists p,_,3,_,rfl,rfl,s05.seq hp,rfl,?_;refine{_,rfl,sh d (by simp),λH6 s6=>?_};left;refine kk _ _ (s05.trans s6) ?_;let q':([fA a,fA b,fA c].map (dO Dt.int)).any Dt.gd=true:=q;clear q en kk
    revert q'
    cases fA a <;> cases fA b <;> cases fA c <;> intro q' <;> first | exact dJ | exact absurd q' (by simp[dO,Dt.gd])
   | false=>
    obtain⟨x,y,z,ea,eb,ec⟩:∃x y z,fA a=some x/\fA b=some y/\fA c=some z:=by
     let q':([fA a,fA b,fA c].map (dO Dt.int)).any Dt.gd=false:=q;clear q en kk il
     revert q'
     cases fA a <;> cases fA b <;> cases fA c <;> intro q' <;> first | exact⟨_,_,_,rfl,rfl,rfl⟩ | exact absurd q' (by simp[dO,Dt.gd])
    rw[ea,eb,ec] at kk;let il':aD H4 ([x,y,z].map Dt.int) vs:=by
     have:([a,b,c].map fA).map (dO Dt.int)=[x,y,z].map Dt.int:=by simp[ea,eb,ec,dO]
     rw[this] at il;exact il
    let ev:=dS il';subst ev;let hD5:=s5 _ _ hD;exists p,_,3,_,rfl,rfl,s05.seq hp,rfl,?_;refine{_,rfl,sh d (by simp),λH6 s6=>?_};let hD6:=s6 _ _ hD5;let s06:=s05.trans s6;let fin:∀(o:Option Int) (v:V),Is H6 (dO .int o) v->fA d=o->(o=none->d ="end")->∀p7 H7,au H6 H7->H7 p7=some (.tup [.int x,.int y,.int z,v])->Q (.ref p7) H7:=λo v iv eo hend p7 H7 s7 h7=>by
     refine kk _ _ (s06.trans s7) ?_;rw[eo];cases o with
     | none=>
      simp only[hend rfl,if_pos];exact cw h7 (aN cE (aN cE (aN cE (nc (iv.mono s7)))))
     | some n=>exact cw h7 (aN cE (aN cE (aN cE (nc (iv.mono s7)))))
    cases ed:fA d with
    | none=>
     exists p,_,3,_,rfl,rfl,s06.seq hp,rfl,?_;left
     by_cases he:d ="end"
     ·refine b9 (by rw[he];rfl) ?_
      exists D,_,0,_,rfl,rfl,aH.of hD6,rfl,?_;exists D,_,1,_,rfl,rfl,aH.of hD6,rfl,?_;exists D,_,2,_,rfl,rfl,aH.of hD6,rfl,?_;left;refine{by show 4<=sizeLine;omega,laid ?_};exact fin none .bI dJ ed λ_=>he
     ·refine bU (by rw[ze λz=>he (V.str.inj z)];rfl) ?_
      left;refine kk _ _ s06 ?_;rw[ed];simp only[if_neg he];exact dJ
    | some n=>
     exists D,_,0,_,rfl,rfl,aH.of hD6,rfl,?_;exists D,_,1,_,rfl,rfl,aH.of hD6,rfl,?_;exists D,_,2,_,rfl,rfl,aH.of hD6,rfl,?_;left;refine{by show 4<=sizeLine;omega,laid ?_};exact fin (some n) (.int n) cE ed λz=>nomatch z
 ·refine bU (by rw[ze λz=>hw (by have:=V.int.inj z;omega)];rfl) ?_
  left;refine kk _ _ (au.refl _) ?_;let e:tZ ws=none:=by
   unfold tZ;split
   ·exact absurd rfl hw
   ·rfl
  unfold oG;rw[e];exact dJ
structure Dk (P:Program) (w:World) (K:yB) {mg:Str->Option Value} (T:Txt K mg):Prop where
 Jj:KD P w K T.iO [("player",.ref T.gI),("instrument",.ref T.d8),("staff",.ref T.iF),("bar",.ref T.lM),("upbeat",.ref T.gG),("holds",.ref T.jS),("notes",.ref T.iG),("repeat",.ref T.gH),("jump",.ref T.jR)]
 Q5:KD P w K T.qF [("player",.ref T.fX),("instrument",.ref T.dW),("staff",.ref T.gF),("bar",.ref T.jT),("upbeat",.ref T.fV),("holds",.ref T.iI),("notes",.ref T.gJ),("repeat",.ref T.fW),("jump",.ref T.iH)]
inductive Lr (K:yB) {mg:Str->Option Value} (T:Txt K mg):Addr->Sp->Prop where
 | bH:Lr K T T.gI (fJ K (oG .str (one cK)))
 | cL:Lr K T T.d8 (fJ K (oG d7 lh))
 | cq:Lr K T T.iF (fJ K (oG gn o9))
 | bar:Lr K T T.lM (fJ K (oG kJ AD))
 | aF:Lr K T T.gG (fJ K (oG dL (one lr)))
 | holds:Lr K T T.jS (fJ K (oG um qG))
 | aI:Lr K T T.iG (fJ K SD)
 | rep:Lr K T T.gH (fJ K (oG gq jF))
 | bT:Lr K T T.jR (fJ K (oG jP tZ))
noncomputable def wO {K:yB} {mg:Str->Option Value} (T:Txt K mg):List (Str×V):=[("player",V.ref T.gI),("instrument",.ref T.d8),("staff",.ref T.iF),("bar",.ref T.lM),("upbeat",.ref T.gG),("holds",.ref T.jS),("notes",.ref T.iG),("repeat",.ref T.gH),("jump",.ref T.jR)]
def Mi (K:yB) {mg:Str->Option Value} (T:Txt K mg) (x:Str):(rP (wO T) x=none/\∀ws,nO (x::ws)=none)\/∃f D,rP (wO T) x=some (.ref f)/\Lr K T f (fJ K D)/\∀H0 H v ws,D H0 H v ws->gz H0 H v (nO (x::ws)):=by
 by_cases e0:x ="player"
 ·subst e0
  refine .inr {_,_,rfl,.bH,λH0 H v ws h=>?_};exact mK (g:=Told.bH) h λx z=>by unfold Is at z;exact z
 by_cases e1:x ="instrument"
 ·subst e1
  refine .inr {_,_,rfl,.cL,λH0 H v ws h=>?_};exact mK (g:=λ(x:Str×(Int×Int)×(Int×Int))=>Told.cL x.1 x.2.1 x.2.2) h λx z=>(show Is H (d7 x) v from z)
 by_cases e2:x ="staff"
 ·subst e2
  refine .inr {_,_,rfl,.cq,λH0 H v ws h=>?_};exact mK (g:=λ(x:Str×List Str)=>Told.cq x.1 x.2) h λx z=>(show Is H (gn x) v from z)
 by_cases e3:x ="bar"
 ·subst e3
  refine .inr {_,_,rfl,.bar,λH0 H v ws h=>?_};exact mK (g:=Told.bar) h λx z=>z
 by_cases e4:x ="upbeat"
 ·subst e4
  refine .inr {_,_,rfl,.aF,λH0 H v ws h=>?_};exact mK (g:=Told.aF) h λx z=>z
 by_cases e5:x ="holds"
 ·subst e5
  refine .inr {_,_,rfl,.holds,λH0 H v ws h=>?_};exact mK (g:=λ(x:Str×Int×Str)=>Told.holds x.1 x.2.1 x.2.2) h λx z=>(show Is H (um x) v from z)
 by_cases e6:x ="notes"
 ·subst e6
  refine .inr {_,_,rfl,.aI,λH0 H v ws h=>?_};let e:nO ("notes":: ws)=(jX ws).map λx=>Told.aI x.1 x.2.1 x.2.2:=rfl;rw[e];unfold SD at h;cases q:jX ws with
  | none=>rw[q] at h;exact h
  | some y=>rw[q] at h;exact h
 by_cases e7:x ="repeat"
 ·subst e7
  refine .inr {_,_,rfl,.rep,λH0 H v ws h=>?_};exact mK (g:=Told.rep) h λx z=>z
 by_cases e8:x ="jump"
 ·subst e8
  refine .inr {_,_,rfl,.bT,λH0 H v ws h=>?_};exact mK (g:=Told.bT) h λx z=>z
 refine .inl {?_,λws=>?_}
 ·let f0:∀(k:Str) (v:V) (r:List (Str×V)),x≠k->rP ((k,v)::r) x=rP r x:=λk v r h=>by
   unfold rP;rw[List.find?_cons];rw[show decide ((k,v).1=x)=false from ze λz=>h z.symm]
  unfold wO;rw[f0 _ _ _ e0,f0 _ _ _ e1,f0 _ _ _ e2,f0 _ _ _ e3,f0 _ _ _ e4,f0 _ _ _ e5,f0 _ _ _ e6,f0 _ _ _ e7,f0 _ _ _ e8];rfl
 ·unfold nO
  dsimp only;rw[if_neg e0,if_neg e1,if_neg e2,if_neg e3,if_neg e4,if_neg e5,if_neg e6,if_neg e7,if_neg e8]
def rV {K:yB} {mg:Str->Option Value} (T:Txt K mg):Sp:=λvs H Q _=>∃x:Str,vs=[.str x]/\Q (.bl (rP (wO T) x).isSome) H
def sR (B:Dk P w K T):cV P w base 1 T.j0 (rV T):=by
 nomatch T.j0,["word"]
 let⟨x,rfl,kk⟩:=h;refine{_,(aj (ao (sO (OD (pv 0) (bX (v:=.ref T.iO) (by rfl) T.BZ rfl))))),?_};ac_rfl;exists T.iO,wO T,x,rfl,B.Jj,rfl,?_;left;show Q (V.bl (false ^^ (rP (wO T) x).isSome)) H;rw[Bool.false_xor];exact kk
def tW:fY ["words","reader"] ["words"] (aT oQ):=Sk
def FC (B:Dk P w K T):cV P w base 7 T.wL (ES K):=by
 refine T.wL.F.SV tW λcdv A' outer s H vs Q E hr h=>?_
 ·let⟨p,x,ws,rfl,hp,hl,sh,kk⟩:=h
  let sl:=yC;let hTbV:∀f sp,Lr K T f sp->Rp (j9 GV P w K mg base ["words","reader"] "read_row" (aT oQ) T.x9 cdv A' outer s H E).HN GV 6 f sp:=by
   intro f sp h;cases h with
   | bH=>exact{_,_,L2.dC.mono (w6 T) ∅,T.jE.F.kp,T.jE.b}
   | cL=>exact{_,_,L2.dC.mono (pk T) ∅,T.fu.F.kp,T.fu.b}
   | cq=>exact{_,_,L2.dC.mono (AG T) ∅,T.kZ.F.kp,T.kZ.b}
   | bar=>exact{_,_,L2.dC.mono (FF T) ∅,T.qE.F.kp,T.qE.b}
   | aF=>exact{_,_,L2.dC.mono (wY T) ∅,T.jC.F.kp,T.jC.b}
   | holds=>exact{_,_,L2.dC.mono (C1 T) ∅,T.nN.F.kp,T.nN.b}
   | aI=>exact{_,_,L2.dC.mono (AI T) ∅,T.lg.F.kp,T.lg.b}
   | rep=>exact{_,_,L2.dC.mono (wZ T) ∅,T.jD.F.kp,T.jD.b}
   | bT=>exact{_,_,L2.dC.mono (C0 T) ∅,T.nM.F.kp,T.nM.b}
  refine{_,(af (aG (eI (cI (bN (sR T B) hr T.j0 (ah (fw (pv 0) ae) ag))))
   (aj (ao aR))
   ax)
   (af (bJ 1 tW.nd (Fs (bX (v:=.ref T.iO) (by rfl) T.BZ rfl) (fw (pv 0) ae) (λ_ _=>rfl)))
   (aj (ao (Fv (Lr K T) hTbV (hr.mono ∅) (pv 1) Jn (ah (dq gA (pv 0) (dM ae) dN) ag)))))),?_}
  ac_rfl;exists p,_,0,_,rfl,rfl,hp,bC (j:=0) rfl,?_;refine{x,rfl,?_};rcases Mi K T x with⟨ev,er⟩ | ⟨f,D,ev,htb,hd⟩
  ·rw[ev]
   left;refine kk _ _ (au.refl _) ?_;rw[er];rfl
  ·rw[ev]
   exists p,_,0,_,rfl,rfl,hp,bC (j:=0) rfl,?_;refine{T.iO,wO T,x,_,rfl,B.Jj,rfl,ev,?_};exists f,_,rfl,htb,?_;exists p,_,rfl,hp,?_;rw[show ka (List.map V.str (x::ws)) (some 1) none=ws.map V.str from(fF _ 1).trans rfl];intros p1 H1 s1 h1;refine{p1,ws,rfl,aH.of h1,nofun,λy hy=>sh y (by simp[hy]),λv H2 s2 h2=>kk _ _ (s1.trans s2) ((hd _ _ _ _ h2).back s1)}
def md:cV P w base 1 T.ia (uy K):=by
 nomatch T.ia,["repeats","bar","repeat"]
 let⟨p,rs,b,rfl,⟨vs,hp,il⟩,kk⟩:=h;unfold dE at kk;refine{_,(af (b8 PassesOwn.never rfl (aZ (pv 0)) (iZ 2 qN)
  (aj (aG (PW.pt (dn (ptr fN (bG (pv 2) ae) (pv 1)) (cQ (ptr fN (pv 1) (bG (pv 2) ae)))))
   (aj (ao (pv 2)))
   ax)))
  (aj (ao aR))),?_}
 ac_rfl;exists{_,hp},?_;refine dr (K:=K) (a:=p) (xs:=vs) (λi U H'=>H'=H/\(rs.take i).find? (λr=>decide (r.first<=b)&&decide (b<=r.last))=none/\∃v,U=[some (.ref p),some (.int b),v]) {(rfl),rfl,none,rfl} (λi U H' _ h=>by rw[h.1];exact hp) ?_ ?_
 ·intro i x U H' hx hh
  refine cC λN kN0 kR0 _ _=>?_;let⟨rfl,hn,v,rfl⟩:=hh;let⟨r,hr',hi⟩:=cT il hx;let⟨a,e,rfl,ha,he⟩:=dB hi;left
  by_cases c1:r.first<=b
  ·refine bU (zg c1) ?_
   left
   by_cases c2:b<=r.last
   ·refine bU (zg c2) ?_
    left;refine kk _ ?_;rw[Jx hr' hn (by rw[zg c1,zg c2];rfl)];exact hi
   ·refine b9 (ze c2) ?_
    change{BP hr' hn (by rw[ze c2,Bool.and_false]),_,rfl}
  ·refine b9 (ze c1) ?_
   change{BP hr' hn (by rw[ze c1,Bool.false_and]),_,rfl}
 ·rintro U H' ⟨rfl,hn,v,rfl⟩
  rw[aO il,zN] at hn;left;refine kk _ ?_;rw[hn];exact dJ
def C2:cV P w base 2 T.sX (Cp K):=by
 nomatch T.sX,["repeats","bar","repeat"]
 let⟨p,rs,b,rfl,hp,kk⟩:=h;unfold gO at kk;refine{_,(af (bJ 2 qN (bN (md T) hr T.ia (ah (pv 0) (ah (pv 1) ag))))
  (aj (ao (Mz (sO (cu (pv 2))) (mW (dF cW (pv 1) (bG (pv 2) ae) (gY _))))))),?_}
 ac_rfl;exists p,rs,b,rfl,hp,λv iv=>?_;cases q:dE rs b with
 | none=>
  rw[q] at iv kk;unfold dO Is at iv;subst iv;change kk
 | some r=>
  rw[q] at iv kk;let⟨a,e,rfl,ha,he⟩:=dB iv;left;let e1:decide (V.int b=V.int r.last)=decide (b=r.last):=by simp
  show Q (.bl (decide (V.int b=V.int r.last))) H;rw[e1];exact kk
def qO:cV P w base 2 T.nT (Cq K):=by
 nomatch T.nT,["repeats","bar","repeat"]
 let⟨p,rs,b,rfl,hp,kk⟩:=h;unfold dZ at kk;refine{_,(af (bJ 2 qN (bN (md T) hr T.ia (ah (pv 0) (ah (pv 1) ag))))
  (aj (ao (Mz (sO (cu (pv 2))) (mW (dF cW (pv 1) (bG (pv 2) ae) (gY _))))))),?_}
 ac_rfl;exists p,rs,b,rfl,hp,λv iv=>?_;cases q:dE rs b with
 | none=>
  rw[q] at iv kk;unfold dO Is at iv;subst iv;change kk
 | some r=>
  rw[q] at iv kk;let⟨a,e,rfl,ha,he⟩:=dB iv;left;let e1:decide (V.int b=V.int r.first)=decide (b=r.first):=by simp
  show Q (.bl (decide (V.int b=V.int r.first))) H;rw[e1];exact kk
def Nj (us:List V) (h:us≠[]):¬(HT.eY ⇑us 0 (some 1)=0/\HT.eY ⇑us ⇑us none=⇑us):=by
 rintro⟨h1,_⟩;let hp:0<⇑us:=yr.mpr h;let e:HT.eY ⇑us 0 (some ((1:Nat):Int))=min 1 ⇑us:=by unfold HT.eY;simp
 let e':HT.eY ⇑us 0 (some (1:Int))=min 1 ⇑us:=e;rw[e'] at h1;omega
def J4 {K:yB} {H:Hp} {e:Addr} {us:List V} {Q:VK} (hu:H e=some (.tup us)) (k:∀q H1,au H H1->H1 q=some (.tup (us.drop 1))->Q (.ref q) H1):Pz K (.ref e) (some 1) none H Q:=by
 by_cases h:us=[]
 ·subst h
  exact .inr {e,[],rfl,cY.of hu,{(rfl),rfl},k e H (au.refl H) hu}
 ·refine .inl {e,us,rfl,cY.of hu,Nj us h,?_}
  rw[show ka us (some 1) none=us.drop 1 from fF us 1];exact laid k
def w9:cV P w base 1 T.vH Hg:=by
 nomatch T.vH,["repeat","ends","behind"]
 let⟨v,r,rfl,iv,hl,kk⟩:=h;let sl:=yC;let⟨a,e,rfl,ha,he⟩:=dB iv;unfold Is at he;let⟨e',us,ee,hu,ilu⟩:=he;cases ee;refine{_,(af (bJ 1 qN (bG (pv 0) ae))
  (af (bJ 2 qN (aq gC (mX (ts:=["end"]) (ys:=[]) (js:=[]) (te:=(e9 (mC K) (aX 0) (tC (.int (0))))) (iY (dq Jg (pv 1) (dM ae) dN)) (fZ 0) bx (bG (pv 0) ae)) (aY (ah (aq aS (bG (pv 0) ae) ae) ag))))
  (aj (ao (mX (ts:=["end","after"]) (ys:=[]) (js:=[]) (g:=(Dp K 2 (fm (bS 0) (fm (bS 1) Dq)))) (te:=(EH (bR (e9 (mC K) (aX 0) (tC (.int (0)))) (bR (e9 (sM λi j=>.int (i-j)) (aX 1) (tC (.int (1)))) (bR (e9 (mC K) (aX 0) (tC (.int (1)))) eD))))) (Mx (by rfl) T.MM (ah (pv 1) (ah (pv 2) ag))) (dP (n:=2) rfl (aM (fZ 0) (aM (fZ 1) de))) bx (bz (ah (bG (pv 0) ae) (ah (aq i6 (pv 1) ae) (ah (bG (pv 0) ae) ag))))))))),?_}
 ac_rfl;left;let main:∀(q:Addr) (H1:Hp),au H H1->H1 q=some (.tup (us.drop 1))->∀(R:VK),(∀D H2,au H1 H2->H2 D=some (.lst ((r.ends.drop 1).map λx=>V.int x.1))->R (.ref D) H2)->
   dh [none] (bS 0) rS (e9 (mC K) (aX 0) (tC (.int 0))) R (Ph K q) H1:=by
  intro q H1 s1 h1 R hR;let il1:aD H ((r.ends.drop 1).map mG) (us.drop 1):=by
   cases re:r.ends with
   | nil=>
    rw[re] at ilu;unfold aD at ilu;subst ilu;unfold aD;rfl
   | cons x xs=>
    rw[re,zj] at ilu;unfold aD at ilu;let⟨u,ur,rfl,_,h2⟩:=ilu;exact h2
  let⟨ps,f1,f2,f3⟩:=qZ il1;let pl:⇑ps<=1000000:=by
   have:⇑ps=⇑(r.ends.drop 1):=by rw[<-f1,za]
   rw[this,List.length_drop];omega
  refine gr (enc:=λz:Sc.End×V=>z.2) (ws:=ps) (λz=>.int z.1.1) (λU=>∃v,U=[v]) nofun (by rw[f2];exact h1) {(none),rfl} ?_ ?_
  ·rintro z U H6 R' hz s6 ⟨_,rfl⟩ r'
   let⟨a6,q6,ev,h6,h7⟩:=pF (f3 z hz);rw[ev];let h66:=s6 _ _ (s1 _ _ h6);change r' _ _ _ (au.refl _) cE {_,rfl}
  ·intro D vs H6 s6 hD il
   let e5:ps.map (λz=>Dt.int z.1.1)=((r.ends.drop 1).map (·.1)).map Dt.int:=by rw[<-f1,zB,zB];rfl
   rw[e5] at il;rw[dS il,zB] at hD;exact hR D H6 s6 hD
 refine J4 hu λq H1 s1 h1=>{q,rfl,{_,cY.of h1},main q H1 s1 h1 _ λD H2 s2 h2=>?_}
 let ha2:=s2 _ _ (s1 _ _ ha);exists by show 1<=sizeLine;omega,?_
 intros p3 H3 s3 h3;refine{D,p3,_,_,rfl,rfl,aH.of (s3 _ _ h2),aH.of h3,by rw[za,List.length_drop];show _+1<=_;omega,?_};intros p4 H4 s4 h4;let s04:=(s1.trans s2).trans (s3.trans s4);let hu4:=s04 _ _ hu;let eb:(List.map (λx=>V.int x.1) (r.ends.drop 1)++[V.int (r.last+1)])=((r.ends.drop 1).map (·.1)++[r.last+1]).map V.int:=by rw[zk,zB];rfl
 rw[eb] at h4;left;let ilu4:=ilu.mono s04;let ul:=aO ilu;refine{true,false,e,p4,us,_,rfl,cY.of hu4,aH.of h4,?_};generalize hbs:(r.ends.drop 1).map (·.1)++[r.last+1]=bs at h4;let zl:⇑(r.ends.zip bs)=min ⇑r.ends ⇑bs:=List.length_zip;refine xR (ws:=r.ends.zip bs) (λz x H'=>∃p u,x=.ref p/\H' p=some (.tup [u,.int z.2])/\Is H' (mG z.1) u) (λz=>KY (z.1.1,z.2-1,z.1.2)) (λU=>∃u v,U=[u,v]) nofun {(none),none,rfl} ?_ ?_ ?_ ?_ ?_
 ·intro i H5 hi s5
  let i1:i<⇑us:=nofun
  let i2:i<⇑(bs.map V.int):=by rw[za];omega
  exact{us,bs.map V.int,us[i],(bs.map V.int)[i],cY.of (s5 _ _ hu4),aH.of (s5 _ _ h4),zd i1,zd i2}
 ·intro H5 s5
  refine{us,bs.map V.int,cY.of (s5 _ _ hu4),aH.of (s5 _ _ h4),?_};rw[za];rcases Nat.le_total ⇑r.ends ⇑bs with h | h
  ·exact Or.inl nofun
  ·right;omega
 ·rintro i x H5 H6 hi s5 ⟨p,u,v,hp,rfl,rfl,hu',hv'⟩
  let i1:i<⇑r.ends:=nofun
  let i2:i<⇑bs:=nofun
  let gu:=hu' us (cY.of (s5 _ _ hu4));let gv:=hv' (bs.map V.int) (aH.of (s5 _ _ h4));rw[zK,zd i2] at gv;cases gv;let⟨x0,hx0,ix0⟩:=cT (ilu4.mono s5) gu;rw[zd i1] at hx0;cases hx0;refine{bq hp,p,u,rfl,?_,?_}
  ·rw[aB,List.getElem_zip]
  ·rw[List.getElem_zip];exact ix0.mono (bq hp)
 ·rintro z x U H5 R hz s5 ⟨p,u,rfl,hp,iu⟩ ⟨_,_,rfl⟩ rr
  let⟨a6,q6,rfl,h6,h7⟩:=pF iu;refine{p,_,rfl,cY.of hp,rfl,?_};refine{_,_,rfl,_,_,rfl,rfl,?_};left;refine{mS,laid λp7 H7 s7 h7'=>rr _ _ _ s7 ?_ {_,_,rfl}};exact cw h7' (aN cE (aN cE (nc (cw (s7 _ _ h7) q9))))
 ·intro D5 vs5 H5 s5 hD5 il5
  refine kk _ _ _ (s04.trans s5) hD5 ?_;let ee:(dz r).map KY=(r.ends.zip bs).map λz=>KY (z.1.1,z.2-1,z.1.2):=by
   unfold dz;rw[hbs,zB];rfl
  rw[ee];exact il5
def G7 {H:Hp} {e:Int×Int×List Int} {v:V} (h:Is H (KY e) v):∃a q,v=.ref a/\H a=some (.tup [.int e.1,.int e.2.1,.ref q])/\H q=some (.tup (e.2.2.map V.int)):=by
 unfold KY Is at h;let⟨a,vs,rfl,ha,hl⟩:=h;unfold aD at hl;let⟨v1,r1,rfl,h1,hl⟩:=hl;unfold aD at hl;let⟨v2,r2,rfl,h2,hl⟩:=hl;unfold aD at hl;let⟨v3,r3,rfl,h3,hl⟩:=hl;unfold aD at hl;subst hl;unfold Is at h1 h2;subst h1 h2;unfold jQ Is at h3;let⟨q,us,rfl,hq,hle⟩:=h3;rw[dS hle] at hq;exact{(a),q,rfl,ha,hq}
noncomputable def xy (r:Rep) (b:Int) (e:Int×Int×List Int):Bool:=decide (e.1<=b)&&decide (b<=e.2.1)&&!decide (r.times∈e.2.2)
def Kz (rs:List Rep) (b:Int):lF rs b=rs.all λr=>(dz r).all λe=>!xy r b e:=rfl
theorem nY:∀ns:List Int,(ns.map V.int).all mn=true
 | []=>rfl
 | n::ns=>by rw[zj,List.all_cons,nY ns];rfl
def mh:cV P w base 2 T.iC (uB K):=by
 nomatch T.iC,["repeats","bar","repeat","end"]
 let⟨p,rs,b,rfl,⟨vs,hp,il⟩,hl,kk⟩:=h;rw[Kz] at kk;refine{_,(af (b8 PassesOwn.never rfl (aZ (pv 0)) (iZ 2 qN)
  (aj (b8 PassesOwn.never rfl (aZ (bN (w9 T) hr T.vH (ah (pv 2) ag))) (iZ 3 qN)
   (aj (aG (PW.pt (dn (ptr fN (bG (pv 3) ae) (pv 1)) (dn (ptr fN (pv 1) (bG (pv 3) ae)) (cQ (gB eQ (bG (pv 2) ae) (bG (pv 3) ae) (by with_unfolding_all rfl))))))
    (aj (ao ky))
    ax)))))
  (aj (ao ky))),?_}
 ac_rfl;exists{_,hp},?_;refine dr (K:=K) (a:=p) (xs:=vs) (λi U H'=>au H H'/\(rs.take i).all (λr=>(dz r).all λe=>!xy r b e)=true/\∃v u,U=[some (.ref p),some (.int b),v,u]) {au.refl H,rfl,none,none,rfl} (λi U H' _ h=>h.1.seq hp) ?_ ?_
 ·intro i x U H' hx hh
  refine cC λN kN0 kR0 _ _=>?_;let⟨s1,hn,v,u,rfl⟩:=hh;let⟨r,hr',hi⟩:=cT il hx;let hm:=zC hr';exists _,r,rfl,hi.mono s1,hl r hm,λD us H2 s2 hD ilD=>?_;refine{D,rfl,{_,aH.of hD},?_};let⟨a,e,rfl,ha,he⟩:=dB (hi.mono (s1.trans s2));refine dr (K:=K) (a:=D) (xs:=us) (λj U H'=>H'=H2/\((dz r).take j).all (λe=>!xy r b e)=true/\∃u,U=[some (.ref p),some (.int b),some (.ref a),u]) {rfl,rfl,_,rfl} (λj U H' _ h=>by rw[h.1];exact aH.of hD) ?_ ?_
  ·intro j y U H3 hy hh
   refine cC λN kN1 kR1 _ _=>?_;let⟨rfl,hnj,u',rfl⟩:=hh;let⟨t,ht,it⟩:=cT ilD hy;let⟨a6,q6,rfl,h6,h7⟩:=G7 it;let good:xy r b t=false->((dz r).take (j+1)).all (λe=>!xy r b e)=true:=λz=>by
    rw[cM ht,List.all_append,hnj,Bool.true_and];simp[z]
   left
   by_cases c1:t.1<=b
   ·refine bU (zg c1) ?_
    left
    by_cases c2:b<=t.2.1
    ·refine bU (zg c2) ?_
     exists q6,t.2.2.map V.int,rfl,.inr (cY.of h7),rfl,nY _,?_;show∃k,V.bl (!Di (.int r.times) (t.2.2.map V.int))=.bl k/\_;rw[ng]
     by_cases c3:r.times∈t.2.2
     ·rw[zg c3]
      change{good (by unfold xy;rw[zg c3];simp),_,rfl}
     ·rw[ze c3]
      left;let z:=kk H3 (s1.trans s2);let e0:(rs.all λr=>(dz r).all λe=>!xy r b e)=false:=by
       rw[List.all_eq_false];refine{r,hm,?_};have:((dz r).all λe=>!xy r b e)=false:=by
        rw[List.all_eq_false];exact{t,zC ht,by unfold xy;simp[c1,c2,c3]}
       rw[this];decide
      rw[e0] at z;exact z
    ·refine b9 (ze c2) ?_
     change{good (by unfold xy;rw[ze c2];simp),_,rfl}
   ·refine b9 (ze c1) ?_
    change{good (by unfold xy;rw[ze c1];simp),_,rfl}
  ·rintro U H3 ⟨rfl,hnj,u',rfl⟩
   rw[aO ilD,zN] at hnj;left;refine{s1.trans s2,?_,_,_,rfl};rw[cM hr',List.all_append,hn,Bool.true_and];simp[hnj]
 ·rintro U H' ⟨s1,hn,v,u,rfl⟩
  rw[aO il,zN] at hn;left;let z:=kk H' s1;rw[hn] at z;exact z
inductive Cs (K:yB) (vs:List V) (H:Hp) (Q:VK) (E:XK):Prop
 | mk (p:Addr) (rs:List Rep) (a c:Int) (_:vs=[.ref p,.int a,.int c]) (_:Bj K H p rs) (_:(∀r∈rs,⇑r.ends<=1000000)) (_:∀H',au H H'->Q (.bl (decide (a<c)&&dZ rs c&&lF rs c)) H')
inductive Cr (K:yB) (vs:List V) (H:Hp) (Q:VK) (E:XK):Prop
 | mk (p:Addr) (rs:List Rep) (v:V) (j:Jump) (_:vs=[.ref p,v]) (_:Bj K H p rs) (_:(∀r∈rs,⇑r.ends<=1000000)) (_:Is H (jP j) v) (_:∀H',au H H'->Q (.bl (gR rs j)) H')
def vD {H:Hp} {j:Jump} {v:V} (h:Is H (jP j) v):∃a,v=.ref a/\H a=some (.tup [.int j.vE,.int j.y7,.int j.dy,ov j.gw]):=by
 unfold jP Is at h;let⟨a,vs,rfl,ha,hl⟩:=h;unfold aD at hl;let⟨v1,r1,rfl,h1,hl⟩:=hl;unfold aD at hl;let⟨v2,r2,rfl,h2,hl⟩:=hl;unfold aD at hl;let⟨v3,r3,rfl,h3,hl⟩:=hl;unfold aD at hl;let⟨v4,r4,rfl,h4,hl⟩:=hl;unfold aD at hl;subst hl;unfold Is at h1 h2 h3;subst h1 h2 h3;refine{a,rfl,?_};cases q:j.gw with
 | none=>rw[q] at h4;unfold dO Is at h4;subst h4;exact ha
 | some n=>rw[q] at h4;unfold dO Is at h4;subst h4;exact ha
def C4:cV P w base 3 T.tJ (Cs K):=by
 nomatch T.tJ,["repeats","at","coda"]
 let⟨p,rs,a,c,rfl,hp,hl,kk⟩:=h;refine{_,(aj (ao (pf (dF eZ (pv 1) (pv 2) (gY _)) (pf (bN (qO T) hr T.nT (ah (pv 0) (ah (pv 2) ag))) (mW (bN (mh T) hr T.iC (ah (pv 0) (ah (pv 2) ag)))))))),?_};ac_rfl;left
 by_cases c1:a<c
 ·rw[zg c1,Bool.true_and] at kk
  refine bU (zg c1) ?_;exists p,rs,c,rfl,hp,?_;cases q:dZ rs c with
  | true=>
   rw[q,Bool.true_and] at kk;change{(p),rs,c,rfl,hp,hl,kk}
  | false=>
   rw[q,Bool.false_and] at kk;change kk _ (au.refl _)
 ·rw[ze c1,Bool.false_and,Bool.false_and] at kk
  refine b9 (ze c1) ?_;change kk _ (au.refl _)
def C3:cV P w base 4 T.tm (Cr K):=by
 nomatch T.tm,["repeats","jump","at","to","until","coda"]
 let⟨p,rs,v,j,rfl,hp,hl,iv,kk⟩:=h;let⟨a,rfl,ha⟩:=vD iv;unfold gR at kk;refine{_,(af (bJ 2 qN (bG (pv 1) ae))
  (af (bJ 3 qN (bG (pv 1) ae))
  (af (bJ 4 qN (bG (pv 1) ae))
  (af (bJ 5 qN (bG (pv 1) ae))
  (af (aG (PW.pt (dY (ptr eZ (pv 4) (pv 3)) (dw (ptr eZ (pv 2) (pv 4)))))
  (aj (ao ky))
  ax)
  (af (aG (PW.pt (dn (bE (fM (pv 5))) (cQ (eI (cI (bN (C4 T) hr T.tJ (ah (pv 0) (ah (pv 2) (ah (pv 5) ag)))))))))
  (aj (ao ky))
  ax)
  (aj (ao (pf (bN (C2 T) hr T.sX (ah (pv 0) (ah (pv 2) ag))) (pf (bN (qO T) hr T.nT (ah (pv 0) (ah (pv 3) ag))) (mW (bN (mh T) hr T.iC (ah (pv 0) (ah (pv 4) ag)))))))))))))),?_}
 ac_rfl;left
 by_cases c1:j.dy<j.y7
 ·refine bU (zg c1) ?_
  simp only[if_pos c1] at kk;change kk _ (au.refl _)
 ·refine b9 (ze c1) ?_
  simp only[if_neg c1] at kk;left
  by_cases c2:j.vE<j.dy
  ·refine bU (zg c2) ?_
   simp only[if_pos c2] at kk;change kk _ (au.refl _)
  ·refine b9 (ze c2) ?_
   simp only[if_neg c2] at kk;left;cases q:j.gw with
   | none=>
    rw[q] at kk;exists p,rs,_,rfl,hp,?_;cases q1:gO rs j.vE with
    | false=>
     rw[q1] at kk;change kk _ (au.refl _)
    | true=>
     rw[q1] at kk;exists p,rs,_,rfl,hp,?_;cases q2:dZ rs j.y7 with
     | false=>
      rw[q2] at kk;change kk _ (au.refl _)
     | true=>
      rw[q2] at kk;change{p,rs,_,rfl,hp,hl,kk}
   | some n=>
    rw[q] at kk;exists p,rs,_,_,rfl,hp,hl,λH1 s1=>?_;cases q0:(decide (j.vE<n)&&dZ rs n&&lF rs n) with
    | false=>
     simp only[q0] at kk;change kk _ s1
    | true=>
     simp only[q0,Bool.true_and] at kk;exists p,rs,_,rfl,hp.mono s1,?_;cases q1:gO rs j.vE with
     | false=>
      rw[q1] at kk;change kk _ s1
     | true=>
      rw[q1] at kk;exists p,rs,_,rfl,hp.mono s1,?_;cases q2:dZ rs j.y7 with
      | false=>
       rw[q2] at kk;change kk _ s1
      | true=>
       rw[q2] at kk;change{p,rs,_,rfl,hp.mono s1,hl,λH2 s2=>kk _ (s1.trans s2)}
def Bt {l ns:List Int} (h1:ns.Perm l) (h2:ns.Pairwise (·<=·)):ns=sortI l:=by
 unfold sortI;refine List.Perm.eq_of_pairwise (le:=λa b:Int=>a<=b) (λa b _ _ x y=>Int.le_antisymm x y) h2 ?_ (h1.trans (List.mergeSort_perm _ _).symm);have:=List.pairwise_mergeSort (le:=λa b:Int=>decide (a<=b)) (λa b c x y=>by simp at x y ⊢;omega) (λa b=>by simp;omega) l;exact this.imp λh=>by simpa using h
noncomputable def G8:List Sc.End->Nat
 | []=>0
 | e::r=>⇑e.2+G8 r
def P9 {es:List Sc.End} {e:Sc.End} (h:e∈es):⇑e.2<=G8 es:=by
 induction es with
 | nil=>cases h
 | cons x r ih=>
  rcases zD.mp h with rfl | h
  ·unfold G8;omega
  ·have:=ih h;unfold G8;omega
def LB {a b:List Int}:(decide (a.map V.int=b.map V.int))=decide (a=b):=by
 by_cases h:a=b
 ·subst h;simp
 ·rw[ze h,ze]
  intro z;have:∀{a b:List Int},a.map V.int=b.map V.int->a=b:=by
   intro a
   induction a with
   | nil=>intro b z;cases b with | nil=>rfl | cons _ _=>cases z
   | cons x r ih=>intro b z;cases b with | nil=>cases z | cons y s=>simp at z;rw[z.1,ih (by simpa using z.2)]
  exact h (this z)
theorem qI:∀ns:List Int,(ns.map V.int).all Oy=true
 | []=>rfl
 | n::ns=>by rw[zj,List.all_cons,qI ns];rfl
def Gb {e:Sc.End} {r:List Sc.End} {a:Int} {ps:List Int} (h1:¬e.1<=a) (h2:e.2=sortI e.2):fP (e::r) a ps=fP r e.1 (ps++e.2):=by
 show(if e.1<=a then none else if e.2≠sortI e.2 then none else fP r e.1 (ps++e.2))=_;rw[if_neg h1,if_neg (λz=>z h2)]
def BU {e:Sc.End} {r:List Sc.End} {a:Int} {ps:List Int} (h:e.1<=a\/e.2≠sortI e.2):fP (e::r) a ps=none:=by
 show(if e.1<=a then none else if e.2≠sortI e.2 then none else fP r e.1 (ps++e.2))=_;rcases h with h | h
 ·rw[if_pos h]
 ·rw[if_pos h];split <;> rfl
def O0 {α:Type} {l:List α} {i:Nat} {x:α} (h:l[i]?=some x):l.drop i=x::l.drop (i+1):=by
 let⟨hi,rfl⟩:=zy.mp h;exact List.drop_eq_getElem_cons hi
inductive tV (vs:List V) (H:Hp) (Q:VK) (E:XK):Prop
 | mk (v:V) (r:Rep) (_:vs=[v]) (_:Is H (gq r) v) (_:G8 r.ends<64) (_:-1000000<=r.times) (_:r.times<=1000000) (_:∀H',au H H'->Q (.bl (fQ r)) H')
def FH:cV P w base 1 T.xu tV:=by
 nomatch T.xu,["repeat","ends","ahead","passes","end"]
 let⟨v,r,rfl,iv,ht,t0,t1,kk⟩:=h;let sl:=yC;let⟨a,e,rfl,ha,he⟩:=dB iv;unfold Is at he;let⟨e',us,ee,hu,ilu⟩:=he;cases ee;let ul:=aO ilu;refine{_,(af (bJ 1 qN (bG (pv 0) ae))
  (af (aG (ptr cW (d9 aE T.bF (ah (pv 1) ag)) ae)
  (aj (ao ky))
  ax)
  (af (bJ 2 qN (aq i6 (bG (pv 0) ae) ae))
  (af (bJ 3 qN (aY ag))
  (af (b8 PassesOwn.never rfl (iY (pv 1)) (iZ 4 qN)
  (af (aG (PW.pt (dY (ptr fN (bG (pv 4) ae) (pv 2)) (dw (ptr (wV hr.units) (mD iD T.jY (ah (bG (pv 4) ae) ag)) (d9 rE T.FR (ah (bG (pv 4) ae) ag))))))
   (aj (ao ky))
   ax)
   (af (bJ 2 qN (bG (pv 4) ae))
   (aj (bw (bO yD PySem.F.slot_list_extend PySem.F.type_list_extend gg (pv 3) (ah (bG (pv 4) ae) ag)))))))
  (aj (ao (pf (dF fN (pv 2) (bG (pv 0) ae) (gY _)) (mW (dF (sQ hr.units) (d9 rE T.FR (ah (pv 3) ag)) (qJ rfl (by rfl) T.jY (by rfl) T.cF (ah ae (ah (aq aS (bG (pv 0) ae) ae) ag))) (gY _))))))))))),?_}
 ac_rfl;exists e,_,rfl,.inr (cY.of hu),?_;rw[ul];left
 by_cases h0:⇑r.ends=0
 ·refine bU (by rw[h0];rfl) ?_
  left;let e0:fQ r=true:=by
   unfold fQ;rw[yt.mp h0]
  rw[e0] at kk;exact kk _ (au.refl _)
 ·refine b9 (ze λz=>h0 (by have:=V.int.inj z;omega)) ?_
  let ef:fQ r=(match fP r.ends (r.first-1) [] with | none=>false | some (a,ps)=>decide (a<=r.last)&&decide (sortI ps=Kd 1 (r.times+1-1).toNat)):=by
   unfold fQ;cases q:r.ends with
   | nil=>rw[q] at h0;exact absurd rfl h0
   | cons x xs=>rfl
  rw[ef] at kk;exists by show 0<=sizeLine;omega,?_
  intro pp hn;generalize hG:upd _ pp _=H1;let s1:=au.i9 hG hn;let h1:=ji hG;clear hG;exists{_,cY.of (s1 _ _ hu)},?_;refine Jv (K:=K) (a:=e) (xs:=us) (λi U H'=>au H H'/\∃(z:Int) (ps:List Int) (u:Option V),U=[some (.ref a),some (.ref e),some (.int z),some (.ref pp),u]/\H' pp=some (.lst (ps.map V.int))/\⇑ps+G8 (r.ends.drop i)=G8 r.ends/\fP r.ends (r.first-1) []=fP (r.ends.drop i) z ps) {s1,_,[],none,rfl,h1,by simp,rfl} (λi U H' _ h=>cY.of (h.1 _ _ hu)) ?_ ?_
  ·intro i x U H2 hx hh
   refine cC λN kN0 kR0 _ _=>?_;let⟨s2,z,ps,u,rfl,h2,hc,hgo⟩:=hh;let⟨en,hen,ien⟩:=cT ilu hx;let⟨a6,q6,rfl,h6,h7⟩:=pF (ien.mono s2);let hle:=P9 (zC hen);rw[O0 hen] at hgo hc;rw[show G8 (en::List.drop (i+1) r.ends)=⇑en.2+G8 (List.drop (i+1) r.ends) from rfl] at hc;left
   by_cases c1:en.1<=z
   ·refine bU (zg c1) ?_
    rw[hgo,BU (.inl c1)] at kk;change kk _ s2
   ·refine b9 (ze c1) ?_
    exists q6,_,rfl,.inr (cY.of h7),?_;intros p8 H8 s8 h8;let h68:=s8 _ _ h6;let h78:=s8 _ _ h7;exists q6,en.2,rfl,.inr (cY.of h78),nofun,λns np ns'=>?_;intros p9 H9 s9 h9;let h69:=s9 _ _ h68;let h79:=s9 _ _ h78;let h29:=s9 _ _ (s8 _ _ h2);rw[Bt np ns'] at h9;refine{p8,p9,_,_,rfl,rfl,.inl {aH.of (s9 _ _ h8),aH.of h9},.inr (.inr {qI _,qI _}),?_};rw[LB]
    by_cases c2:en.2=sortI en.2
    ·rw[zg c2]
     rw[Gb c1 c2] at hgo;exists .inl {rfl,_,aH.of h29},?_;left;refine .inr {pp,q6,_,_,rfl,rfl,h29,h79,by rw[za,za];omega,?_};left;let s29:=(s2.trans s8).trans s9;refine{λb o hb=>?_,en.1,ps++en.2,_,rfl,by rw[aB,zk],by rw[zh];omega,hgo};let ne:b≠pp:=λz=>by rw[z,hn] at hb;cases hb
     rw[aC ne];exact s29 b o hb
    ·rw[ze c2]
     rw[hgo,BU (.inr c2)] at kk;change kk _ ((s2.trans s8).trans s9)
  ·rintro U H2 ⟨s2,z,ps,u,rfl,h2,hc,hgo⟩
   rw[ul,List.drop_length] at hgo hc;rw[hgo] at kk;let ha2:=s2 _ _ ha;unfold fP at kk;simp only at kk;rw[show G8 []=0 from rfl] at hc;left
   by_cases c1:z<=r.last
   ·rw[zg c1,Bool.true_and] at kk
    refine bU (zg c1) ?_;exists pp,ps,rfl,.inl (aH.of h2),nofun,λns np ns'=>?_;intros p9 H9 s9 h9;rw[Bt np ns'] at h9;let ha9:=s9 _ _ ha2;exists 1,r.times+1,rfl,{∅,(by decide),nofun,nofun},nofun,?_;intros p10 H10 s10 h10;refine{p9,p10,_,_,rfl,rfl,.inl {aH.of (s10 _ _ h9),aH.of h10},.inr (.inr {qI _,qI _}),?_};rw[LB];exact kk _ ((s2.trans s9).trans s10)
   ·rw[ze c1,Bool.false_and] at kk
    refine b9 (ze c1) ?_;exact kk _ s2
def JH {xs:List V} {x:V} (h:xs[⇑xs-1]?=some x):B5 xs (-1)=some x:=by
 let hp:0<⇑xs:=by
  have:=(zy.mp h).1;omega
 let ne:xs≠[]:=yr.mp hp;let e:=List.dropLast_concat_getLast ne;let e2:xs.getLast ne=x:=by
  have:=(zy.mp h).2;rw[List.getLast_eq_getElem];exact this
 rw[<-e,e2];exact L2.rF _ _
inductive vZ (K:yB) (vs:List V) (H:Hp) (Q:VK) (E:XK):Prop
 | mk (p:Addr) (rs:List Rep) (v:V) (r:Rep) (_:vs=[.ref p,v]) (_:Bj K H p rs) (_:Is H (gq r) v) (_:G8 r.ends<64) (_:-1000000<=r.times) (_:r.times<=1000000) (_:∀H',au H H'->Q (.bl (kX rs r)) H')
def wX:cV P w base 2 T.mT (vZ K):=by
 nomatch T.mT,["repeats","repeat"]
 let⟨p,rs,v,r,rfl,⟨vs,hp,il⟩,iv,ht,t0,t1,kk⟩:=h;let⟨a,e,rfl,ha,he⟩:=dB iv;let vl:=aO il;let tail:(∀H',au H H'->Q (.bl (decide (r.first<=r.last)&&fQ r)) H')->(if decide (r.first<=r.last)=true then gK tV [] E0 (bR (aX 1) eD) [some (.ref p),some (.ref a)] H Q else Q (.bl false) H):=by
  intro k
  by_cases c:r.first<=r.last
  ·rw[zg c,Bool.true_and] at k
   refine bU (zg c) ?_;exact{_,rfl,_,r,rfl,iv,ht,t0,t1,k}
  ·rw[ze c,Bool.false_and] at k
   refine b9 (ze c) ?_;exact k _ (au.refl _)
 refine{_,(af (aG (PW.pt (dn (ptr fi (d9 aE T.bF (ah (pv 0) ag)) ae) (cQ (ptr fN (bG (pv 1) ae) (bG (fw (pv 0) (mV iT ae)) ae)))))
  (aj (ao ky))
  ax)
  (aj (ao (pf (dF fN (bG (pv 1) ae) (bG (pv 1) ae) (gY _)) (mW (bN (FH T) hr T.xu (ah (pv 1) ag))))))),?_}
 ac_rfl;exists p,_,rfl,.inl hp,?_;rw[vl];left
 by_cases h0:0<⇑rs
 ·refine bU (zg nofun) ?_
  let hi:⇑rs-1<⇑vs:=nofun
  let⟨q,hq,iq⟩:=cT il (zd hi);let⟨b,eb,evb,hb,_⟩:=dB iq;let eg:rs.getLast?=some q:=by rw[List.getLast?_eq_getElem?];exact hq
  unfold kX at kk;rw[eg] at kk;left;refine{p,vs,-1,_,rfl,rfl,hp,JH (by rw[vl];exact zd hi),?_};rw[evb];left
  by_cases c:r.first<=q.last
  ·refine bU (zg c) ?_
   simp only[if_pos c] at kk;change kk _ (au.refl _)
  ·refine b9 (ze c) ?_
   simp only[if_neg c] at kk;change tail kk
 ·refine b9 (ze nofun) ?_
  let e0:rs=[]:=yt.mp nofun;unfold kX at kk;rw[e0] at kk;change tail kk
def B7 (x:Sc.Lv):Prop:=0<=x.aP.1/\x.aP.1<=1000/\0<x.aP.2/\x.aP.2<=1000
inductive Uq (C:Addr) (H:Hp) (a:Addr) (o:Ow):Prop
 | mk (ub jm:V) (_:H a=some (.ins C o.dx (Of o ub jm)))
structure S5 (C:Addr) (H:Hp) (a:Addr) (S:bW) (o:Ow):Prop where
 obj:Uq C H a o
 ba:NO H kJ o.ba S.aK
def S5.of {C a:Addr} {H:Hp} {S:bW} {o:Ow} (h:bY C H a S o):S5 C H a S o:={by let⟨ub,jm,h1,_⟩:=h.obj;exact{(ub),jm,h1},h.ba}
inductive uz (C:Addr) (vs:List V) (H:Hp) (Q:VK) (E:XK):Prop
 | mk (a:Addr) (S:bW) (o:Ow) (b:Nat) (_:vs=[.ref a,.int b]) (_:S5 C H a S o) (_:b<⇑S.aK) (_:(∀x∈S.aK,B7 x)) (_:∀p H',au H H'->H' p=some (jw (S.aP b))->Q (.ref p) H')
def Rj {H:Hp} {b:Sc.Lv} {v:V} (h:Is H (kJ b) v):∃a m q,v=.ref a/\H a=some (.tup [.ref m,.int b.key,.ref q])/\H m=some (jw b.aP):=by
 unfold kJ Is at h;let⟨a,vs,rfl,ha,hl⟩:=h;unfold aD at hl;let⟨v1,r1,rfl,h1,hl⟩:=hl;unfold aD at hl;let⟨v2,r2,rfl,h2,hl⟩:=hl;unfold aD at hl;let⟨v3,r3,rfl,h3,hl⟩:=hl;unfold aD at hl;subst hl;unfold Is at h2;subst h2;unfold mr Is at h3;let⟨q,us,rfl,hq,hle⟩:=h3;have:=fc (o:=some b.aP) h1;cases this with
 | ref hm=>exact{a,_,q,rfl,ha,hm}
def mf {C:Addr} (F:Cf K C):cV P w base 3 T.iw (uz C):=by
 nomatch T.iw,["score","bar","metre"]
 let⟨a,S,o,b,rfl,sc,hb,b7,kk⟩:=h;let⟨ub,jm,ho⟩:=sc.obj;let⟨vs,hv,il⟩:=sc.ba;let hi:b<⇑vs:=by rw[aO il];exact hb
 let⟨x,hx,ix⟩:=cT il (zd hi);let⟨a1,m,q,ev,h1,hm⟩:=Rj ix;let⟨k1,k2,k3,k4⟩:=b7 x (zC hx);unfold bW.aP at kk;rw[hx] at kk;refine{_,(af (bJ 2 qN (bG (fw (bK (pv 0) rfl) (pv 1)) ae))
  (aj (ao (bN (i7 T) hr T.eJ (ah (bG (pv 2) ae) (ah (bG (pv 2) ae) ag)))))),?_}
 ac_rfl;exists a,C,o.dx,_,_,rfl,ho,F.cls,F.aK,rfl,?_;left;refine{o.ba,vs,b,_,rfl,rfl,aH.of hv,bC (zd hi),?_};rw[ev];change{_,_,rfl,k1,k3,(cm (n:=10) nofun nofun).mono ∅,λp H' s' h'=>kk p H' s' h'}
inductive vY (C:Addr) (vs:List V) (H:Hp) (Q:VK) (E:XK):Prop
 | mk (a:Addr) (S:bW) (o:Ow) (b:Nat) (_:vs=[.ref a,.int b]) (_:bY C H a S o) (_:b<⇑S.aK) (_:(∀x∈S.aK,B7 x)) (_:∀p H',au H H'->H' p=some (jw (S.len b))->Q (.ref p) H')
def mZ {C:Addr} (F:Cf K C):cV P w base 4 T.jy (vY C):=by
 nomatch T.jy,["score","bar"]
 let⟨a,S,o,b,rfl,sc,hb,b7,kk⟩:=h;let⟨ub,jm,ho,hub,hjm⟩:=sc.obj;unfold bW.len at kk;refine{_,(af (aG (PW.pt (dn (ptr cW (pv 1) ae) (cQ (bE (fM (bK (pv 0) rfl))))))
  (aj (ao (bK (pv 0) rfl)))
  ax)
  (aj (ao (bN (mf T F) hr T.iw (ah (pv 0) (ah (pv 1) ag)))))),?_}
 ac_rfl;left
 by_cases c:b=0
 ·refine bU (by rw[c];rfl) ?_
  exists a,C,o.dx,_,_,rfl,ho,F.cls,F.aF,rfl,?_;cases q:S.aF with
  | none=>
   rw[q] at kk hub;unfold dO Is at hub;subst hub;change{a,S,o,b,rfl,.of sc,hb,b7,kk}
  | some u=>
   rw[q] at kk hub;cases fc (o:=some u) hub with
   | ref hu=>
    exists a,C,o.dx,_,_,rfl,ho,F.cls,F.aF,rfl,?_;refine kk _ _ (au.refl _) ?_;simp only[if_pos c];exact hu
 ·refine b9 (ze λz=>c (by have:=V.int.inj z;omega)) ?_
  left;refine{a,S,o,b,rfl,.of sc,hb,b7,λp H' s' h'=>kk p H' s' ?_};cases q:S.aF with
  | none=>exact h'
  | some u=>simp only[if_neg c];exact h'
theorem kC (n:Str):∀ns:List Str,Di (.str n) (ns.map V.str)=decide (n∈ns)
 | []=>rfl
 | m::ns=>by
  let ih:=kC n ns;unfold Di at ih ⊢;rw[zj,List.any_cons,ih]
  by_cases e:n=m
  ·subst e
   simp[Ib]
  ·let e':¬m=n:=λz=>e z.symm
   simp[Ib,e,e']
theorem iQ:∀ns:List Str,(ns.map V.str).all mn=true
 | []=>rfl
 | n::ns=>by rw[zj,List.all_cons,iQ ns];rfl
inductive fh (C:Addr) (D:Hp->V->bW->Option Str->Prop) (vs:List V) (H:Hp) (Q:VK) (E:XK):Prop
 | mk (a:Addr) (S:bW) (o:Ow) (v:V) (f:Option Str) (_:vs=[.ref a,v]) (_:bY C H a S o) (_:D H v S f) (_:∀H',au H H'->Q (os f) H')
def lZ (C:Addr):Sp:=fh C λ_ v S f=>∃n,v=.str n/\f=fault S (.bH n)
def uS {C:Addr} (F:Cf K C):cV P w base 1 T.ig (lZ C):=by
 nomatch T.ig,["score","player"]
 let⟨a,S,o,v,f,rfl,sc,⟨n,rfl,rfl⟩,kk⟩:=h;let⟨ub,jm,ho,hub,hjm⟩:=sc.obj;let k:=kk H (au.refl H);unfold fault at k;dsimp only at k;refine{_,(af (aG (gB iP (pv 1) (bK (pv 0) rfl) (by with_unfolding_all rfl))
  (aj (ao aL))
  ax)
  (af (aG (ptr Fy (d9 aE T.bF (ah (bK (pv 0) rfl) ag)) (bX (v:=.int (12)) (by rfl) T.xW {_,rfl}))
  (aj (ao aL))
  ax)
  (aj (ao aR)))),?_}
 ac_rfl;exists a,C,o.dx,_,_,rfl,ho,F.cls,F.players,rfl,?_;refine{o.pl,_,rfl,.inl (aH.of sc.pl),rfl,iQ _,?_};show∃k,V.bl (Di (.str n) (S.players.map V.str))=.bl k/\_;rw[kC]
 by_cases c1:n∈S.players
 ·rw[zg c1]
  rw[if_pos c1] at k;change k
 ·rw[ze c1]
  rw[if_neg c1] at k;exists a,C,o.dx,_,_,rfl,ho,F.cls,F.players,rfl,?_;exists o.pl,_,rfl,.inl (aH.of sc.pl),?_;rw[za];left
  by_cases c2:12<=⇑S.players
  ·refine bU (zg nofun) ?_
   rw[if_pos c2] at k;change k
  ·refine b9 (ze nofun) ?_
   rw[if_neg c2] at k;change k
def qg (C:Addr):Sp:=fh C λ_ _ S f=>∃b,f=fault S (.bar b)
def C5 {C:Addr} (F:Cf K C):cV P w base 1 T.og (qg C):=by
 nomatch T.og,["score","told"]
 let⟨a,S,o,v,f,rfl,sc,⟨b,rfl⟩,kk⟩:=h;let⟨ub,jm,ho,hub,hjm⟩:=sc.obj;let⟨vs,hv,il⟩:=sc.ba;let vl:=aO il;let k:=kk H (au.refl H);unfold fault at k;dsimp only at k;refine{_,(af (aG (ptr Fy (d9 aE T.bF (ah (bK (pv 0) rfl) ag)) (bX (v:=.int (200)) (by rfl) T.GA {_,rfl}))
  (aj (ao aL))
  ax)
  (aj (ao aR))),?_}
 ac_rfl;exists a,C,o.dx,_,_,rfl,ho,F.cls,F.aK,rfl,?_;exists o.ba,_,rfl,.inl (aH.of hv),?_;rw[vl];left
 by_cases c2:200<=⇑S.aK
 ·refine bU (zg nofun) ?_
  rw[if_pos c2] at k;change k
 ·refine b9 (ze nofun) ?_
  rw[if_neg c2] at k;change k
theorem pW (n:Str):∀{ks:List Str} {vs:List V},⇑vs=⇑ks->(cR ((ks.map kS).zip vs) (kS n)).isSome=decide (n∈ks)
 | [],_,_=>by simp[cR]
 | k::ks,[],h=>by simp at h
 | k::ks,v::vs,h=>by
  let ih:=pW n (ks:=ks) (vs:=vs) (by simpa using h);rw[zj,List.zip_cons_cons];unfold cR at ih ⊢;rw[List.find?_cons]
  by_cases e:k=n
  ·subst e
   simp
  ·let e1:¬kS k=kS n:=λz=>e (Sum.inr.inj z)
   let e2:¬n=k:=λz=>e z.symm;simp only[e1,decide_false] at ih ⊢;rw[ih];simp[e2]
def hX (C:Addr):Sp:=fh C λH v S f=>∃x,Is H (d7 x) v/\f=fault S (.cL x.1 x.2.1 x.2.2)
def FY {H:Hp} {x:Str×(Int×Int)×(Int×Int)} {v:V} (h:Is H (d7 x) v):∃a t l,v=.ref a/\H a=some (.tup [.str x.1,t,l])/\Is H (dL x.2.1) t/\Is H (dL x.2.2) l:=by
 unfold d7 Is at h;let⟨a,vs,rfl,ha,hl⟩:=h;unfold aD at hl;let⟨v1,r1,rfl,h1,hl⟩:=hl;unfold aD at hl;let⟨v2,r2,rfl,h2,hl⟩:=hl;unfold aD at hl;let⟨v3,r3,rfl,h3,hl⟩:=hl;unfold aD at hl;subst hl;unfold Is at h1;subst h1;exact{(a),v2,v3,rfl,ha,h2,h3}
def oq {C:Addr} (F:Cf K C):cV P w base 1 T.eU (hX C):=by
 nomatch T.eU,["score","told"]
 let⟨a,S,o,v,f,rfl,sc,⟨x,iv,rfl⟩,kk⟩:=h;let⟨ub,jm,ho,hub,hjm⟩:=sc.obj;let⟨vs,hv,il⟩:=sc.ins;let⟨a1,t,l,rfl,h1,_,_⟩:=FY iv;let vl:=aO il;let em:(S.ak.map λx=>kS x.1)=(S.ak.map (·.1)).map kS:=by rw[zB];rfl
 let k:=kk H (au.refl H);unfold fault at k;dsimp only at k;refine{_,(af (aG (bE (CT (fC hr) (bG (pv 1) ae) (bK (pv 0) rfl)))
  (aj (ao aL))
  ax)
  (af (aG (ptr Fy (d9 IA T.bF (ah (bK (pv 0) rfl) ag)) (bX (v:=.int (12)) (by rfl) T.pK {_,rfl}))
  (aj (ao aL))
  ax)
  (aj (ao aR)))),?_}
 ac_rfl;exists a,C,o.dx,_,_,rfl,ho,F.cls,F.ak,rfl,?_;refine{o.ins,_,rfl,.inl {_,kS x.1,.inl hv,rfl,rfl},?_};rw[em,pW x.1 (by rw[za];exact vl)];left
 by_cases c1:x.1∈S.ak.map (·.1)
 ·rw[zg c1]
  rw[if_pos c1] at k;change k
 ·rw[ze c1]
  rw[if_neg c1] at k;exists a,C,o.dx,_,_,rfl,ho,F.cls,F.ak,rfl,?_;exists o.ins,_,rfl,hv,?_;rw[List.length_zip,za,vl,Nat.min_self];left
  by_cases c2:12<=⇑S.ak
  ·refine bU (zg nofun) ?_
   rw[if_pos c2] at k;change k
  ·refine b9 (ze nofun) ?_
   rw[if_neg c2] at k;change k
inductive EU (K:yB) (C:Addr) (vs:List V) (H:Hp) (Q:VK) (E:XK):Prop
 | mk (a p:Addr) (S:bW) (o:Ow) (bs:List Int) (_:vs=[.ref a,.ref p]) (_:bY C H a S o) (_:aH K H p (bs.map V.int)) (_:⇑bs<=1000000) (_:∀H',au H H'->Q (.bl (S.has bs)) H')
def jH {C:Addr} (F:Cf K C):cV P w base 1 T.kD (EU K C):=by
 nomatch T.kD,["score","bars"]
 let⟨a,p,S,o,bs,rfl,sc,hp,hl,kk⟩:=h;let sl:=yC;refine{_,(aj (ao (d9 (oa rfl) T.Jo (ah (mX (ts:=["bar"]) (ys:=["score"]) (js:=[0]) (te:=(e9 (sM λi j=>.bl (decide (i<j))) (aX 0) (JY (T6 K) (bR (N6 K (aX 1) "bars") eD)))) (aZ (pv 1)) (fZ 0) bx (dF eZ (pv 0) (d9 aE T.bF (ah (bK (pv 1) rfl) ag)) (gY _))) ag)))),?_};ac_rfl;exists{_,hp},?_;refine eW (enc:=V.int) (ws:=bs) (λz=>.bl (decide (z<(⇑S.aK:Int)))) (λU=>∃v,U=[v,some (.ref a)]) nofun hp {(none),rfl} ?_ ?_
 ·rintro z U H1 R hz s1 ⟨_,rfl⟩ r
  let sc1:=sc.mono s1;let⟨ub,jm,ho,hub,hjm⟩:=sc1.obj;let⟨vs,hv,il⟩:=sc1.ba;let vl:=aO il;exists a,C,o.dx,_,_,rfl,ho,F.cls,F.aK,rfl,?_;exists o.ba,vs,rfl,.inl (aH.of hv),?_;rw[vl];change r _ _ _ (au.refl _) (by unfold Is;rfl) {_,rfl}
 ·intro D vs H1 s1 hD il
  let e:bs.map (λz=>Dt.bl (decide (z<(⇑S.aK:Int))))=(bs.map λz=>decide (z<(⇑S.aK:Int))).map Dt.bl:=by rw[zB];rfl
  rw[e] at il;rw[jZ il] at hD;refine{D,_,rfl,aH.of hD,?_};let e2:(bs.map λz=>decide (z<(⇑S.aK:Int))).all id=S.has bs:=by rw[List.all_map];rfl
  rw[e2];exact kk _ s1
inductive uA (K:yB) (vs:List V) (H:Hp) (Q:VK) (E:XK):Prop
 | mk (p:Addr) (us:List V) (its:List Item) (_:vs=[.ref p]) (_:aH K H p us) (_:aD H (its.map eM) us) (_:⇑its<=500) (_:(∀it∈its,NW it.2)) (_:∀r H',au H H'->H' r=some (jw (jU its))->Q (.ref r) H')
def rT (l:List Item) (it:Item):jU (l++[it])=add (jU l) it.2:=by unfold jU;rw[zY];rfl
def uT:cV P w base 4 T.lD (uA K):=by
 nomatch T.lD,["items","length","item"]
 let⟨p,us,its,rfl,hp,il,hl,b7,kk⟩:=h;let sl:=yC;let ul:=aO il;refine{_,(af (bJ 1 qN (bz (ah ae (ah ae ag))))
  (af (b8 PassesOwn.never rfl (aZ (pv 0)) (iZ 2 qN)
  (aj (bJ 1 qN (bN (FI T) hr T.added (ah (pv 1) (ah (bG (pv 2) ae) ag))))))
  (aj (ao (pv 1))))),?_}
 ac_rfl;exists cH,?_;intros p1 H1 s1 h1;exists{_,s1.seq hp},?_;refine dr (K:=K) (a:=p) (xs:=us) (λi U H'=>au H H'/\∃q v,U=[some (.ref p),some (.ref q),v]/\H' q=some (jw (jU (its.take i)))/\Lm.Rd (jU (its.take i))/\y8 (15*i+1) (jU (its.take i))) {s1,p1,none,rfl,h1,?_,?_} (λi U H' _ h=>h.1.seq hp) ?_ ?_
 ·exact Lm.Rd.zero
 ·show y8 1 (0,1)
  exact{cm ∅ ∅,cm ∅ ∅}
 ·rintro i x U H2 hx ⟨s2,q,v,rfl,hq,rq,zq⟩
  let⟨it,hit,iit⟩:=cT il hx;let⟨a6,pv,lv,rfl,h6,_,i8⟩:=item_at (iit.mono s2);let hi:i<⇑its:=(zy.mp hit).1;let⟨ok1,SV,Uv,ok4⟩:=b7 it (zC hit);cases fc (o:=some it.2) i8 with
  | ref h8=>
   let zi:y8 14 it.2:={cm nofun nofun,cm (by have:=ok1.pos;omega) nofun}
   exists _,_,_,_,_,_,rfl,hq,h8,rq,ok1,zq,zi,nofun,λr H3 s3 h3=>?_;let e:=cM hit;refine{s2.trans s3,r,_,rfl,?_,?_,?_}
   ·rw[e,rT];exact h3
   ·rw[e,rT];exact rq.add ok1
   ·rw[e,rT];exact{(y8.add rq ok1 zq zi).1.mono nofun,(y8.add rq ok1 zq zi).2.mono nofun}
 ·rintro U H2 ⟨s2,q,v,rfl,hq,_,_⟩
  rw[ul,zN] at hq;change kk _ _ s2 hq
def El (S:bW):Prop:=∀r∈S.repeats,⇑r.ends<=1000000
def oA (C:Addr):Sp:=fh C λH v S f=>∃j,Is H (jP j) v/\El S/\f=fault S (.bT j)
def F6 {l:List V} {i:Nat} {x:V} (h:l[i]?=some x):(l.take (i+1)).filter (λv=>!gd v)=(l.take i).filter (λv=>!gd v)++(if gd x=true then [] else [x]):=by
 rw[cM h,List.filter_append];cases q:gd x with
 | true=>simp[q]
 | false=>simp[q]
def AK {C:Addr} (F:Cf K C):cV P w base 5 T.lC (oA C):=by
 nomatch T.lC,["score","jump"]
 let⟨a,S,o,v,f,rfl,sc,⟨j,iv,rok,rfl⟩,kk⟩:=h;let sl:=yC;let⟨ub,jm,ho,hub,hjm⟩:=sc.obj;let⟨vs,hv,il⟩:=sc.re;let⟨a1,rfl,h1⟩:=vD iv;unfold fault at kk;dsimp only at kk;refine{_,(af (aG (bE (fM (bK (pv 0) rfl)))
  (aj (ao aL))
  ax)
  (af (aG (eI (cI (bN (jH T F) hr T.kD (ah (pv 0) (ah (mX (ts:=["bar"]) (ys:=[]) (js:=[]) (g:=(bS 0)) (tc:=(tB (LN (aX 0)))) (te:=(aX 0)) (iY (pv 1)) (fZ 0) (fL (bE (fM (pv 0)))) (pv 0)) ag)))))
  (aj (ao aL))
  ax)
  (af (aG (eI (cI (bN (C3 T) hr T.tm (ah (bK (pv 0) rfl) (ah (pv 1) ag)))))
  (aj (ao aL))
  ax)
  (aj (ao aR))))),?_}
 ac_rfl;exists a,C,o.dx,_,_,rfl,ho,F.cls,F.bT,rfl,?_;cases q:S.bT with
 | some j'=>
  rw[q] at hjm kk;let⟨a2,rfl,_⟩:=vD hjm;change kk _ (au.refl _)
 | none=>
  rw[q] at hjm kk;unfold dO Is at hjm;subst hjm;rw[if_neg ∅] at kk;exists{_,cY.of h1},?_;generalize hw:[V.int j.vE,V.int j.y7,V.int j.dy,ov j.gw]=ws at h1;let wl:⇑ws=4:=by rw[<-hw];rfl
  refine nu ⇑ws (λi=>(ws.take i).filter λv=>!gd v) (λi U H'=>H'=H/\∃v,U=[v]) (λi hi=>zM (List.length_filter_le _ _) (by rw[zQ];omega)) nofun rfl {(rfl),none,rfl} ?_ ?_ ?_ ?_
  ·rintro i U H' hi ⟨rfl,_⟩
   exact Dn (cY.of h1) hi
  ·rintro U H' ⟨rfl,_⟩
   exact{_,cY.of h1,zm _}
  ·rintro i x U H' H2 hi ⟨rfl,v,rfl⟩ ⟨rfl,hy⟩
   let hx:=hy _ (cY.of h1);left
   by_cases e:x=.bI
   ·refine b9 (by rw[zg e];rfl) ?_
    refine GW.skip hi ?_ {rfl,_,rfl};show List.filter _ (List.take (i+1) ws)=List.filter _ (List.take i ws);rw[F6 hx,if_pos (show gd x=true from zg e),zV]
   ·refine bU (by rw[ze e];rfl) ?_
    left;refine GW.push hi ?_ {rfl,_,rfl};show List.filter _ (List.take (i+1) ws)=List.filter _ (List.take i ws)++[x];rw[F6 hx,if_neg (by unfold gd;rw[ze e];decide)]
  ·rintro U H' ⟨rfl,_⟩
   rw[zN];let ef:(ws.filter λv=>!gd v)=([j.vE,j.y7,j.dy]++j.gw.toList).map V.int:=by
    rw[<-hw];cases j.gw <;> rfl
   rw[ef];intros D H2 s2 h2;refine{a,D,S,o,_,rfl,sc.mono s2,aH.of h2,?_,λH3 s3=>?_}
   ·cases j.gw <;> simp
   ·cases qb:S.has ([j.vE,j.y7,j.dy]++j.gw.toList) with
    | false=>
     rw[qb] at kk;change kk _ (s2.trans s3)
    | true=>
     rw[qb,if_neg (by simp)] at kk;let s03:=s2.trans s3;let sc3:=sc.mono s03;exists a,C,o.dx,_,_,rfl,s03 _ _ ho,F.cls,F.repeats,rfl,?_;exists o.re,S.repeats,_,j,rfl,{vs,aH.of (s03 _ _ hv),il.mono s03},rok,iv.mono s03,λH4 s4=>?_;cases qj:gR S.repeats j with
     | false=>
      rw[qj] at kk;change kk _ (s03.trans s4)
     | true=>
      rw[qj,if_neg (by simp)] at kk;change kk _ (s03.trans s4)
def lY (C:Addr):Sp:=fh C λH v S f=>∃r:Rep,Is H (gq r) v/\G8 r.ends<64/\⇑r.ends<=1000/\-1000000<=r.times/\r.times<=1000000/\f=fault S (.rep r)
def uR {C:Addr} (F:Cf K C):cV P w base 3 T.ic (lY C):=by
 nomatch T.ic,["score","repeat"]
 let⟨a,S,o,v,f,rfl,sc,⟨r,iv,ht,hl,t0,t1,rfl⟩,kk⟩:=h;let sl:=yC;let⟨ub,jm,ho,hub,hjm⟩:=sc.obj;let⟨vs,hv,il⟩:=sc.re;let vl:=aO il;let⟨a1,e,rfl,h1,he⟩:=dB iv;unfold Is at he;let⟨e',us,ee,hu,ilu⟩:=he;cases ee;unfold fault at kk;dsimp only at kk;refine{_,(af (aG (eI (cI (bN (jH T F) hr T.kD (ah (pv 0) (ah (aq gC (aY (ah (bG (pv 1) ae) (ah (bG (pv 1) ae) ag))) (mX (ts:=["end"]) (ys:=[]) (js:=[]) (te:=(e9 (mC K) (aX 0) (tC (.int (0))))) (iY (bG (pv 1) ae)) (fZ 0) bx (bG (pv 0) ae))) ag)))))
  (aj (ao aL))
  ax)
  (af (aG (PW.pt (dY (bE (fM (bK (pv 0) rfl))) (dw (eI (cI (bN (wX T) hr T.mT (ah (bK (pv 0) rfl) (ah (pv 1) ag))))))))
  (aj (ao aL))
  ax)
  (af (aG (ptr Fy (d9 aE T.bF (ah (bK (pv 0) rfl) ag)) (bX (v:=.int (20)) (by rfl) T.xV {_,rfl}))
  (aj (ao aL))
  ax)
  (aj (ao aR))))),?_}
 ac_rfl;exists cH,?_;intros p2 H2 s2 h2;let h12:=s2 _ _ h1;exists{_,cY.of (s2 _ _ hu)},?_;let⟨ps,f1,f2,f3⟩:=qZ ilu;let pl:⇑ps<=1000:=by
  have:⇑ps=⇑r.ends:=by rw[<-f1,za]
  omega
 refine gr (enc:=λz:Sc.End×V=>z.2) (ws:=ps) (λz=>.int z.1.1) (λU=>∃v,U=[v]) nofun (by rw[f2];exact s2 _ _ hu) {(none),rfl} ?_ ?_
 ·rintro z U H6 R' hz s6 ⟨_,rfl⟩ r'
  let⟨a6,q6,ev,h6,h7⟩:=pF (f3 z hz);rw[ev];let h66:=s6 _ _ (s2 _ _ h6);change r' _ _ _ (au.refl _) cE {_,rfl}
 ·intro D vs5 H3 s3 hD il5
  let e5:ps.map (λz=>Dt.int z.1.1)=(r.ends.map (·.1)).map Dt.int:=by rw[<-f1,zB,zB];rfl
  rw[e5] at il5;rw[dS il5] at hD;refine{p2,D,_,_,rfl,rfl,aH.of (s3 _ _ h2),aH.of hD,by rw[za,za];show 2+_<=_;omega,?_};rw[show [V.int r.first,V.int r.last]++List.map V.int (r.ends.map (·.1))=([r.first,r.last]++r.ends.map (·.1)).map V.int from by rw[zk];rfl];intros p4 H4 s4 h4;let s04:=(s2.trans s3).trans s4;refine{a,p4,S,o,_,rfl,sc.mono s04,aH.of h4,by rw[zh,za];show 2+_<=_;omega,λH5 s5=>?_};let s05:=s04.trans s5;cases qb:S.has ([r.first,r.last]++r.ends.map (·.1)) with
  | false=>
   rw[qb] at kk;change kk _ s05
  | true=>
   rw[qb,if_neg (by simp)] at kk;exists a,C,o.dx,_,_,rfl,s05 _ _ ho,F.cls,F.bT,rfl,?_;cases q:S.bT with
   | some j'=>
    rw[q] at hjm kk;let⟨a2,rfl,_⟩:=vD hjm;change kk _ s05
   | none=>
    rw[q] at hjm kk;unfold dO Is at hjm;subst hjm;rw[if_neg ∅] at kk;exists a,C,o.dx,_,_,rfl,s05 _ _ ho,F.cls,F.repeats,rfl,?_;exists o.re,S.repeats,_,r,rfl,{vs,aH.of (s05 _ _ hv),il.mono s05},iv.mono s05,ht,t0,t1,λH6 s6=>?_;let s06:=s05.trans s6;cases qj:kX S.repeats r with
    | false=>
     rw[qj] at kk;change kk _ s06
    | true=>
     rw[qj,if_neg (by simp)] at kk;exists a,C,o.dx,_,_,rfl,s06 _ _ ho,F.cls,F.repeats,rfl,?_;exists o.re,vs,rfl,.inl (aH.of (s06 _ _ hv)),?_;rw[vl];left
     by_cases c2:20<=⇑S.repeats
     ·refine bU (zg nofun) ?_
      rw[if_pos c2] at kk;change kk _ s06
     ·refine b9 (ze nofun) ?_
      rw[if_neg c2] at kk;change kk _ s06
theorem EC (n:Int×Str):∀{ks:List (Int×Str)} {vs:List V},⇑vs=⇑ks->(cR ((ks.map kN).zip vs) (kN n)).isSome=decide (n∈ks)
 | [],_,_=>by simp[cR]
 | k::ks,[],h=>by simp at h
 | k::ks,v::vs,h=>by
  let ih:=EC n (ks:=ks) (vs:=vs) (by simpa using h);rw[zj,List.zip_cons_cons];unfold cR at ih ⊢;rw[List.find?_cons]
  by_cases e:k=n
  ·subst e
   simp
  ·let e1:¬kN k=kN n:=λz=>e (by
    unfold kN at z;simp at z;exact Prod.ext z.1 z.2)
   let e2:¬n=k:=λz=>e z.symm;simp only[e1,decide_false] at ih ⊢;rw[ih];simp[e2]
theorem nU {α:Type} {d:α->Dt} {H:Hp}:∀{ls:List (List α)} {as:List Addr},cg H d ls as->⇑as=⇑ls
 | [],_,h=>by unfold cg at h;rw[h];rfl
 | l::r,_,⟨a,t,vs,e,_,_,h3⟩=>by rw[e,zv,zv,nU h3]
def OE {x y:Int×Int}:decide ([V.int x.1,V.int x.2]=[V.int y.1,V.int y.2])=decide (x=y):=by
 by_cases h:x=y
 ·subst h;simp
 ·rw[ze h,ze]
  intro z;simp at z;exact h (Prod.ext z.1 z.2)
def mR (C:Addr):Sp:=fh C λH v S f=>∃x:Int×Str×List Item,JK H v x/\0<=x.1/\⇑x.2.2<=500/\(∀it∈x.2.2,NW it.2)/\(∀b∈S.aK,B7 b)/\f=fault S (.aI x.1 x.2.1 x.2.2)
def w8 {C:Addr} (F:Cf K C):cV P w base 5 T.jI (mR C):=by
 nomatch T.jI,["score","told","bar","player","items"]
 let⟨a,S,o,v,f,rfl,sc,⟨⟨b,pn,its⟩,⟨a1,q,us,rfl,h1,hq,ilq⟩,b0,il5,iok,bok,rfl⟩,kk⟩:=h;let sl:=yC;let⟨ub,jm,ho,hub,hjm⟩:=sc.obj;let nl:⇑(o.ns.map V.ref)=⇑(S.aI.map (·.1)):=by rw[za,za,nU sc.no.2,za]
 let em:(S.aI.map λx=>kN x.1)=(S.aI.map (·.1)).map kN:=by rw[zB];rfl
 unfold fault at kk;dsimp only at kk h1 b0 il5 iok ilq;refine{_,(af (bJ 2 qN (bG (pv 1) ae))
  (af (bJ 3 qN (bG (pv 1) ae))
  (af (bJ 4 qN (bG (pv 1) ae))
  (af (aG (bE (CT (fC hr) (bz (ah (pv 2) (ah (pv 3) ag))) (bK (pv 0) rfl)))
  (aj (ao aL))
  ax)
  (af (aG (gB eQ (pv 3) (bK (pv 0) rfl) (by with_unfolding_all rfl))
  (aj (ao aL))
  ax)
  (af (aG (eI (cI (bN (jH T F) hr T.kD (ah (pv 0) (ah (aY (ah (pv 2) ag)) ag)))))
  (aj (ao aL))
  ax)
  (af (aG (ptr (wV hr.units) (bN (uT T) hr T.lD (ah (pv 4) ag)) (bN (mZ T F) hr T.jy (ah (pv 0) (ah (pv 2) ag))))
  (aj (ao aL))
  ax)
  (af (aG (ptr fi (d9 aE T.bF (ah (pv 4) ag)) (bX (v:=.int (40)) (by rfl) T.DT {_,rfl}))
  (aj (ao aL))
  ax)
  (aj (ao aR)))))))))),?_}
 ac_rfl;exists cH,?_;intros p2 H2 s2 h2;let h12:=s2 _ _ h1;exists a,C,o.dx,_,_,rfl,s2 _ _ ho,F.cls,F.aI,rfl,?_;refine{o.no,_,rfl,.inr {_,kN (b,pn),p2,.inl (s2 _ _ sc.no.1),rfl,h2,rfl},?_};rw[em,EC (b,pn) nl];left
 by_cases c1:(b,pn)∈S.aI.map (·.1)
 ·rw[zg c1]
  rw[if_pos c1] at kk;change kk _ s2
 ·rw[ze c1]
  rw[if_neg c1] at kk;exists a,C,o.dx,_,_,rfl,s2 _ _ ho,F.cls,F.players,rfl,?_;refine{o.pl,_,rfl,.inl (aH.of (s2 _ _ sc.pl)),rfl,iQ _,?_};show∃k,V.bl (!Di (.str pn) (S.players.map V.str))=.bl k/\_;rw[kC]
  by_cases c2:pn∈S.players
  ·rw[zg c2]
   rw[if_neg (λz=>z c2)] at kk;exists by show 1<=sizeLine;omega,?_
   intros p3 H3 s3 h3;refine{a,p3,S,o,[b],rfl,sc.mono (s2.trans s3),aH.of h3,(by show 1<=1000000;decide),λH4 s4=>?_};let s04:=(s2.trans s3).trans s4;cases qb:S.has [b] with
   | false=>
    rw[qb] at kk;change kk _ s04
   | true=>
    rw[qb,if_neg (by simp)] at kk;let hb:b<⇑S.aK:=by
     unfold bW.has at qb
     simpa using qb
    let⟨n,rfl⟩:=yL b0;exists q,us,its,rfl,aH.of (s04 _ _ hq),ilq.mono s04,il5,iok,λr5 H5 s5 h5=>?_;exists a,S,o,n,rfl,sc.mono (s04.trans s5),nofun,bok,λr6 H6 s6 h6=>?_;let s06:=(s04.trans s5).trans s6;refine{r5,r6,_,_,rfl,rfl,.inr {cY.of (s6 _ _ h5),cY.of h6},.inr (.inr {(rfl),rfl}),?_};rw[OE]
    by_cases c3:jU its=S.len n
    ·rw[zg c3]
     rw[if_neg (λz=>z c3)] at kk;exists q,us,rfl,.inl (aH.of (s06 _ _ hq)),?_;rw[aO ilq];left
     by_cases c4:40<⇑its
     ·refine bU (zg nofun) ?_
      rw[if_pos c4] at kk;change kk _ s06
     ·refine b9 (ze nofun) ?_
      rw[if_neg c4] at kk;change kk _ s06
    ·rw[ze c3]
     rw[if_pos (show jU its≠S.len ((n:Int)).toNat from c3)] at kk;change kk _ s06
  ·rw[ze c2]
   rw[if_pos c2] at kk;change kk _ s2
def both {c:Bool} {T:(Bool->Hp->Prop)->Prop} {Z:Bool->Hp->Prop} {H:Hp} (v:Bool) (h1:c=true->∀Z,Z v H->T Z) (h2:c=false->v=false) (hz:Z v H):if c=true then T Z else Z false H:=by
 cases c with
 | true=>rw[if_pos rfl];exact h1 rfl Z hz
 | false=>rw[if_neg (by simp)];rw[<-h2 rfl];exact hz
theorem BL {H:Hp} {α:Type} {d:α->Dt} (p:Str):∀{hs:List (Str×List α)} {as:List Addr},cg H d (hs.map (·.2)) as->
  (hs.lookup p=none/\cR ((hs.map λx=>kS x.1).zip (as.map V.ref)) (kS p)=none)\/∃l h vs,hs.lookup p=some l/\cR ((hs.map λx=>kS x.1).zip (as.map V.ref)) (kS p)=some (.ref h)/\H h=some (.lst vs)/\aD H (l.map d) vs
 | [],_,h=>.inl {rfl,by simp[cR]}
 | (x,l)::r,as,h=>by
  rw[zj] at h;unfold cg at h;let⟨a,t,vs,rfl,h1,h2,h3⟩:=h;rw[zj,zj,List.zip_cons_cons]
  by_cases e:x=p
  ·subst e
   refine .inr {l,a,vs,by rw[yq,beq_self_eq_true],?_,h1,h2};unfold cR;rw[List.find?_cons];simp
  ·let e1:¬kS x=kS p:=λz=>e (Sum.inr.inj z)
   let e2:(p == x)=false:=by simp;exact λz=>e z.symm
   let ih:=BL p h3;unfold cR at ih ⊢;rw[List.find?_cons,yq,e2];simp only[e1,decide_false];exact ih
def Sj {H:Hp} {x:Int×Str} {v:V} (h:Is H (JC x) v):∃a,v=.ref a/\H a=some (.tup [.int x.1,.str x.2]):=by
 unfold JC Is at h;let⟨a,vs,rfl,ha,hl⟩:=h;unfold aD at hl;let⟨v1,r1,rfl,h1,hl⟩:=hl;unfold aD at hl;let⟨v2,r2,rfl,h2,hl⟩:=hl;unfold aD at hl;subst hl;unfold Is at h1 h2;subst h1 h2;exact{(a),rfl,ha}
def Ju {H:Hp} {x:Str×Int×Str} {v:V} (h:Is H (um x) v):∃a,v=.ref a/\H a=some (.tup [.str x.1,.int x.2.1,.str x.2.2]):=by
 unfold um Is at h;let⟨a,vs,rfl,ha,hl⟩:=h;unfold aD at hl;let⟨v1,r1,rfl,h1,hl⟩:=hl;unfold aD at hl;let⟨v2,r2,rfl,h2,hl⟩:=hl;unfold aD at hl;let⟨v3,r3,rfl,h3,hl⟩:=hl;unfold aD at hl;subst hl;unfold Is at h1 h2 h3;subst h1 h2 h3;exact{(a),rfl,ha}
def oB (C:Addr):Sp:=fh C λH v S f=>∃x:Str×Int×Str,Is H (um x) v/\f=fault S (.holds x.1 x.2.1 x.2.2)
def AL {C:Addr} (F:Cf K C):cV P w base 3 T.lG (oB C):=by
 nomatch T.lG,["score","told","bar","holds"]
 let⟨a,S,o,v,f,rfl,sc,⟨⟨pn,b,iN⟩,hd,rfl⟩,kk⟩:=h;let⟨a1,rfl,h1⟩:=Ju hd;let sl:=yC;let⟨ub,jm,ho,hub,hjm⟩:=sc.obj;unfold fault at kk;dsimp only at kk h1;refine{_,(af (bJ 2 qN (bG (pv 1) ae))
  (af (bJ 3 qN (Ft (fC hr) (bK (pv 0) rfl) (bG (pv 1) ae) (aY ag) {(rfl),rfl,rfl,rfl}))
  (af (aG (PW.pt (dn (ptr fi (d9 aE T.bF (ah (pv 3) ag)) ae) (cQ (ptr fN (pv 2) (bG (fw (pv 3) (mV iT ae)) ae)))))
  (aj (ao aL))
  ax)
  (af (aG (PW.pt (dY (gB eQ (bG (pv 1) ae) (bK (pv 0) rfl) (by with_unfolding_all rfl)) (dw (bE (sP (fC hr) (bG (pv 1) ae) (bK (pv 0) rfl))))))
  (aj (ao aL))
  ax)
  (af (aG (eI (cI (bN (jH T F) hr T.kD (ah (pv 0) (ah (aY (ah (pv 2) ag)) ag)))))
  (aj (ao aL))
  ax)
  (af (aG (ptr Fy (d9 aE T.bF (ah (pv 3) ag)) (bX (v:=.int (20)) (by rfl) T.DU {_,rfl}))
  (aj (ao aL))
  ax)
  (aj (ao aR)))))))),?_}
 ac_rfl;exists a,C,o.dx,_,_,rfl,ho,F.cls,F.holds,rfl,?_;refine{o.ho,rfl,.inl {_,.inl sc.ho.1},?_};exists by show 0<=sizeLine;omega,?_
 intros p2 H2 s2 h2;let h12:=s2 _ _ h1;refine{_,.inl {_,kS pn,.inl (s2 _ _ sc.ho.1),rfl,rfl},?_};obtain⟨h,vs,l,eh,hh,ilh,el⟩:∃h vs l,(cR ((S.holds.map λx=>kS x.1).zip (o.hs.map V.ref)) (kS pn)).getD (.ref p2)=.ref h/\H2 h=some (.lst vs)/\aD H2 (l.map JC) vs/\(S.holds.lookup pn).getD []=l:=by
  rcases BL (H:=H) pn sc.ho.2 with⟨e1,e2⟩ | ⟨l,h,vs,e1,e2,hh,il⟩
  ·exact{p2,[],[],by rw[e2];rfl,h2,by unfold aD;rfl,by rw[e1];rfl}
  ·exact{h,vs,l,by rw[e2];rfl,s2 _ _ hh,il.mono s2,by rw[e1];rfl}
 rw[el] at kk;rw[eh];exists h,vs,rfl,.inl (aH.of hh),?_;rw[aO ilh];left;obtain⟨c1,ec,kk⟩:∃c1:Bool,c1=(match l.getLast? with | some q=>decide (b<=q.1) | none=>false)/\∀H',au H H'->Q (Sc.os (if c1=true then some "twice" else if pn∉S.players then some "name" else if iN∉S.ak.map (·.1) then some "name" else if¬S.has [b]=true then some "bar" else if 20<=⇑l then some "many" else none)) H':=by
  refine{_,rfl,?_};cases q:l.getLast? with
  | none=>rw[q] at kk;exact kk
  | some x=>rw[q] at kk;exact kk
 refine both c1 ?_ ?_ ?_
 ·intro c Z hz
  let lp:0<⇑l:=by have:=ye c;omega
  let vl:=aO ilh;let⟨x,hx,ix⟩:=cT ilh (i:=⇑vs-1) (zd nofun);let⟨a3,ea,h3⟩:=Sj ix;let eg:l.getLast?=some x:=by rw[List.getLast?_eq_getElem?,<-vl];exact hx
  rw[ec,eg] at hz;left;refine{h,vs,-1,_,rfl,rfl,aH.of hh,JH (zd nofun),?_};rw[ea];change hz
 ·intro c
  have:l=[]:=yt.mp (by have:=of_decide_eq_false c;omega);rw[ec,this];rfl
 ·clear ec
  cases c1 with
  | true=>
   change kk _ s2
  | false=>
   rw[if_neg (by simp)] at kk;exists a,C,o.dx,_,_,rfl,s2 _ _ ho,F.cls,F.players,rfl,?_;refine{o.pl,_,rfl,.inl (aH.of (s2 _ _ sc.pl)),rfl,iQ _,?_};show∃k,V.bl (!Di (.str pn) (S.players.map V.str))=.bl k/\_;rw[kC]
   by_cases c2:pn∈S.players
   ·rw[zg c2]
    rw[if_neg (λz=>z c2)] at kk;let⟨us,hu,ilu⟩:=sc.ins;let em:(S.ak.map λx=>kS x.1)=(S.ak.map (·.1)).map kS:=by rw[zB];rfl
    exists a,C,o.dx,_,_,rfl,s2 _ _ ho,F.cls,F.ak,rfl,?_;refine{o.ins,_,rfl,.inl {_,kS iN,.inl (s2 _ _ hu),rfl,rfl},?_};rw[em,pW iN (by rw[za];exact aO ilu)]
    by_cases c3:iN∈S.ak.map (·.1)
    ·rw[zg c3]
     rw[if_neg (λz=>z c3)] at kk;exists by show 1<=sizeLine;omega,?_
     intros p3 H3 s3 h3;refine{a,p3,S,o,[b],rfl,sc.mono (s2.trans s3),aH.of h3,(by show 1<=1000000;decide),λH4 s4=>?_};let s04:=(s2.trans s3).trans s4;cases qb:S.has [b] with
     | false=>
      rw[qb] at kk;change kk _ s04
     | true=>
      rw[qb,if_neg (by simp)] at kk;exists h,vs,rfl,.inl (aH.of ((s3.trans s4) _ _ hh)),?_;rw[aO ilh];left
      by_cases c4:20<=⇑l
      ·refine bU (zg nofun) ?_
       rw[if_pos c4] at kk;change kk _ s04
      ·refine b9 (ze nofun) ?_
       rw[if_neg c4] at kk;change kk _ s04
    ·rw[ze c3]
     rw[if_pos c3] at kk;change kk _ s2
   ·rw[ze c2]
    rw[if_pos c2] at kk;change kk _ s2
def EN {H:Hp} {x:Str×List Str} {v:V} (h:Is H (gn x) v):∃a q,v=.ref a/\H a=some (.tup [.str x.1,.ref q])/\H q=some (.tup (x.2.map V.str)):=by
 unfold gn Is at h;let⟨a,vs,rfl,ha,hl⟩:=h;unfold aD at hl;let⟨v1,r1,rfl,h1,hl⟩:=hl;unfold aD at hl;let⟨v2,r2,rfl,h2,hl⟩:=hl;unfold aD at hl;subst hl;unfold Is at h1;subst h1;unfold mr Is at h2;let⟨q,us,rfl,hq,hl⟩:=h2;rw[dH hl] at hq;exact{(a),q,rfl,ha,hq}
def QB {H:Hp} {x:Str×List Str} {v:V} (h:Is H (O6 x) v):∃q,v=.ref q/\H q=some (.tup (x.2.map V.str)):=by
 unfold O6 mr Is at h;let⟨q,us,rfl,hq,hl⟩:=h;rw[dH hl] at hq;exact{(q),rfl,hq}
inductive ER (C:Addr) (vs:List V) (H:Hp) (Q:VK) (E:XK):Prop
 | mk (a:Addr) (S:bW) (o:Ow) (v ub jm:V) (x:Str×List Str) (ob:Obj) (us:List V) (_:vs=[.ref a,v]) (_:H a=some (.ins C o.dx (Of o ub jm))) (_:H o.pl=some (.lst (S.players.map V.str))) (_:IT H o.st ob ((S.aJ.map λx=>kS x.1).zip us)) (_:aD H (S.aJ.map O6) us) (_:Is H (gn x) v) (_:⇑x.2<=1000) (_:∀H',au H H'->Q (os (fault S (.cq x.1 x.2))) H')
theorem GY {α β:Type}:∀{l:List α} {m:List β} {i:Nat} {p:α×β},(l.zip m)[i]?=some p->l[i]?=some p.1/\m[i]?=some p.2
 | [],_,_,_,h=>by simp at h
 | _::_,[],_,_,h=>by simp at h
 | _::_,_::_,0,_,h=>by simp at h;subst h;exact{(rfl),rfl}
 | _::l,_::m,i+1,_,h=>by
  rw[List.zip_cons_cons] at h
  simpa using GY (l:=l) (m:=m) (i:=i) (by simpa using h)
def NF {α:Type} {p:α->Bool} {l:List α} {i:Nat} {x:α} (h:l[i]?=some x) (hn:(l.take i).any p=false) (hx:p x=false):(l.take (i+1)).any p=false:=by
 rw[cM h,List.any_append,hn];simp[hx]
def NG {α:Type} {p:α->Bool} {l:List α} {i:Nat} {x:α} (h:l[i]?=some x) (hx:p x=true):l.any p=true:=yo.mpr {x,zC h,hx}
def FA {C:Addr} (F:Cf K C):cV P w base 1 T.gL (ER C):=by
 nomatch T.gL,["score","told","players","others"]
 let⟨a,S,o,v,ub,jm,x,ob,us,rfl,ho,hpl,fz,ilu,iv,x5,kk⟩:=h;let⟨a1,q,rfl,h1,hq⟩:=EN iv;let sl:=yC;let ul:=aO ilu;let em:(S.aJ.map λx=>kS x.1)=(S.aJ.map (·.1)).map kS:=by rw[zB];rfl
 unfold fault at kk;dsimp only at kk;refine{_,(af (bJ 2 qN (bG (pv 1) ae))
  (af (aG (PW.pt (dY (bE (CT (fC hr) (bG (pv 1) ae) (bK (pv 0) rfl))) (dw (ptr eZ (d9 K2 T.bF (ah (mD (K0 rfl) T.R7 (ah (pv 2) ag)) ag)) (d9 aE T.bF (ah (pv 2) ag))))))
  (aj (ao aL))
  ax)
  (af (b8 PassesOwn.never rfl (Ki (bK (pv 0) rfl)) (iZ 3 qN)
  (aj (aG (cI (d9 (gx rfl) T.xb (ah (mX (ts:=["player"]) (ys:=["others"]) (js:=[3]) (te:=(e9 (Rt K false) (aX 0) (aX 1))) (iY (pv 2)) (fZ 0) bx (dF iP (pv 0) (pv 1) (by with_unfolding_all rfl))) ag)))
   (aj (ao aL))
   ax)))
  (af (aG (cI (d9 (gx rfl) T.xb (ah (mX (ts:=["player"]) (ys:=["score"]) (js:=[0]) (te:=(e9 (Rt K true) (aX 0) (N6 K (aX 1) "players"))) (iY (pv 2)) (fZ 0) bx (dF eQ (pv 0) (bK (pv 1) rfl) (by with_unfolding_all rfl))) ag)))
  (aj (ao aL))
  ax)
  (aj (ao aR)))))),?_}
 ac_rfl;exists a,C,o.dx,_,_,rfl,ho,F.cls,F.aJ,rfl,?_;refine{o.st,_,rfl,.inl {_,kS x.1,.inr {_,fz},rfl,rfl},?_};rw[em,pW x.1 (by rw[za];exact ul)]
 by_cases c1:x.1∈S.aJ.map (·.1)
 ·rw[zg c1]
  rw[if_pos c1] at kk;change kk _ (au.refl _)
 ·rw[ze c1]
  rw[if_neg c1] at kk;exists q,x.2,rfl,cY.of hq,x5,λp2 n2=>?_;let s2:au H (upd H p2 (GQ p2 ⇑(gj x.2))):=bq n2;let h2:upd H p2 (GQ p2 ⇑(gj x.2)) p2=some (GQ p2 ⇑(gj x.2)):=aB;generalize upd H p2 (GQ p2 ⇑(gj x.2))=H2 at s2 h2 ⊢;let⟨d1,d2⟩:=Ge x.2;refine{p2,_,rfl,h2,nofun,?_};exists q,_,rfl,.inr (cY.of (s2 _ _ hq)),?_;rw[za];left
  by_cases c2:x.2.Nodup
  ·refine b9 (ze (by have:=d2.mpr c2;omega)) ?_
   rw[if_neg (λz=>z c2)] at kk;exists a,C,o.dx,_,_,rfl,s2 _ _ ho,F.cls,F.aJ,rfl,?_;refine{o.st,ob,_,rfl,s2 _ _ fz,?_};refine HZ (λi U H'=>au H H'/\(S.aJ.take i).any (λq=>x.2.any λp=>decide (p∈q.2))=false/\∃u,U=[some (.ref a),some (.ref a1),some (.ref q),u]) {(s2),rfl,none,rfl} (λi U H' _ h=>h.1 _ _ fz) ?_ ?_
   ·intro i p U H3 hp hh
    refine cC λN kN0 kR0 _ _=>?_;let⟨s3,hn,u,rfl⟩:=hh;let⟨_,hp2⟩:=GY hp;let⟨st,hst,ist⟩:=cT ilu hp2;let⟨r,er,hr'⟩:=QB ist;rw[er];exists{_,cY.of (s3 _ _ hq)},?_;refine gr (enc:=V.str) (ws:=x.2) (λz=>.bl (decide (z∈st.2))) (λU=>∃v,U=[v,some (.ref r)]) nofun (s3 _ _ hq) {(none),rfl} ?_ ?_
    ·rintro z U H4 R hz s4 ⟨_,rfl⟩ rr
     exists r,_,rfl,.inr (cY.of ((s3.trans s4) _ _ hr')),rfl,iQ _,?_;refine rr _ _ _ (au.refl _) ?_ {_,rfl};rw[if_neg (by simp),kC];unfold Is;rfl
    ·intro D vs H4 s4 hD il
     let e:x.2.map (λz=>Dt.bl (decide (z∈st.2)))=(x.2.map λz=>decide (z∈st.2)).map Dt.bl:=by rw[zB];rfl
     rw[e] at il;rw[jZ il] at hD;refine{D,_,rfl,aH.of hD,?_};let e2:(x.2.map λz=>decide (z∈st.2)).any id=x.2.any λp=>decide (p∈st.2):=by rw[List.any_map];rfl
     rw[e2];cases qc:x.2.any λp=>decide (p∈st.2) with
     | true=>
      rw[if_pos (NG hst (p:=λq:Str×List Str=>x.2.any λp=>decide (p∈q.2)) qc)] at kk;change kk _ (s3.trans s4)
     | false=>
      change{s3.trans s4,NF hst hn qc,_,rfl}
   ·rintro U H3 ⟨s3,hn,u,rfl⟩
    rw[List.length_zip,za,ul,Nat.min_self,zN] at hn;rw[hn,if_neg (by simp)] at kk;exists{_,cY.of (s3 _ _ hq)},?_;refine gr (enc:=V.str) (ws:=x.2) (λz=>.bl (!decide (z∈S.players))) (λU=>∃v,U=[v,some (.ref a)]) nofun (s3 _ _ hq) {(none),rfl} ?_ ?_
    ·rintro z U H4 R hz s4 ⟨_,rfl⟩ rr
     exists a,C,o.dx,_,_,rfl,(s3.trans s4) _ _ ho,F.cls,F.players,rfl,?_;refine{o.pl,_,rfl,.inl (aH.of ((s3.trans s4) _ _ hpl)),rfl,iQ _,?_};refine rr _ _ _ (au.refl _) ?_ {_,rfl};show Is H4 _ (V.bl (!Di (.str z) (S.players.map V.str)));rw[kC];unfold Is;rfl
    ·intro D vs H4 s4 hD il
     let e:x.2.map (λz=>Dt.bl (!decide (z∈S.players)))=(x.2.map λz=>!decide (z∈S.players)).map Dt.bl:=by rw[zB];rfl
     rw[e] at il;rw[jZ il] at hD;refine{D,_,rfl,aH.of hD,?_};let e2:(x.2.map λz=>!decide (z∈S.players)).any id=x.2.any λp=>!decide (p∈S.players):=by rw[List.any_map];rfl
     rw[e2];cases qc:x.2.any λp=>!decide (p∈S.players) with
     | true=>
      rw[qc,if_pos rfl] at kk;change kk _ (s3.trans s4)
     | false=>
      rw[qc,if_neg (by simp)] at kk;change kk _ (s3.trans s4)
  ·refine bU (zg (by have:⇑(gj x.2)≠⇑x.2:=λz=>c2 (d2.mp z);omega)) ?_
   rw[if_pos c2] at kk;change kk _ s2
def mQ (C:Addr):Sp:=fh C λH v S f=>∃x,Is H (gn x) v/\⇑x.2<=1000/\f=fault S (.cq x.1 x.2)
def M9 {H:Hp} {d:Addr} {o:Obj} {u:HO} (hd:H d=some u) (nt:cj (some u)) {l:List Dt} {vs:List V} (h:aD H l vs):aD (upd H d (.mI o u)) l vs:=aD.upd (by rw[hd];exact nt) h
def EY {H H':Hp} {d:Addr} {o:Obj} {u:HO} (hd:H d=some u) (s:au (upd H d (.mI o u)) H'):au H (upd H' d u):=λb z hb=>by
 by_cases e:b=d
 ·subst e;rw[aB,<-hd,hb]
 ·rw[aC e];exact s b z (by rw[aC e];exact hb)
def wW {C:Addr} (F:Cf K C):cV P w base 1 T.gL (mQ C):=by
 refine(FA (P:=P) (w:=w) (base:=base) T F).Pu (λvs H Q E h=>?_) (λvs H Q E h=>?_)
 ·let⟨_,_,_,_,_,rfl,_⟩:=h;rfl
 ·let⟨a,S,o,v,f,rfl,sc,⟨x,iv,x5,rfl⟩,kk⟩:=h
  let⟨us,hu,ilu⟩:=sc.st;let⟨ub,jm,ho,hub,hjm⟩:=sc.obj;let nt:cj (some (HO.dK ((S.aJ.map λx=>kS x.1).zip us))):=λvs z=>by cases z
  let na:a≠o.st:=λz=>by rw[z,hu] at ho;cases ho
  let np:o.pl≠o.st:=λz=>by have:=sc.pl;rw[z,hu] at this;cases this
  refine{o.st,_,hu,rfl,λob=>{a,S,o,v,ub,jm,x,ob,us,rfl,by rw[aC na];exact ho,by rw[aC np];exact sc.pl,aB,M9 hu nt ilu,Is.upd (by rw[hu];exact nt) iv,x5,λH' s'=>kk _ (EY hu s')}}
def PY (S:bW):Prop:=∀b∈S.aK,B7 b
inductive Cm (C:Addr) (vs:List V) (H:Hp) (Q:VK) (E:XK):Prop
 | mk (a:Addr) (S:bW) (o:Ow) (v ub jm:V) (x:Int×Int) (ob:Obj) (us:List V) (_:vs=[.ref a,v]) (_:H a=some (.ins C o.dx (Of o ub jm))) (_:Is H (dO dL S.aF) ub) (_:S5 C H a S o) (_:H o.no=some (.mI ob (.dT ((S.aI.map λx=>kN x.1).zip us)))) (_:⇑us=⇑S.aI) (_:⇑S.aI<=1000000) (_:Is H (dL x) v) (_:y8 8999 x) (_:PY S) (_:∀H',au H H'->Q (os (fault S (.aF x))) H')
def MO {S:bW} (h:PY S) (b:Nat) (hb:b<⇑S.aK):y8 8999 (S.aP b):=by
 unfold bW.aP;rw[zd hb];let⟨k1,k2,k3,k4⟩:=h _ (ym hb);let⟨g,g1,g2,g3,g4,g5⟩:=iV (t:=S.aK[b].aP.1) k3;let r0:=wJ (t:=S.aK[b].aP.1) (b:=S.aK[b].aP.2) k1;let r1:=wK (t:=S.aK[b].aP.1) (b:=S.aK[b].aP.2) k1;dsimp only;exact{(cm (n:=10) r0 nofun).mono ∅,(cm (n:=10) nofun nofun).mono ∅}
def CW {C:Addr} (F:Cf K C):cV P w base 4 T.fI (Cm C):=by
 nomatch T.fI,["score","length"]
 let⟨a,S,o,v,ub,jm,x,ob,us,rfl,ho,hub,sb,fz,ul,n6,iv,zx,bok,kk⟩:=h;let sl:=yC;unfold fault at kk;dsimp only at kk;refine{_,(af (aG (bE (fM (bK (pv 0) rfl)))
  (aj (ao aL))
  ax)
  (af (aG (ptr cW (d9 aE T.bF (ah (bK (pv 0) rfl) ag)) ae)
  (aj (ao aL))
  ax)
  (af (aG (eI (cI (bN (HL T) hr T.Cv (ah (pv 1) (ah (bN (mf T F) hr T.iw (ah (pv 0) (ah ae ag))) ag)))))
  (aj (ao aL))
  ax)
  (af (aG (cI (d9 (gx rfl) T.xb (ah (mX (ts:=["place"]) (ys:=[]) (js:=[]) (te:=(e9 T5 (e9 (mC K) (aX 0) (tC (.int (0)))) (tC (.int (0))))) (Oz (bK (pv 0) rfl)) (fZ 0) bx (dF cW (bG (pv 0) ae) ae (gY _))) ag)))
  (aj (ao aL))
  ax)
  (aj (ao aR)))))),?_}
 ac_rfl;exists a,C,o.dx,_,_,rfl,ho,F.cls,F.aF,rfl,?_;cases q:S.aF with
 | some u=>
  rw[q,if_pos (show(some u).isSome=true from rfl)] at kk;rw[q] at hub;cases fc (o:=some u) hub with
  | ref hu=>
   change kk _ (au.refl _)
 | none=>
  rw[q,if_neg (by simp)] at kk;rw[q] at hub;unfold dO Is at hub;subst hub;let⟨vs,hv,il⟩:=sb.ba;cases fc (o:=some x) iv with
  | ref hx=>
  rename_i a1;exists a,C,o.dx,_,_,rfl,ho,F.cls,F.aK,rfl,?_;exists o.ba,vs,rfl,.inl (aH.of hv),?_;rw[aO il];left
  by_cases c1:⇑S.aK=0
  ·refine bU (by rw[c1];rfl) ?_
   rw[if_pos c1] at kk;change kk _ (au.refl _)
  ·refine b9 (ze λz=>c1 (by have:=V.int.inj z;omega)) ?_
   rw[if_neg c1] at kk;exists a,S,o,0,rfl,sb,nofun,bok,λp H1 s1 h1=>?_;refine{_,_,_,_,rfl,s1 _ _ hx,h1,zx,MO bok 0 nofun,?_}
   by_cases c2:x.1*(S.aP 0).2<(S.aP 0).1*x.2
   ·rw[zg c2]
    rw[if_neg (λz=>z c2)] at kk;exists a,C,o.dx,_,_,rfl,s1 _ _ ho,F.cls,F.aI,rfl,?_;refine{o.no,ob,_,_,rfl,{_,s1 _ _ fz,.inr {_,rfl,rfl,rfl}},?_};let kl:⇑((S.aI.map λx=>kN x.1).zip us)=⇑S.aI:=by rw[List.length_zip,za,ul,Nat.min_self]
    refine xR (ws:=S.aI) (λp x H=>∃b,x=.ref b/\H b=some (.tup [.int p.1.1,.str p.1.2])) (λp=>.bl (decide (p.1.1=0))) (λU=>∃v,U=[v]) nofun {(none),rfl} (λi H2 hi s2=>{{_,s2 _ _ (s1 _ _ fz),.inr {_,rfl,rfl,rfl}},nofun}) (λH2 s2=>{{_,s2 _ _ (s1 _ _ fz),.inr {_,rfl,rfl,rfl}},nofun}) ?_ ?_ ?_
    ·rintro i y H2 H3 hi s2 ⟨rfl,p,b,hp,hb,rfl⟩
     refine{au.refl _,b,rfl,?_};let⟨z1,_⟩:=GY hp;rw[zK,zd hi] at z1;simp only[Option.map_some,Option.some.injEq] at z1;rw[<-z1] at hb;exact hb
    ·rintro p y U H2 R hp s2 ⟨b,rfl,hb⟩ ⟨_,rfl⟩ r
     left;refine r _ _ _ (au.refl _) ?_ {_,rfl};rw[show decide (V.int p.1.1=V.int 0)=decide (p.1.1=0) from by by_cases h:p.1.1=0 <;> simp[h]];unfold Is;rfl
    ·intro D vs H4 s4 hD il
     let e:S.aI.map (λp=>Dt.bl (decide (p.1.1=0)))=(S.aI.map λp=>decide (p.1.1=0)).map Dt.bl:=by rw[zB];rfl
     rw[e] at il;rw[jZ il] at hD;refine{D,_,rfl,aH.of hD,?_};let e2:(S.aI.map λp=>decide (p.1.1=0)).any id=S.aI.any λp=>decide (p.1.1=0):=by rw[List.any_map];rfl
     rw[e2];cases qc:S.aI.any λp=>decide (p.1.1=0) with
     | true=>
      rw[qc,if_pos rfl] at kk;change kk _ (s1.trans s4)
     | false=>
      rw[qc,if_neg (by simp)] at kk;change kk _ (s1.trans s4)
   ·rw[ze c2]
    rw[if_pos c2] at kk;change kk _ s1
def lX (C:Addr):Sp:=fh C λH v S f=>∃x,Is H (dL x) v/\y8 8999 x/\PY S/\⇑S.aI<=1000000/\f=fault S (.aF x)
def uQ {C:Addr} (F:Cf K C):cV P w base 4 T.fI (lX C):=by
 refine(CW (P:=P) (w:=w) (base:=base) T F).Pu (λvs H Q E h=>?_) (λvs H Q E h=>?_)
 ·let⟨_,_,_,_,_,rfl,_⟩:=h;rfl
 ·let⟨a,S,o,v,f,rfl,sc,⟨x,iv,zx,bok,n6,rfl⟩,kk⟩:=h
  let⟨hn,ln⟩:=sc.no;let⟨ub,jm,ho,hub,hjm⟩:=sc.obj;let⟨bs,hb,ilb⟩:=sc.ba;let nt:cj (some (HO.dT ((S.aI.map λx=>kN x.1).zip (o.ns.map V.ref)))):=λvs z=>by cases z
  let na:a≠o.no:=λz=>by rw[z,hn] at ho;cases ho
  let nb:o.ba≠o.no:=λz=>by rw[z,hn] at hb;cases hb
  let ho':∀ob,upd H o.no (.mI ob (.dT ((S.aI.map λx=>kN x.1).zip (o.ns.map V.ref)))) a=some (.ins C o.dx (Of o ub jm)):=λob=>by rw[aC na];exact ho
  refine{o.no,_,hn,rfl,λob=>{a,S,o,v,ub,jm,x,ob,o.ns.map V.ref,rfl,ho' ob,Is.upd (by rw[hn];exact nt) hub,{{ub,jm,ho' ob},bs,by rw[aC nb];exact hb,M9 hn nt ilb},aB,by rw[za,nU ln,za],n6,Is.upd (by rw[hn];exact nt) iv,zx,bok,λH' s'=>kk _ (EY hn s')}}
noncomputable def oO:Told->Str
 | .bH _=> "player"
 | .cL _ _ _=> "instrument"
 | .cq _ _=> "staff"
 | .bar _=> "bar"
 | .aF _=> "upbeat"
 | .holds _ _ _=> "holds"
 | .aI _ _ _=> "notes"
 | .rep _=> "repeat"
 | .bT _=> "jump"
def Rl (S:bW):Told->Prop
 | .cq _ ps=>⇑ps<=1000
 | .aF l=>y8 8999 l/\PY S/\⇑S.aI<=1000000
 | .aI b _ its=>0<=b/\⇑its<=500/\(∀it∈its,NW it.2)/\PY S
 | .rep r=>G8 r.ends<64/\⇑r.ends<=1000/\-1000000<=r.times/\r.times<=1000000
 | .bT _=>El S
 | _=>True
inductive Ls (K:yB) {mg:Str->Option Value} (T:Txt K mg) (C:Addr):Addr->Sp->Prop where
 | bH:Ls K T C T.fX (lZ C)
 | cL:Ls K T C T.dW (hX C)
 | cq:Ls K T C T.gF (mQ C)
 | bar:Ls K T C T.jT (qg C)
 | aF:Ls K T C T.fV (lX C)
 | holds:Ls K T C T.iI (oB C)
 | aI:Ls K T C T.gJ (mR C)
 | rep:Ls K T C T.fW (lY C)
 | bT:Ls K T C T.iH (oA C)
noncomputable def PM {K:yB} {mg:Str->Option Value} (T:Txt K mg):List (Str×V):=[("player",V.ref T.fX),("instrument",.ref T.dW),("staff",.ref T.gF),("bar",.ref T.jT),("upbeat",.ref T.fV),("holds",.ref T.iI),("notes",.ref T.gJ),("repeat",.ref T.fW),("jump",.ref T.iH)]
def M8 (K:yB) {mg:Str->Option Value} (T:Txt K mg) (C:Addr) (t:Told):∃f D,rP (PM T) (oO t)=some (.ref f)/\Ls K T C f (fh C D)/\∀H0 H v S,gz H0 H v (some t)->Rl S t->D H v S (fault S t):=by
 cases t with
 | bH n=>exact{_,_,rfl,.bH,λH0 H v S h1 h2=>{(n),h1,rfl}}
 | cL n t l=>exact{_,_,rfl,.cL,λH0 H v S h1 h2=>{(n,t,l),h1,rfl}}
 | cq n ps=>exact{_,_,rfl,.cq,λH0 H v S h1 h2=>{(n,ps),h1,h2,rfl}}
 | bar b=>exact{_,_,rfl,.bar,λH0 H v S h1 h2=>{(b),rfl}}
 | aF l=>exact{_,_,rfl,.aF,λH0 H v S h1 h2=>{(l),h1,h2.1,h2.2.1,h2.2.2,rfl}}
 | holds p b i=>exact{_,_,rfl,.holds,λH0 H v S h1 h2=>{(p,b,i),h1,rfl}}
 | aI b p its=>exact{_,_,rfl,.aI,λH0 H v S h1 h2=>{(b,p,its),iM.at h1,h2.1,h2.2.1,h2.2.2.1,h2.2.2.2,rfl}}
 | rep r=>exact{_,_,rfl,.rep,λH0 H v S h1 h2=>{(r),h1,h2.1,h2.2.1,h2.2.2.1,h2.2.2.2,rfl}}
 | bT j=>exact{_,_,rfl,.bT,λH0 H v S h1 h2=>{(j),h1,h2,rfl}}
def LI {H0 H:Hp} {v:V} {t:Told} (h:gz H0 H v (some t)):v≠.bI:=by
 let tp:∀l,Is H (.tup l) v->v≠.bI:=λl z=>by
  unfold Is at z;let⟨a,vs,e,_⟩:=z;rw[e];simp
 cases t with
 | bH n=>let e:v=.str n:=h;rw[e];simp
 | cL n t l=>exact tp _ h
 | cq n ps=>exact tp _ h
 | bar b=>exact tp _ h
 | aF l=>exact tp _ h
 | holds p b i=>exact tp _ h
 | aI b p its=>let⟨a,_,_,e,_⟩:=h;rw[e];simp
 | rep r=>exact tp _ h
 | bT j=>exact tp _ h
noncomputable def Nf (S:bW):Option Told->Option Str
 | none=>some "row"
 | some t=>fault S t
inductive EV (C:Addr) (vs:List V) (H:Hp) (Q:VK) (E:XK):Prop
 | mk (a:Addr) (S:bW) (o:Ow) (x:Str) (v:V) (H0:Hp) (t:Option Told) (_:vs=[.ref a,.str x,v]) (_:bY C H a S o) (_:gz H0 H v t) (_:(∀t',t=some t'->x=oO t'/\Rl S t')) (_:∀H',au H H'->Q (os (Nf S t)) H')
def tX:fY ["score","sort","told","finder"] ["score","sort","told"] (aT oU):=Sk
def FG (B:Dk P w K T) {C:Addr} (F:Cf K C):cV P w base 6 T.xt (EV C):=by
 refine T.xt.F.SV tX λcdv A' outer s H vs Q E hr h=>?_
 ·let⟨a,S,o,x,v,H0,t,rfl,sc,tv,fit,kk⟩:=h
  let hTbV:∀f sp,Ls K T C f sp->Rp (j9 GV P w K mg base ["score","sort","told","finder"] "fault_of" (aT oU) T.yQ cdv A' outer s H E).HN GV 5 f sp:=by
   intro f sp h;cases h with
   | bH=>exact{_,_,L2.dC.mono (uS T F) ∅,T.ig.F.kp,T.ig.b}
   | cL=>exact{_,_,L2.dC.mono (oq T F) ∅,T.eU.F.kp,T.eU.b}
   | cq=>exact{_,_,L2.dC.mono (wW T F) ∅,T.gL.F.kp,T.gL.b}
   | bar=>exact{_,_,L2.dC.mono (C5 T F) ∅,T.og.F.kp,T.og.b}
   | aF=>exact{_,_,L2.dC.mono (uQ T F) ∅,T.fI.F.kp,T.fI.b}
   | holds=>exact{_,_,L2.dC.mono (AL T F) ∅,T.lG.F.kp,T.lG.b}
   | aI=>exact{_,_,L2.dC.mono (w8 T F) ∅,T.jI.F.kp,T.jI.b}
   | rep=>exact{_,_,L2.dC.mono (uR T F) ∅,T.ic.F.kp,T.ic.b}
   | bT=>exact{_,_,L2.dC.mono (AK T F) ∅,T.lC.F.kp,T.lC.b}
  refine{_,(af (aG (bE (cu (pv 2)))
   (aj (ao aL))
   ax)
   (af (bJ 3 tX.nd (Fs (bX (v:=.ref T.qF) (by rfl) T.Ny rfl) (pv 1) (λ_ _=>rfl)))
   (aj (ao (Fv (Ls K T C) hTbV (hr.mono ∅) (pv 3) Jn (ah (pv 0) (ah (pv 2) ag))))))),?_}
  ac_rfl;left;cases t with
  | none=>
   let e:v=.bI:=tv;subst e;change kk _ (au.refl _)
  | some t=>
   let⟨ex,ft⟩:=fit t rfl;subst ex;let⟨f,D,ev,htb,hd⟩:=M8 K T C t;let ne:=LI tv;rw[ze ne];exists T.qF,PM T,oO t,_,rfl,B.Q5,rfl,ev,?_;exists f,_,rfl,htb,?_;change{a,S,o,v,_,rfl,sc,hd H0 H v S tv ft,kk}
def GF {hs:List (Str×List (Int×Str))} {p:Str} {h:Int×Str} (fr:p∉hs.map (·.1)):eX (hs++[(p,[])]) p h=eX hs p h:=by
 unfold eX;rw[if_neg fr,if_pos (by rw[zk];exact zI _ (zA.mpr rfl)),zk];let e:(hs.map λq:Str×List (Int×Str)=>if q.1=p then(q.1,q.2++[h]) else q)=hs:=by
  conv=>rhs;rw[<-List.map_id hs]
  refine List.map_congr_left λq hq=>?_;rw[if_neg (λz=>fr (by rw[<-z];exact zP (f:=λx:Str×List (Int×Str)=>x.1) hq))];rfl
 rw[e];simp
def pR (S:bW):Prop:=(S.holds.map (·.1)).Nodup/\⇑S.holds<=1000000/\∀q∈S.holds,⇑q.2<=1000000
inductive EW (C:Addr) (vs:List V) (H:Hp) (Q:VK) (E:XK):Prop
 | mk (a:Addr) (S:bW) (o:Ow) (v:V) (pn:Str) (b:Int) (i:Str) (_:vs=[.ref a,v]) (_:bY C H a S o) (_:Is H (um (pn,b,i)) v) (_:pR S) (_:∀H' o',bY C H' a (bM S (.holds pn b i)) o'->vy (own a o) H H'->(∀x∈own a o',x∈own a o\/H x=none)->Q .bI H')
def qV {o:Ow} {a x:Addr} (h:x∈o.lists):x∈own a o:=by
 unfold Ow.lists at h;unfold own;rw[zG,zG] at h ⊢;rcases h with(h | h) | h
 ·refine .inl (.inl ?_)
  simp only[zD,zE,or_false] at h ⊢;rcases h with h | h | h <;> simp[h]
 ·exact .inl (.inr h)
 ·exact .inr h
def MH {C a x:Addr} {H:Hp} {S:bW} {o:Ow} (h:bY C H a S o) (hx:x∈own a o):∃u,H x=some u:=by
 let⟨_,_,ha,_⟩:=h.obj;let⟨_,hi,_⟩:=h.ins;let⟨_,hs,_⟩:=h.st;let⟨_,hb,_⟩:=h.ba;let⟨_,hr,_⟩:=h.re;unfold own at hx;rw[zG,zG] at hx;rcases hx with(hx | hx) | hx
 ·simp only[zD,zE,or_false] at hx
  rcases hx with rfl | rfl | rfl | rfl | rfl | rfl | rfl | rfl
  ·exact{_,ha}
  ·exact{_,h.pl}
  ·exact{_,hi}
  ·exact{_,hs}
  ·exact{_,hb}
  ·exact{_,h.ho.1}
  ·exact{_,h.no.1}
  ·exact{_,hr}
 ·let⟨vs,e⟩:=cJ h.ho.2 hx
  exact{_,e}
 ·let⟨vs,e⟩:=cJ h.no.2 hx
  exact{_,e}
def CU {C a x:Addr} {H:Hp} {S:bW} {o:Ow} (h:bY C H a S o) (hx:H x=none):x∉own a o:=λz=>by
 let⟨u,e⟩:=MH h z;rw[hx] at e;cases e
def FW {hs:List (Str×List (Int×Str))} {as:List Addr} {H:Hp} {x:Addr} {vs:List V} (hL:cg H JC (hs.map (·.2)) as) (hx:x∈as) (hH:H x=some (.lst vs)) (hb:∀q∈hs,⇑q.2<=1000000):⇑vs<=1000000:=by
 induction hs generalizing as with
 | nil=>unfold cg at hL;rw[hL] at hx;simp at hx
 | cons q r ih=>
  rw[zj] at hL;let⟨a,t,us,rfl,h1,h2,h3⟩:=hL;rcases zD.mp hx with rfl | hx
  ·rw[h1] at hH;cases hH
   have:=aO h2;have:=hb q zr;omega
  ·exact ih h3 hx λq hq=>hb q (zp _ hq)
def FJ {C:Addr} (F:Cf K C):cV P w base 1 T.x6 (EW C):=by
 nomatch T.x6,["score","told"]
 let⟨a,S,o,v,pn,b,i,rfl,sc,iv,⟨nk,hl,hb⟩,kk⟩:=h;let⟨a1,rfl,h1⟩:=Ju iv;let sl:=yC;let⟨ub,jm,ho,hub,hjm⟩:=sc.obj;let em:(S.holds.map λx=>kS x.1)=(S.holds.map (·.1)).map kS:=by rw[zB];rfl
 let ll:⇑(o.hs.map V.ref)=⇑(S.holds.map (·.1)):=by rw[za,za,nU sc.ho.2,za]
 dsimp only at h1;refine{_,(af (aG (bE (sP (fC hr) (bG (pv 1) ae) (bK (pv 0) rfl)))
  (aj (ly (fC hr) (bK (pv 0) rfl) (bG (pv 1) ae) (aY ag) rfl))
  ax)
  (aj (bw (bO yD yF yE bu (vA (fC hr) (bK (pv 0) rfl) (bG (pv 1) ae) (λ_ _=>rfl)) (ah (bz (ah (bG (pv 1) ae) (ah (bG (pv 1) ae) ag))) ag))))),?_}
 ac_rfl;exists a,C,o.dx,_,_,rfl,ho,F.cls,F.holds,rfl,?_;refine{o.ho,_,rfl,.inl {_,kS pn,.inl sc.ho.1,rfl,rfl},?_};rw[em,pW pn ll]
 by_cases c1:pn∈S.holds.map (·.1)
 ·rw[zg c1]
  let⟨x,us,e1,e2,e3,e4⟩:=sc.nQ nk c1;exists a,C,o.dx,_,_,rfl,ho,F.cls,F.holds,rfl,?_;exists o.ho,_,rfl,.inl {_,kS pn,.inl sc.ho.1,rfl,e1.symm},?_;refine{.inl {rfl,us,aH.of e3},?_};exists cH,?_;intros p2 H2 s2 h2;refine{x,us,_,rfl,rfl,s2 _ _ e3,?_,?_}
  ·have:=FW sc.ho.2 e2 e3 hb
   omega
  ·let⟨x',us',f1,f2,f3,f4⟩:=(sc.mono s2).nQ nk c1
   let ex:x=x':=by rw[f1] at e1;cases e1;rfl
   subst ex;let eu:us=us':=by have:=s2 _ _ e3;rw[f3] at this;cases this;rfl
   subst eu;change kk _ o (f4 _ b i (cw h2 (aN cE (aN eK cD)))) ((vy.of s2).trans (vy.upd (qV (by unfold Ow.lists;simp[e2])))) λy hy=>.inl hy
 ·rw[ze c1]
  left
  intros p1 n1 s1 g1 H1
  let sc1:=sc.mono s1;let h11:=s1 _ _ h1;let nl:p1∉o.lists:=λz=>CU sc n1 (qV z);exists a,C,o.dx,_,_,rfl,s1 _ _ ho,F.cls,F.holds,rfl,?_;left;refine{o.ho,_,rfl,.inl {_,kS pn,sc1.ho.1,rfl,?_,rfl},?_}
  ·rw[List.length_zip,za];omega
  let sc2:=sc1.MK g1 nl c1;let nt1:cj (H1 o.ho):=by rw[sc1.ho.1];exact λ_ z=>by cases z
  let h12:upd H1 o.ho (.dK (putK ((S.holds.map λx=>kS x.1).zip (o.hs.map V.ref)) (kS pn) (.ref p1))) a1=some (.tup [V.str pn,V.int b,V.str i]):=by rw[aC (Sc.bf h11 sc1.ho.1 (by simp[kindOf]))];exact h11
  let el:vy (own a o) H (upd H1 o.ho (.dK (putK ((S.holds.map λx=>kS x.1).zip (o.hs.map V.ref)) (kS pn) (.ref p1)))):=(vy.of s1).trans (vy.upd (by unfold own;simp));generalize upd H1 o.ho (.dK (putK ((S.holds.map λx=>kS x.1).zip (o.hs.map V.ref)) (kS pn) (.ref p1)))=H3 at sc2 h12 el ⊢;let⟨ub2,jm2,ho2,_,_⟩:=sc2.obj;let nk2:(({S with holds:=S.holds++[(pn,[])]}:bW).holds.map (·.1)).Nodup:=by
   show((S.holds++[(pn,[])]).map λx:Str×List (Int×Str)=>x.1).Nodup;rw[zk,zT];exact{nk,by simp,λx hx y hy e=>by simp at hy;subst hy;subst e;exact c1 hx}
  let c2:pn∈({S with holds:=S.holds++[(pn,[])]}:bW).holds.map (·.1):=by
   show pn∈(S.holds++[(pn,[])]).map λx:Str×List (Int×Str)=>x.1;rw[zk];exact zI _ (zA.mpr rfl)
  let⟨x,us,e1,e2,e3,e4⟩:=sc2.nQ nk2 c2;let hb2:∀q∈S.holds++[((pn,[]):Str×List (Int×Str))],⇑q.2<=1000000:=λq hq=>by
   rcases zG.mp hq with z | z
   ·exact hb q z
   ·rw[zA.mp z];exact yg _
  exists a,C,_,_,_,rfl,ho2,F.cls,F.holds,rfl,?_;exists o.ho,_,rfl,.inl {_,kS pn,.inl sc2.ho.1,rfl,e1.symm},?_;refine{.inl {rfl,us,aH.of e3},?_};exists cH,?_;intros p2 H4 s4 h4;refine{x,us,_,rfl,rfl,s4 _ _ e3,?_,?_}
  ·have:=FW sc2.ho.2 e2 e3 hb2
   omega
  ·let⟨x',us',f1,f2,f3,f4⟩:=(sc2.mono s4).nQ nk2 c2
   let ex:x=x':=by rw[f1] at e1;cases e1;rfl
   subst ex;let eu:us=us':=by have:=s4 _ _ e3;rw[f3] at this;cases this;rfl
   subst eu;left;let ea:bM {S with holds:=S.holds++[(pn,[])]} (.holds pn b i)=bM S (.holds pn b i):=by
    show({S with holds:=eX (S.holds++[(pn,[])]) pn (b,i)}:bW)={S with holds:=eX S.holds pn (b,i)};rw[GF c1]
   let sf:=f4 _ b i (cw h4 (aN cE (aN eK cD)));rw[ea] at sf;let xin:x∈o.hs\/x=p1:=by
    have:x∈o.hs++[p1]:=e2;rw[zG,zA] at this;exact this
   refine kk _ _ sf (λy u ny hy=>?_) λy hy=>?_
   ·let hy4:=s4 _ _ (el y u ny hy)
    rw[aC]
    ·exact hy4
    ·intro z
     subst z;rcases xin with z | z
     ·exact ny (qV (by unfold Ow.lists;simp[z]))
     ·subst z;rw[n1] at hy;cases hy
   ·have:y∈own a o\/y=p1:=by
     unfold own at hy ⊢;simp only[zG,zD,zE,or_false] at hy ⊢;rcases hy with(hy | hy | hy) | hy
     ·exact .inl (.inl (.inl hy))
     ·exact .inl (.inl (.inr hy))
     ·exact .inr hy
     ·exact .inl (.inr hy)
    rcases this with z | z
    ·exact .inl z
    ·subst z;exact .inr n1
def tT (S:bW):Prop:=⇑S.players<=1000000/\⇑S.ak<=1000000/\⇑S.aJ<=1000000/\⇑S.aK<=1000000/\⇑S.aI<=1000000/\⇑S.repeats<=1000000
inductive Hh (C:Addr) (vs:List V) (H:Hp) (Q:VK) (E:XK):Prop
 | mk (a:Addr) (S:bW) (o:Ow) (v:V) (H0:Hp) (t:Told) (_:vs=[.ref a,.str (oO t),v]) (_:bY C H0 a S o) (_:au H0 H) (_:gz H0 H v (some t)) (_:fault S t=none) (_:pR S) (_:tT S) (_:∀H' o',bY C H' a (bM S t) o'->vy (own a o) H H'->(∀x∈own a o',x∈own a o\/H0 x=none)->Q .bI H')
def Dj {c:Prop} [Decidable c] {x:Str} {y:Option Str} (h:(if c then some x else y)=none):¬c/\y=none:=by
 by_cases e:c
 ·rw[if_pos e] at h;cases h
 ·rw[if_neg e] at h;exact{(e),h}
theorem uh {H:Hp}:∀l:List Str,aD H (l.map Dt.str) (l.map V.str)
 | []=>cD
 | x::r=>aN eK (uh r)
def HM {C:Addr} (F:Cf K C):cV P w base 2 T.D1 (Hh C):=by
 nomatch T.D1,["score","sort","told"]
 let⟨a,S,o,v,H0,t,rfl,sc0,s0,tv,fn,b7,⟨z1,z2,z3,z4,z5,z6⟩,kk⟩:=h;let sl:=yC;let sc:=sc0.mono s0;let⟨ub,jm,ho,hub,hjm⟩:=sc.obj;let me:∀x∈own a o,x∈own a o\/H0 x=none:=λx hx=>.inl hx;refine{_,(aj (aG (ptr cW (pv 1) aL)
  (aj (bw (bO yD yF yE bu (bK (pv 0) rfl) (ah (pv 2) ag))))
  (aj (aG (ptr cW (pv 1) aL)
   (aj (ly (fC hr) (bK (pv 0) rfl) (bG (pv 2) ae) (bz (ah (bG (pv 2) ae) (ah (bG (pv 2) ae) ag))) rfl))
   (aj (aG (ptr cW (pv 1) aL)
    (aj (ly (fC hr) (bK (pv 0) rfl) (bG (pv 2) ae) (bG (pv 2) ae) rfl))
    (aj (aG (ptr cW (pv 1) aL)
     (aj (bw (bO yD yF yE bu (bK (pv 0) rfl) (ah (pv 2) ag))))
     (aj (aG (ptr cW (pv 1) aL)
      (aj (iX (pv 0) (pv 2) rfl))
      (aj (aG (ptr cW (pv 1) aL)
       (aj (bw (bN (FJ T F) hr T.x6 (ah (pv 0) (ah (pv 2) ag)))))
       (aj (aG (ptr cW (pv 1) aL)
        (aj (ly (fC hr) (bK (pv 0) rfl) (bz (ah (bG (pv 2) ae) (ah (bG (pv 2) ae) ag))) (bG (pv 2) ae) rfl))
        (aj (aG (ptr cW (pv 1) aL)
         (aj (bw (bO yD yF yE bu (bK (pv 0) rfl) (ah (pv 2) ag))))
         (aj (iX (pv 0) (pv 2) rfl)))))))))))))))))),?_}
 ac_rfl;cases t with
 | bH n=>
  let e:v=.str n:=tv;subst e;exists a,C,o.dx,_,_,rfl,ho,F.cls,F.players,rfl,?_;refine{.inl {rfl,_,aH.of sc.pl},?_};exists o.pl,_,_,rfl,rfl,sc.pl,by rw[za];omega,?_
  change kk _ o (sc.IE n) (vy.upd (by unfold own;simp)) me
 | cL n t l=>
  let⟨a1,t1,l1,rfl,h1,it,il⟩:=FY (x:=(n,t,l)) tv;let fr:=(Dj fn).1;exists cH,?_;intros p2 H2 s2 h2;let sc2:=sc.mono s2;let h12:=s2 _ _ h1;let⟨vs,hv,ilv⟩:=sc2.ins;exists a,C,o.dx,_,_,rfl,s2 _ _ ho,F.cls,F.ak,rfl,?_;left;refine{o.ins,_,rfl,.inl {_,kS n,hv,rfl,?_,rfl},?_}
  ·rw[List.length_zip,za];omega
  exact kk _ o (sc2.K8 hv ilv (cw h2 (aN (it.mono s2) (aN (il.mono s2) cD))) fr) ((vy.of s2).trans (vy.upd (by unfold own;simp))) me
 | cq n ps=>
  let⟨a1,q,rfl,h1,hq⟩:=EN (x:=(n,ps)) tv;let fr:=(Dj fn).1;let⟨vs,hv,ilv⟩:=sc.st;exists a,C,o.dx,_,_,rfl,ho,F.cls,F.aJ,rfl,?_;left;refine{o.st,_,rfl,.inl {_,kS n,hv,rfl,?_,rfl},?_}
  ·rw[List.length_zip,za];omega
  exact kk _ o (sc.K6 hv ilv (by unfold O6 mr;exact cw hq (uh ps)) fr) (vy.upd (by unfold own;simp)) me
 | bar b=>
  let⟨vs,hv,ilv⟩:=sc.ba;let vl:=aO ilv;exists a,C,o.dx,_,_,rfl,ho,F.cls,F.aK,rfl,?_;refine{.inl {rfl,_,aH.of hv},?_};exists o.ba,_,_,rfl,rfl,hv,nofun,?_;change kk _ o (sc.Pb hv ilv tv) (vy.upd (by unfold own;simp)) me
 | aF l=>
  exists a,C,o.dx,_,rfl,ho,F.cls,F.aF,(by show 9<1000;decide),?_;exact kk _ o (sc.ID ho hjm tv) (vy.upd (by unfold own;simp)) me
 | holds p b i=>
  change{a,S,o,v,p,b,i,rfl,sc,tv,b7,λH' o' s' e' n'=>kk H' o' s' e' λx hx=>(n' x hx).imp id λz=>s0.back z}
 | aI b p its=>
  let⟨a1,q,us,rfl,h1,hq,ilq,nq⟩:=tv;let fr:=(Dj fn).1;let nl:q∉o.lists:=λz=>CU sc0 nq (qV z);exists a,C,o.dx,_,_,rfl,ho,F.cls,F.aI,rfl,?_;exists cH,?_;intros p2 H2 s2 h2;let sc2:=sc.mono s2;refine{o.no,_,rfl,.inr {_,kN (b,p),p2,sc2.no.1,rfl,h2,?_,rfl},?_}
  ·rw[List.length_zip,za];omega
  refine kk _ _ (sc2.K7 (s2 _ _ hq) (ilq.mono s2) nl fr) ((vy.of s2).trans (vy.upd (by unfold own;simp))) λx hx=>?_;have:x∈own a o\/x=q:=by
   unfold own at hx ⊢;simp only[zG,zD,zE,or_false] at hx ⊢;rcases hx with hx | hx | hx
   ·exact .inl (.inl hx)
   ·exact .inl (.inr hx)
   ·exact .inr hx
  rcases this with z | z
  ·exact .inl z
  ·subst z;exact .inr nq
 | rep r=>
  let⟨vs,hv,ilv⟩:=sc.re;let vl:=aO ilv;exists a,C,o.dx,_,_,rfl,ho,F.cls,F.repeats,rfl,?_;refine{.inl {rfl,_,aH.of hv},?_};exists o.re,_,_,rfl,rfl,hv,nofun,?_;change kk _ o (sc.O9 hv ilv tv) (vy.upd (by unfold own;simp)) me
 | bT j=>
  exists a,C,o.dx,_,rfl,ho,F.cls,F.bT,(by show 9<1000;decide),?_;exact kk _ o (sc.NI ho hub tv) (vy.upd (by unfold own;simp)) me
def gi {H:Hp} {a C dx p:Addr} {fs fs':List (Str×V)} {u:HO} (ha:H a=some (.ins C dx fs)) (np:H p=none) :
  upd (upd H p u) a (.ins C dx fs') a=some (.ins C dx fs')/\upd (upd H p u) a (.ins C dx fs') p=some u/\∀b v,H b=some v->b≠a->upd (upd H p u) a (.ins C dx fs') b=some v:=by
 let na:p≠a:=λz=>by rw[z,ha] at np;cases np
 refine{aB,by rw[aC na,aB],λb v hb ne=>?_};rw[aC ne,aC (λz=>by rw[z,np] at hb;cases hb)];exact hb
def BJ {H:Hp} {a C dx:Addr} {fs':List (Str×V)}:upd H a (.ins C dx fs') a=some (.ins C dx fs')/\∀b v,H b=some v->b≠a->upd H a (.ins C dx fs') b=some v:=
 {aB,λb v hb ne=>by rw[aC ne];exact hb}
inductive Ak (C:Addr) (vs:List V) (H:Hp) (Q:VK) (E:XK):Prop
 | mk (a dx:Addr) (_:vs=[.ref a]) (_:H a=some (.ins C dx [])) (_:∀H' o,bY C H' a {} o->(∀b u,H b=some u->b≠a->H' b=some u)->(∀x∈own a o,x=a\/H x=none)->Q .bI H')
def An:fY ["self"] ["self"] (aT qB):=Sk
def AO {C:Addr} (F:Cf K C):dC P w K mg base GV 1 T.lN T.rD ["self"] (Ak C):=by
 refine T.yY.F.SV An λ_ _ _ _ H vs Q E hr h=>?_
 ·let⟨a,dx,rfl,ha,kk⟩:=h
  let sl:=yC;refine{_,af (iX (pv 0) (aY ag) rfl) (af (iX (pv 0) ku rfl) (af (iX (pv 0) ku rfl) (af (iX (pv 0) (aY ag) rfl) (af (iX (pv 0) aR rfl) (af (iX (pv 0) ku rfl) (af (iX (pv 0) MC rfl) (af (iX (pv 0) (aY ag) rfl) (aj (iX (pv 0) aR rfl))))))))),?_};refine{by show 0<=sizeLine;omega,λp1 n1=>?_};refine{_,rfl,a,C,dx,[],rfl,(by rw[aC (λz=>by rw[<-z,ha] at n1;cases n1)];exact ha),F.cls,F.players,(by show 0<1000;decide),?_};let⟨a1,q1,k1⟩:=gi (u:=.lst []) (fs':=aW "players" (.ref p1) []) ha n1;generalize upd (upd H p1 (.lst [])) a (.ins C dx (aW "players" (.ref p1) []))=H1 at a1 q1 k1 ⊢;refine λp2 n2=>{_,rfl,a,C,dx,_,rfl,(by rw[aC (λz=>by rw[<-z,a1] at n2;cases n2)];exact a1),F.cls,F.ak,(by show 1<1000;decide),?_}
  let⟨a2,q2,k2⟩:=gi (u:=.dK []) (fs':=(aW "instruments" (.ref p2) (aW "players" (.ref p1) []))) a1 n2;generalize upd (upd H1 p2 (.dK [])) a (.ins C dx (aW "instruments" (.ref p2) (aW "players" (.ref p1) [])))=H2 at a2 q2 k2 ⊢;refine λp3 n3=>{_,rfl,a,C,dx,_,rfl,(by rw[aC (λz=>by rw[<-z,a2] at n3;cases n3)];exact a2),F.cls,F.aJ,(by show 2<1000;decide),?_}
  let⟨a3,q3,k3⟩:=gi (u:=.dK []) (fs':=(aW "staffs" (.ref p3) (aW "instruments" (.ref p2) (aW "players" (.ref p1) [])))) a2 n3;generalize upd (upd H2 p3 (.dK [])) a (.ins C dx (aW "staffs" (.ref p3) (aW "instruments" (.ref p2) (aW "players" (.ref p1) []))))=H3 at a3 q3 k3 ⊢;refine{by show 0<=sizeLine;omega,λp4 n4=>{_,rfl,a,C,dx,_,rfl,(by rw[aC (λz=>by rw[<-z,a3] at n4;cases n4)];exact a3),F.cls,F.aK,(by show 3<1000;decide),?_}};let⟨a4,q4,k4⟩:=gi (u:=.lst []) (fs':=(aW "bars" (.ref p4) (aW "staffs" (.ref p3) (aW "instruments" (.ref p2) (aW "players" (.ref p1) []))))) a3 n4;generalize upd (upd H3 p4 (.lst [])) a (.ins C dx (aW "bars" (.ref p4) (aW "staffs" (.ref p3) (aW "instruments" (.ref p2) (aW "players" (.ref p1) [])))))=H4 at a4 q4 k4 ⊢;refine{_,rfl,a,C,dx,_,rfl,a4,F.cls,F.aF,(by show 4<1000;decide),?_};let⟨a5,k5⟩:=BJ (H:=H4) (a:=a) (C:=C) (dx:=dx) (fs':=(aW "upbeat" .bI (aW "bars" (.ref p4) (aW "staffs" (.ref p3) (aW "instruments" (.ref p2) (aW "players" (.ref p1) []))))));generalize upd H4 a (.ins C dx (aW "upbeat" .bI (aW "bars" (.ref p4) (aW "staffs" (.ref p3) (aW "instruments" (.ref p2) (aW "players" (.ref p1) []))))))=H5 at a5 k5 ⊢;refine λp6 n6=>{_,rfl,a,C,dx,_,rfl,(by rw[aC (λz=>by rw[<-z,a5] at n6;cases n6)];exact a5),F.cls,F.holds,(by show 5<1000;decide),?_}
  let⟨a6,q6,k6⟩:=gi (u:=.dK []) (fs':=(aW "holds" (.ref p6) (aW "upbeat" .bI (aW "bars" (.ref p4) (aW "staffs" (.ref p3) (aW "instruments" (.ref p2) (aW "players" (.ref p1) []))))))) a5 n6;generalize upd (upd H5 p6 (.dK [])) a (.ins C dx (aW "holds" (.ref p6) (aW "upbeat" .bI (aW "bars" (.ref p4) (aW "staffs" (.ref p3) (aW "instruments" (.ref p2) (aW "players" (.ref p1) [])))))))=H6 at a6 q6 k6 ⊢;refine λp7 n7=>{_,rfl,a,C,dx,_,rfl,(by rw[aC (λz=>by rw[<-z,a6] at n7;cases n7)];exact a6),F.cls,F.aI,(by show 6<1000;decide),?_}
  let⟨a7,q7,k7⟩:=gi (u:=.dT []) (fs':=(aW "notes" (.ref p7) (aW "holds" (.ref p6) (aW "upbeat" .bI (aW "bars" (.ref p4) (aW "staffs" (.ref p3) (aW "instruments" (.ref p2) (aW "players" (.ref p1) [])))))))) a6 n7;generalize upd (upd H6 p7 (.dT [])) a (.ins C dx (aW "notes" (.ref p7) (aW "holds" (.ref p6) (aW "upbeat" .bI (aW "bars" (.ref p4) (aW "staffs" (.ref p3) (aW "instruments" (.ref p2) (aW "players" (.ref p1) []))))))))=H7 at a7 q7 k7 ⊢;refine{by show 0<=sizeLine;omega,λp8 n8=>{_,rfl,a,C,dx,_,rfl,(by rw[aC (λz=>by rw[<-z,a7] at n8;cases n8)];exact a7),F.cls,F.repeats,(by show 7<1000;decide),?_}};let⟨a8,q8,k8⟩:=gi (u:=.lst []) (fs':=(aW "repeats" (.ref p8) (aW "notes" (.ref p7) (aW "holds" (.ref p6) (aW "upbeat" .bI (aW "bars" (.ref p4) (aW "staffs" (.ref p3) (aW "instruments" (.ref p2) (aW "players" (.ref p1) []))))))))) a7 n8;generalize upd (upd H7 p8 (.lst [])) a (.ins C dx (aW "repeats" (.ref p8) (aW "notes" (.ref p7) (aW "holds" (.ref p6) (aW "upbeat" .bI (aW "bars" (.ref p4) (aW "staffs" (.ref p3) (aW "instruments" (.ref p2) (aW "players" (.ref p1) [])))))))))=H8 at a8 q8 k8 ⊢;refine{_,rfl,a,C,dx,_,rfl,a8,F.cls,F.bT,(by show 8<1000;decide),?_};let⟨a9,k9⟩:=BJ (H:=H8) (a:=a) (C:=C) (dx:=dx) (fs':=(aW "jump" .bI (aW "repeats" (.ref p8) (aW "notes" (.ref p7) (aW "holds" (.ref p6) (aW "upbeat" .bI (aW "bars" (.ref p4) (aW "staffs" (.ref p3) (aW "instruments" (.ref p2) (aW "players" (.ref p1) []))))))))));generalize upd H8 a (.ins C dx (aW "jump" .bI (aW "repeats" (.ref p8) (aW "notes" (.ref p7) (aW "holds" (.ref p6) (aW "upbeat" .bI (aW "bars" (.ref p4) (aW "staffs" (.ref p3) (aW "instruments" (.ref p2) (aW "players" (.ref p1) []))))))))))=H9 at a9 k9 ⊢;let e1:p1≠a:=λz=>by rw[z,ha] at n1;cases n1
  let g1:=k9 _ _ (k8 _ _ (k7 _ _ (k6 _ _ (k5 _ _ (k4 _ _ (k3 _ _ (k2 _ _ (q1) e1) e1) e1) e1) e1) e1) e1) e1;let e2:p2≠a:=λz=>by rw[z,a1] at n2;cases n2
  let g2:=k9 _ _ (k8 _ _ (k7 _ _ (k6 _ _ (k5 _ _ (k4 _ _ (k3 _ _ (q2) e2) e2) e2) e2) e2) e2) e2;let e3:p3≠a:=λz=>by rw[z,a2] at n3;cases n3
  let g3:=k9 _ _ (k8 _ _ (k7 _ _ (k6 _ _ (k5 _ _ (k4 _ _ (q3) e3) e3) e3) e3) e3) e3;let e4:p4≠a:=λz=>by rw[z,a3] at n4;cases n4
  let g4:=k9 _ _ (k8 _ _ (k7 _ _ (k6 _ _ (k5 _ _ (q4) e4) e4) e4) e4) e4;let e6:p6≠a:=λz=>by rw[z,a5] at n6;cases n6
  let g6:=k9 _ _ (k8 _ _ (k7 _ _ (q6) e6) e6) e6;let e7:p7≠a:=λz=>by rw[z,a6] at n7;cases n7
  let g7:=k9 _ _ (k8 _ _ (q7) e7) e7;let e8:p8≠a:=λz=>by rw[z,a7] at n8;cases n8
  let g8:=k9 _ _ (q8) e8;let kH:∀b v,H b=some v->b≠a->H9 b=some v:=λb v hb ne=>k9 _ _ (k8 _ _ (k7 _ _ (k6 _ _ (k5 _ _ (k4 _ _ (k3 _ _ (k2 _ _ (k1 _ _ hb ne) ne) ne) ne) ne) ne) ne) ne) ne;let f1:H p1=none:=n1;let f2:H p2=none:=by
   cases q:H p2 with
   | none=>rfl
   | some v=>let z:=q;rw[show H1 p2=some v from k1 _ _ z e2] at n2;cases n2
  let f3:H p3=none:=by
   cases q:H p3 with
   | none=>rfl
   | some v=>let z:=q;rw[show H2 p3=some v from k2 _ _ (k1 _ _ z e3) e3] at n3;cases n3
  let f4:H p4=none:=by
   cases q:H p4 with
   | none=>rfl
   | some v=>let z:=q;rw[show H3 p4=some v from k3 _ _ (k2 _ _ (k1 _ _ z e4) e4) e4] at n4;cases n4
  let f6:H p6=none:=by
   cases q:H p6 with
   | none=>rfl
   | some v=>let z:=q;rw[show H5 p6=some v from k5 _ _ (k4 _ _ (k3 _ _ (k2 _ _ (k1 _ _ z e6) e6) e6) e6) e6] at n6;cases n6
  let f7:H p7=none:=by
   cases q:H p7 with
   | none=>rfl
   | some v=>let z:=q;rw[show H6 p7=some v from k6 _ _ (k5 _ _ (k4 _ _ (k3 _ _ (k2 _ _ (k1 _ _ z e7) e7) e7) e7) e7) e7] at n7;cases n7
  let f8:H p8=none:=by
   cases q:H p8 with
   | none=>rfl
   | some v=>let z:=q;rw[show H7 p8=some v from k7 _ _ (k6 _ _ (k5 _ _ (k4 _ _ (k3 _ _ (k2 _ _ (k1 _ _ z e8) e8) e8) e8) e8) e8) e8] at n8;cases n8
  let d14:p1≠p4:=λz=>by let h:=k3 _ _ (k2 _ _ (q1) e1) e1;rw[z,n4] at h;cases h
  let d18:p1≠p8:=λz=>by let h:=k7 _ _ (k6 _ _ (k5 _ _ (k4 _ _ (k3 _ _ (k2 _ _ (q1) e1) e1) e1) e1) e1) e1;rw[z,n8] at h;cases h
  let d48:p4≠p8:=λz=>by let h:=k7 _ _ (k6 _ _ (k5 _ _ (q4) e4) e4) e4;rw[z,n8] at h;cases h
  let d23:p2≠p3:=λz=>by let h:=q2;rw[z,n3] at h;cases h
  let d26:p2≠p6:=λz=>by let h:=k5 _ _ (k4 _ _ (k3 _ _ (q2) e2) e2) e2;rw[z,n6] at h;cases h
  let d36:p3≠p6:=λz=>by let h:=k5 _ _ (k4 _ _ (q3) e3) e3;rw[z,n6] at h;cases h
  refine kk H9 {dx,p1,p2,p3,p4,p6,p7,p8,[],[]} {{.bI,.bI,a9,dJ,dJ},g1,{[],g2,cD},{[],g3,cD},{[],g4,cD},{(g6),rfl},{(g7),rfl},{[],g8,cD},?_,?_} kH λx hx=>?_
  ·show [p1,p4,p8].Nodup
   simp[d14,d18,d48]
  ·show [p2,p3,p6].Nodup
   simp[d23,d26,d36]
  ·let hx':x∈[a,p1,p2,p3,p4,p6,p7,p8]:=by simpa[own] using hx
   simp only[zD,zE,or_false] at hx';rcases hx' with rfl | rfl | rfl | rfl | rfl | rfl | rfl | rfl
   ·exact .inl rfl
   ·exact .inr f1
   ·exact .inr f2
   ·exact .inr f3
   ·exact .inr f4
   ·exact .inr f6
   ·exact .inr f7
   ·exact .inr f8
inductive RT:List Str->List Told->Prop where
 | nil:RT [] []
 | blank {r:Str} {rs:List Str} {ts:List Told}:⇑r<=1000000->words r=[]->RT rs ts->RT (r::rs) ts
 | row {r:Str} {t:Told} {rs:List Str} {ts:List Told}:⇑r<=1000000->words r=wordsOf t->PR t->⇑(wordsOf t)<=1000000->(∀y∈wordsOf t,⇑y<=600)->RT rs ts->RT (r::rs) (t::ts)
def Runs:bW->List Told->bW->Prop
 | S,[],S'=>S=S'
 | S,t::r,S'=>fault S t=none/\Rl S t/\pR S/\tT S/\Runs (bM S t) r S'
def J3 (t:Told):∃ws,wordsOf t=oO t::ws:=by cases t <;> exact{_,rfl}
inductive Ad (C:Addr) (vs:List V) (H:Hp) (Q:VK) (E:XK):Prop
 | mk (t:Str) (ts:List Told) (S:bW) (_:vs=[.str t]) (_:⇑t+2<=sizeLine) (_:RT (Txt.split t "\n") ts) (_:Runs {} ts S) (_:∀a o H',bY C H' a S o->au H H'->(∀x∈own a o,H x=none)->Q (.ref a) H')
theorem JW {H0 H H':Hp} {v:V} (s:au H H'):∀{t:Option Told},gz H0 H v t->gz H0 H' v t
 | none,h=>h
 | some (.bH _),h=>h
 | some (.cL _ _ _),h=>Is.mono s h
 | some (.cq _ _),h=>Is.mono s h
 | some (.bar _),h=>Is.mono s h
 | some (.aF _),h=>Is.mono s h
 | some (.holds _ _ _),h=>Is.mono s h
 | some (.aI _ _ _),⟨a,q,vs,h1,h2,h3,h4,h5⟩=>{a,q,vs,h1,s _ _ h2,s _ _ h3,h4.mono s,h5}
 | some (.rep _),h=>Is.mono s h
 | some (.bT _),h=>Is.mono s h
def AH (B:Dk P w K T) (F:Cf K T.lL):cV P w base 8 T.oZ (Ad T.lL):=by
 nomatch T.oZ,["text","score","place","row","words","told","word"]
 let⟨t,ts,S,rfl,tl,rt,run,kk⟩:=h;let sl:=yC;refine{_,(af (bJ 1 qN (MA T.Pf (AO T F) (hr.mono ∅) rfl T.N0 T.yY.b .nil Jn))
  (af (b8 PassesOwn.never rfl (vz (by rfl) T.jJ (ah (bO yG yK yJ jd (pv 0) (ah aL ag)) ag)) (dP (n:=2) rfl (aM (iZ 2 qN) (aM (iZ 3 qN) de)))
  (af (bJ 4 qN (bN (Fz T) hr T.words_of (ah (pv 3) ag)))
   (aj (aG (ptr fi (d9 aE T.bF (ah (pv 4) ag)) ae)
   (af (bJ 5 qN (bN (FC T B) hr T.wL (ah (pv 4) ag)))
    (af (bJ 6 qN (bN (FG T B F) hr T.xt (ah (pv 1) (ah (fw (pv 4) ae) (ah (pv 5) ag)))))
    (af (aG (bE (fM (pv 6)))
    (aj Ms)
    ax)
    (aj (bw (bN (HM T F) hr T.D1 (ah (pv 1) (ah (fw (pv 4) ae) (ah (pv 5) ag)))))))))
   ax))))
  (aj (ao (pv 1))))),?_}
 ac_rfl;intro a dx na ndx ne;refine{a,dx,rfl,aB,λH1 o sc1 k1 fr1=>{rfl,?_}};let s1:au H H1:=λb u hb=>k1 b u (by rw[aC (λz=>by rw[z,na] at hb;cases hb),aC (λz=>by rw[z,ndx] at hb;cases hb)];exact hb) (λz=>by rw[z,na] at hb;cases hb);let f1:∀x∈own a o,H x=none:=λx hx=>by
  rcases fr1 x hx with z | z
  ·rw[z];exact na
  ·cases q:H x with
   | none=>rfl
   | some u=>
    rw[aC (λy=>by rw[y,na] at q;cases q),aC (λy=>by rw[y,ndx] at q;cases q),q] at z;cases z
 exists tl,λl nl=>?_;let s2:au H1 (upd H1 l (.lst ((Txt.split t "\n").map V.str))):=bq nl;let h2:upd H1 l (.lst ((Txt.split t "\n").map V.str)) l=some (.lst ((Txt.split t "\n").map V.str)):=aB;generalize upd H1 l (.lst ((Txt.split t "\n").map V.str))=H2 at s2 h2 ⊢;generalize hrows:Txt.split t "\n"= rows at rt h2;exists l,_,rfl,aH.of h2,?_;refine rj (K:=K) (a:=l) (xs:=rows.map V.str) (λi U H'=>∃ts' S' o',RT (rows.drop i) ts'/\Runs S' ts' S/\bY T.lL H' a S' o'/\H' l=some (.lst (rows.map V.str))/\l∉own a o'/\au H H'/\(∀x∈own a o',H x=none)/\∃u2 u3 u4 u5 u6,U=[some (.str t),some (.ref a),u2,u3,u4,u5,u6])
  {ts,{},o,rt,run,sc1.mono s2,h2,CU sc1 nl,s1.trans s2,f1,none,none,none,none,none,rfl} (λi U H' _ h=>by let⟨_,_,_,_,_,_,h,_⟩:=h;exact aH.of h) ?_ ?_
 ·intro i x U H3 p H4 hx hh s34 hp4
  refine cC λN kN0 kR0 _ _=>?_;let⟨ts',S',o',rt',run',sc3,hl3,nl3,s3,f3,u2,u3,u4,u5,u6,rfl⟩:=hh;rw[zK] at hx;cases qr:rows[i]? with
  | none=>rw[qr] at hx;cases hx
  | some r=>
  rw[qr] at hx;simp only[Option.map_some,Option.some.injEq] at hx;subst hx;let ed:rows.drop i=r::rows.drop (i+1):=by
   let hi:=(zy.mp qr).1;rw[List.drop_eq_getElem_cons hi];have:=(zy.mp qr).2;rw[this]
  rw[ed] at rt';let s4:=s3.trans s34;let sc4:=sc3.mono s34;cases rt' with
  | blank rl rw0 rt''=>
   refine{p,_,rfl,cY.of hp4,rfl,?_};refine{_,_,rfl,{_,_,rfl,{rfl,?_}}};exists rl,λp5 H5 s5 h5=>?_;rw[rw0] at h5;exists p5,_,rfl,.inl (aH.of h5),?_;left;let s05:=s4.trans s5;exact{ts',S',o',rt'',run',sc4.mono s5,s5 _ _ (s34 _ _ hl3),nl3,s05,f3,_,_,_,_,_,rfl}
  | row rl rw0 tok wl ws6 rt''=>
   rename_i t' ts'';let⟨fn,fit,hd,sz,run''⟩:=run';let⟨ws,ew⟩:=J3 t';refine{p,_,rfl,cY.of hp4,rfl,?_};refine{_,_,rfl,{_,_,rfl,{rfl,?_}}};exists rl,λp5 H5 s5 h5=>?_;rw[rw0] at h5;let h5':=h5;rw[ew] at h5;let sc5:=sc4.mono s5;let hl5:=s5 _ _ (s34 _ _ hl3);exists p5,_,rfl,.inl (aH.of h5),?_;rw[za,zv];left;refine bU (zg nofun) ?_;left;let wl':⇑ws<=999999:=by rw[ew,zv] at wl;omega
   refine{p5,oO t',ws,rfl,aH.of h5,wl',by rw[<-ew];exact ws6,λv H6 s6 tv=>?_};rw[<-ew,HI tok] at tv;let sc6:=sc5.mono s6;exists p5,_,0,_,rfl,rfl,aH.of (s6 _ _ h5),bC (j:=0) rfl,?_;exists a,S',o',oO t',v,H5,some t',rfl,sc6,tv,λt2 e2=>by cases e2;exact{(rfl),fit},λH7 s7=>?_
   rw[show Nf S' (some t')=fault S' t' from rfl,fn];exists p5,_,0,_,rfl,rfl,aH.of (s7 _ _ (s6 _ _ h5)),bC (j:=0) rfl,?_;exists a,S',o',v,H5,t',rfl,sc5,s6.trans s7,JW s7 tv,fn,hd,sz,λH8 o8 sc8 el8 fr8=>?_;let s07:=((s4.trans s5).trans s6).trans s7;left;refine{ts'',bM S' t',o8,rt'',run'',sc8,el8 _ _ nl3 (s7 _ _ (s6 _ _ hl5)),λz=>?_,λb u hb=>el8 _ _ (λz=>by rw[f3 b z] at hb;cases hb) (s07 _ _ hb),λx hx=>?_,_,_,_,_,_,rfl}
   ·rcases fr8 l z with y | y
    ·exact nl3 y
    ·rw[hl5] at y;cases y
   ·rcases fr8 x hx with y | y
    ·exact f3 x y
    ·exact(s4.trans s5).back y
 ·rintro U H3 ⟨ts',S',o',rt',run',sc3,hl3,nl3,s3,f3,u2,u3,u4,u5,u6,rfl⟩
  rw[za,List.drop_length] at rt';cases rt';let es:S'=S:=run';subst es;change kk a o' H3 sc3 s3 f3
inductive uC (vs:List V) (H:Hp) (Q:VK) (E:XK):Prop
 | mk (v:V) (r:Rep) (n:Int) (_:vs=[v,.int n]) (_:Is H (gq r) v) (_:Rw r) (_:∀D bs H',au H H'->H D=none->H' D=some (.lst (bs.map V.int))->lU r.first r.last 2000 bs->bs=i4 r n->Q (.ref D) H')
def mi:cV P w base 2 T.iE uC:=by
 nomatch T.iE,["repeat","number","ends","bars","end"]
 let⟨v,r,n,rfl,iv,rd,kk⟩:=h;let sl:=yC;let⟨a,e,rfl,ha,he⟩:=dB iv;let⟨en,er⟩:=Ni rd;let⟨r1,r2,r3,r4,r5,r6,r7⟩:=rd;refine{_,(af (bJ 2 qN (bN (w9 T) hr T.vH (ah (pv 0) ag)))
  (af (aG (ptr cW (d9 aE T.bF (ah (pv 2) ag)) ae)
  (aj (ao (qJ rfl (by rfl) T.jY (by rfl) T.cF (ah (bG (pv 0) ae) (ah (aq aS (bG (pv 0) ae) ae) ag)))))
  ax)
  (af (bJ 3 qN (qJ rfl (by rfl) T.jY (by rfl) T.cF (ah (bG (pv 0) ae) (ah (bG (fw (pv 2) ae) ae) ag))))
  (af (b8 PassesOwn.never rfl (aZ (pv 2)) (iZ 4 qN)
  (aj (aG (gB iP (pv 1) (bG (pv 4) ae) (by with_unfolding_all rfl))
   (aj (bw (bO yD PySem.F.slot_list_extend PySem.F.type_list_extend gg (pv 3) (ah (qJ rfl (by rfl) T.jY (by rfl) T.cF (ah (bG (pv 4) ae) (ah (aq aS (bG (pv 4) ae) ae) ag))) ag))))
   ax)))
  (aj (ao (pv 3))))))),?_}
 ac_rfl;exists _,r,rfl,iv,nofun,λp us H1 s1 h1 il=>?_;let ul:=aO il;let ha1:=s1 _ _ ha;exists p,us,rfl,.inl (aH.of h1),?_;rw[ul];left
 by_cases c0:⇑(dz r)=0
 ·refine bU (by rw[c0];rfl) ?_
  exists _,_,rfl,{(nofun),nofun,nofun,nofun},nofun,λl nl=>?_;exact kk l _ _ (s1.trans (bq nl)) (s1.back nl) aB (Hy nofun nofun nofun) (MG c0).symm
 ·refine b9 (ze λz=>c0 (by have:=V.int.inj z;omega)) ?_
  let u0:us[0]?=some (us[0]'nofun):=zd nofun;let⟨t,ht,it⟩:=cT il u0;let⟨a0,q0,e0,h0,_⟩:=G7 it;rw[e0] at u0;let⟨⟨t1,t2⟩,t3,t4⟩:=er t (zC ht);exists p,us,0,_,rfl,rfl,aH.of h1,bC u0,?_;exists _,_,rfl,{(nofun),nofun,nofun,nofun},nofun,λD nD=>?_;let s2:au H1 (upd H1 D (.lst ((cZ r.first (t.1-r.first).toNat).map V.int))):=bq nD;let h2:upd H1 D (.lst ((cZ r.first (t.1-r.first).toNat).map V.int)) D=some (.lst ((cZ r.first (t.1-r.first).toNat).map V.int)):=aB;generalize upd H1 D _=H2 at s2 h2 ⊢;exists{_,aH.of (s2 _ _ h1)},?_;refine dr (K:=K) (a:=p) (xs:=us) (λi U H'=>∃(bs:List Int) (w4:Option V),au H1 H'/\H' D=some (.lst (bs.map V.int))/\lU r.first r.last (200*(i+1)) bs/\bs=cZ r.first (t.1-r.first).toNat++Cw n ((dz r).take i)/\U=[some (.ref a),some (.int n),some (.ref p),some (.ref D),w4]) {_,none,s2,h2,Hy nofun nofun nofun,(zV _).symm,rfl} (λi U H' _ h=>by let⟨_,_,s,_⟩:=h;exact aH.of (s _ _ h1)) ?_ ?_
  ·intro i x U H3 hx hh
   refine cC λN kN0 kR0 _ _=>?_;let⟨bs,w4,s3,h3,bi,eb,rfl⟩:=hh;let hi:=(zy.mp hx).1;let⟨y,hy,iy⟩:=cT il hx;let⟨ay,qy,rfl,hay,hqy⟩:=G7 iy;let⟨⟨y1,y2⟩,y3,y4⟩:=er y (zC hy);let hay3:=s3 _ _ hay;exists qy,_,rfl,.inr (cY.of (s3 _ _ hqy)),rfl,nY _,?_;show∃k,V.bl (Di (.int n) (y.2.2.map V.int))=.bl k/\_;rw[ng];let e2:cZ r.first (t.1-r.first).toNat++Cw n ((dz r).take (i+1))=bs++if n∈y.2.2 then cZ y.1 (y.2.1+1-y.1).toNat else []:=by rw[cM hy,J5,<-zF,<-eb]
   refine{_,rfl,?_};cases c:decide (n∈y.2.2) with
   | true=>
    rw[if_pos (ye c)] at e2;refine bU rfl ?_;exists .inl {rfl,_,aH.of h3},?_;exists _,_,rfl,{(nofun),nofun,nofun,nofun},nofun,λl nl=>?_;let s4:au H3 (upd H3 l (.lst ((cZ y.1 (y.2.1+1-y.1).toNat).map V.int))):=bq nl;let h4:upd H3 l (.lst ((cZ y.1 (y.2.1+1-y.1).toNat).map V.int)) l=some (.lst ((cZ y.1 (y.2.1+1-y.1).toNat).map V.int)):=aB;generalize upd H3 l _=H4 at s4 h4 ⊢;let b2:lU r.first r.last 200 (cZ y.1 (y.2.1+1-y.1).toNat):=Hy nofun nofun nofun;let l1:=bi.1;let l2:=b2.1;refine .inl {D,l,_,_,rfl,rfl,s4 _ _ h3,h4,by rw[za,za];omega,?_};change{_,_,bj nD (s3.trans s4),by rw[aB,<-zk],(bi.app b2).mono (Int.le_refl _) (Int.le_refl _) nofun,e2.symm,rfl}
   | false=>
    rw[if_neg (of_decide_eq_false c),zV] at e2;refine b9 rfl ?_;change{_,_,s3,h3,bi.mono (Int.le_refl _) (Int.le_refl _) nofun,e2.symm,rfl}
  ·rintro U H3 ⟨bs,w4,s3,h3,bi,eb,rfl⟩
   rw[ul,zN,<-Kl ht] at eb;change kk D bs _ (s1.trans s3) (s1.back nD) h3 (bi.mono (Int.le_refl _) (Int.le_refl _) nofun) eb
inductive qd (vs:List V) (H:Hp) (Q:VK) (E:XK):Prop
 | mk (v:V) (r:Rep) (c:Bool) (_:vs=[v,.bl c]) (_:Is H (gq r) v) (_:Rw r) (_:∀D bs H',au H H'->H D=none->H' D=some (.lst (bs.map V.int))->lU r.first r.last 18000 bs->bs=Qv c r->Q (.ref D) H')
def qQ:cV P w base 3 T.jh qd:=by
 nomatch T.jh,["repeat","once","times","bars","number"]
 let⟨v,r,c,rfl,iv,rd,kk⟩:=h;let sl:=yC;let⟨a,e,rfl,ha,he⟩:=dB iv;let r5:=rd.2.2.2.2.1;let r4:=rd.2.2.2.1;refine{_,(af (bJ 2 qN (bG (pv 0) ae))
  (af (aG (cI (pv 1))
  (aj (ao (bN (mi T) hr T.iE (ah (pv 0) (ah (pv 2) ag)))))
  ax)
  (af (bJ 3 qN (aY ag))
  (af (b8 PassesOwn.never rfl (kr (by rfl) T.cF (ah ae (ah (aq aS (pv 2) ae) ag))) (iZ 4 qN)
  (aj (bw (bO yD PySem.F.slot_list_extend PySem.F.type_list_extend gg (pv 3) (ah (bN (mi T) hr T.iE (ah (pv 0) (ah (pv 4) ag))) ag)))))
  (aj (ao (pv 3))))))),?_}
 ac_rfl;left;cases c with
 | true=>
  refine bU rfl ?_;change{_,r,_,rfl,iv,rd,λD bs H' s' n' h' b' e'=>kk D bs H' s' n' h' (b'.mono (Int.le_refl _) (Int.le_refl _) ∅) e'}
 | false=>
  refine b9 (by simp) ?_;left
  intros D nD s1 h1 H1
  exists _,_,rfl,{(nofun),nofun,nofun,nofun},?_;refine eV (λi U H'=>∃(bs:List Int) (w4:Option V),au H H'/\H' D=some (.lst (bs.map V.int))/\lU r.first r.last (2000*i) bs/\bs=((cZ 1 i).map (i4 r)).flatten/\U=[some (.ref a),some (.bl false),some (.int r.times),some (.ref D),w4]) {[],none,s1,h1,{zm _,by simp},rfl,rfl} ?_ ?_
  ·intro i U H2 hi hh
   refine cC λN kN0 kR0 _ _=>?_;let⟨bs,w4,s2,h2,bi,eb,rfl⟩:=hh;exists .inl {rfl,_,aH.of h2},?_;exists _,r,_,rfl,iv.mono s2,rd,λD3 cs H3 s3 n3 h3 b3 e3=>?_;let l1:=bi.1;let l2:=b3.1;refine .inl {D,D3,_,_,rfl,rfl,s3 _ _ h2,h3,by rw[za,za];omega,?_};change{_,_,bj nD (s2.trans s3),by rw[aB,<-zk],(bi.app b3).mono (Int.le_refl _) (Int.le_refl _) nofun,by rw[eb,e3,nK,zk,List.flatten_append];simp,rfl}
  ·rintro U H2 ⟨bs,w4,s2,h2,bi,eb,rfl⟩
   rw[show(r.times+1-1).toNat=r.times.toNat from by omega] at eb;change kk D bs _ s2 nD h2 (bi.mono (Int.le_refl _) (Int.le_refl _) nofun) eb
inductive J1 (C:Addr) (vs:List V) (H:Hp) (Q:VK) (E:XK):Prop
 | mk (a:Addr) (S:bW) (o:Ow) (f l:Int) (c:Bool) (_:vs=[.ref a,.int f,.int l,.bl c]) (_:bY C H a S o) (_:GR S) (_:0<=f) (_:f<=200) (_:l+1=⇑S.aK) (_:⇑S.aK<=200) (_:∀D bs k H',au H H'->H D=none->H' D=some (.lst (bs.map V.int))->lU 0 l 4000000 bs->bs=((j6 S c f k).1.map (·.1)).flatten->l<(j6 S c f k).2->Q (.ref D) H')
def Km {C:Addr} (F:Cf K C):cV P w base 4 T.walked (J1 C):=by
 nomatch T.walked,["score","first","last","once","beginning","repeat","bars","bar"]
 let⟨a,S,o,f,l,c,rfl,sc,⟨rd,rl,rp,rb⟩,f0,f2,l2,l3,kk⟩:=h;let sl:=yC;let⟨ub,jm,ho,hub,hjm⟩:=sc.obj;let⟨rv,hre,ilr⟩:=sc.re;let rvl:=aO ilr;refine{_,(af (bJ 4 qN ku)
  (af (b8 PassesOwn.never rfl (aZ (bK (pv 0) rfl)) (iZ 5 qN)
  (aj (ly (fC hr) (pv 4) (bG (pv 5) ae) (pv 5) rfl)))
  (af (bJ 6 qN (aY ag))
  (af (bJ 7 qN (pv 1))
  (af (mU PassesOwn.never (ptr fN (pv 7) (pv 2))
  (aj (aG (bE (CT (fC hr) (pv 7) (pv 4)))
   (af (bJ 5 qN (vA (fC hr) (pv 4) (pv 7) (λ_ _=>rfl)))
    (af (bw (bO yD PySem.F.slot_list_extend PySem.F.type_list_extend gg (pv 6) (ah (mX (ts:=["taken"]) (ys:=["last"]) (js:=[2]) (g:=(bS 0)) (tc:=(ki (e9 (sM λi j=>.bl (decide (i<=j))) (aX 0) (aX 1)))) (te:=(aX 0)) (aZ (bN (qQ T) hr T.jh (ah (pv 5) (ah (pv 3) ag)))) (fZ 0) (fL (ptr fN (pv 0) (pv 1))) (pv 0)) ag)))
    (aj (bJ 7 qN (aq aS (bG (pv 5) ae) ae)))))
   (af (bw (bO yD yF yE bu (pv 6) (ah (pv 7) ag)))
    (aj (bJ 7 qN (aq aS (pv 7) ae)))))))
  (aj (ao (pv 6)))))))),?_}
 ac_rfl;left
 intros d nd s1 hd H1
 exists a,C,o.dx,_,_,rfl,s1 _ _ ho,F.cls,F.repeats,rfl,?_;exists{_,aH.of (s1 _ _ hre)},?_;refine dr (K:=K) (a:=o.re) (xs:=rv) (λi U H'=>∃(kvs:List (Key×V)) (w5:Option V),au H H'/\H' d=some (.dK kvs)/\⇑kvs<=i/\Ll S H i kvs/\U=[some (.ref a),some (.int f),some (.int l),some (.bl c),some (.ref d),w5,none,none]) {[],none,s1,hd,zm _,Ll.nil,rfl} (λi U H' _ h=>by let⟨_,_,s,_⟩:=h;exact aH.of (s _ _ hre)) ?_ ?_
 ·intro i x U H2 hx hh
  refine cC λN kN0 kR0 _ _=>?_;let⟨kvs,w5,s2,hk,kl,bg,rfl⟩:=hh;let⟨r,hr',ir⟩:=cT ilr hx;let hi:=(zy.mp hx).1;let⟨ar,er,rfl,har,_⟩:=dB ir;let har2:=s2 _ _ har;let pl:=gQ kvs (.inl r.first) (.ref ar);exists d,_,rfl,.inl {_,.inl r.first,hk,rfl,nofun,rfl},?_;change{_,_,bj nd s2,aB,nofun,bg.put hr' ir,rfl}
 ·rintro U H2 ⟨kvs,w5,s2,hk,kl,⟨bg,bc⟩,rfl⟩
  rw[rvl,zN] at bc;left
  intros B nB s3 hB H3
  left;refine rO (λm U H'=>∃(k:Nat) (b:Int) (bs:List Int) (w5:Option V),m=(200-b).toNat/\(j6 S c f k).2=b/\bs=((j6 S c f k).1.map (·.1)).flatten/\0<=b/\b<=200/\U=[some (.ref a),some (.int f),some (.int l),some (.bl c),some (.ref d),w5,some (.ref B),some (.int b)]/\au H2 H'/\H' B=some (.lst (bs.map V.int))/\lU 0 l (20000*b.toNat) bs)
   (λU H'=>∃(k:Nat) (bs:List Int) (w5 w7:Option V),l<(j6 S c f k).2/\bs=((j6 S c f k).1.map (·.1)).flatten/\U=[some (.ref a),some (.int f),some (.int l),some (.bl c),some (.ref d),w5,some (.ref B),w7]/\au H2 H'/\H' B=some (.lst (bs.map V.int))/\lU 0 l 4000000 bs)
   {_,0,f,[],w5,rfl,rfl,rfl,f0,f2,rfl,s3,hB,{yg _,by simp}} ?_ ?_
  ·rintro m U H4 ⟨k,b,bs,w5,rfl,gk,eb,b0,b2,rfl,s4,h4,bi⟩ N hN
   let l1:=bi.1;let hk4:=s4 _ _ hk;left
   by_cases c1:b<=l
   ·refine bU (zg c1) ?_
    let gs:j6 S c f (k+1)=((j6 S c f k).1++[Er S c b],(Er S c b).2+1):=by rw[j6,gk,if_pos nofun]
    let ge:((j6 S c f (k+1)).1.map (·.1)).flatten=bs++(Er S c b).1:=by rw[gs,zk,List.flatten_append,<-eb];simp
    refine{λU H'=>∃(b':Int) (bs:List Int) (w5:Option V),b'=(Er S c b).2+1/\bs=((j6 S c f (k+1)).1.map (·.1)).flatten/\b<b'/\b'<=200/\U=[some (.ref a),some (.int f),some (.int l),some (.bl c),some (.ref d),w5,some (.ref B),some (.int b')]/\au H2 H'/\H' B=some (.lst (bs.map V.int))/\lU 0 l (20000*b'.toNat) bs,?_,?_}
    ·rintro U' H' ⟨b',bs,w5,y1,y2,z1,z2,rfl,z3,z4,z5⟩
     exact{_,nofun,k+1,b',bs,w5,rfl,by rw[gs,y1],y2,nofun,z2,rfl,z3,z4,z5}
    ·left
     refine{d,_,rfl,.inl {kvs,.inl b,.inl hk4,rfl,rfl},?_};refine{_,rfl,?_};cases gv:cR kvs (.inl b) with
     | none=>
      rw[Jd λr hr' z=>bc r hr' (by rw[z];exact gv)] at ge ⊢;refine b9 (by simp) ?_;exists .inl {rfl,_,aH.of h4},?_;exists B,_,_,rfl,rfl,h4,by rw[za];omega,?_
      change{b+1,bs++[b],_,rfl,ge.symm,nofun,nofun,rfl,bj nB s4,by rw[aB,zk];rfl,(bi.app (b:=[b]) (m:=1) {zm _,λx hx=>by cases zA.mp hx;exact{(b0),c1}}).mono (Int.le_refl _) (Int.le_refl _) nofun}
     | some v=>
      let⟨r,hr',rfl,ir⟩:=bg b v gv;let rr:=rd r hr';let⟨r1,r2,r3,_⟩:=id rr;let rb':=rb r hr';rw[LY rp rd hr'] at ge ⊢;let ir4:=(ir.mono s2).mono s4;let⟨ar,er,rfl,har,_⟩:=dB ir;refine bU rfl ?_;exists d,.ref ar,rfl,.inl {kvs,.inl r.first,.inl hk4,rfl,gv.symm},?_;exists .inl {rfl,_,aH.of h4},?_;exists _,r,c,rfl,ir4,rr,λD5 cs H5 s5 n5 h5 b5 e5=>?_;let cl:=b5.1;exists{_,aH.of h5},?_;refine Iv (rest:=[some (.int l)]) (λt=>decide (t<=l)) nofun (aH.of h5) {(none),rfl} ?_ ?_
      ·intro t H6 R s6 hR
       change hR _ (au.refl _)
      intro D6 H6 s6 _ h6;rw[List.filter_eq_self.mpr λx hx=>zg (by have:=(b5.2 x hx).2;omega)] at h6;let fb:lU 0 l 18000 cs:=b5.mono r1 nofun (zm _);rw[<-e5] at ge;let fl:=fb.1;let s46:=s5.trans s6;refine .inl {B,D6,_,_,rfl,rfl,s46 _ _ h4,h6,by rw[za,za];omega,?_};let s7:au H2 (upd H6 B (.lst (bs.map V.int++cs.map V.int))):=bj nB (s4.trans s46);let h7:upd H6 B (.lst (bs.map V.int++cs.map V.int)) B=some (.lst ((bs++cs).map V.int)):=by rw[aB,zk]
      generalize upd H6 B _=H7 at s7 h7 ⊢;let har7:=s7 _ _ (s2 _ _ har);change{r.last+1,_,_,rfl,ge.symm,nofun,nofun,rfl,s7,h7,(bi.app fb).mono (Int.le_refl _) (Int.le_refl _) nofun}
   ·refine b9 (ze c1) ?_
    exact hN _ _ {k,bs,_,_,nofun,eb,rfl,s4,h4,bi.mono (Int.le_refl _) (Int.le_refl _) nofun}
  ·rintro U H4 ⟨k,bs,w5,w7,lk,eb,rfl,s4,h4,bi⟩
   change kk B bs k _ (s2.trans s4) (s2.back nB) h4 bi eb lk
inductive Ac (C:Addr) (vs:List V) (H:Hp) (Q:VK) (E:XK):Prop
 | mk (a:Addr) (S:bW) (o:Ow) (_:vs=[.ref a]) (_:bY C H a S o) (_:GR S) (_:1<=⇑S.aK) (_:⇑S.aK<=200) (_:S.bT=none) (_:∀D bs k H',au H H'->H D=none->H' D=some (.lst (bs.map V.int))->lU 0 ((⇑S.aK:Int)-1) 4000000 bs->bs=((j6 S false 0 k).1.map (·.1)).flatten->(⇑S.aK:Int)-1<(j6 S false 0 k).2->Q (.ref D) H')
def AF {C:Addr} (F:Cf K C):cV P w base 5 T.oH (Ac C):=by
 nomatch T.oH,["score","last","jump","bars"]
 let⟨a,S,o,rfl,sc,rd,b1,b2,ej,kk⟩:=h;let⟨ub,jm,ho,hub,hjm⟩:=sc.obj;let⟨bv,hba,ilb⟩:=sc.ba;rw[ej] at hjm;unfold dO Is at hjm;subst hjm;refine{_,(af (bJ 1 qN (aq i6 (d9 aE T.bF (ah (bK (pv 0) rfl) ag)) ae))
  (af (bJ 2 qN (bK (pv 0) rfl))
  (af (aG (bE (cu (pv 2)))
  (aj (ao (bN (Km T F) hr T.walked (ah (pv 0) (ah ae (ah (pv 1) (ah ky ag)))))))
  ax)
  By))),?_}
 ac_rfl;exists a,C,o.dx,_,_,rfl,ho,F.cls,F.aK,rfl,?_;exists o.ba,bv,rfl,.inl (aH.of hba),?_;rw[aO ilb];exists a,C,o.dx,_,_,rfl,ho,F.cls,F.bT,rfl,?_;change{a,S,o,0,_,false,rfl,sc,rd,∅,∅,nofun,b2,kk}
inductive J2 (C:Addr) (vs:List V) (H:Hp) (Q:VK) (E:XK):Prop
 | mk (a:Addr) (S:bW) (o:Ow) (_:vs=[.ref a]) (_:bY C H a S o) (_:GR S) (_:1<=⇑S.aK) (_:⇑S.aK<=200) (_:S.bT=none) (_:(∀x∈S.aK,B7 x)) (_:(∀b,b<⇑S.aK->S8 (S.len b))) (_:∀D us bs k H',au H H'->H D=none->H' D=some (.lst us)->⇑bs<=4000000->bs.map (λb:Nat=>(b:Int))=((j6 S false 0 k).1.map (·.1)).flatten->(⇑S.aK:Int)-1<(j6 S false 0 k).2->RL (vx S bs H') (List.range ⇑bs) us->Q (.ref D) H')
def BC {C:Addr} (F:Cf K C):cV P w base 6 T.CP (J2 C):=by
 nomatch T.CP,["score","triples","counts","time","bar"]
 let⟨a,S,o,rfl,sc,rd,b1,b2,jk,bo,lo,kk⟩:=h;let sl:=yC;refine{_,(af (bJ 1 qN (aY ag))
  (af (bJ 2 qN ku)
  (af (bJ 3 qN (bz (ah ae (ah ae ag))))
  (af (b8 PassesOwn.never rfl (aZ (bN (AF T F) hr T.oH (ah (pv 0) ag))) (iZ 4 qN)
  (af (ly (fC hr) (pv 2) (pv 4) (aq aS (Ft (fC hr) (pv 2) (pv 4) ae {(rfl),rfl,rfl,rfl}) ae) rfl)
   (af (bw (bO yD yF yE bu (pv 1) (ah (bz (ah (pv 4) (ah (pv 3) (ah (vA (fC hr) (pv 2) (pv 4) (λ_ _=>rfl)) ag)))) ag)))
   (aj (bJ 3 qN (bN (FI T) hr T.added (ah (pv 3) (ah (bN (mZ T F) hr T.jy (ah (pv 0) (ah (pv 4) ag))) ag))))))))
  (aj (ao (pv 1))))))),?_}
 ac_rfl;left
 intros D nD s1 hD H1
 left
 intros d nd s2 hd H2
 exists cH,?_;intros t0 H3 s3 h3;let s03:=(s1.trans s2).trans s3;exists a,S,o,rfl,sc.mono s03,rd,b1,b2,jk,λE zs kz H4 s4 nE hE iz ez lz=>?_;let s04:=s03.trans s4;let⟨zl,zin⟩:=iz;generalize gb:zs.map Int.toNat=bs;let bl:⇑bs=⇑zs:=by rw[<-gb,za]
 let zb:∀(i:Nat) (b:Int),zs[i]?=some b->bs[i]?=some b.toNat/\0<=b/\b<⇑S.aK:=λi b hb=>{by rw[<-gb,zK,hb];rfl,by have:=zin b (zC hb);omega}
 let bin:∀b∈bs,b<⇑S.aK:=λb hb=>by
  rw[<-gb] at hb;let⟨z,hz,rfl⟩:=zH.mp hb;have:=zin z hz;omega
 let tok:=N7 lo bin;let eb:bs.map (λb:Nat=>(b:Int))=zs:=by
  rw[<-gb,zB];refine(List.map_congr_left λz hz=>?_).trans (List.map_id zs);have:=zin z hz;show((z.toNat:Nat):Int)=z;omega
 let nDE:D≠E:=λz=>by rw[<-z,s3 _ _ (s2 _ _ hD)] at nE;cases nE
 let ndE:d≠E:=λz=>by rw[<-z,s3 _ _ hd] at nE;cases nE
 let dD:D≠d:=Sc.bf (s2 _ _ hD) hd (by simp[kindOf]);let nd0:=s1.back nd;exists{_,aH.of hE},?_;refine dr (K:=K) (a:=E) (xs:=zs.map V.int) (λi U H'=>∃(us:List V) (kvs:List (Key×V)) (q:Addr) (w4:Option V),U=[some (.ref a),some (.ref D),some (.ref d),some (.ref q),w4]/\au H H'/\H' E=some (.lst (zs.map V.int))/\H' D=some (.lst us)/\H' d=some (.dK kvs)/\⇑kvs<=i/\(∀(k:Int) v,cR kvs (.inl k)=some v->∃c,v=.int c)/\H' q=some (jw (EK S (bs.take i)))/\RL (vx S bs H') (List.range i) us)
  {[],[],t0,none,rfl,s04,hE,s4 _ _ (s3 _ _ (s2 _ _ hD)),s4 _ _ (s3 _ _ hd),zm _,(λ_ _ z=>by rw[EA] at z;cases z),s4 _ _ h3,rfl} (λi U H' _ h=>by let⟨_,_,_,_,_,_,h,_⟩:=h;exact aH.of h) ?_ ?_
 ·intro i x U H5 hx hh
  refine cC λN kN0 kR0 _ _=>?_;let⟨us,kvs,q,w4,rfl,s5,hE5,hD5,hd5,kl,kv,hq,rl5⟩:=hh;rw[zK] at hx;cases qr:zs[i]? with
  | none=>rw[qr] at hx;cases hx
  | some z=>
  rw[qr] at hx;simp only[Option.map_some,Option.some.injEq] at hx;subst hx;let⟨hb,z0,z1⟩:=zb i z qr;let hi:=(zy.mp qr).1;let ul:=rl5.len;rw[zR] at ul;obtain⟨m,rfl⟩:∃m:Nat,z=(m:Int):={(z.toNat),nofun}
  rw[Int.toNat_natCast] at hb;exists .inl {_,.inl hd5},?_;exists _,.inl {_,.inl (m:Int),.inl hd5,rfl,rfl},?_;obtain⟨c,ec⟩:∃c,(cR kvs (.inl (m:Int))).getD (.int 0)=.int c:=by
   cases g:cR kvs (.inl (m:Int)) with
   | none=>exact{0,rfl}
   | some v=>let⟨c,rfl⟩:=kv _ _ g;exact{(c),rfl}
  rw[ec];let ntd:cj (H5 d):=λ_ z=>by rw[hd5] at z;cases z
  let kv6:∀(k:Int) v,cR (putK kvs (.inl (m:Int)) (.int (c+1))) (.inl k)=some v->∃c,v=.int c:=λk v hv=>by
   rw[pX] at hv;split at hv
   ·cases hv;exact{_,rfl}
   ·exact kv k v hv
  let pl:=gQ kvs (.inl (m:Int)) (.int (c+1));exists d,_,rfl,.inl {_,.inl (m:Int),hd5,rfl,nofun,rfl},?_;let gm:cR (putK kvs (.inl (m:Int)) (.int (c+1))) (.inl (m:Int))=some (.int (c+1)):=by rw[pX,if_pos rfl]
  generalize putK kvs (.inl (m:Int)) (.int (c+1))=kv2 at kv6 pl gm ⊢;let s6:au H (upd H5 d (.dK kv2)):=bj nd0 s5;let hd6:upd H5 d (.dK kv2) d=some (.dK kv2):=aB;let hE6:upd H5 d (.dK kv2) E=some (.lst (zs.map V.int)):=by rw[aC ndE.symm];exact hE5
  let hD6:upd H5 d (.dK kv2) D=some (.lst us):=by rw[aC dD];exact hD5
  let hq6:upd H5 d (.dK kv2) q=some (jw (EK S (bs.take i))):=by rw[aC λe=>ntd _ (e▸hq)];exact hq
  let rl6:RL (vx S bs (upd H5 d (.dK kv2))) (List.range i) us:=rl5.imp λx v z=>z.upd ntd;generalize upd H5 d (.dK kv2)=H6 at s6 hd6 hE6 hD6 hq6 rl6 ⊢;exists .inl {rfl,_,aH.of hD6},?_;exists d,.int (c+1),rfl,.inl {_,.inl (m:Int),.inl hd6,rfl,gm.symm},?_;exists by show 3<=sizeLine;omega,?_
  intros p7 H7 s7 h7;let hD7:=s7 _ _ hD6;let ntD:cj (H7 D):=λ_ z=>by rw[hD7] at z;cases z
  refine{D,us,_,rfl,rfl,hD7,nofun,?_};let s8:au H (upd H7 D (.lst (us++[.ref p7]))):=bj nD (s6.trans s7);let hD8:upd H7 D (.lst (us++[.ref p7])) D=some (.lst (us++[.ref p7])):=aB;let hE8:upd H7 D (.lst (us++[.ref p7])) E=some (.lst (zs.map V.int)):=by rw[aC nDE.symm];exact s7 _ _ hE6
  let hd8:upd H7 D (.lst (us++[.ref p7])) d=some (.dK kv2):=by rw[aC dD.symm];exact s7 _ _ hd6
  let hq8:upd H7 D (.lst (us++[.ref p7])) q=some (jw (EK S (bs.take i))):=by rw[aC λe=>ntD _ (e▸s7 _ _ hq6)];exact s7 _ _ hq6
  let rl8:RL (vx S bs (upd H7 D (.lst (us++[.ref p7])))) (List.range (i+1)) (us++[.ref p7]):=by
   rw[List.range_succ];exact RL.snoc (vx.upd ntD {p7,q,c+1,m,rfl,h7,s7 _ _ hq6,hb}) (rl6.imp λx v z=>(z.mono s7).upd ntD)
  generalize upd H7 D (.lst (us++[.ref p7]))=H8 at s8 hD8 hE8 hd8 hq8 rl8 ⊢;exists a,S,o,m,rfl,sc.mono s8,nofun,bo,λp9 H9 s9 h9=>?_;let ti:=tok i;let⟨⟨t1,t2⟩,t3,t4⟩:=RH ti nofun;let⟨⟨y1,y2,y3,y4⟩,_⟩:=lo m nofun;let⟨_,y5,_⟩:=y1.pos;exists _,_,q,p9,60,10,rfl,s9 _ _ hq8,h9,ti.1,y1,{cm nofun nofun,cm nofun nofun},{cm nofun nofun,cm nofun nofun},(by decide),λr Ha sa ha=>?_;let s8a:=s9.trans sa;change{_,_,r,_,rfl,s8.trans s8a,s8a _ _ hE8,s8a _ _ hD8,s8a _ _ hd8,nofun,kv6,by rw[cM hb,Br];exact ha,rl8.imp λx v z=>z.mono s8a}
 ·rintro U H5 ⟨us,kvs,q,w4,rfl,s5,hE5,hD5,hd5,kl,kv,hq,rl5⟩
  rw[za,<-bl] at rl5;change kk D us bs kz _ s5 nD hD5 nofun (eb.trans ez) lz rl5
theorem Runs.app:∀{a b:List Told} {S S1 S2:bW},Runs S a S1->Runs S1 b S2->Runs S (a++b) S2
 | [],_,_,_,_,h,k=>by
  let e:_=_:=h;subst e;exact k
 | _::_,_,_,_,_,⟨h1,h2,h3,h4,h5⟩,k=>{h1,h2,h3,h4,Runs.app h5 k}
theorem qC:∀{l:List Str} {S:bW},(S.players++l).Nodup->⇑(S.players++l)<=12->pR S->tT S->Runs S (l.map .bH) {S with players:=S.players++l}
 | [],S,_,_,_,_=>by
  show S=_;rw[zV]
 | n::r,S,nd,hl,hd,sz=>by
  let nd':=nd;rw[zT] at nd';rw[zh,zv] at hl;refine{?_,trivial,hd,sz,?_}
  ·unfold fault
   dsimp only;rw[if_neg (λz=>nd'.2.2 n z n zr rfl),if_neg nofun]
  ·let ih:=qC (l:=r) (S:=bM S (.bH n)) (by show(S.players++[n]++r).Nodup;rw[zF];exact nd) (by show(S.players++[n]++r).length<=12;simp only[zh,zv,List.length_nil];omega) hd {by show(S.players++[n]).length<=1000000;rw[zh];simp;omega,sz.2}
   let e:({bM S (.bH n) with players:=(bM S (.bH n)).players++r}:bW)={S with players:=S.players++n::r}:=by
    show({S with players:=S.players++[n]++r}:bW)=_;rw[zF];rfl
   rw[e] at ih;exact ih
theorem wF:∀{l:List (Str×(Int×Int)×(Int×Int))} {S:bW},((S.ak++l).map (·.1)).Nodup->⇑(S.ak++l)<=12->pR S->tT S->Runs S (l.map λx=>.cL x.1 x.2.1 x.2.2) {S with ak:=S.ak++l}
 | [],S,_,_,_,_=>by
  show S=_;rw[zV]
 | n::r,S,nd,hl,hd,sz=>by
  let nd':=nd;rw[zk,zT] at nd';rw[zh,zv] at hl;refine{?_,trivial,hd,sz,?_}
  ·unfold fault
   dsimp only;rw[if_neg (λz=>nd'.2.2 n.1 z n.1 (by rw[zj];exact zr) rfl),if_neg nofun]
  ·let ih:=wF (l:=r) (S:=bM S (.cL n.1 n.2.1 n.2.2)) (by show((S.ak++[n]++r).map _).Nodup;rw[zF];exact nd) (by show(S.ak++[n]++r).length<=12;simp only[zh,zv,List.length_nil];omega) hd {sz.1,by show(S.ak++[n]).length<=1000000;rw[zh];simp;omega,sz.2.2}
   let e:({bM S (.cL n.1 n.2.1 n.2.2) with ak:=(bM S (.cL n.1 n.2.1 n.2.2)).ak++r}:bW)={S with ak:=S.ak++n::r}:=by
    show({S with ak:=S.ak++[n]++r}:bW)=_;rw[zF];rfl
   rw[e] at ih;exact ih
theorem Bx:∀{l:List Sc.Lv} {S:bW},⇑(S.aK++l)<=200->pR S->tT S->Runs S (l.map .bar) {S with aK:=S.aK++l}
 | [],S,_,_,_=>by
  show S=_;rw[zV]
 | n::r,S,hl,hd,sz=>by
  rw[zh,zv] at hl;refine{?_,trivial,hd,sz,?_}
  ·unfold fault
   dsimp only;rw[if_neg nofun]
  ·let ih:=Bx (l:=r) (S:=bM S (.bar n)) (by show(S.aK++[n]++r).length<=200;simp only[zh,zv,List.length_nil];omega) hd {sz.1,sz.2.1,sz.2.2.1,by show(S.aK++[n]).length<=1000000;rw[zh];simp;omega,sz.2.2.2.2}
   let e:({bM S (.bar n) with aK:=(bM S (.bar n)).aK++r}:bW)={S with aK:=S.aK++n::r}:=by
    show({S with aK:=S.aK++[n]++r}:bW)=_;rw[zF];rfl
   rw[e] at ih;exact ih
theorem wD:∀{l:List ((Int×Str)×List Item)} {S:bW},((S.aI++l).map (·.1)).Nodup->⇑(S.aI++l)<=1000000->PY S->(∀x∈l,0<=x.1.1/\x.1.1<⇑S.aK/\x.1.2∈S.players/\⇑x.2<=40/\(∀it∈x.2,NW it.2)/\jU x.2=S.len x.1.1.toNat)->pR S->tT S->Runs S (l.map λx=>.aI x.1.1 x.1.2 x.2) {S with aI:=S.aI++l}
 | [],S,_,_,_,_,_,_=>by
  show S=_;rw[zV]
 | n::r,S,nd,hl,lu,hx,hd,sz=>by
  let nd':=nd;rw[zk,zT] at nd';rw[zh,zv] at hl;let⟨b0,b1,pin,il,iok,isum⟩:=hx n zr;refine{?_,{(b0),nofun,iok,lu},hd,sz,?_}
  ·unfold fault
   dsimp only;rw[if_neg (λz=>nd'.2.2 n.1 z n.1 (by rw[zj];exact zr) rfl),if_neg (λz=>z pin),if_neg,if_neg (λz=>z isum),if_neg nofun];intro z;apply z;unfold bW.has;simp[b1]
  ·let ih:=wD (l:=r) (S:=bM S (.aI n.1.1 n.1.2 n.2)) (by show((S.aI++[n]++r).map _).Nodup;rw[zF];exact nd) (by show(S.aI++[n]++r).length<=1000000;simp only[zh,zv,List.length_nil];omega) lu (λx h=>hx x (zp _ h)) hd {sz.1,sz.2.1,sz.2.2.1,sz.2.2.2.1,by show(S.aI++[n]).length<=1000000;rw[zh];simp;omega,sz.2.2.2.2.2}
   let e:({bM S (.aI n.1.1 n.1.2 n.2) with aI:=(bM S (.aI n.1.1 n.1.2 n.2)).aI++r}:bW)={S with aI:=S.aI++n::r}:=by
    show({S with aI:=S.aI++[n]++r}:bW)=_;rw[zF];rfl
   rw[e] at ih;exact ih
def Fe {S:bW} {u:Int×Int} (hn:S.aF=none) (hb:⇑S.aK≠0) (hs:u.1*(S.aP 0).2<(S.aP 0).1*u.2) (no:S.aI=[]) (zu:y8 8999 u) (lu:PY S) (hd:pR S) (sz:tT S):Runs S [.aF u] {S with aF:=some u}:=by
 refine{?_,{zu,lu,by rw[no];exact yg _},hd,sz,rfl};unfold fault;dsimp only;rw[if_neg (by rw[hn];simp),if_neg hb,if_neg (λz=>z hs),if_neg (by rw[no];simp)]
theorem tY:∀{l:List (Str×List Str)} {S:bW},((S.aJ++l).map (·.1)).Nodup->((S.aJ++l).map (·.2)).flatten.Nodup->(∀x∈l,∀p∈x.2,p∈S.players)->(∀x∈l,⇑x.2<=1000)->⇑(S.aJ++l)<=1000000->pR S->tT S->Runs S (l.map λx=>.cq x.1 x.2) {S with aJ:=S.aJ++l}
 | [],S,_,_,_,_,_,_,_=>by
  show S=_;rw[zV]
 | n::r,S,nd,fd,pin,pl,hl,hd,sz=>by
  let nd':=nd;let fd':=fd;rw[zk,zT] at nd';rw[zk,List.flatten_append,zj,ya,zT] at fd';rw[zh,zv] at hl;refine{?_,pl n zr,hd,sz,?_}
  ·unfold fault
   dsimp only;let pn:n.2.Nodup:=(zT.mp fd'.2.1).1;let p2:¬(S.aJ.any λq=>n.2.any λp=>decide (p∈q.2))=true:=λz=>by
    let⟨q,hq,z⟩:=yo.mp z;let⟨p,hp,z⟩:=yo.mp z;exact fd'.2.2 p (List.mem_flatten.mpr {q.2,zP (f:=λx:Str×List Str=>x.2) hq,ye z}) p (zJ _ hp) rfl
   let p3:¬(n.2.any λp=>!decide (p∈S.players))=true:=λz=>by
    let⟨p,hp,z⟩:=yo.mp z;rw[zg (pin n zr p hp)] at z;cases z
   rw[if_neg (λz=>nd'.2.2 n.1 z n.1 (by rw[zj];exact zr) rfl),if_neg (λz=>z pn),if_neg p2,if_neg p3]
  ·let ih:=tY (l:=r) (S:=bM S (.cq n.1 n.2)) (by show((S.aJ++[n]++r).map _).Nodup;rw[zF];exact nd) (by show((S.aJ++[n]++r).map _).flatten.Nodup;rw[zF];exact fd) (λx h=>pin x (zp _ h)) (λx h=>pl x (zp _ h)) (by show(S.aJ++[n]++r).length<=1000000;simp only[zh,zv,List.length_nil];omega) hd {sz.1,sz.2.1,by show(S.aJ++[n]).length<=1000000;rw[zh];simp;omega,sz.2.2.2}
   let e:({bM S (.cq n.1 n.2) with aJ:=(bM S (.cq n.1 n.2)).aJ++r}:bW)={S with aJ:=S.aJ++n::r}:=by
    show({S with aJ:=S.aJ++[n]++r}:bW)=_;rw[zF];rfl
   rw[e] at ih;exact ih
def MR {base:List (Str×List (Int×Str))} {p:Str} (h:p∉base.map (·.1)):base.lookup p=none:=by
 induction base with
 | nil=>rfl
 | cons x r ih=>
  rw[zj,zD,not_or] at h;rw[yq,show(p == x.1)=false from by simp;exact h.1];exact ih h.2
def Kr {base:List (Str×List (Int×Str))} {p:Str} {acc:List (Int×Str)} (h:p∉base.map (·.1)):(base++[(p,acc)]).lookup p=some acc:=by
 induction base with
 | nil=>rw[List.nil_append,yq,beq_self_eq_true]
 | cons x r ih=>
  rw[zj,zD,not_or] at h;rw[List.cons_append,yq,show(p == x.1)=false from by simp;exact h.1];exact ih h.2
def NH {base:List (Str×List (Int×Str))} {p:Str} {acc:List (Int×Str)} {e:Int×Str} (h:p∉base.map (·.1)):eX (base++[(p,acc)]) p e=base++[(p,acc++[e])]:=by
 unfold eX;rw[if_pos (by rw[zk];exact zI _ (zA.mpr rfl)),zk];let er:(base.map λq:Str×List (Int×Str)=>if q.1=p then(q.1,q.2++[e]) else q)=base:=by
  conv=>rhs;rw[<-List.map_id base]
  refine List.map_congr_left λq hq=>?_;rw[if_neg (λz=>h (by rw[<-z];exact zP (f:=λx:Str×List (Int×Str)=>x.1) hq))];rfl
 rw[er];simp
def BM {S:bW} {p:Str} {acc:List (Int×Str)} {h:Int×Str} (hl:(S.holds.lookup p).getD []=acc) (asc:∀a∈acc,a.1<h.1) (al:⇑acc<20) (hp:p∈S.players) (hb:h.1<⇑S.aK) (hi:h.2∈S.ak.map (·.1)):fault S (.holds p h.1 h.2)=none:=by
 unfold fault;dsimp only;rw[hl];let c1:¬(match acc.getLast? with | some q=>decide (h.1<=q.1) | none=>false)=true:=by
  cases q:acc.getLast? with
  | none=>simp
  | some x=>
   have:=asc x (List.mem_of_getLast? q);simp;exact this
 rw[if_neg (by
  cases q:acc.getLast? with
  | none=>simp
  | some x=>
   have:=asc x (List.mem_of_getLast? q);simp;exact this),if_neg (λz=>z hp),if_neg (λz=>z hi),if_neg (λz=>z (by unfold bW.has;simp[hb])),if_neg nofun]
theorem Ff {p:Str} {base:List (Str×List (Int×Str))} (nb:p∉base.map (·.1)) (nd:(base.map (·.1)).Nodup) (bl:⇑base<=999999) (bb:∀q∈base,⇑q.2<=1000000):∀{row acc:List (Int×Str)} {S:bW},S.holds=base++[(p,acc)]->((acc++row).map (·.1)).Pairwise (·<·)->⇑(acc++row)<=20->p∈S.players->
  (∀h∈row,h.1<⇑S.aK/\h.2∈S.ak.map (·.1))->tT S->Runs S (row.map λh=>.holds p h.1 h.2) {S with holds:=base++[(p,acc++row)]}
 | [],acc,S,eS,_,_,_,_,_=>by
  show S=_;rw[zV,<-eS]
 | h::r,acc,S,eS,asc,al,hp,hx,sz=>by
  let⟨hb,hi⟩:=hx h zr;let asc':=asc;rw[zk,zU] at asc';rw[zh,zv] at al;let hd:pR S:=by
   refine{?_,?_,?_}
   ·rw[eS,zk,zT]
    exact{nd,by simp,λx hx y hy e=>by simp at hy;subst hy;subst e;exact nb hx}
   ·rw[eS,zh];simp;omega
   ·intro q hq
    rw[eS] at hq;rcases zG.mp hq with z | z
    ·exact bb q z
    ·rw[zA.mp z];show ⇑acc<=1000000;omega
  refine{BM (acc:=acc) (by rw[eS,Kr nb];rfl) (λa ha=>asc'.2.2 a.1 (zP (f:=λx:Int×Str=>x.1) ha) h.1 (by rw[zj];exact zr)) nofun hp hb hi,trivial,hd,sz,?_};let ih:=Ff nb nd bl bb (row:=r) (acc:=acc++[h]) (S:=bM S (.holds p h.1 h.2)) (by show eX S.holds p (h.1,h.2)=_;rw[eS,NH nb]) (by rw[zF];exact asc) (by simp only[zh,zv,List.length_nil];omega) hp (λx hx'=>hx x (zp _ hx')) sz;let e:({bM S (.holds p h.1 h.2) with holds:=base++[(p,acc++[h]++r)]}:bW)={S with holds:=base++[(p,acc++h::r)]}:=by
   show({S with holds:=base++[(p,acc++[h]++r)]}:bW)=_;rw[zF];rfl
  rw[e] at ih;exact ih
theorem wG:∀{l:List (Str×List (Int×Str))} {S:bW},((S.holds++l).map (·.1)).Nodup->⇑(S.holds++l)<=999999->(∀x∈l,x.2≠[]/\⇑x.2<=20/\(x.2.map (·.1)).Pairwise (·<·)/\x.1∈S.players/\∀h∈x.2,h.1<⇑S.aK/\h.2∈S.ak.map (·.1))->pR S->tT S->
  Runs S (l.map λx=>x.2.map λh=>Told.holds x.1 h.1 h.2).flatten {S with holds:=S.holds++l}
 | [],S,_,_,_,_,_=>by
  show S=_;rw[zV]
 | x::r,S,nd,hl,hx,hd,sz=>by
  let⟨ne,xl,asc,hp,hh⟩:=hx x zr;let⟨h,t,et⟩:=List.exists_cons_of_ne_nil ne;let nd':=nd;rw[zk,zT] at nd';let nb:x.1∉S.holds.map (·.1):=λz=>nd'.2.2 x.1 z x.1 (by rw[zj];exact zr) rfl;rw[zh,zv] at hl;rw[zj,ya];refine Runs.app (S1:={S with holds:=S.holds++[x]}) ?_ ?_
  ·rw[et] at xl asc hh ⊢
   let⟨hb,hi⟩:=hh h zr;refine{BM (acc:=[]) (by rw[MR nb];rfl) (by simp) (by simp) hp hb hi,trivial,hd,sz,?_};let ea:bM S (.holds x.1 h.1 h.2)={S with holds:=S.holds++[(x.1,[h])]}:=by
    show({S with holds:=eX S.holds x.1 (h.1,h.2)}:bW)=_;unfold eX;rw[if_neg nb]
   rw[ea];let rr:=Ff (p:=x.1) nb hd.1 nofun hd.2.2 (row:=t) (acc:=[h]) (S:={S with holds:=S.holds++[(x.1,[h])]}) rfl asc xl hp (λy hy=>hh y (zp _ hy)) sz;let ex:x=(x.1,[h]++t):=by rw[List.singleton_append,<-et]
   let e2:({({S with holds:=S.holds++[(x.1,[h])]}:bW) with holds:=S.holds++[(x.1,[h]++t)]}:bW)={S with holds:=S.holds++[x]}:=by rw[<-ex]
   rw[e2] at rr;exact rr
  ·let ih:=wG (l:=r) (S:={S with holds:=S.holds++[x]}) (by show((S.holds++[x]++r).map _).Nodup;rw[zF];exact nd) (by show(S.holds++[x]++r).length<=999999;simp only[zh,zv,List.length_nil];omega) (λy hy=>hx y (zp _ hy)) ?_ sz
   ·let e:({({S with holds:=S.holds++[x]}:bW) with holds:=S.holds++[x]++r}:bW)={S with holds:=S.holds++x::r}:=by rw[zF];rfl
    exact e▸ih
   ·refine{?_,?_,?_}
    ·show((S.holds++[x]).map _).Nodup
     have:=List.Nodup.sublist (List.Sublist.map (λx:Str×List (Int×Str)=>x.1) (List.Sublist.append (List.Sublist.refl S.holds) (List.singleton_sublist.mpr zr))) nd;exact this
    ·show(S.holds++[x]).length<=1000000
     rw[zh];simp;omega
    ·intro q hq
     let hq':q∈S.holds++[x]:=hq;rcases zG.mp hq' with z | z
     ·exact hd.2.2 q z
     ·rw[zA.mp z];omega
def vL (n:Nat):List Rep->List Rep->Prop
 | _,[]=>True
 | rs,r::l=>(∀b∈[r.first,r.last]++r.ends.map (·.1),b<(n:Int))/\kX rs r=true/\(G8 r.ends<64/\⇑r.ends<=1000/\-1000000<=r.times/\r.times<=1000000)/\vL n (rs++[r]) l
def M6 {S:bW} {bs:List Int} (h:∀b∈bs,b<(⇑S.aK:Int)):S.has bs=true:=yp.mpr λb hb=>zg (h b hb)
theorem Bw:∀{l:List Rep} {S:bW},S.bT=none->vL ⇑S.aK S.repeats l->⇑(S.repeats++l)<=20->pR S->tT S->Runs S (l.map .rep) {S with repeats:=S.repeats++l}
 | [],S,_,_,_,_,_=>by
  show S=_;rw[zV]
 | r::l,S,nj,⟨h1,h2,h3,h4⟩,hl,hd,sz=>by
  rw[zh,zv] at hl;refine{?_,h3,hd,sz,?_}
  ·unfold fault
   dsimp only;rw[if_neg (λz=>z (M6 h1)),if_neg (by rw[nj];simp),if_neg (λz=>z h2),if_neg nofun]
  ·let ih:=Bw (l:=l) (S:=bM S (.rep r)) nj h4 (by show(S.repeats++[r]++l).length<=20;simp only[zh,zv,List.length_nil];omega) hd {sz.1,sz.2.1,sz.2.2.1,sz.2.2.2.1,sz.2.2.2.2.1,by show(S.repeats++[r]).length<=1000000;rw[zh];simp;omega}
   let e:({bM S (.rep r) with repeats:=(bM S (.rep r)).repeats++l}:bW)={S with repeats:=S.repeats++r::l}:=by
    show({S with repeats:=S.repeats++[r]++l}:bW)=_;rw[zF];rfl
   rw[e] at ih;exact ih
def Ka {S:bW} {j:Jump} (nj:S.bT=none) (hb:∀b∈[j.vE,j.y7,j.dy]++j.gw.toList,b<(⇑S.aK:Int)) (hf:gR S.repeats j=true) (ro:El S) (hd:pR S) (sz:tT S):Runs S [.bT j] {S with bT:=some j}:=by
 refine{?_,ro,hd,sz,rfl};unfold fault;dsimp only;rw[if_neg (by rw[nj];simp),if_neg (λz=>z (M6 hb)),if_neg (λz=>z hf)]
structure Uy (S:bW):Prop where
 pn:S.players.Nodup
 pl:⇑S.players<=12
 UO:(S.ak.map (·.1)).Nodup
 il:⇑S.ak<=12
 sn:(S.aJ.map (·.1)).Nodup
 sf:(S.aJ.map (·.2)).flatten.Nodup
 sp:∀x∈S.aJ,∀p∈x.2,p∈S.players
 sl:∀x∈S.aJ,⇑x.2<=1000
 sc:⇑S.aJ<=1000000
 bl:⇑S.aK<=200
 lu:PY S
 up:∀u,S.aF=some u->⇑S.aK≠0/\u.1*(S.aP 0).2<(S.aP 0).1*u.2/\y8 8999 u
 hn:(S.holds.map (·.1)).Nodup
 hl:⇑S.holds<=999999
 hx:∀x∈S.holds,x.2≠[]/\⇑x.2<=20/\(x.2.map (·.1)).Pairwise (·<·)/\x.1∈S.players/\∀h∈x.2,h.1<⇑S.aK/\h.2∈S.ak.map (·.1)
 nn:(S.aI.map (·.1)).Nodup
 nl:⇑S.aI<=1000000
 nx:∀x∈S.aI,0<=x.1.1/\x.1.1<⇑S.aK/\x.1.2∈S.players/\⇑x.2<=40/\(∀it∈x.2,NW it.2)/\jU x.2=S.len x.1.1.toNat
 rf:vL ⇑S.aK [] S.repeats
 rl:⇑S.repeats<=20
 ro:El S
 ju:∀j,S.bT=some j->(∀b∈[j.vE,j.y7,j.dy]++j.gw.toList,b<(⇑S.aK:Int))/\gR S.repeats j=true
def L8 {S:bW} (V:Uy S):Runs {} (eC S) S:=by
 let hd0:∀T:bW,T.holds=[]->pR T:=λT e=>by
  refine{by rw[e];exact List.nodup_nil,by rw[e];exact yg _,λq hq=>by rw[e] at hq;cases hq}
 let hdS:∀T:bW,T.holds=S.holds->pR T:=λT e=>by
  refine{by rw[e];exact V.hn,by rw[e];have:=V.hl;omega,λq hq=>?_};rw[e] at hq;have:=(V.hx q hq).2.1;omega
 let b1:=V.pl;let b2:=V.il;let b3:=V.sc;let b4:=V.bl;let b5:=V.nl;let b6:=V.rl;let szP:∀T:bW,(T.players=[]\/T.players=S.players)->(T.ak=[]\/T.ak=S.ak)->(T.aJ=[]\/T.aJ=S.aJ)->(T.aK=[]\/T.aK=S.aK)->(T.aI=[]\/T.aI=S.aI)->(T.repeats=[]\/T.repeats=S.repeats)->tT T:=λT q1 q2 q3 q4 q5 q6=>by
  refine{?_,?_,?_,?_,?_,?_}
  ·rcases q1 with e | e <;> rw[e] <;> first | exact yg _ | omega
  ·rcases q2 with e | e <;> rw[e] <;> first | exact yg _ | omega
  ·rcases q3 with e | e <;> rw[e] <;> first | exact yg _ | omega
  ·rcases q4 with e | e <;> rw[e] <;> first | exact yg _ | omega
  ·rcases q5 with e | e <;> rw[e] <;> first | exact yg _ | omega
  ·rcases q6 with e | e <;> rw[e] <;> first | exact yg _ | omega
 let r1:=qC (l:=S.players) (S:={}) V.pn b1 (hd0 _ rfl) (szP _ (.inl rfl) (.inl rfl) (.inl rfl) (.inl rfl) (.inl rfl) (.inl rfl));let r2:=wF (l:=S.ak) (S:={players:=S.players}) V.UO b2 (hd0 _ rfl) (szP _ (.inr rfl) (.inl rfl) (.inl rfl) (.inl rfl) (.inl rfl) (.inl rfl));let r3:=tY (l:=S.aJ) (S:={players:=S.players,ak:=S.ak}) V.sn V.sf V.sp V.sl b3 (hd0 _ rfl) (szP _ (.inr rfl) (.inr rfl) (.inl rfl) (.inl rfl) (.inl rfl) (.inl rfl));let r4:=Bx (l:=S.aK) (S:={players:=S.players,ak:=S.ak,aJ:=S.aJ}) b4 (hd0 _ rfl) (szP _ (.inr rfl) (.inr rfl) (.inr rfl) (.inl rfl) (.inl rfl) (.inl rfl));let r5:Runs {players:=S.players,ak:=S.ak,aJ:=S.aJ,aK:=S.aK} (S.aF.toList.map .aF) {players:=S.players,ak:=S.ak,aJ:=S.aJ,aK:=S.aK,aF:=S.aF}:=by
  cases q:S.aF with
  | none=>exact rfl
  | some u=>
   let⟨u1,u2,u3⟩:=V.up u q;exact Fe (S:={players:=S.players,ak:=S.ak,aJ:=S.aJ,aK:=S.aK}) rfl u1 u2 rfl u3 V.lu (hd0 _ rfl) (szP _ (.inr rfl) (.inr rfl) (.inr rfl) (.inr rfl) (.inl rfl) (.inl rfl))
 let r6:=wG (l:=S.holds) (S:={players:=S.players,ak:=S.ak,aJ:=S.aJ,aK:=S.aK,aF:=S.aF}) V.hn V.hl V.hx (hd0 _ rfl) (szP _ (.inr rfl) (.inr rfl) (.inr rfl) (.inr rfl) (.inl rfl) (.inl rfl));let r7:=wD (l:=S.aI) (S:={players:=S.players,ak:=S.ak,aJ:=S.aJ,aK:=S.aK,aF:=S.aF,holds:=S.holds}) V.nn b5 V.lu V.nx (hdS _ rfl) (szP _ (.inr rfl) (.inr rfl) (.inr rfl) (.inr rfl) (.inl rfl) (.inl rfl));let r8:=Bw (l:=S.repeats) (S:={players:=S.players,ak:=S.ak,aJ:=S.aJ,aK:=S.aK,aF:=S.aF,holds:=S.holds,aI:=S.aI}) rfl V.rf b6 (hdS _ rfl) (szP _ (.inr rfl) (.inr rfl) (.inr rfl) (.inr rfl) (.inr rfl) (.inl rfl));let r9:Runs {players:=S.players,ak:=S.ak,aJ:=S.aJ,aK:=S.aK,aF:=S.aF,holds:=S.holds,aI:=S.aI,repeats:=S.repeats} (S.bT.toList.map .bT) S:=by
  let⟨s1,s2,s3,s4,s5,s6,s7,s8,s9⟩:=S;cases s9 with
  | none=>exact rfl
  | some j=>
   let⟨j1,j2⟩:=V.ju j rfl;exact Ka (S:={players:=s1,ak:=s2,aJ:=s3,aK:=s4,aF:=s5,holds:=s6,aI:=s7,repeats:=s8}) rfl j1 j2 V.ro (hdS _ rfl) (szP _ (.inr rfl) (.inr rfl) (.inr rfl) (.inr rfl) (.inr rfl) (.inr rfl))
 exact Runs.app (Runs.app (Runs.app (Runs.app (Runs.app (Runs.app (Runs.app r1 r2) r3) r4) r5) r6) r7) (Runs.app r8 r9)
inductive uG (K:yB) (vs:List V) (H:Hp) (Q:VK) (E:XK):Prop
 | mk (a:Addr) (ns:List Int) (k:Int) (_:vs=[.ref a,.int k]) (_:aH K H a (ns.map V.int)) (_:0<=k) (_:⇑ns<=1000) (_:∀c:Int,Q (.int c) H)
def bZ:cV P w base 1 T.cz (uG K):=by
 nomatch T.cz,["_law_script","_law_k"]
 let⟨a,ns,k,rfl,hS,h0,hl,kk⟩:=h;refine{_,(af (aG (ptr eZ (pv 1) (d9 aE T.bF (ah (pv 0) ag)))
  (aj (ao (fw (pv 0) (pv 1))))
  ax)
  (aj (ao ae))),?_}
 exists a,_,rfl,.inl hS,?_;left;refine uZ (λc1=>?_) (λc1=>?_)
 ·let c2:=ye c1
  rw[za] at c2;change{a,_,_,_,rfl,rfl,hS,ND h0 c2,kk _}
 ·left
  exact kk _
inductive rZ (vs:List V) (H:Hp) (Q:VK) (E:XK):Prop
 | mk (c m:Int) (_:vs=[.int c,.int m]) (_:0<=c) (_:c<1099511627776) (_:0<=m) (_:m<=12) (_:∀(ns:List Str) p H',⇑ns=m.toNat->yZ ns->au H H'->H' p=some (.lst (ns.map V.str))->Q (.ref p) H')
def eR:cV P w base 1 T.d6 rZ:=by
 nomatch T.d6,["_law_cell","_law_many","_law_letters","_law_first","_law_size","_law_place","_law_stem"]
 let⟨c,m,rfl,c0,c1,m0,m1,kk⟩:=h;let sl:=yC;refine{_,(af (bJ 2 qN aL)
  (af (bJ 3 qN (aq aQ (aq aU (pv 0) ae) ae))
  (af (aG (PW.pt (dn (ptr cW (aq aQ (pv 0) ae) ae) (cQ (ptr eZ (pv 1) ae))))
  (aj (ao (mX (ts:=["_law_k"]) (ys:=["_law_many","_law_letters","_law_first"]) (js:=[1,2,3]) (te:=(e9 PB (e9 Oq (aX 2) (aX 3)) (e9 (sM λi j=>.int (i-j)) (aX 1) (aX 0)))) (dk (by rfl) T.cF (aa (pv 1) ag)) (fZ 0) bx (aq OG (wQ Dg (pv 2) (pv 3) (λ_ _=>rfl)) (aq i6 (pv 1) (pv 0))))))
  ax)
  (af (bJ 4 qN (aq aQ (aq aU (pv 0) ae) ae))
  (af (bJ 5 qN (aq aQ (aq aU (pv 0) ae) (aq aS (pv 4) ae)))
  (af (bJ 6 qN (bO yG yI yH gE aL (aa (mX (ts:=["_law_k"]) (ys:=["_law_cell","_law_letters"]) (js:=[0,2]) (te:=(e9 Oq (e9 (λx y H Q=>∃i j,x=.str i/\y=.str j/\⇑i+⇑j<=sizeLine/\Q (.str (i++j)) H) (aX 2) (tC (.str "0123456789"))) (e9 (rI (λ_ j=>0<j) λi j=>.int (i%j)) (e9 (sM λi j=>.int (i+j)) (e9 (rI Rq λi j=>.int (i/j)) (aX 1) (tC (.int (16224)))) (e9 (rI Lk λi j=>.int (i*j)) (tC (.int (7))) (aX 0))) (tC (.int (36)))))) (dk (by rfl) T.cF (aa (pv 4) ag)) (fZ 0) bx (wQ Dg (aq bV (pv 2) aL) (aq aQ (aq aS (aq aU (pv 1) ae) (aq dQ ae (pv 0))) ae) (λ_ _=>rfl))) ag)))
  (aj (ao (mX (ts:=["_law_k"]) (ys:=["_law_letters","_law_first","_law_place","_law_stem"]) (js:=[2,3,5,6]) (te:=(e9 (λx y H Q=>∃i j,x=.str i/\y=.str j/\⇑i+⇑j<=sizeLine/\Q (.str (i++j)) H) (e9 (λx y H Q=>∃i j,x=.str i/\y=.str j/\⇑i+⇑j<=sizeLine/\Q (.str (i++j)) H) (TJ Qy (aX 4) Cd (LM (aX 3))) (e9 Oq (aX 1) (e9 (rI (λ_ j=>0<j) λi j=>.int (i%j)) (e9 (sM λi j=>.int (i+j)) (aX 2) (e9 (rI Lk λi j=>.int (i*j)) (tC (.int (5))) (aX 0))) (tC (.int (26)))))) (TJ Qy (aX 4) (LM (aX 3)) Cd))) (dk (by rfl) T.cF (aa (pv 1) ag)) (fZ 0) bx (aq bV (aq bV (dq Hj (pv 4) dN (dM (pv 3))) (wQ Dg (pv 1) (aq aQ (aq aS (pv 2) (aq dQ ae (pv 0))) ae) (λ_ _=>rfl))) (dq Hj (pv 4) (dM (pv 3)) dN))))))))))),?_}
 ac_rfl;left
 by_cases q:c%4=0
 ·refine bU (by show decide (V.int (c%4)=V.int 0)=true;rw[q];rfl) ?_
  left;refine bU (zg nofun) ?_;exists by omega,nofun,?_
  let f0:0<=c/4%26:=zw _ ∅;let f1:c/4%26<26:=zt _ ∅;refine lK (λk=>.str (oY {#[97+(c/4%26).toNat]} (m.toNat-k))) (λU=>∃v,U=[v,some (.int m),some (.str lets),some (.int (c/4%26))]) nofun {(none),rfl} ?_ ?_
  ·rintro k U H4 R hk s4 ⟨_,rfl⟩ r
   exists lets,_,_,rfl,rfl,(by show 26<=sizeLine;omega),Jp f0 f1,?_;exists by omega,nofun,(by show 1<=1000;decide),?_
   refine r _ _ _ (au.refl _) ?_ {_,rfl};rw[show(m-(0+(k:Int))).toNat=m.toNat-k from by omega];exact eK
  ·intro D vs H4 s4 _ hD il
   let e:(List.range m.toNat).map (λk=>Dt.str (oY {#[97+(c/4%26).toNat]} (m.toNat-k)))=((List.range m.toNat).map λk=>oY {#[97+(c/4%26).toNat]} (m.toNat-k)).map Dt.str:=by rw[zB];rfl
   rw[e] at il;rw[dH il] at hD;exact kk _ D H4 (by rw[za,zR]) (Ko nofun (MV f0 f1)) s4 hD
 ·refine b9 (by show decide (V.int (c%4)=V.int 0)=false;exact ze λz=>q (V.int.inj z)) ?_
  let f0:0<=c/4%26:=zw _ ∅;let f1:c/4%26<26:=zt _ ∅;let z0:0<=c/104%12:=zw _ ∅;let z1:c/104%12<12:=zt _ ∅;let y0:0<=c/1248%(c/104%12+1):=zw _ nofun;let y1:c/1248%(c/104%12+1)<c/104%12+1:=zt _ nofun;let x0:0<=c/16224:=zW c0 ∅;let x1:c/16224<=c:=zX _ c0;exists by show 0<c/104%12+1;omega,?_
  exists by omega,nofun,?_
  refine lK (λk=>.str {#[Oc ((c/16224+7*(0+(k:Nat)))%36)]}) (λU=>∃v,U=[v,some (.int c),some (.str lets)]) nofun {(none),rfl} ?_ ?_
  ·rintro k U H4 R hk s4 ⟨_,rfl⟩ r
   exists by show 26+10<=sizeLine;omega,?_
   left;let w0:0<=(c/16224+7*(0+(k:Int)))%36:=zw _ ∅;let w1:(c/16224+7*(0+(k:Int)))%36<36:=zt _ ∅;refine{lets ++"0123456789",_,_,rfl,rfl,by show 36<=sizeLine;omega,(L4 w0 w1).1,?_};exact r _ _ _ (au.refl _) eK {_,rfl}
  ·intro D vs H4 s4 _ hD il
   let e:(List.range (c/104%12).toNat).map (λk:Nat=>Dt.str {#[Oc ((c/16224+7*(0+(k:Nat)))%36)]})=(mO c (c/104%12).toNat).map Dt.str:=by unfold mO;rw[zB];rfl
   rw[e] at il;rw[dH il] at hD;refine{"",D,mO c (c/104%12).toNat,rfl,rfl,aH.of hD,by rw[LV];omega,?_};exists by omega,nofun,?_
   let sln:=LX c (c/104%12).toNat;let ssg:=LW (c:=c) (n:=(c/104%12).toNat);generalize hst:Str.join "" (mO c (c/104%12).toNat)=stem at sln ssg;obtain⟨pn,hpn⟩:∃n:Nat,c/1248%(c/104%12+1)=(n:Int):={(c/1248%(c/104%12+1)).toNat,nofun}
   obtain⟨fn,hfn⟩:∃n:Nat,c/4%26=(n:Int):={(c/4%26).toNat,nofun}
   let pb:pn<=⇑stem:=nofun
   let l1:⇑(Txt.slice stem none (some (pn:Int)))<=11:=by
    rw[<-show _=⇑(Txt.slice stem none (some (pn:Int))) from Array.length_toList,EX stem pb,zQ];omega
   let l2:⇑(Txt.slice stem (some (pn:Int)) none)<=11:=by
    rw[<-show _=⇑(Txt.slice stem (some (pn:Int)) none) from Array.length_toList,oP stem pb,List.length_drop,show ⇑stem.cps.toList=⇑stem from Array.length_toList];omega
   refine lK (λk=>.str (Txt.slice stem none (some (pn:Int))++{#[97+(fn+5*k)%26]}++Txt.slice stem (some (pn:Int)) none)) (λU=>∃v,U=[v,some (.str lets),some (.int (fn:Int)),some (.int (pn:Int)),some (.str stem)]) nofun {none,by rw[<-hpn,<-hfn];rfl} ?_ ?_
   ·rintro k U H5 R hk s5 ⟨_,rfl⟩ r
    exists by omega,?_
    left;let w0:0<=((fn:Int)+5*(0+(k:Int)))%26:=zw _ ∅;let w1:((fn:Int)+5*(0+(k:Int)))%26<26:=zt _ ∅;let we:(((fn:Int)+5*(0+(k:Int)))%26).toNat=(fn+5*k)%26:=nofun
    refine{lets,_,_,rfl,rfl,by show 26<=sizeLine;omega,Jp w0 w1,?_};rw[we];let l3:⇑({#[97+(fn+5*k)%26]}:Str)=1:=rfl;refine{_,_,rfl,rfl,nofun,?_};exists by omega,?_
    refine{_,_,rfl,rfl,by rw[len_app];omega,?_};exact r _ _ _ (au.refl _) eK {_,rfl}
   ·intro D2 vs2 H5 s5 _ hD2 il2
    let e:(List.range m.toNat).map (λk=>Dt.str (Txt.slice stem none (some (pn:Int))++{#[97+(fn+5*k)%26]}++Txt.slice stem (some (pn:Int)) none))=((List.range m.toNat).map λk=>Txt.slice stem none (some (pn:Int))++{#[97+(fn+5*k)%26]}++Txt.slice stem (some (pn:Int)) none).map Dt.str:=by rw[zB];rfl
    rw[e] at il2;rw[dH il2] at hD2;exact kk _ D2 H5 (by rw[za,zR]) (HP nofun pb ssg nofun) (s4.trans s5) hD2
def rX:Sp:=λvs H Q _=>∃(m:Int),vs=[.int m]/\0<=m/\∀q p H',NN q->au H H'->H' p=some (jw q)->Q (.ref p) H'
def sT:cV P w base 1 T.ke rX:=by
 nomatch T.ke,["_law_m","_law_f","_law_high"]
 let⟨m,rfl,m0,kk⟩:=h;let a:=zw m (b:=41) ∅;let b:=zt m (b:=41) ∅;let c:=zw (m/41) (b:=14) ∅;let d:=zt (m/41) (b:=14) ∅;refine{_,(af (bJ 1 qN (aq i6 (aq aQ (pv 0) ae) ae))
  (af (bJ 2 qN (aq dQ (aq i6 (aq aQ (aq aU (pv 0) ae) ae) ae) ae))
  (aj (ao (bz (aa (pv 1) (aa (aq aS (aq aQ (aq dQ ae (pv 1)) ae) (pv 2)) ag))))))),?_}
 ac_rfl;exists cH,?_;intros p1 H1 s1 h1;change kk _ _ _ (Kh m) s1 h1
inductive sg (vs:List V) (H:Hp) (Q:VK) (E:XK):Prop
 | mk (m:Int) (x:Int×Int) (q:Addr) (_:vs=[.int m,.ref q]) (_:H q=some (jw x)) (_:0<=m) (_:m<1099511627776) (_:IQ x) (_:∀(its:List Item) p us H',Eo its x->au H H'->H p=none->H' p=some (.lst us)->aD H' (its.map eM) us->Q (.ref p) H')
def sV:cV P w base 2 T.kg sg:=by
 nomatch T.kg,["_law_m","_law_length","_law_many","_law_weights","_law_items","_law_j","_law_each"]
 let⟨m,x,q,rfl,hq,m0,m1,xok,kk⟩:=h;let sl:=yC;let a:=zw m (b:=6) ∅;let b:=zt m (b:=6) ∅;obtain⟨n,hn⟩:∃n:Nat,1+m%6=(n:Int):={(1+m%6).toNat,nofun}
 refine{_,(af (bJ 2 qN (aq aS ae (aq aQ (pv 0) ae)))
  (af (MF (i:=3) (ts:=["_law_j"]) (ys:=["_law_m"]) (js:=[0]) (te:=(e9 (sM λi j=>.int (i+j)) (tC (.int (1))) (e9 (rI (λ_ j=>0<j) λi j=>.int (i%j)) (e9 (rI Rq λi j=>.int (i/j)) (aX 1) (e9 (sM λi j=>.int (i+j)) (tC (.int (7))) (e9 (rI Lk λi j=>.int (i*j)) (tC (.int (5))) (aX 0)))) (tC (.int (4)))))) (dk (by rfl) T.cF (aa (pv 2) ag)) (fZ 0) bx (aq aS ae (aq aQ (aq aU (pv 1) (aq aS ae (aq dQ ae (pv 0)))) ae)) qN)
  (af (bJ 4 qN (aY ag))
  (af (b8 PassesOwn.never rfl (dk (by rfl) T.cF (aa (pv 2) ag)) (iZ 5 qN)
  (af (bJ 6 qN (bN (fO T) hr T.fG (aa (aq dQ (bG (pv 1) ae) (fw (pv 3) (pv 5))) (aa (aq dQ (bG (pv 1) ae) (d9 (KZ rfl) T.R6 (aa (pv 3) ag))) ag))))
   (aj (aG (PW.pt (dn (ptr jG (pv 5) (aq aQ (aq aU (pv 0) ae) (pv 2))) (cQ (ptr cW (aq QK (aq QJ (aq aU (pv 0) ae) (pv 5)) ae) ae))))
   (aj (bw (bO yD yF yE bu (pv 4) (aa (bz (aa aR (aa (pv 6) ag))) ag))))
   (aj (bw (bO yD yF yE bu (pv 4) (aa (bz (aa (bN (sT T) hr T.ke (aa (aq aU (pv 0) (aq aS ae (aq dQ ae (pv 5)))) ag)) (aa (pv 6) ag))) ag))))))))
  (aj (ao (pv 4))))))),?_}
 ac_rfl;exists by omega,nofun,?_
 rw[show(1+m%6).toNat=n from by omega];refine lK (λj=>.int (1+m/(7+5*(0+(j:Nat)))%4)) (λU=>∃v,U=[v,some (.int m)]) nofun {(none),rfl} ?_ ?_
 ·rintro j U H1 R hj s1 ⟨_,rfl⟩ r
  exists{(nofun),nofun},?_;change r _ _ _ (au.refl _) cE {_,rfl}
 ·intro D0 vs0 H1 s1 _ hD0 il0
  let e:(List.range n).map (λj:Nat=>Dt.int (1+m/(7+5*(0+(j:Nat)))%4))=(rN m n).map Dt.int:=by unfold rN;rw[zB];rfl
  rw[e] at il0;rw[dS il0] at hD0;left
  intros D nD s2 h2 H2
  let nDH:H D=none:=s1.back nD;exists by omega,nofun,?_
  rw[show(1+m%6).toNat=n from by omega];let⟨xr,x1,x2,x3⟩:=id xok;let⟨_,xp,_⟩:=xr.pos;let wl:=NY m n;let wb:=LS (l:=rN m n) λw hw=>GZ hw;let W0:0<(rN m n).sum:=nofun
  let W2:(rN m n).sum<=24:=nofun
  let j0a:0<=m/4%(n:Int):=zw _ nofun;let j0b:m/4%(n:Int)<n:=zt _ nofun;refine eV (λi U H'=>∃(its:List Item) (us:List V) (v5 v6:Option V),U=[some (.int m),some (.ref q),some (.int (1+m%6)),some (.ref D0),some (.ref D),v5,v6]/\au H1 H'/\H' D=some (.lst us)/\aD H' (its.map eM) us/\⇑its=i/\(∀it∈its,Li it)/\
   jU its=red (x.1*((rN m n).take i).sum) (x.2*(rN m n).sum)/\(m/4%(n:Int)<i->its.all (λit=>it.1.isNone)=false)) {[],[],none,none,rfl,s2,h2,cD,rfl,by simp,LR xp W0,λz=>by exfalso;simp at z;omega} ?_ ?_
  ·intro i U H3 hi hh
   refine cC λN kN0 kR0 _ _=>?_;let⟨its,us,v5,v6,rfl,s3,h3,il3,il,iok,isum,ino⟩:=hh;let hq3:=s3 _ _ (s1 _ _ hq);let hD3:=s3 _ _ hD0;let hwi:(rN m n)[i]?=some ((rN m n)[i]'nofun):=zd nofun;let⟨w1,w2⟩:=GZ (zC hwi);generalize (rN m n)[i]'nofun=wi at hwi w1 w2;left;refine{D0,_,_,_,rfl,rfl,aH.of hD3,(by rw[Int.zero_add];exact bC (by rw[zK,hwi];rfl)),?_};exists .inl {(nofun),nofun},?_;exists D0,_,rfl,aH.of hD3,λw hw=>by have:=GZ hw;omega,nofun,?_
   exists .inl {(nofun),nofun},?_;let lk:=MS xok w1 w2 W0 W2;let b1:0<x.2*(rN m n).sum:=Int.mul_pos xp W0;let b2:x.2*(rN m n).sum<=160*24:=Int.mul_le_mul x3 W2 nofun ∅;let t0:0<=x.1*wi:=Int.mul_nonneg nofun nofun;refine{_,_,rfl,t0,b1,(cm (n:=12) nofun nofun).mono ∅,λp6 H6 s6 h6=>?_};exists by show 0<1+m%6;omega,?_
   left;let nD6:H6 D=some (.lst us):=s6 _ _ h3;let il6:=il3.mono s6;let e6:(rN m n).take (i+1)=(rN m n).take i++[wi]:=cM hwi;let ps:∀it:Item,it.2=red (x.1*wi) (x.2*(rN m n).sum)->jU (its++[it])=red (x.1*((rN m n).take (i+1)).sum) (x.2*(rN m n).sum):=λit e=>by
    rw[e6,List.sum_append];have:[wi].sum=wi:=by simp
    rw[this];exact LQ xp W0 isum e
   refine d5 ((!decide (V.int (0+(i:Int))=V.int (m/4%(1+m%6))))&&decide (V.int (Builtin.bitAnd (m/16/2^(0+(i:Int)).toNat) 1)=V.int 1)) ?_ ?_ ?_
   ·intro c Z hz
    rw[c,Bool.true_and] at hz;exists by show 0<=0+(i:Int);omega,?_
    change hz
   ·intro c;rw[c,Bool.false_and]
   ·cases qv:((!decide (V.int (0+(i:Int))=V.int (m/4%(1+m%6))))&&decide (V.int (Builtin.bitAnd (m/16/2^(0+(i:Int)).toNat) 1)=V.int 1)) with
    | true=>
     let ne:(i:Int)≠m/4%(n:Int):=λz=>by
      rw[Int.zero_add,z,hn] at qv;simp at qv
     exists .inl {rfl,_,aH.of nD6},?_;exists cH,?_;intros p7 H7 s7 h7;refine{D,us,_,rfl,rfl,s7 _ _ nD6,(by have:=aO il3;omega),?_};left;let nt:cj (H7 D):=by rw[s7 _ _ nD6];exact λ_ z=>by cases z
     let it7:Is H7 (eM (none,red (x.1*wi) (x.2*(rN m n).sum))) (.ref p7):=cw h7 (aN dJ (aN (iB (s7 _ _ h6)) cD));refine{its++[(none,red (x.1*wi) (x.2*(rN m n).sum))],_,_,_,rfl,bj nD ((s3.trans s6).trans s7),aB,?_,by rw[zh,il];rfl,λit hit=>?_,ps _ rfl,λz=>?_}
     ·rw[zk]
      exact cX (Is.upd nt it7) (aD.upd nt (il6.mono s7))
     ·rcases zG.mp hit with y | y
      ·exact iok it y
      ·rw[zA.mp y];exact{lk,λq z=>by cases z}
     ·rw[List.all_append,ino nofun,Bool.false_and]
    | false=>
     exists .inl {rfl,_,aH.of nD6},?_;exists{(nofun),nofun},?_;exists zW m0 nofun,λpq p8 H8 pok s8 h8=>?_;exists cH,?_;intros p7 H7 s7 h7;let s67:=s8.trans s7;refine{D,us,_,rfl,rfl,s67 _ _ nD6,by have:=aO il3;omega,?_};left;let nt:cj (H7 D):=by rw[s67 _ _ nD6];exact λ_ z=>by cases z
     let it7:Is H7 (eM (some pq,red (x.1*wi) (x.2*(rN m n).sum))) (.ref p7):=cw h7 (aN (iB (s7 _ _ h8)) (aN (iB (s67 _ _ h6)) cD));refine{its++[(some pq,red (x.1*wi) (x.2*(rN m n).sum))],_,_,_,rfl,bj nD ((s3.trans s6).trans s67),aB,?_,by rw[zh,il];rfl,λit hit=>?_,ps _ rfl,λz=>?_}
     ·rw[zk]
      exact cX (Is.upd nt it7) (aD.upd nt (il6.mono s67))
     ·rcases zG.mp hit with y | y
      ·exact iok it y
      ·rw[zA.mp y];exact{lk,λq z=>by cases z;exact pok}
     ·rw[List.all_append];simp
  ·rintro U H3 ⟨its,us,v5,v6,rfl,s3,h3,il3,il,iok,isum,ino⟩
   left;refine kk its D us H3 {nofun,iok,?_,ino j0b} (s1.trans s3) nDH h3 il3;rw[isum,show(rN m n).take n=rN m n from List.take_of_length_le nofun,JZ xr W0]
noncomputable def Dd:List (Int×Int):=[(4,4),(3,4),(6,8),(2,2),(5,16),(7,8),(1,32),(12,1)]
def Ln (b:Sc.Lv):Prop:=b.aP∈Dd/\-7<=b.key/\b.key<=7/\(∀n∈b.marks,gc n)/\⇑b.marks<=2
inductive uH (vs:List V) (H:Hp) (Q:VK) (E:XK):Prop
 | mk (c n:Int) (_:vs=[.int c,.int n]) (_:0<=n) (_:n<=200) (_:∀(bs:List Sc.Lv) p us H',⇑bs=n.toNat->(∀b∈bs,Ln b)->au H H'->H p=none->H' p=some (.lst us)->aD H' (bs.map kJ) us->Q (.ref p) H')
def uX:cV P w base 2 T.lS uH:=by
 nomatch T.lS,["_law_cell","_law_many","_law_bars","_law_k","_law_m","_law_metre","_law_key","_law_marks"]
 let⟨c,n,rfl,n0,n1,kk⟩:=h;let sl:=yC;refine{_,(af (bJ 2 qN (aY ag))
  (af (b8 PassesOwn.never rfl (dk (by rfl) T.cF (aa (pv 1) ag)) (iZ 3 qN)
  (zf (zc (zS (bJ 4 qN (bN (bQ T) hr T.cy (aa (pv 0) (aa (aq aS (pv 3) ae) ag)))))
   (zc (T8 5 qN (OA Dd (aq aQ (pv 4) ae) (λ_ _=>rfl)))
   (zc (zS (bJ 6 qN (aq i6 (aq aQ (aq aU (pv 4) ae) ae) ae)))
   (zc (zS (aG (PW.pt (dn (ptr fi (pv 3) ae) (cQ (ptr fi (aq aQ (aq aU (pv 4) ae) ae) ae))))
   (aj (bJ 5 qN (bG (fw (pv 2) (mV iT ae)) ae)))
   ax))
   (zc (zS (aG (PW.pt (dn (ptr fi (pv 3) ae) (cQ (ptr fi (aq aQ (aq aU (pv 4) ae) ae) ae))))
   (aj (bJ 6 qN (bG (fw (pv 2) (mV iT ae)) ae)))
   ax))
   (zc (zS (bJ 7 qN (mD cN T.gD (aa (bN (eR T) hr T.d6 (aa (aq aU (pv 4) ae) (aa (fw (aY (aa ae (aa ae (aa ae (aa ae (aa ae (aa ae (aa ae ag)))))))) (aq aQ (aq aU (pv 4) ae) ae)) ag))) ag))))
   (zo (zS (bw (bO yD yF yE bu (pv 2) (aa (bz (aa (pv 5) (aa (pv 6) (aa (pv 7) ag)))) ag)))))))))))))
  (aj (ao (pv 2))))),?_}
 ac_rfl;left
 intros D nD s2 h2 H2
 exists by omega,nofun,?_
 refine eV (λi U H'=>∃(bs:List Sc.Lv) (us:List V),Lo [some (.int c),some (.int n),some (.ref D)] 5 U/\au H H'/\H' D=some (.lst us)/\aD H' (bs.map kJ) us/\⇑bs=i/\∀b∈bs,Ln b)
  {[],[],Lo.of rfl rfl,s2,h2,cD,rfl,by simp} ?_ ?_
 ·intro i U H3 hi hh
  refine cC λN kN0 kR0 _ _=>?_;let⟨bs,us,⟨e,rfl⟩,s3,h3,il3,bl,bok⟩:=hh;exists c,_,rfl,nofun,nofun,?_;let m0:0<=mixed c (0+(i:Int)+20):=zw _ ∅;let m1:mixed c (0+(i:Int)+20)<2147483399:=zt _ ∅;generalize mixed c (0+(i:Int)+20)=m at m0 m1;let a0:0<=m%8:=zw _ ∅;let a1:m%8<8:=zt _ ∅;let b0:0<=m/8%15:=zw _ ∅;let b1:m/8%15<15:=zt _ ∅;left;intro D4 vs4 H4 s4 h4 il4;left;obtain⟨j,hj⟩:∃j:Nat,m%8=(j:Int):={(m%8).toNat,nofun}
  let vl4:=aO il4;let jl:j<⇑vs4:=by rw[vl4];show j<8;omega
  let⟨mx,hmx,imx⟩:=cT (d:=dL) il4 (i:=j) (zd jl);generalize hmv:vs4[j]=mv at imx;let h3':=s4 _ _ h3;let il3':=il3.mono s4;refine{D4,vs4,m%8,mv,rfl,rfl,aH.of h4,(by rw[hj];exact bC (by rw[<-hmv];exact zd jl)),?_};left;let lastB:0<(i:Int)->∃b a mt q,us[⇑us-1]?=some (.ref a)/\H4 a=some (.tup [mt,.int b.key,.ref q])/\Is H4 (dL b.aP) mt/\b∈bs:=λip=>by
   let ul:=aO il3';let⟨b,hb,ib⟩:=cT il3' (i:=⇑us-1) (zd nofun);let⟨a,mt,q,ea,ha,hm,_⟩:=vC ib;exact{b,a,mt,q,by rw[<-ea];exact zd nofun,ha,hm,zC hb}
  refine d5 (decide (0<0+(i:Int))&&decide (0<m/120%4)) ?_ ?_ ?_
  ·intro c1 Z hz
   rw[c1,Bool.true_and] at hz;change hz
  ·intro c1;rw[c1,Bool.false_and]
  refine join (λU H'=>H'=H4/\∃mv x,U=[some (.int c),some (.int n),some (.ref D),some (.int (0+(i:Int))),some (.int m),some mv,some (.int (m/8%15-7)),e 4]/\Is H4 (dL x) mv/\x∈Dd) (λN hN c1=>?_) (λN hN c1=>?_) ?_
  ·let ip:0<(i:Int):=by simp at c1;omega
   let⟨b,a,mt,q,hl,ha,hm,hb⟩:=lastB ip;exists D,us,-1,_,rfl,rfl,aH.of h3',oh hl,?_;change hN _ _ {rfl,mt,b.aP,rfl,hm,(bok b hb).1}
  ·left
   exact hN _ _ {rfl,mv,mx,rfl,imx,zC hmx}
  clear imx hmv;rintro U5 H5 ⟨e5,mv,x,rfl,imv,hx⟩;rw[e5];clear e5 H5;left;refine d5 (decide (0<0+(i:Int))&&decide (0<m/480%5)) ?_ ?_ ?_
  ·intro c1 Z hz
   rw[c1,Bool.true_and] at hz;change hz
  ·intro c1;rw[c1,Bool.false_and]
  refine join (λU H'=>H'=H4/\∃k:Int,U=[some (.int c),some (.int n),some (.ref D),some (.int (0+(i:Int))),some (.int m),some mv,some (.int k),e 4]/\-7<=k/\k<=7) (λN hN c1=>?_) (λN hN c1=>?_) ?_
  ·let ip:0<(i:Int):=by simp at c1;omega
   let⟨b,a,mt,q,hl,ha,hm,hb⟩:=lastB ip;exists D,us,-1,_,rfl,rfl,aH.of h3',oh hl,?_;change hN _ _ {rfl,b.key,rfl,(bok b hb).2.1,(bok b hb).2.2.1}
  ·left
   exact hN _ _ {rfl,m/8%15-7,rfl,nofun,nofun}
  rintro U5 H5 ⟨e5,k,rfl,k0,k1⟩;rw[e5];clear e5 H5;exists by show 7<=sizeLine;omega,?_
  intros p6 H6 s6 h6;let g0:0<=m/33600%7:=zw _ ∅;let g1:m/33600%7<7:=zt _ ∅;obtain⟨jj,hjj⟩:∃j:Nat,m/33600%7=(j:Int):={(m/33600%7).toNat,nofun}
  obtain⟨z,hz,z0,z1⟩:∃z:Int,[V.int 0,V.int 0,V.int 0,V.int 0,V.int 0,V.int 1,V.int 2][jj]?=some (.int z)/\0<=z/\z<=2:=by
   have:jj<7:=nofun
   match jj,this with
   | 0,_=>exact{0,rfl,∅,∅}
   | 1,_=>exact{0,rfl,∅,∅}
   | 2,_=>exact{0,rfl,∅,∅}
   | 3,_=>exact{0,rfl,∅,∅}
   | 4,_=>exact{0,rfl,∅,∅}
   | 5,_=>exact{1,rfl,∅,∅}
   | 6,_=>exact{2,rfl,∅,∅}
  exists p6,_,m/33600%7,.int z,rfl,rfl,aH.of h6,(by rw[hjj];exact bC hz),?_;left;refine{_,z,rfl,zW m0 ∅,?_,z0,nofun,λns p7 H7 nl nok s7 h7=>?_}
  ·have:=zX (a:=m) 2400 m0;omega
  left;refine{p7,_,rfl,.inl {aH.of h7,?_}};intros p8 H8 s8 h8;let s48:=(s6.trans s7).trans s8;let h38:=s48 _ _ h3';exists .inl {rfl,_,aH.of h38},?_;exists mS,?_;intros p9 H9 s9 h9;refine{D,us,_,rfl,rfl,s9 _ _ h38,(by have:=aO il3;omega),?_};left;let s49:=s48.trans s9;let nt:cj (H9 D):=by rw[s9 _ _ h38];exact λ_ z=>by cases z
  let ib:Is H9 (kJ {(x),k,ns}) (.ref p9):=cw h9 (aN (imv.mono s49) (aN cE (aN (cw (s9 _ _ h8) (xj ns)) cD)));refine{bs++[{(x),k,ns}],_,Lo.of rfl rfl,bj nD ((s3.trans s4).trans s49),aB,?_,by rw[zh,bl];rfl,λb hb=>?_}
  ·rw[zk]
   exact cX (Is.upd nt ib) (aD.upd nt (il3'.mono s49))
  ·rcases zG.mp hb with y | y
   ·exact bok b y
   ·rw[zA.mp y]
    exact{hx,k0,k1,nok.1,by show ⇑ns<=2;omega}
 ·rintro U H3 ⟨bs,us,⟨e,rfl⟩,s3,h3,il3,bl,bok⟩
  change kk bs D us H3 bl bok s3 nD h3 il3
inductive qi (vs:List V) (H:Hp) (Q:VK) (E:XK):Prop
 | mk (bl:Addr) (us:List V) (S:bW) (ub:V) (b:Nat) (_:vs=[.ref bl,ub,.int b]) (_:H bl=some (.lst us)) (_:aD H (S.aK.map kJ) us) (_:Is H (dO dL S.aF) ub) (_:b<⇑S.aK) (_:(∀x∈S.aK,Ln x)) (_:∀p H',au H H'->H' p=some (jw (S.len b))->Q (.ref p) H')
def jK {x:Int×Int} (h:x∈Dd):1<=x.1/\x.1<=12/\x.2∈A9/\1<=x.2/\x.2<=32:=by
 unfold Dd at h;simp only[zD,zE,or_false] at h;rcases h with rfl | rfl | rfl | rfl | rfl | rfl | rfl | rfl <;> decide
def qS:cV P w base 2 T.jq qi:=by
 nomatch T.jq,["_law_bars","_law_upbeat","_law_bar"]
 let⟨bl,us,S,ub,b,rfl,hbl,il,iu,hb,bok,kk⟩:=h;let ul:=aO il;let⟨x,hx,ix⟩:=cT il (i:=b) (zd nofun);let⟨a1,mv,q,ev,h1,im,_⟩:=vC ix;let⟨m1,m2,m3,m4,m5⟩:=jK (bok x (zC hx)).1;let em:S.aP b=red x.aP.1 x.aP.2:=by unfold bW.aP;rw[hx]
 cases fc (o:=some x.aP) im with
 | ref hm=>
 rename_i am;refine{_,(af (aG (PW.pt (dn (ptr cW (pv 2) ae) (cQ (bE (fM (pv 1))))))
  (aj (ao (pv 1)))
  ax)
  (aj (ao (bN (fO T) hr T.fG (aa (bG (bG (fw (pv 0) (pv 2)) ae) ae) (aa (bG (bG (fw (pv 0) (pv 2)) ae) ae) ag)))))),?_}
 ac_rfl;left;let nz:∀H1,Is H1 (dO dL S.aF) ub->(!decide (ub=V.bI))=S.aF.isSome:=λH1 z=>by
  cases q:S.aF with
  | none=>rw[q] at z;unfold dO Is at z;rw[z];rfl
  | some u=>
   rw[q] at z;cases fc (o:=some u) z with
   | ref hu=>rfl
 refine d5 (decide (V.int (b:Int)=V.int 0)&&S.aF.isSome) ?_ ?_ ?_
 ·intro c Z hz
  rw[c,Bool.true_and,<-nz H iu] at hz;change hz
 ·intro c;rw[c,Bool.false_and]
 ·cases qv:(decide (V.int (b:Int)=V.int 0)&&S.aF.isSome) with
  | true=>
   rw[zO] at qv;let b0:b=0:=by have:=V.int.inj (ye qv.1);omega
   cases q:S.aF with
   | none=>rw[q] at qv;cases qv.2
   | some u=>
    rw[q] at iu;cases fc (o:=some u) iu with
    | ref hu=>
     left;refine kk _ _ (au.refl _) ?_;unfold bW.len;rw[q];simp only[b0,if_true];exact hu
  | false=>
   let el:S.len b=S.aP b:=by
    unfold bW.len;cases q:S.aF with
    | none=>rfl
    | some u=>
     rw[q] at qv;have:b≠0:=λz=>by rw[z] at qv;simp at qv
     simp only[if_neg this]
   rw[el,em] at kk;left;refine{bl,us,b,_,rfl,rfl,aH.of hbl,bC (zd nofun),?_};rw[ev];left;refine{bl,us,b,_,rfl,rfl,aH.of hbl,bC (zd nofun),?_};rw[ev];change{_,_,rfl,nofun,nofun,(cm (n:=10) nofun nofun).mono ∅,kk}
inductive si (vs:List V) (H:Hp) (Q:VK) (E:XK):Prop
 | mk (c many:Int) (pp ip:Addr) (ps:List Str) (ins:List (Str×(Int×Int)×(Int×Int))) (iv:List V) (_:vs=[.int c,.ref pp,.ref ip,.int many]) (_:H pp=some (.lst (ps.map V.str))) (_:H ip=some (.lst iv)) (_:aD H (ins.map d7) iv) (_:⇑ps<=100) (_:⇑ins<=100) (_:many<=200) (_:∀(hs:List (Str×List (Int×Str))) D us H',List.Sublist (hs.map (·.1)) ps->(∀x∈hs,JJ (ins.map (·.1)) many x.2)->au H H'->H' D=some (.lst us)->RL (jx D H') hs us->Q (.ref D) H')
def Ku {H:Hp} {x:Str×(Int×Int)×(Int×Int)} {v:V} (h:Is H (d7 x) v):∃a t l,v=.ref a/\H a=some (.tup [.str x.1,t,l]):=by
 unfold d7 Is at h;let⟨a,vs,rfl,ha,hl⟩:=h;unfold aD at hl;let⟨v1,r1,rfl,h1,hl⟩:=hl;unfold aD at hl;let⟨v2,r2,rfl,h2,hl⟩:=hl;unfold aD at hl;let⟨v3,r3,rfl,h3,hl⟩:=hl;unfold aD at hl;subst hl;unfold Is at h1;subst h1;exact{(a),v2,v3,rfl,ha}
def sW:cV P w base 2 T.kh si:=by
 nomatch T.kh,["_law_cell","_law_players","_law_instruments","_law_many","_law_holds","_law_k","_law_player","_law_row","_law_bar","_law_j","_law_m"]
 let⟨c,many,pp,ip,ps,ins,iv,rfl,hpp,hip,ili,pl,il0,my,kk⟩:=h;let sl:=yC;let ivl:=aO ili;refine{_,(af (bJ 4 qN (aY ag))
  (af (b8 PassesOwn.never rfl (vz (by rfl) T.jJ (aa (pv 1) ag)) (dP (n:=2) rfl (aM (iZ 5 qN) (aM (iZ 6 qN) de)))
  (af (bJ 7 qN (aY ag))
   (af (bJ 8 qN ae)
   (af (b8 PassesOwn.never rfl (dk (by rfl) T.cF (aa ae ag)) (iZ 9 qN)
   (af (bJ 10 qN (bN (bQ T) hr T.cy (aa (pv 0) (aa (aq aS (aq aS (aq dQ ae (pv 5)) (pv 9)) ae) ag))))
    (af (bJ 8 qN (aq aS (pv 8) (aq aQ (pv 10) ae)))
    (af (aG (PW.pt (dn (ptr eZ (pv 8) (pv 3)) (dn (ptr fi (d9 aE T.bF (aa (pv 2) ag)) ae) (cQ (ptr fi (aq aQ (aq aU (pv 10) ae) ae) ae)))))
    (aj (bw (bO yD yF yE bu (pv 7) (aa (bz (aa (pv 8) (aa (bG (fw (pv 2) (aq aQ (aq aU (pv 10) ae) (d9 aE T.bF (aa (pv 2) ag)))) ae) ag))) ag))))
    ax)
    (aj (bJ 8 qN (aq aS (pv 8) ae)))))))
   (aj (aG (ptr (wV hr.units) (pv 7) (aY ag))
   (aj (bw (bO yD yF yE bu (pv 4) (aa (bz (aa (pv 6) (aa (pv 7) ag))) ag))))
   ax))))))
  (aj (ao (pv 4))))),?_}
 ac_rfl;left
 intros D nD s2 h2 H2
 exists pp,_,rfl,aH.of (s2 _ _ hpp),?_;refine rj (K:=K) (a:=pp) (xs:=ps.map V.str) (λi U H'=>∃(hs:List (Str×List (Int×Str))) (us:List V),Lo [some (.int c),some (.ref pp),some (.ref ip),some (.int many),some (.ref D)] 6 U/\au H H'/\H' D=some (.lst us)/\RL (jx D H') hs us/\List.Sublist (hs.map (·.1)) (ps.take i)/\(∀x∈hs,JJ (ins.map (·.1)) many x.2)/\⇑hs<=i)
  {[],[],Lo.of rfl rfl,s2,h2,rfl,List.nil_sublist _,by simp,zm _} (λi U H' _ h=>by let⟨_,_,_,z,_⟩:=h;exact aH.of (z _ _ hpp)) ?_ ?_
 ·intro i x U H3 p H4 hx hh s34 hp4
  refine cC λN kN0 kR0 _ _=>?_;let⟨hs,us,⟨e,rfl⟩,s3,h3,rl3,sub,rok,hl⟩:=hh;rw[zK] at hx;cases qr:ps[i]? with
  | none=>rw[qr] at hx;cases hx
  | some pn=>
  rw[qr] at hx;simp only[Option.map_some,Option.some.injEq] at hx;subst hx;refine{p,_,rfl,cY.of hp4,rfl,?_};refine{_,_,rfl,{_,_,rfl,{rfl,?_}}};left
  intros R nR s5 h5 H5
  exists by decide,(by decide),?_
  refine eV (λj U H'=>∃(row:List (Int×Str)) (ws:List V) (bar:Int) (v9 va:Option V),U=[some (.int c),some (.ref pp),some (.ref ip),some (.int many),some (.ref D),some (.int (i:Int)),some (.str pn),some (.ref R),some (.int bar),v9,va]/\au H4 H'/\H' R=some (.lst ws)/\aD H' (row.map JC) ws/\0<=bar/\⇑row<=j/\(row.map (·.1)).Pairwise (·<·)/\
   ∀h∈row,0<=h.1/\h.1<many/\h.2∈ins.map (·.1)/\h.1<bar) {[],[],0,e 4,e 5,rfl,s5,h5,cD,∅,by simp,by simp,by simp} ?_ ?_
  ·intro j U H6 hj hh
   refine cC λN kN1 kR1 _ _=>?_;let⟨row,ws,bar,v9,va,rfl,s6,h6,il6,b0,rl,asc,rin⟩:=hh;let s06:=(s3.trans s34).trans s6;left;let ib:i<⇑ps:=(zy.mp qr).1;refine{c,_,rfl,nofun,nofun,?_};let m0:0<=mixed c (7*(i:Int)+(0+(j:Int))+60):=zw _ ∅;let m1:mixed c (7*(i:Int)+(0+(j:Int))+60)<2147483399:=zt _ ∅;generalize mixed c (7*(i:Int)+(0+(j:Int))+60)=m at m0 m1;let a0:0<=m%5:=zw _ ∅;left;let hip6:=s06 _ _ hip;refine d5 (decide (bar+m%5<many)&&(decide (0<(⇑ins:Int))&&decide (0<m/5%3))) ?_ ?_ ?_
   ·intro c1 Z hz
    rw[c1,Bool.true_and] at hz;exists ip,iv,rfl,.inl (aH.of hip6),?_;rw[ivl];left;refine d5 (decide (0<(⇑ins:Int))&&decide (0<m/5%3)) ?_ ?_ hz
    ·intro c2 Z hz
     rw[c2,Bool.true_and] at hz;change hz
    ·intro c2;rw[c2,Bool.false_and]
   ·intro c1;rw[c1,Bool.false_and]
   refine join (λU H'=>∃(row:List (Int×Str)) (ws:List V),U=[some (.int c),some (.ref pp),some (.ref ip),some (.int many),some (.ref D),some (.int (i:Int)),some (.str pn),some (.ref R),some (.int (bar+m%5)),some (.int (0+(j:Int))),some (.int m)]/\au H4 H'/\H' R=some (.lst ws)/\aD H' (row.map JC) ws/\⇑row<=j+1/\(row.map (·.1)).Pairwise (·<·)/\
    ∀h∈row,0<=h.1/\h.1<many/\h.2∈ins.map (·.1)/\h.1<bar+m%5+1) (λN hN c1=>?_) (λN hN c1=>?_) ?_
   ·simp only[zO,decide_eq_true_eq] at c1
    let⟨c1,c2,c3⟩:=c1;let d0:0<=m/15%(⇑ins:Int):=zw _ nofun;let d1:m/15%(⇑ins:Int)<⇑ins:=zt _ nofun;obtain⟨jj,hjj⟩:∃jj:Nat,m/15%(⇑ins:Int)=(jj:Int):={(m/15%(⇑ins:Int)).toNat,nofun}
    let⟨nx,hnx,inx⟩:=cT (d:=d7) (ili.mono s06) (i:=jj) (zd nofun);let⟨ai,ti,li,ea,hai⟩:=Ku inx;exists .inl {rfl,_,aH.of h6},?_;exists ip,iv,rfl,.inl (aH.of hip6),?_;rw[ivl];exists by show 0<(⇑ins:Int);omega,?_
    refine{ip,iv,_,_,rfl,rfl,aH.of hip6,(by rw[hjj];exact bC (zd nofun)),?_};rw[ea];exists cH,?_;intros p7 H7 s7 h7;refine{R,ws,_,rfl,rfl,s7 _ _ h6,(by have:=aO il6;omega),?_};left;let nt:cj (H7 R):=by rw[s7 _ _ h6];exact λ_ z=>by cases z
    refine hN _ _ {row++[(bar+m%5,nx.1)],_,rfl,bj nR (s6.trans s7),aB,?_,by rw[zh];simp;omega,?_,λh hh=>?_}
    ·rw[zk]
     exact cX (Is.upd nt (cw h7 (aN cE (aN eK cD)))) (aD.upd nt (il6.mono s7))
    ·rw[zk,zU]
     refine{asc,by simp,λx hx y hy=>?_};let⟨h',hh',rfl⟩:=zH.mp hx;let ey:y=bar+m%5:=by simpa using hy
     have:=(rin h' hh').2.2.2;omega
    ·rcases zG.mp hh with z | z
     ·have:=rin h z
      exact{(this.1),this.2.1,this.2.2.1,nofun}
     ·rw[zA.mp z]
      exact{by show 0<=bar+m%5;omega,c1,zP (f:=λx:Str×(Int×Int)×(Int×Int)=>x.1) (zC hnx),by show bar+m%5<bar+m%5+1;omega}
   ·left
    refine hN _ _ {row,ws,rfl,s6,h6,il6,nofun,asc,λh hh=>?_};have:=rin h hh;exact{(this.1),this.2.1,this.2.2.1,nofun}
   rintro U7 H7 ⟨row,ws,rfl,s7,h7,il7,rl7,asc7,rin7⟩;change{row,ws,bar+m%5+1,_,_,rfl,s7,h7,il7,nofun,rl7,asc7,rin7}
  ·rintro U H6 ⟨row,ws,bar,v9,va,rfl,s6,h6,il6,b0,rl,asc,rin⟩
   let s06:=(s3.trans s34).trans s6;let h36:=s6 _ _ (s34 _ _ h3);let rl6:RL (jx D H6) hs us:=rl3.imp λx v z=>(z.mono s34).mono s6;let ne:R≠D:=λz=>by rw[z,s34 _ _ h3] at nR;cases nR
   let ib:i<⇑ps:=(zy.mp qr).1;let tk:ps.take (i+1)=ps.take i++[pn]:=cM qr;exists by show 0<=sizeLine;omega,?_
   intros p7 H7 s7 h7;refine{R,p7,ws,[],rfl,rfl,.inl {aH.of (s7 _ _ h6),aH.of h7},.inr (.inl rfl),?_};let wr:=aO il6;let s07:=s06.trans s7
   by_cases e:ws=[]
   ·rw[zg e]
    left;refine{hs,us,Lo.of rfl rfl,s07,s7 _ _ h36,rl6.imp λx v z=>z.mono s7,?_,rok,nofun};rw[tk];exact sub.trans (List.sublist_append_left _ _)
   ·rw[ze e]
    let rne:row≠[]:=λz=>e (by rw[z] at wr;exact yt.mp wr);exists .inl {rfl,_,aH.of (s7 _ _ h36)},?_;exists cH,?_;intros p8 H8 s8 h8;let s78:=s7.trans s8;let h38:=s78 _ _ h36;refine{D,us,_,rfl,rfl,h38,by have:=rl3.len;omega,?_};left;refine{hs++[(pn,row)],_,Lo.of rfl rfl,bj nD (s06.trans s78),aB,?_,?_,λx hx=>?_,by rw[zh];simp;omega}
    ·refine RL.snoc ?_ (rl6.imp λx v z=>(z.mono s78).upd h38)
     exact jx.upd h38 {p8,R,ws,rfl,h8,s78 _ _ h6,il6.mono s78,ne}
    ·rw[zk,tk]
     exact sub.append (List.Sublist.refl _)
    ·rcases zG.mp hx with z | z
     ·exact rok x z
     ·rw[zA.mp z]
      exact{rne,rl,asc,λh hh=>{(rin h hh).1,(rin h hh).2.1,(rin h hh).2.2.1}}
 ·rintro U H3 ⟨hs,us,⟨e,rfl⟩,s3,h3,rl3,sub,rok,hl⟩
  rw[za,zN] at sub;change kk hs D us H3 sub rok s3 h3 rl3
def En (S:bW) (ns:List ((Int×Str)×List Item)):Prop:=(ns.map (·.1)).Nodup/\∀x∈ns,0<=x.1.1/\x.1.1<⇑S.aK/\x.1.2∈S.players/\Eo x.2 (S.len x.1.1.toNat)
inductive rY (vs:List V) (H:Hp) (Q:VK) (E:XK):Prop
 | mk (c:Int) (pp bl:Addr) (S:bW) (bv:List V) (ub:V) (_:vs=[.int c,.ref pp,.ref bl,ub]) (_:H pp=some (.lst (S.players.map V.str))) (_:H bl=some (.lst bv)) (_:aD H (S.aK.map kJ) bv) (_:Is H (dO dL S.aF) ub) (_:⇑S.players<=9) (_:S.players.Nodup) (_:⇑S.aK<=200) (_:(∀x∈S.aK,Ln x)) (_:(∀b:Nat,b<⇑S.aK->IQ (S.len b))) (_:∀(ns:List ((Int×Str)×List Item)) D us H',En S ns->⇑ns<=9*⇑S.aK->au H H'->H' D=some (.lst us)->RL (hV D H') ns us->Q (.ref D) H')
def sU:cV P w base 3 T.kf rY:=by
 nomatch T.kf,["_law_cell","_law_players","_law_bars","_law_upbeat","_law_notes","_law_bar","_law_k","_law_player","_law_m","_law_often","_law_run"]
 let⟨c,pp,bl,S,bv,ub,rfl,hpp,hbl,ilb,iub,pl,pnd,bl2,bok,lok,kk⟩:=h;let sl:=yC;let bvl:=aO ilb;refine{_,(af (bJ 4 qN (aY ag))
  (af (b8 PassesOwn.never rfl (dk (by rfl) T.cF (aa (d9 aE T.bF (aa (pv 2) ag)) ag)) (iZ 5 qN)
  (aj (b8 PassesOwn.never rfl (vz (by rfl) T.jJ (aa (pv 1) ag)) (dP (n:=2) rfl (aM (iZ 6 qN) (aM (iZ 7 qN) de)))
   (af (bJ 8 qN (bN (bQ T) hr T.cy (aa (pv 0) (aa (aq aS (aq aS (aq dQ ae (pv 6)) (pv 5)) ae) ag))))
    (af (bJ 9 qN (aq aQ (bN (bQ T) hr T.cy (aa (pv 0) (aa (aq aS (pv 6) ae) ag))) ae))
    (af (bJ 10 qN (aq aQ (bN (bQ T) hr T.cy (aa (pv 0) (aa (aq aS (aq aS (aq dQ ae (pv 6)) (aq aU (pv 5) ae)) ae) ag))) ae))
    (aj (aG (PW.pt (dn (ptr fN (aq aQ (pv 8) ae) (pv 9)) (cQ (ptr fi (pv 10) ae))))
    (aj (bw (bO yD yF yE bu (pv 4) (aa (bz (aa (pv 5) (aa (pv 7) (aa (bN (sV T) hr T.kg (aa (aq aU (pv 8) ae) (aa (bN (qS T) hr T.jq (aa (pv 2) (aa (pv 3) (aa (pv 5) ag)))) ag))) ag)))) ag))))
    ax))))))))
  (aj (ao (pv 4))))),?_}
 ac_rfl;left
 intros D nD s2 h2 H2
 exists bl,bv,rfl,.inl (aH.of (s2 _ _ hbl)),?_;rw[bvl];exists by omega,nofun,?_
 rw[show((⇑S.aK:Int)).toNat=⇑S.aK from by omega];refine eV (λi U H'=>∃(ns:List ((Int×Str)×List Item)) (us:List V),Lo [some (.int c),some (.ref pp),some (.ref bl),some ub,some (.ref D)] 6 U/\au H H'/\H' D=some (.lst us)/\RL (hV D H') ns us/\En S ns/\(∀x∈ns,x.1.1<i)/\⇑ns<=9*i)
  {[],[],Lo.of rfl rfl,s2,h2,rfl,{by simp,by simp},by simp,by simp} ?_ ?_
 ·intro i U H3 hi hh
  refine cC λN kN0 kR0 _ _=>?_;let⟨ns,us,⟨e,rfl⟩,s3,h3,rl3,nok,nlt,nl⟩:=hh;exists pp,_,rfl,aH.of (s3 _ _ hpp),?_;refine rj (K:=K) (a:=pp) (xs:=S.players.map V.str) (λj U H'=>∃(ns:List ((Int×Str)×List Item)) (us:List V),Lo [some (.int c),some (.ref pp),some (.ref bl),some ub,some (.ref D),some (.int (0+(i:Int)))] 5 U/\au H H'/\H' D=some (.lst us)/\RL (hV D H') ns us/\En S ns/\(∀x∈ns,x.1.1<i\/(x.1.1=i/\x.1.2∈S.players.take j))/\⇑ns<=9*i+j)
   {ns,us,Lo.of rfl rfl,s3,h3,rl3,nok,λx hx=>.inl (nlt x hx),nofun} (λi U H' _ h=>by let⟨_,_,_,z,_⟩:=h;exact aH.of (z _ _ hpp)) ?_ ?_
  ·intro j x U H4 p H5 hx hh s45 hp5
   refine cC λN kN1 kR1 _ _=>?_;let⟨ns,us,⟨e,rfl⟩,s4,h4,rl4,nok,nlt,nl⟩:=hh;rw[zK] at hx;cases qr:S.players[j]? with
   | none=>rw[qr] at hx;cases hx
   | some pn=>
   rw[qr] at hx;simp only[Option.map_some,Option.some.injEq] at hx;subst hx;let jb:j<⇑S.players:=(zy.mp qr).1;let s05:=s4.trans s45;let h45:=s45 _ _ h4;let rl5:RL (hV D H5) ns us:=rl4.imp λx v z=>z.mono s45;let tk:S.players.take (j+1)=S.players.take j++[pn]:=cM qr;refine{p,_,rfl,cY.of hp5,rfl,?_};refine{_,_,rfl,{_,_,rfl,{rfl,?_}}};exists c,_,rfl,nofun,nofun,?_;let m0:0<=mixed c (97*(j:Int)+(0+(i:Int))+100):=zw _ ∅;let m1:mixed c (97*(j:Int)+(0+(i:Int))+100)<2147483399:=zt _ ∅;generalize mixed c (97*(j:Int)+(0+(i:Int))+100)=m at m0 m1;exists c,_,rfl,nofun,nofun,?_;left;refine{c,_,rfl,?_,?_,?_}
   ·have:=zW (a:=0+(i:Int)) (b:=4) nofun ∅;omega
   ·have:=zX (a:=0+(i:Int)) 4 nofun;omega
   generalize mixed c (31*(j:Int)+(0+(i:Int))/4+400)=m3;generalize mixed c ((j:Int)+90)=m2;left;refine d5 (decide (m%6<=m2%5)&&decide (0<m3%3)) ?_ ?_ ?_
   ·intro c1 Z hz
    rw[c1,Bool.true_and] at hz;change hz
   ·intro c1;rw[c1,Bool.false_and]
   cases qv:(decide (m%6<=m2%5)&&decide (0<m3%3)) with
   | true=>
    exists .inl {rfl,_,aH.of h45},?_;exists bl,bv,S,ub,i,(by simp),s05 _ _ hbl,ilb.mono s05,iub.mono s05,hi,bok,λp6 H6 s6 h6=>?_;refine{_,_,p6,rfl,h6,zW m0 ∅,?_,lok i hi,λits p7 ws H7 iok s7 n7 h7 il7=>?_}
    ·have:=zX (a:=m) 6 m0;omega
    let s57:=s6.trans s7;let ne:p7≠D:=λz=>by rw[z,s6 _ _ h45] at n7;cases n7
    exists mS,?_;intros p8 H8 s8 h8;let s58:=s57.trans s8;let h48:=s58 _ _ h45;refine{D,us,_,rfl,rfl,h48,by have:=rl4.len;omega,?_};left;let fr:((0+(i:Int),pn):Int×Str)∉ns.map (·.1):=λz=>by
     let⟨y,hy,ey⟩:=zH.mp z;rcases nlt y hy with q | ⟨_,q2⟩
     ·rw[ey] at q;dsimp only at q;omega
     ·rw[ey] at q2
      dsimp only at q2;let nd:=List.Nodup.sublist (List.take_sublist (j+1) S.players) pnd;rw[tk,zT] at nd;exact nd.2.2 pn q2 pn (zA.mpr rfl) rfl
    refine{ns++[((0+(i:Int),pn),its)],_,Lo.of rfl rfl,bj nD (s05.trans s58),aB,?_,{?_,λx hx=>?_},λx hx=>?_,by rw[zh];simp;omega}
    ·refine RL.snoc ?_ (rl5.imp λx v z=>(z.mono s58).upd h48)
     exact hV.upd h48 {p8,p7,ws,rfl,h8,s8 _ _ h7,il7.mono s8,ne}
    ·rw[zk,zT]
     exact{nok.1,by simp,λx hx y hy e=>by
      have:y=(0+(i:Int),pn):=by simpa using hy
      rw[<-e] at this;exact fr (this▸hx)}
    ·rcases zG.mp hx with z | z
     ·exact nok.2 x z
     ·rw[zA.mp z]
      refine{by show 0<=0+(i:Int);omega,by show 0+(i:Int)<⇑S.aK;omega,zC qr,?_};show Eo its (S.len (0+(i:Int)).toNat);rw[show(0+(i:Int)).toNat=i from by omega];exact iok
    ·rcases zG.mp hx with z | z
     ·rcases nlt x z with q | ⟨q1,q2⟩
      ·exact .inl q
      ·exact .inr {q1,by rw[tk];exact zJ _ q2}
     ·rw[zA.mp z]
      exact .inr {by show 0+(i:Int)=i;omega,by rw[tk];exact zI _ (zA.mpr rfl)}
   | false=>
    left;refine{ns,us,Lo.of rfl rfl,s05,h45,rl5,nok,λx hx=>?_,nofun};rcases nlt x hx with z | ⟨z1,z2⟩
    ·exact .inl z
    ·exact .inr {z1,by rw[tk];exact zJ _ z2}
  ·rintro U H4 ⟨ns,us,⟨e,rfl⟩,s4,h4,rl4,nok,nlt,nl⟩
   rw[za] at nlt nl;left;refine{ns,us,Lo.of rfl rfl,s4,h4,rl4,nok,λx hx=>?_,nofun};rcases nlt x hx with z | ⟨z1,z2⟩
   ·omega
   ·omega
 ·rintro U H3 ⟨ns,us,⟨e,rfl⟩,s3,h3,rl3,nok,nlt,nl⟩
  change kk ns D us H3 nok nofun s3 h3 rl3
def SH (ins:List (Str×(Int×Int)×(Int×Int))):Prop:=⇑ins<=3/\yZ (ins.map (·.1))/\∀x∈ins,NN x.2.1/\-12<=x.2.1.1/\x.2.1.1<=12/\Lm.Rd x.2.2/\x.2.2.1<10000/\x.2.2.2<10000
def G6 (n:Int):NN (n%25-12,7*(n%25-12)%12+12*(n/25%5-2))/\-12<=n%25-12/\n%25-12<=12:=by
 let a:=zw n (b:=25) ∅;let b:=zt n (b:=25) ∅;let c:=zw (n/25) (b:=5) ∅;let d:=zt (n/25) (b:=5) ∅;unfold NN;dsimp only;omega
def kT:Sp:=λvs H Q _=>∃(c:Int),vs=[.int c]/\∀(ins:List (Str×(Int×Int)×(Int×Int))) D us H',SH ins->au H H'->H' D=some (.lst us)->aD H' (ins.map d7) us->Q (.ref D) H'
def lB:cV P w base 2 T.fe kT:=by
 nomatch T.fe,["_law_cell","_law_m","_law_instruments","_law_k","_law_name","_law_n","_law_df","_law_turn"]
 let⟨c,rfl,kk⟩:=h;let sl:=yC;refine{_,(af (bJ 1 qN (bN (bQ T) hr T.cy (aa (pv 0) (aa ae ag))))
  (af (bJ 2 qN (aY ag))
  (af (b8 PassesOwn.never rfl (vz (by rfl) T.jJ (aa (bN (eR T) hr T.d6 (aa (aq aU (pv 1) ae) (aa (aq aQ (pv 1) ae) ag))) ag)) (dP (n:=2) rfl (aM (iZ 3 qN) (aM (iZ 4 qN) de)))
  (af (bJ 5 qN (bN (bQ T) hr T.cy (aa (pv 0) (aa (aq aS (pv 3) ae) ag))))
   (af (bJ 6 qN (aq i6 (aq aQ (pv 5) ae) ae))
   (af (bJ 7 qN (bz (aa (pv 6) (aa (aq aS (aq aQ (aq dQ ae (pv 6)) ae) (aq dQ ae (aq i6 (aq aQ (aq aU (pv 5) ae) ae) ae))) ag))))
   (aj (bw (bO yD yF yE bu (pv 2) (aa (bz (aa (pv 4) (aa (pv 7) (aa (bN (fO T) hr T.fG (aa (aq aQ (aq aU (pv 5) ae) ae) (aa (fw (aY (aa ae (aa ae (aa ae (aa ae (aa ae ag)))))) (aq aQ (aq aU (pv 5) ae) ae)) ag))) ag)))) ag))))))))
  (aj (ao (pv 2)))))),?_}
 ac_rfl;exists c,8,rfl,nofun,nofun,?_;let m0:0<=mixed c 8:=zw _ ∅;let m1:mixed c 8<2147483399:=zt _ ∅;generalize mixed c 8=m at m0 m1;let a0:0<=m%4:=zw _ ∅;let a1:m%4<4:=zt _ ∅;left
 intros D nD s2 h2 H2
 left;refine{_,_,rfl,zW m0 ∅,?_,a0,nofun,λnms pn H3 nl nok s3 h3=>?_}
 ·have:=zX (a:=m) 4 m0;omega
 exists pn,_,rfl,aH.of h3,?_;let nl3:⇑nms<=3:=nofun
 refine rj (K:=K) (a:=pn) (xs:=nms.map V.str) (λi U H'=>∃(ins:List (Str×(Int×Int)×(Int×Int))) (us:List V),Lo [some (.int c),some (.int m),some (.ref D)] 5 U/\au H H'/\H' pn=some (.lst (nms.map V.str))/\H' D=some (.lst us)/\aD H' (ins.map d7) us/\ins.map (·.1)=nms.take i/\
  ∀x∈ins,NN x.2.1/\-12<=x.2.1.1/\x.2.1.1<=12/\Lm.Rd x.2.2/\x.2.2.1<10000/\x.2.2.2<10000)
  {[],[],Lo.of rfl rfl,s2.trans s3,h3,s3 _ _ h2,cD,rfl,by simp} (λi U H' _ h=>by let⟨_,_,_,_,z,_⟩:=h;exact aH.of z) ?_ ?_
 ·intro i x U H4 p H5 hx hh s45 hp5
  refine cC λN kN0 kR0 _ _=>?_;let⟨ins,us,⟨e,rfl⟩,s4,hpn4,h4,il4,ek,iok⟩:=hh;rw[zK] at hx;cases qr:nms[i]? with
  | none=>rw[qr] at hx;cases hx
  | some nm=>
  rw[qr] at hx;simp only[Option.map_some,Option.some.injEq] at hx;subst hx;let ib:i<⇑nms:=(zy.mp qr).1;let h45:=s45 _ _ h4;let tk:nms.take (i+1)=nms.take i++[nm]:=cM qr;let nepn:pn≠D:=λz=>by
   let q:=h3;rw[z,s3 _ _ h2] at q;let e:([]:List V)=nms.map V.str:=HO.lst.inj (yk q);have:⇑nms=0:=by rw[<-za (f:=V.str),<-e];rfl
   omega
  refine{p,_,rfl,cY.of hp5,rfl,?_};refine{_,_,rfl,{_,_,rfl,{rfl,?_}}};exists c,_,rfl,nofun,nofun,?_;let n0:0<=mixed c ((i:Int)+530):=zw _ ∅;let n1:mixed c ((i:Int)+530)<2147483399:=zt _ ∅;generalize mixed c ((i:Int)+530)=n at n0 n1;exists cH,?_;intros p6 H6 s6 h6;let h46:=s6 _ _ h45;exists .inl {rfl,_,aH.of h46},?_;exists by show 5<=sizeLine;omega,?_
  intros p7 H7 s7 h7;let g0:0<=n/1125%5:=zw _ ∅;let g1:n/1125%5<5:=zt _ ∅;let t0:0<=n/125%9:=zw _ ∅;let t1:n/125%9<9:=zt _ ∅;obtain⟨jj,hjj⟩:∃j:Nat,n/1125%5=(j:Int):={(n/1125%5).toNat,nofun}
  obtain⟨z,hz,z0,z1⟩:∃z:Int,[V.int 1,V.int 2,V.int 4,V.int 8,V.int 3][jj]?=some (.int z)/\0<z/\z<=8:=by
   have:jj<5:=nofun
   match jj,this with
   | 0,_=>exact{1,rfl,∅,∅}
   | 1,_=>exact{2,rfl,∅,∅}
   | 2,_=>exact{4,rfl,∅,∅}
   | 3,_=>exact{8,rfl,∅,∅}
   | 4,_=>exact{3,rfl,∅,∅}
  exists p7,_,n/1125%5,.int z,rfl,rfl,aH.of h7,(by rw[hjj];exact bC hz),?_;exists _,_,rfl,t0,z0,(cm (n:=10) nofun nofun).mono ∅,λp8 H8 s8 h8=>?_;exists mS,?_;intros p9 H9 s9 h9;let s59:=((s6.trans s7).trans s8).trans s9;let h49:=s59 _ _ h45;refine{D,us,_,rfl,rfl,h49,?_,?_}
  ·let e1:=aO il4
   let e2:⇑ins=⇑(nms.take i):=by rw[<-ek,za]
   rw[zQ] at e2;omega
  left;let nt:cj (H9 D):=by rw[h49];exact λ_ z=>by cases z
  let rb:=iV (t:=n/125%9) z0;let rle:=wK (t:=n/125%9) (b:=z) t0;let⟨td1,td2,td3⟩:=G6 n;let ix:Is H9 (d7 (nm,(n%25-12,7*(n%25-12)%12+12*(n/25%5-2)),red (n/125%9) z)) (.ref p9):=cw h9 (aN eK (aN (iB (((s7.trans s8).trans s9) _ _ h6)) (aN (iB (s9 _ _ h8)) cD)));refine{ins++[(nm,(n%25-12,7*(n%25-12)%12+12*(n/25%5-2)),red (n/125%9) z)],_,Lo.of rfl rfl,bj nD ((s4.trans s45).trans s59),by rw[aC nepn];exact s59 _ _ (s45 _ _ hpn4),aB,?_,?_,λx hx=>?_}
  ·rw[zk]
   exact cX (Is.upd nt ix) (aD.upd nt ((il4.mono s45).mono s59))
  ·rw[zk,ek,tk];rfl
  ·rcases zG.mp hx with y | y
   ·exact iok x y
   ·rw[zA.mp y]
    let⟨_,_,_,_,_,r5⟩:=rb;exact{td1,td2,td3,Lm.Rd.of t0 z0,by show(red (n/125%9) z).1<10000;omega,by show(red (n/125%9) z).2<10000;omega}
 ·rintro U H4 ⟨ins,us,⟨e,rfl⟩,s4,hpn4,h4,il4,ek,iok⟩
  rw[za,zN] at ek;change kk ins D us H4 {by rw[<-za (f:=λx:Str×(Int×Int)×(Int×Int)=>x.1),ek];exact nl3,by rw[ek];exact nok,iok} s4 h4 il4
inductive oo (vs:List V) (H:Hp) (Q:VK) (E:XK):Prop
 | mk (q:Addr) (x:Int×Int) (_:vs=[.ref q]) (_:H q=some (jw x)) (_:0<=x.1) (_:x.1<10000) (_:0<x.2) (_:x.2<10000) (_:Q (.str (iA x)) H)
def dG:cV P w base 1 T.dm oo:=by
 nomatch T.dm,["_law_length"]
 let⟨q,x,rfl,hq,x1,x2,x3,x4,kk⟩:=h;let sl:=yC;let a:=bD (n:=x.1) nofun x2;let b:=bD (n:=x.2) nofun x4;let na:=bP (n:=x.1) nofun x2;let nb:=bP (n:=x.2) nofun x4;let l1:("/": Str).length=1:=rfl;refine{_,(af (aG (ptr cW (bG (pv 0) ae) ae)
  (aj (ao (mD aV T.fk (aa (bG (pv 0) ae) ag))))
  ax)
  (aj (ao (aq bV (aq bV (mD aV T.fk (aa (bG (pv 0) ae) ag)) aL) (mD aV T.fk (aa (bG (pv 0) ae) ag)))))),?_}
 ac_rfl;left
 by_cases c:x.2=1
 ·refine bU (by rw[c];rfl) ?_
  exists na,?_;left;unfold iA at kk;rw[if_pos c] at kk;exact kk
 ·refine b9 (ze λz=>c (V.int.inj z)) ?_
  unfold iA at kk;rw[if_neg c] at kk;exists na,?_;exists by show(dec x.1).length+_<=_;omega,?_
  exists nb,?_;exists by show(dec x.1 ++"/").length+⇑(dec x.2)<=_;rw[len_app];omega,?_
  exact kk
inductive jA (vs:List V) (H:Hp) (Q:VK) (E:XK):Prop
 | mk (v:V) (it:Item) (_:vs=[v]) (_:Is H (eM it) v) (_:Li it) (_:Q (.str (pE it)) H)
def MT {H:Hp} {it:Item} {v:V} (h:Is H (eM it) v):∃a q b,v=.ref a/\H a=some (.tup [q,.ref b])/\Is H (dO dL it.1) q/\H b=some (jw it.2):=by
 unfold eM Is at h;let⟨a,vs,rfl,ha,hl⟩:=h;unfold aD at hl;let⟨v1,r1,rfl,h1,hl⟩:=hl;unfold aD at hl;let⟨v2,r2,rfl,h2,hl⟩:=hl;unfold aD at hl;subst hl;cases fc (o:=some it.2) h2 with
 | ref hb=>exact{a,v1,_,rfl,ha,h1,hb}
def qT:cV P w base 2 T.jr jA:=by
 nomatch T.jr,["_law_item"]
 let⟨v,⟨o,x⟩,rfl,iv,iok,kk⟩:=h;let sl:=yC;let⟨a,q,b,rfl,ha,iq,hb⟩:=MT iv;let⟨⟨hr',h1,h2,h3⟩,hq⟩:=id iok;let⟨_,p2,_⟩:=hr'.pos;let lx:=kA (x:=x) (by have:=h1;dsimp only at this;omega) h2 (by have:=p2;dsimp only at this;omega) h3;dsimp only at h1 h2 h3 p2 hq hb iq;refine{_,(af (aG (bE (cu (bG (pv 0) ae)))
  (aj (ao (aq bV aL (bN (dG T) hr T.dm (aa (bG (pv 0) ae) ag)))))
  ax)
  (aj (ao (aq bV (aq bV (aq bV (aq bV (mD aV T.fk (aa (bG (bG (pv 0) ae) ae) ag)) aL) (mD aV T.fk (aa (bG (bG (pv 0) ae) ae) ag))) aL) (bN (dG T) hr T.dm (aa (bG (pv 0) ae) ag)))))),?_}
 ac_rfl;left;cases o with
 | none=>
  unfold dO Is at iq;subst iq;exists b,x,rfl,hb,nofun,h2,p2,h3,?_;let l2:("r:": Str).length=2:=rfl;refine{_,_,rfl,rfl,nofun,?_};exact kk
 | some pq=>
  let⟨q1,q2,q3,q4,_⟩:=hq pq rfl;let la:=bD (n:=pq.1) nofun nofun;let lb:=bD (n:=pq.2) nofun nofun;let na:=bP (n:=pq.1) nofun nofun;let nb:=bP (n:=pq.2) nofun nofun;cases fc (o:=some pq) iq with
  | ref hpq=>
   let l1:(":": Str).length=1:=rfl;exists na,?_;exists by show(dec pq.1).length+_<=_;omega,?_
   exists nb,?_;exists by show(dec pq.1 ++":").length+⇑(dec pq.2)<=_;rw[len_app];omega,?_
   exists by show(dec pq.1 ++":" ++ dec pq.2).length+_<=_;rw[len_app,len_app];omega,?_
   exists b,x,rfl,hb,nofun,h2,p2,h3,?_;refine{_,_,rfl,rfl,by show(dec pq.1 ++":" ++ dec pq.2 ++":").length+_<=_;rw[len_app,len_app,len_app];omega,?_};exact kk
inductive hZ (vs:List V) (H:Hp) (Q:VK) (E:XK):Prop
 | mk (v:V) (r:Rep) (_:vs=[v]) (_:Is H (gq r) v) (_:Lf r) (_:∀H',au H H'->Q (.str (rowOf (.rep r))) H')
noncomputable def w4 (r:Rep):List Str:=["repeat",dec r.first,dec r.last,dec r.times]
def ou:cV P w base 1 T.gy hZ:=by
 nomatch T.gy,["_law_repeat","_law_words","_law_begin","_law_passes"]
 let⟨v,r,rfl,iv,⟨⟨f1,f2,f3,f4,f5⟩,el,pl⟩,kk⟩:=h;let sl:=yC;let⟨a,ep,rfl,ha,ie⟩:=dB iv;obtain⟨ep',evs,e0,hep,ile⟩:∃ep' evs,V.ref ep=.ref ep'/\H ep'=some (.tup evs)/\aD H (r.ends.map mG) evs:=by unfold Is at ie;exact ie
 cases e0;let evl:=aO ile;let n1:=bP (n:=r.first) (by have:=f1.1;omega) (by have:=f1.2;omega);let n2:=bP (n:=r.last) (by have:=f2.1;omega) (by have:=f2.2;omega);let n3:=bP (n:=r.times) nofun nofun;refine{_,(af (bJ 1 qN (aY (aa aL (aa (mD aV T.fk (aa (bG (pv 0) ae) ag)) (aa (mD aV T.fk (aa (bG (pv 0) ae) ag)) (aa (mD aV T.fk (aa (bG (pv 0) ae) ag)) ag))))))
  (af (b8 PassesOwn.never rfl (iY (bG (pv 0) ae)) (dP (n:=2) rfl (aM (iZ 2 qN) (aM (iZ 3 qN) de)))
  (aj (bw (bO yD yF yE bu (pv 1) (aa (aq bV (aq bV (mD aV T.fk (aa (pv 2) ag)) aL) (bO yG yI yH gE aL (aa (mX (ts:=["_law_one"]) (ys:=[]) (js:=[]) (te:=(JY R1 (bR (aX 0) eD))) (iY (pv 3)) (fZ 0) bx (mD aV T.fk (aa (pv 0) ag))) ag))) ag)))))
  (aj (ao (bO yG yI yH gE aL (aa (pv 1) ag)))))),?_}
 ac_rfl;exists n1,?_;exists n2,?_;exists n3,?_;exists by show 4<=sizeLine;omega,?_
 intro W nW;generalize hU:upd H W _=H2;let s2:au H H2:=by rw[<-hU];exact bq nW
 let h2:H2 W=some (.lst ((w4 r).map V.str)):=by rw[<-hU];exact aB
 clear hU;let ha2:=s2 _ _ ha;exists{_,cY.of (s2 _ _ hep)},?_;refine Jv (K:=K) (a:=ep) (xs:=evs) (λi U H'=>∃(v2 v3:Option V),U=[some (.ref a),some (.ref W),v2,v3]/\au H H'/\H' W=some (.lst ((w4 r++(r.ends.take i).map oy).map V.str))) {none,none,rfl,s2,by rw[List.take_zero,yn,zV];exact h2} (λi U H' _ h=>by let⟨_,_,_,z,_⟩:=h;exact cY.of (z _ _ hep)) ?_ ?_
 ·intro i x U H3 hx hh
  refine cC λN kN0 kR0 _ _=>?_;let⟨v2,v3,rfl,s3,h3⟩:=hh;let⟨e,he,ie⟩:=cT ile hx;let⟨b,q,rfl,hb,hq⟩:=pF ie;let eo:=f5 e (zC he);let pe:=pl e (zC he);let hb3:=s3 _ _ hb;let tk:r.ends.take (i+1)=r.ends.take i++[e]:=cM he;let ib:i<⇑r.ends:=(zy.mp he).1;let nb:=bP (n:=e.1) (by have:=eo.1;omega) (by have:=eo.2.1;omega);let lb:=bD (n:=e.1) (by have:=eo.1;omega) (by have:=eo.2.1;omega);refine{b,_,rfl,cY.of hb3,rfl,?_};refine{_,_,rfl,{_,_,rfl,{rfl,?_}}};exists .inl {rfl,_,aH.of h3},?_;exists nb,?_;exists by show(dec e.1).length+(":": Str).length<=_;have:(":": Str).length=1:=rfl;omega,?_
  exists{_,cY.of (s3 _ _ hq)},?_;refine gr (enc:=V.int) (ws:=e.2) (λz=>.str (dec z)) (λU=>∃v,U=[v]) nofun (s3 _ _ hq) {(none),rfl} ?_ ?_
  ·rintro z U H4 R hz s4 ⟨_,rfl⟩ rr
   have:=eo.2.2.2 z hz;exists bP nofun nofun,?_;exact rr _ _ _ (au.refl _) eK {_,rfl}
  ·intro D vs H4 s4 hD il
   let e1:e.2.map (λz=>Dt.str (dec z))=(e.2.map dec).map Dt.str:=by rw[zB];rfl
   rw[e1] at il;rw[dH il] at hD;let l5:∀z∈e.2.map dec,⇑z<=5:=λz hz=>by
    let⟨p,hp,rfl⟩:=zH.mp hz;have:=eo.2.2.2 p hp;exact bD nofun nofun
   let l9:⇑(e.2.map dec)<=9:=by rw[za];exact pe
   let sb:=oJ (sep:=",") l5;let jb:=xi (sep:=",") l5;let mb:⇑(e.2.map dec)*(5+(",": Str).length)<=9*(5+1):=Nat.mul_le_mul l9 (zm _);refine{",",D,_,rfl,rfl,aH.of hD,zM sb (zM mb nofun),?_};refine{_,_,rfl,rfl,?_,?_}
   ·show(dec e.1 ++":").length+(Str.join "," (e.2.map dec)).length<=sizeLine
    rw[len_app];have:(":": Str).length=1:=rfl;omega
   let h34:=s4 _ _ h3;let s04:=s3.trans s4;left;refine{W,_,_,rfl,rfl,h34,?_,?_}
   ·rw[za,zh,za,zQ]
    show 4+_<_;omega
   exists _,_,rfl,bj nW s04,?_;let ew:(w4 r++(r.ends.take (i+1)).map oy).map V.str=(w4 r++(r.ends.take i).map oy).map V.str++[V.str (oy e)]:=by
    rw[tk,zk (f:=oy),<-zF,zk (f:=V.str)];rfl
   rw[aB,ew];rfl
 ·rintro U H3 ⟨v2,v3,rfl,s3,h3⟩
  rw[evl,zN] at h3;left;let ll:∀z∈w4 r++r.ends.map oy,⇑z<=60:=λz hz=>by
   rcases zG.mp hz with y | y
   ·unfold w4 at y
    simp only[zD,zE,or_false] at y;rcases y with rfl | rfl | rfl | rfl
    ·decide
    ·have:=bD (n:=r.first) (by have:=f1.1;omega) (by have:=f1.2;omega);omega
    ·have:=bD (n:=r.last) (by have:=f2.1;omega) (by have:=f2.2;omega);omega
    ·have:=bD (n:=r.times) nofun nofun;omega
   ·let⟨e,he,rfl⟩:=zH.mp y
    exact F9 (f5 e he) (pl e he)
  let sb:=oJ (sep:=" ") ll;refine{" ",W,_,rfl,rfl,aH.of h3,?_,?_}
  ·let l4:⇑(w4 r++r.ends.map oy)<=13:=by rw[zh,za];show 4+_<=13;omega
   exact zM sb (zM (Nat.mul_le_mul l4 (zm _)) (by show 13*(60+1)<=sizeLine;omega))
  exact kk _ s3
def Ux {c:Bool} {T1 T2:VK->Prop} {Z:VK} {H:Hp} (v:V) (h1:c=true->∀Z:VK,Z v H->T1 Z) (h2:c=false->∀Z:VK,Z v H->T2 Z) (hz:Z v H):if c=true then T1 Z else T2 Z:=by
 cases c with
 | true=>rw[if_pos rfl];exact h1 rfl Z hz
 | false=>rw[if_neg (by simp)];exact h2 rfl Z hz
def SF (j:Jump):Prop:=PR (.bT j)
noncomputable def xn (S:bW):List Told:=S.repeats.map .rep++S.bT.toList.map .bT
inductive qk (vs:List V) (H:Hp) (Q:VK) (E:XK):Prop
 | mk (p:Addr) (S:bW) (_:vs=[.ref p]) (_:kM H p S) (_:(∀r∈S.repeats,Lf r)) (_:⇑S.repeats<=1000) (_:(∀j,S.bT=some j->SF j)) (_:∀D H',au H H'->H D=none->H' D=some (.lst (((xn S).map rowOf).map V.str))->Q (.ref D) H')
def M0 {H:Hp} {j:Jump} {v:V} (h:Is H (jP j) v):∃a c,v=.ref a/\H a=some (.tup [.int j.vE,.int j.y7,.int j.dy,c])/\Is H (dO .int j.gw) c:=by
 unfold jP Is at h;let⟨a,vs,rfl,ha,hl⟩:=h;unfold aD at hl;let⟨v1,r1,rfl,h1,hl⟩:=hl;unfold aD at hl;let⟨v2,r2,rfl,h2,hl⟩:=hl;unfold aD at hl;let⟨v3,r3,rfl,h3,hl⟩:=hl;unfold aD at hl;let⟨v4,r4,rfl,h4,hl⟩:=hl;unfold aD at hl;subst hl;unfold Is at h1 h2 h3;subst h1 h2 h3;exact{(a),v4,rfl,ha,h4}
theorem gP {H:Hp} {α:Type} {d:α->Dt}:∀{xs:List α} {vs:List V},aD H (xs.map d) vs->∃ps:List (α×V),ps.map (·.1)=xs/\ps.map (·.2)=vs/\∀z∈ps,Is H (d z.1) z.2
 | [],_,h=>{[],rfl,by unfold aD at h;rw[h];rfl,by simp}
 | x::xs,_,h=>by
  rw[zj] at h;unfold aD at h;let⟨v,r,rfl,h1,h2⟩:=h;let⟨ps,e1,e2,e3⟩:=gP h2;refine{(x,v)::ps,by rw[zj,e1],by rw[zj,e2],λz hz=>?_};rcases zD.mp hz with rfl | hz
  ·exact h1
  ·exact e3 z hz
def qU:cV P w base 2 T.jt qk:=by
 nomatch T.jt,["_law_s","_law_rows","_law_coda"]
 let⟨p,S,rfl,la,rok,rl3,jok,kk⟩:=h;let sl:=yC;let⟨pl,il,sl',bl,hl,nl,rl,ub,jm,iv,sv,bv,hv,nv,rv,h1,h2,h3,h4,h5,h6,h7,h8,⟨h9,ilr⟩,hj⟩:=la.at';let⟨ps,e1,e2,e3⟩:=gP ilr;let pln:⇑ps=⇑S.repeats:=by rw[<-e1,za]
 refine{_,(af (MF (i:=1) (ts:=["_law_repeat"]) (ys:=[]) (js:=[]) (te:=(gK hZ [] E0 (bR (aX 0) eD))) (aZ (bG (pv 0) ae)) (fZ 0) bx (bN (ou T) hr T.gy (aa (pv 0) ag)) qN)
  (af (aG (bE (fM (bG (pv 0) ae)))
  (af (bJ 2 qN (Fq (bE (cu (bG (bG (pv 0) ae) ae))) aL (mD aV T.fk (aa (bG (bG (pv 0) ae) ae) ag))))
   (aj (bw (bO yD yF yE bu (pv 1) (aa (bO yG yI yH gE aL (aa (aY (aa aL (aa (mD aV T.fk (aa (bG (bG (pv 0) ae) ae) ag)) (aa (mD aV T.fk (aa (bG (bG (pv 0) ae) ae) ag)) (aa (mD aV T.fk (aa (bG (bG (pv 0) ae) ae) ag)) (aa (pv 2) ag)))))) ag)) ag)))))
  ax)
  (aj (ao (pv 1))))),?_}
 ac_rfl;exists{_,aH.of h9},?_;refine dU (enc:=λq:Rep×V=>q.2) (ws:=ps) (λq=>.str (rowOf (.rep q.1))) (λU=>∃v,U=[v]) nofun (by rw[e2];exact aH.of h9) {(none),rfl} ?_ ?_
 ·rintro z U H1 R hz s1 ⟨_,rfl⟩ rr
  let zin:z.1∈S.repeats:=by rw[<-e1];exact zP hz
  change{z.2,z.1,rfl,(e3 z hz).mono s1,rok _ zin,λH2 s2=>rr _ _ _ s2 eK {_,rfl}}
 ·intro D vs H1 s1 nD hD ilD
  let ee:ps.map (λq:Rep×V=>Dt.str (rowOf (.rep q.1)))=((S.repeats.map Told.rep).map rowOf).map Dt.str:=by rw[<-e1,zB,zB,zB];rfl
  rw[ee] at ilD;rw[dH ilD] at hD;let h11:=s1 _ _ h1;left;cases q:S.bT with
  | none=>
   rw[q] at hj;unfold dO Is at hj;subst hj;left;refine kk D H1 s1 nD ?_;unfold xn;rw[q,hD];simp
  | some j=>
   rw[q] at hj;let⟨ja,jc,rfl,hja,ijc⟩:=M0 hj;let⟨j1,j2,j3,j4⟩:=jok j q;let hja1:=s1 _ _ hja;let n1:=bP (n:=j.vE) (by have:=j1.1;omega) (by have:=j1.2;omega);let n2:=bP (n:=j.y7) (by have:=j2.1;omega) (by have:=j2.2;omega);let n3:=bP (n:=j.dy) (by have:=j3.1;omega) (by have:=j3.2;omega);let cl:⇑(ctxt j.gw)<=5:=by
    unfold ctxt;cases qc:j.gw with
    | none=>decide
    | some m=>have:=j4 m qc;exact bD (by have:=this.1;omega) (by have:=this.2;omega)
   left;refine Ux (H:=H1) (.str (ctxt j.gw)) ?_ ?_ ?_
   ·intro c Z hz
    let e:jc=.bI:=ye c;cases qc:j.gw with
    | none=>rw[qc] at hz;change hz
    | some m=>rw[qc] at ijc;unfold dO Is at ijc;rw[ijc] at e;cases e
   ·intro c Z hz
    cases qc:j.gw with
    | none=>rw[qc] at ijc;unfold dO Is at ijc;rw[ijc] at c;simp at c
    | some m=>
     rw[qc] at ijc hz;unfold dO Is at ijc;subst ijc;change{bP (by have:=(j4 m qc).1;omega) (by have:=(j4 m qc).2;omega),hz}
   exists .inl {rfl,_,aH.of hD},?_;exists n1,?_;exists n2,?_;exists n3,?_;exists by show 5<=sizeLine;omega,?_
   intros p5 H5 s5 h5;let ll:∀z∈Sc.wordsOf (.bT j),⇑z<=5:=λz hz=>by
    simp only[Sc.wordsOf,zD,zE,or_false] at hz;rcases hz with rfl | rfl | rfl | rfl | rfl
    ·decide
    ·exact bD (by have:=j1.1;omega) (by have:=j1.2;omega)
    ·exact bD (by have:=j2.1;omega) (by have:=j2.2;omega)
    ·exact bD (by have:=j3.1;omega) (by have:=j3.2;omega)
    ·exact cl
   let sb:=oJ (sep:=" ") ll;refine{" ",p5,Sc.wordsOf (.bT j),rfl,rfl,aH.of h5,zM sb (by show 5*(5+1)<=sizeLine;omega),?_};exists D,_,_,rfl,rfl,s5 _ _ hD,by rw[za,za,za];omega,?_
   left;refine kk D _ (bj nD (s1.trans s5)) nD ?_;unfold xn;rw[aB,q,zk,zk];rfl
def ON {H:Hp} {x:Str×(Int×Int)×(Int×Int)} {v:V} (h:Is H (d7 x) v):∃a t l,v=.ref a/\H a=some (.tup [.str x.1,t,l])/\Is H (dL x.2.1) t/\Is H (dL x.2.2) l:=by
 unfold d7 Is at h;let⟨a,vs,rfl,ha,hl⟩:=h;unfold aD at hl;let⟨v1,r1,rfl,h1,hl⟩:=hl;unfold aD at hl;let⟨v2,r2,rfl,h2,hl⟩:=hl;unfold aD at hl;let⟨v3,r3,rfl,h3,hl⟩:=hl;unfold aD at hl;subst hl;unfold Is at h1;subst h1;exact{(a),v2,v3,rfl,ha,h2,h3}
def Kq {H:Hp} {x:Str×List Str} {v:V} (h:Is H (gn x) v):∃a q,v=.ref a/\H a=some (.tup [.str x.1,.ref q])/\H q=some (.tup (x.2.map V.str)):=by
 unfold gn Is at h;let⟨a,vs,rfl,ha,hl⟩:=h;unfold aD at hl;let⟨v1,r1,rfl,h1,hl⟩:=hl;unfold aD at hl;let⟨v2,r2,rfl,h2,hl⟩:=hl;unfold aD at hl;subst hl;unfold Is at h1;subst h1;unfold mr Is at h2;let⟨q,us,rfl,hq,hl⟩:=h2;rw[dH hl] at hq;exact{(a),q,rfl,ha,hq}
def QQ {H:Hp} {x:Int×Str} {v:V} (h:Is H (JC x) v):∃a,v=.ref a/\H a=some (.tup [.int x.1,.str x.2]):=by
 unfold JC Is at h;let⟨a,vs,rfl,ha,hl⟩:=h;unfold aD at hl;let⟨v1,r1,rfl,h1,hl⟩:=hl;unfold aD at hl;let⟨v2,r2,rfl,h2,hl⟩:=hl;unfold aD at hl;subst hl;unfold Is at h1 h2;subst h1 h2;exact{(a),rfl,ha}
def TD (t:Told):Prop:=PR t/\⇑(Sc.wordsOf t)<=100/\∀w∈Sc.wordsOf t,⇑w<=100
def vQ {t:Told} (h:TD t):((Sc.wordsOf t).map (λz:Str=>⇑z+(" ": Str).length)).sum<=sizeLine:=by
 let sl:=yC;let a:=oJ (sep:=" ") h.2.2;let b:⇑(Sc.wordsOf t)*(100+(" ": Str).length)<=100*(100+(" ": Str).length):=Nat.mul_le_mul h.2.1 (zm _);exact zM a (zM b (by show 100*(100+1)<=sizeLine;omega))
def HJ (n:Str):("player ": Str)++n=rowOf (.bH n):=rfl
noncomputable def rws (ts:List Told):List V:=(ts.map rowOf).map V.str
def kW (a b:List Told):rws (a++b)=rws a++rws b:=by unfold rws;rw[zk,zk]
def kU (a:List Told):⇑(rws a)=⇑a:=by unfold rws;rw[za,za]
inductive oM (vs:List V) (H:Hp) (Q:VK) (E:XK):Prop
 | mk (p:Addr) (S:bW) (_:vs=[.ref p]) (_:kM H p S) (_:(∀t∈eC S,TD t)) (_:⇑(eC S)<=1000000) (_:(∀r∈S.repeats,Lf r)) (_:⇑S.repeats<=1000) (_:∀D H',au H H'->H D=none->H' D=some (.lst (rws (eC S)))->Q (.ref D) H')
def pz:cV P w base 3 T.g9 oM:=by
 nomatch T.g9,["_law_s","_law_rows","_law_name","_law_turn","_law_time","_law_metre","_law_key","_law_marks","_law_player","_law_row","_law_bar","_law_items"]
 let⟨p,S,rfl,la,tok,tl,rok,rln3,kk⟩:=h;let sl:=yC;let⟨pl,il,st,bl,hl,nl,rl,ub,jm,iv,sv,bv,hv,nv,rv,h1,h2,⟨h3,ili⟩,⟨h4,ils⟩,⟨h5,ilb⟩,h6,⟨h7,rlh⟩,⟨h8,rln⟩,_,_⟩:=la.at';let mem:∀a b c:List Told,eC S=a++b++c->∀t∈b,TD t:=λa b c e t ht=>tok t (by rw[e];simp[ht]);let tlen:∀a b:List Told,eC S=a++b->⇑a<=1000000:=λa b e=>by rw[e,zh] at tl;omega
 obtain⟨fl,fli,fls,flb,fln⟩:⇑S.players<=1000000/\⇑S.players+⇑S.ak<=1000000/\⇑S.players+⇑S.ak+⇑S.aJ<=1000000/\⇑S.players+⇑S.ak+⇑S.aJ+⇑S.aK<=1000000/\⇑S.aI<=1000000:=by
  unfold eC at tl;simp only[zh,za] at tl;omega
 refine{_,(af (MF (i:=1) (ts:=["_law_name"]) (ys:=[]) (js:=[]) (te:=(e9 (λx y H Q=>∃i j,x=.str i/\y=.str j/\⇑i+⇑j<=sizeLine/\Q (.str (i++j)) H) (tC (.str "player ")) (aX 0))) (aZ (bG (pv 0) ae)) (fZ 0) bx (aq bV aL (pv 0)) qN)
  (af (b8 PassesOwn.never rfl (aZ (bG (pv 0) ae)) (dP (n:=3) rfl (aM (iZ 2 qN) (aM (iZ 3 qN) (aM (iZ 4 qN) de))))
  (aj (bw (bO yD yF yE bu (pv 1) (aa (bO yG yI yH gE aL (aa (aY (aa aL (aa (pv 2) (aa (mD aV T.fk (aa (bG (pv 3) ae) ag)) (aa (mD aV T.fk (aa (bG (pv 3) ae) ag)) (aa (bN (dG T) hr T.dm (aa (pv 4) ag)) ag)))))) ag)) ag)))))
  (af (bJ 1 qN (aq gC (pv 1) (mX (ts:=["_law_name","_law_players"]) (ys:=[]) (js:=[]) (g:=(Dp K 2 (fm (bS 0) (fm (bS 1) Dq)))) (te:=(SU K "str" (rJoin K) (tC (.str " ")) (bR (e9 (PD K) (EJ (bR (tC (.str "staff")) (bR (aX 0) eD))) (JY (R3 K) (bR (aX 1) eD))) eD))) (aZ (bG (pv 0) ae)) (dP (n:=2) rfl (aM (fZ 0) (aM (fZ 1) de))) bx (bO yG yI yH gE aL (aa (aq gC (aY (aa aL (aa (pv 0) ag))) (mD iD T.jY (aa (pv 1) ag))) ag)))))
  (af (b8 PassesOwn.never rfl (aZ (bG (pv 0) ae)) (dP (n:=3) rfl (aM (iZ 5 qN) (aM (iZ 6 qN) (aM (iZ 7 qN) de))))
  (aj (bw (bO yD yF yE bu (pv 1) (aa (bO yG yI yH gE aL (aa (aq gC (aY (aa aL (aa (aq bV (aq bV (mD aV T.fk (aa (bG (pv 5) ae) ag)) aL) (mD aV T.fk (aa (bG (pv 5) ae) ag))) (aa (mD aV T.fk (aa (pv 6) ag)) ag)))) (mD iD T.jY (aa (pv 7) ag))) ag)) ag)))))
  (af (aG (bE (fM (bG (pv 0) ae)))
  (aj (bw (bO yD yF yE bu (pv 1) (aa (aq bV aL (bN (dG T) hr T.dm (aa (bG (pv 0) ae) ag))) ag))))
  ax)
  (af (b8 PassesOwn.never rfl (aZ (bG (pv 0) ae)) (dP (n:=2) rfl (aM (iZ 8 qN) (aM (iZ 9 qN) de)))
  (aj (bJ 1 qN (aq gC (pv 1) (mX (ts:=["_law_bar","_law_name"]) (ys:=["_law_player"]) (js:=[8]) (g:=(Dp K 2 (fm (bS 0) (fm (bS 1) Dq)))) (te:=(SU K "str" (rJoin K) (tC (.str " ")) (bR (EJ (bR (tC (.str "holds")) (bR (aX 2) (bR (JY R1 (bR (aX 0) eD)) (bR (aX 1) eD))))) eD))) (aZ (pv 9)) (dP (n:=2) rfl (aM (fZ 0) (aM (fZ 1) de))) bx (bO yG yI yH gE aL (aa (aY (aa aL (aa (pv 2) (aa (mD aV T.fk (aa (pv 0) ag)) (aa (pv 1) ag))))) ag)))))))
  (af (b8 PassesOwn.never rfl (aZ (bG (pv 0) ae)) (dP (n:=3) rfl (aM (iZ 10 qN) (aM (iZ 8 qN) (aM (iZ 11 qN) de))))
  (aj (bw (bO yD yF yE bu (pv 1) (aa (bO yG yI yH gE aL (aa (aq gC (aY (aa aL (aa (mD aV T.fk (aa (pv 10) ag)) (aa (pv 8) ag)))) (mX (ts:=["_law_item"]) (ys:=[]) (js:=[]) (te:=(gK jA [] E0 (bR (aX 0) eD))) (aZ (pv 11)) (fZ 0) bx (bN (qT T) hr T.jr (aa (pv 0) ag)))) ag)) ag)))))
  (aj (ao (aq gC (pv 1) (bN (qU T) hr T.jt (aa (pv 0) ag)))))))))))),?_}
 ac_rfl;exists{_,aH.of h2},?_;refine dU (enc:=V.str) (ws:=S.players) (λn=>.str (rowOf (.bH n))) (λU=>∃v,U=[v]) nofun (aH.of h2) {(none),rfl} ?_ ?_
 ·rintro z U H1 R hz s1 ⟨_,rfl⟩ rr
  let tz:TD (.bH z):=tok _ (by unfold eC;simp[hz]);left;refine{?_,?_}
  ·let l7:("player ": Str).length=7:=rfl
   have:=tz.2.2 z (by simp[Sc.wordsOf]);omega
  exact rr _ _ _ (au.refl _) (by rw[HJ];exact eK) {_,rfl}
 ·intro D vs H1 s1 nD hD ilD
  let ee:S.players.map (λn=>Dt.str (rowOf (.bH n)))=((S.players.map Told.bH).map rowOf).map Dt.str:=by rw[zB,zB];rfl
  rw[ee] at ilD;rw[dH ilD] at hD;let h11:=s1 _ _ h1;exists{_,aH.of (s1 _ _ h3)},?_;refine dr (K:=K) (a:=il) (xs:=iv) (λi U H'=>Lo [some (.ref p),some (.ref D)] 10 U/\au H H'/\H' D=some (.lst (rws (S.players.map .bH++(S.ak.take i).map λx=>.cL x.1 x.2.1 x.2.2)))) {Lo.of rfl rfl,s1,by rw[List.take_zero,yn,zV];exact hD} (λi U H' _ h=>by let⟨_,z,_⟩:=h;exact aH.of (z _ _ h3)) ?_ ?_
  ·intro i x U H2 hx hh
   refine cC λN kN0 kR0 _ _=>?_;let⟨⟨e,rfl⟩,s2,hD2⟩:=hh;let⟨n,hn,ix⟩:=cT (d:=d7) ili hx;let⟨a1,t1,l1,rfl,ha1,it,iL⟩:=ON ix;cases fc (o:=some n.2.1) it with
   | ref ht=>
   cases fc (o:=some n.2.2) iL with
   | ref hL=>
   let tn:TD (.cL n.1 n.2.1 n.2.2):=tok _ (by unfold eC;simp only[zG,zH];exact .inl (.inl (.inl (.inl (.inl (.inl (.inr {n,zC hn,rfl})))))));refine{a1,_,rfl,cY.of (s2 _ _ ha1),rfl,?_};refine{_,_,rfl,{_,_,rfl,{_,_,rfl,{rfl,?_}}}};rename_i bt bL;let ht2:=s2 _ _ ht;let hL2:=s2 _ _ hL;let⟨t1,t2,t3,t4,t5,t6,t7⟩:=tn.1;let⟨c1,c2,c3,c4,_⟩:=t2;let⟨r1,r2,_⟩:=t5.pos;exists .inl {rfl,_,aH.of hD2},?_;exists bP nofun nofun,?_;exists bP nofun nofun,?_;exists _,n.2.2,rfl,hL2,r1,t6,r2,t7,?_;exists by show 5<=sizeLine;omega,?_
   intros p5 H5 s5 h5;refine{" ",p5,Sc.wordsOf (.cL n.1 n.2.1 n.2.2),rfl,rfl,aH.of h5,vQ tn,?_};left;refine{D,_,_,rfl,rfl,s5 _ _ hD2,?_,?_}
   ·rw[kU,zh,za,za,zQ];omega
   exists Lo.of rfl rfl,bj nD (s2.trans s5),?_;rw[aB,cM hn,zk,<-zF];exact congrArg (λl=>some (HO.lst l)) (kW _ [Told.cL n.1 n.2.1 n.2.2]).symm
  ·rintro U H2 ⟨⟨e,rfl⟩,s2,hD2⟩
   rw[aO ili,zN] at hD2;let h12:=s2 _ _ h1;let⟨ps,e1,e2,e3⟩:=gP ils;let pln:⇑ps=⇑S.aJ:=by rw[<-e1,za]
   exists{_,aH.of (s2 _ _ h4)},?_;refine dU (enc:=λq:(Str×List Str)×V=>q.2) (ws:=ps) (λq=>.str (rowOf (.cq q.1.1 q.1.2))) (λU=>∃v u,U=[v,u]) nofun (by rw[e2];exact aH.of (s2 _ _ h4)) {(none),none,rfl} ?_ ?_
   ·rintro z U H3 R hz s3 ⟨_,_,rfl⟩ rr
    let zin:z.1∈S.aJ:=by rw[<-e1];exact zP hz
    let tz:TD (.cq z.1.1 z.1.2):=tok _ (by unfold eC;simp only[zG,zH];exact .inl (.inl (.inl (.inl (.inl (.inr {(z.1),zin,rfl}))))));let⟨a3,q3,ea,ha3,hq3⟩:=Kq (e3 z hz);let s03:=s2.trans s3;rw[ea];refine{a3,_,rfl,cY.of (s03 _ _ ha3),rfl,?_};refine{_,_,rfl,{_,_,rfl,{rfl,?_}}};exists by show 2<=sizeLine;omega,?_
    intros p5 H5 s5 h5;exists q3,_,rfl,.inr (cY.of (s5 _ _ (s03 _ _ hq3))),?_;intros p6 H6 s6 h6;let zl:⇑z.1.2<=98:=by have:=tz.2.1;simp only[Sc.wordsOf,zv] at this;omega
    refine{p5,p6,_,_,rfl,rfl,aH.of (s6 _ _ h5),aH.of h6,by rw[za];show 2+_<=_;omega,?_};intros p7 H7 s7 h7;refine{" ",p7,Sc.wordsOf (.cq z.1.1 z.1.2),rfl,rfl,aH.of h7,vQ tz,?_};exact rr _ _ _ ((s5.trans s6).trans s7) eK {_,_,rfl}
   ·intro D3 vs3 H3 s3 nD3 hD3 il3
    let ee3:ps.map (λq:(Str×List Str)×V=>Dt.str (rowOf (.cq q.1.1 q.1.2)))=((S.aJ.map λx=>Told.cq x.1 x.2).map rowOf).map Dt.str:=by rw[<-e1,zB,zB,zB];rfl
    rw[ee3] at il3;rw[dH il3] at hD3;refine{D,D3,_,_,rfl,rfl,aH.of (s3 _ _ hD2),aH.of hD3,?_,?_}
    ·rw[kU,zh,za,za,za,za,za];omega
    intro D4 n4;generalize hU:upd H3 D4 _=H4;let s4:au H3 H4:=by rw[<-hU];exact bq n4
    let hD4:H4 D4=some (.lst (rws (S.players.map .bH++(S.ak.map λx=>.cL x.1 x.2.1 x.2.2)++S.aJ.map λx=>.cq x.1 x.2))):=by
     rw[<-hU,aB];exact congrArg (λl=>some (HO.lst l)) (kW _ _).symm
    clear hU;let nD4:H D4=none:=(s2.trans s3).back n4;let s04:=(s2.trans s3).trans s4;clear hD2 hD3 il3 hD ilD nD nD3;let h14:=s04 _ _ h1;exists{_,aH.of (s04 _ _ h5)},?_;refine dr (K:=K) (a:=bl) (xs:=bv) (λi U H'=>Lo [some (.ref p),some (.ref D4)] 10 U/\au H H'/\H' D4=some (.lst (rws (S.players.map .bH++(S.ak.map λx=>.cL x.1 x.2.1 x.2.2)++(S.aJ.map λx=>.cq x.1 x.2)++(S.aK.take i).map .bar)))) {{(e),rfl},s04,by rw[List.take_zero,yn,zV];exact hD4} (λi U H' _ h=>by let⟨_,z,_⟩:=h;exact aH.of (z _ _ h5)) ?_ ?_
    ·intro i x U H5 hx hh
     refine cC λN kN1 kR1 _ _=>?_;let⟨⟨e,rfl⟩,s5,hD5⟩:=hh;let⟨b,hb,ib⟩:=cT (d:=kJ) ilb hx;let⟨a1,mv,q1,rfl,ha1,im,hq1⟩:=vC ib;cases fc (o:=some b.aP) im with
     | ref hm=>
     rename_i am;let tb:TD (.bar b):=tok _ (by unfold eC;simp only[zG,zH];exact .inl (.inl (.inl (.inl (.inr {b,zC hb,rfl})))));let hm5:=s5 _ _ hm;refine{a1,_,rfl,cY.of (s5 _ _ ha1),rfl,?_};refine{_,_,rfl,{_,_,rfl,{_,_,rfl,{rfl,?_}}}};let⟨t1,t2,t3,t4,t5,t6⟩:=tb.1;let bb:0<=b.aP.2/\b.aP.2<1000:=by unfold A9 at t3;simp at t3;omega
     let la1:=bD (n:=b.aP.1) nofun nofun;let la2:=bD (n:=b.aP.2) nofun nofun;let l1:("/": Str).length=1:=rfl;exists .inl {rfl,_,aH.of hD5},?_;exists bP nofun nofun,?_;exists by show(dec b.aP.1).length+_<=_;omega,?_
     exists bP nofun nofun,?_;exists by show(dec b.aP.1 ++"/").length+⇑(dec b.aP.2)<=_;rw[len_app];omega,?_
     exists bP nofun nofun,?_;exists by show 3<=sizeLine;omega,?_
     intros p6 H6 s6 h6;exists q1,_,rfl,.inr (cY.of (s6 _ _ (s5 _ _ hq1))),?_;intros p7 H7 s7 h7;let ml:⇑b.marks<=97:=by have:=tb.2.1;simp only[Sc.wordsOf,zv] at this;omega
     refine{p6,p7,_,_,rfl,rfl,aH.of (s7 _ _ h6),aH.of h7,by rw[za];show 3+_<=_;omega,?_};intros p8 H8 s8 h8;refine{" ",p8,Sc.wordsOf (.bar b),rfl,rfl,aH.of h8,vQ tb,?_};let s58:=(s6.trans s7).trans s8;left;refine{D4,_,_,rfl,rfl,s58 _ _ hD5,?_,?_}
     ·rw[kU];simp only[zh,za,zQ];omega
     exists Lo.of rfl rfl,bj nD4 (s5.trans s58),?_;rw[aB,cM hb,zk,<-zF];exact congrArg (λl=>some (HO.lst l)) (kW _ [Told.bar b]).symm
    ·rintro U H5 ⟨⟨e,rfl⟩,s5,hD5⟩
     rw[aO ilb,zN] at hD5;obtain⟨B,hB⟩:∃B,B=S.players.map Told.bH++(S.ak.map λx=>Told.cL x.1 x.2.1 x.2.2)++(S.aJ.map λx=>Told.cq x.1 x.2)++S.aK.map Told.bar:={_,rfl}
     let tB:eC S=B++S.aF.toList.map .aF++(S.holds.map λx=>x.2.map λh=>Told.holds x.1 h.1 h.2).flatten++(S.aI.map λx=>.aI x.1.1 x.1.2 x.2)++xn S:=by rw[hB];rfl
     rw[<-hB] at hD5;let h15:=s5 _ _ h1;left;refine join (λU H'=>Lo [some (.ref p),some (.ref D4)] 10 U/\au H H'/\H' D4=some (.lst (rws (B++S.aF.toList.map .aF)))) (λN hN c1=>?_) (λN hN c1=>?_) ?_
     ·cases qu:S.aF with
      | none=>
       rw[qu] at h6;unfold dO Is at h6;rw[h6] at c1;simp at c1
      | some u=>
       rw[qu] at h6;cases fc (o:=some u) h6 with
       | ref hu=>
       let tu:TD (.aF u):=tok _ (by rw[tB,qu];simp);let⟨u1,u2,u3,u4⟩:=tu.1;let⟨_,r2,_⟩:=u1.pos;let lu:=kA (x:=u) nofun u3 nofun u4;let bl5:B.length<=1000000:=tlen B _ (by rw[tB,zF,zF,zF]);exists .inl {rfl,_,aH.of hD5},?_;exists _,u,rfl,s5 _ _ hu,nofun,u3,r2,u4,?_;let l7:("upbeat ": Str).length=7:=rfl;refine{_,_,rfl,rfl,nofun,?_};exists D4,_,_,rfl,rfl,hD5,by rw[kU];omega,?_
       left;refine hN _ _ {Lo.of rfl rfl,bj nD4 s5,?_};rw[aB,qu];exact congrArg (λl=>some (HO.lst l)) (kW B [Told.aF u]).symm
     ·let qu:S.aF=none:=by
       cases qu:S.aF with
       | none=>rfl
       | some u=>
        rw[qu] at h6;cases fc (o:=some u) h6 with
        | ref hu=>simp at c1
      left;refine hN _ _ {Lo.of rfl rfl,s5,?_};rw[qu];show H5 D4=some (.lst (rws (B++[])));rw[zV];exact hD5
     rintro U6 H6 ⟨⟨e,rfl⟩,s6,hD6⟩;let h16:=s6 _ _ h1;exists{_,aH.of (s6 _ _ h7)},?_;refine dr (K:=K) (a:=hl) (xs:=hv) (λi U H'=>∃(D:Addr),Lo [some (.ref p),some (.ref D)] 10 U/\au H H'/\H D=none/\H' D=some (.lst (rws (B++S.aF.toList.map .aF++((S.holds.take i).map λx=>x.2.map λh=>Told.holds x.1 h.1 h.2).flatten)))) {D4,{(e),rfl},s6,nD4,by rw[List.take_zero,yn,List.flatten_nil,zV];exact hD6} (λi U H' _ h=>by let⟨_,_,z,_⟩:=h;exact aH.of (z _ _ h7)) ?_ ?_
     ·intro i x U H7 hx hh
      refine cC λN kN2 kR2 _ _=>?_;let⟨D7,⟨e,rfl⟩,s7,nD7,hD7⟩:=hh;let⟨y,hy,a7,r7,us7,rfl,ha7,hr7,il7,_⟩:=rlh.at hx;let⟨qs,f1,f2,f3⟩:=gP il7;let ty:∀h∈y.2,TD (.holds y.1 h.1 h.2):=λh hh=>tok _ (by
       rw[tB];refine zJ _ (zJ _ (zI _ ?_));exact List.mem_flatten.mpr {_,zP (zC hy),zP hh})
      let tke:((S.holds.take (i+1)).map λx=>x.2.map λh=>Told.holds x.1 h.1 h.2).flatten=((S.holds.take i).map λx=>x.2.map λh=>Told.holds x.1 h.1 h.2).flatten++y.2.map λh=>Told.holds y.1 h.1 h.2:=by
       rw[cM hy,zk,List.flatten_append];simp
      let lenB:⇑(B++S.aF.toList.map Told.aF++((S.holds.take (i+1)).map λx=>x.2.map λh=>Told.holds x.1 h.1 h.2).flatten)<=1000000:=by
       refine tlen _ (((S.holds.drop (i+1)).map λx=>x.2.map λh=>Told.holds x.1 h.1 h.2).flatten++(S.aI.map λx=>.aI x.1.1 x.1.2 x.2)++xn S) ?_;rw[tB]
       conv=>lhs;rw[<-zZ (i+1) S.holds,zk,List.flatten_append]
       simp only[zF]
      rw[tke] at lenB;simp only[zh,za] at lenB;refine{a7,_,rfl,cY.of (s7 _ _ ha7),rfl,?_};refine{_,_,rfl,{_,_,rfl,{rfl,?_}}};exists{_,aH.of (s7 _ _ hr7)},?_;let ql:⇑qs=⇑y.2:=by rw[<-f1,za]
      refine dU (enc:=λq:(Int×Str)×V=>q.2) (ws:=qs) (λq=>.str (rowOf (.holds y.1 q.1.1 q.1.2))) (λU=>∃v u,U=[v,u,some (.str y.1)]) nofun (by rw[f2];exact aH.of (s7 _ _ hr7)) {(none),none,rfl} ?_ ?_
      ·rintro z U H8 R hz s8 ⟨_,_,rfl⟩ rr
       let zin:z.1∈y.2:=by rw[<-f1];exact zP hz
       let tz:=ty z.1 zin;let⟨a8,ea,ha8⟩:=QQ (f3 z hz);let s08:=s7.trans s8;let⟨b1,b2⟩:=tz.1.2.1;rw[ea];refine{a8,_,rfl,cY.of (s08 _ _ ha8),rfl,?_};refine{_,_,rfl,{_,_,rfl,{rfl,?_}}};exists bP nofun nofun,?_;exists by show 4<=sizeLine;omega,?_
       intros p9 H9 s9 h9;refine{" ",p9,Sc.wordsOf (.holds y.1 z.1.1 z.1.2),rfl,rfl,aH.of h9,vQ tz,?_};exact rr _ _ _ s9 eK {_,_,rfl}
      ·intro D8 vs8 H8 s8 _ hD8 il8
       let ee8:qs.map (λq:(Int×Str)×V=>Dt.str (rowOf (.holds y.1 q.1.1 q.1.2)))=((y.2.map λh=>Told.holds y.1 h.1 h.2).map rowOf).map Dt.str:=by rw[<-f1,zB,zB,zB];rfl
       rw[ee8] at il8;rw[dH il8] at hD8;refine{D7,D8,_,_,rfl,rfl,aH.of (s8 _ _ hD7),aH.of hD8,?_,?_}
       ·rw[kU];simp only[zh,za];omega
       intro D9 n9;generalize hU:upd H8 D9 _=H9;let s9:au H8 H9:=by rw[<-hU];exact bq n9
       exists D9,Lo.of rfl rfl,(s7.trans s8).trans s9,(s7.trans s8).back n9,?_;rw[<-hU,aB,tke,<-zF];exact congrArg (λl=>some (HO.lst l)) (kW _ _).symm
     ·rintro U H7 ⟨D7,⟨e,rfl⟩,s7,nD7,hD7⟩
      rw[rlh.len,zN] at hD7;obtain⟨B2,hB2⟩:∃B2,B2=B++S.aF.toList.map Told.aF++(S.holds.map λx=>x.2.map λh=>Told.holds x.1 h.1 h.2).flatten:={_,rfl}
      rw[<-hB2] at hD7 tB;let h17:=s7 _ _ h1;exists{_,aH.of (s7 _ _ h8)},?_;refine dr (K:=K) (a:=nl) (xs:=nv) (λi U H'=>Lo [some (.ref p),some (.ref D7)] 10 U/\au H H'/\H' D7=some (.lst (rws (B2++(S.aI.take i).map λx=>.aI x.1.1 x.1.2 x.2)))) {{(e),rfl},s7,by rw[List.take_zero,yn,zV];exact hD7} (λi U H' _ h=>by let⟨_,z,_⟩:=h;exact aH.of (z _ _ h8)) ?_ ?_
      ·intro i x U H8 hx hh
       refine cC λN kN3 kR3 _ _=>?_;let⟨⟨e,rfl⟩,s8,hD8⟩:=hh;let⟨y,hy,a7,r7,us7,rfl,ha7,hr7,il7,_⟩:=rln.at hx;let⟨qs,f1,f2,f3⟩:=gP il7;let tz:TD (.aI y.1.1 y.1.2 y.2):=tok _ (by rw[tB];simp only[zG,zH];exact .inl (.inr {y,zC hy,rfl}));let⟨⟨b1,b2⟩,b3,b4,_⟩:=tz.1;let yl:⇑y.2<=97:=by have:=tz.2.1;simp only[Sc.wordsOf,zv,za] at this;omega
       let ql:⇑qs=⇑y.2:=by rw[<-f1,za]
       let ib:i<⇑S.aI:=(zy.mp hy).1;let lenB:B2.length+⇑S.aI<=1000000:=by
        have:=tlen (B2++S.aI.map λx=>.aI x.1.1 x.1.2 x.2) (xn S) tB
        simpa[zh,za] using this
       refine{a7,_,rfl,cY.of (s8 _ _ ha7),rfl,?_};refine{_,_,rfl,{_,_,rfl,{_,_,rfl,{rfl,?_}}}};exists .inl {rfl,_,aH.of hD8},?_;exists bP nofun nofun,?_;exists by show 3<=sizeLine;omega,?_
       intros p9 H9 s9 h9;let s09:=s8.trans s9;exists{_,aH.of (s09 _ _ hr7)},?_;refine dU (enc:=λq:Item×V=>q.2) (ws:=qs) (λq=>.str (pE q.1)) (λU=>∃v,U=[v]) nofun (by rw[f2];exact aH.of (s09 _ _ hr7)) {(none),rfl} ?_ ?_
       ·rintro z U Ha R hz sa ⟨_,rfl⟩ rr
        let zin:z.1∈y.2:=by rw[<-f1];exact zP hz
        change{z.2,z.1,rfl,((f3 z hz).mono s09).mono sa,b4 _ zin,rr _ _ _ (au.refl _) eK {_,rfl}}
       ·intro Da vsa Ha sa _ hDa ila
        let eea:qs.map (λq:Item×V=>Dt.str (pE q.1))=(y.2.map pE).map Dt.str:=by rw[<-f1,zB,zB];rfl
        rw[eea] at ila;rw[dH ila] at hDa;refine{p9,Da,_,_,rfl,rfl,aH.of (sa _ _ h9),aH.of hDa,by rw[za,za];show 3+_<=_;omega,?_};intros pb Hb sb hb;refine{" ",pb,Sc.wordsOf (.aI y.1.1 y.1.2 y.2),rfl,rfl,aH.of hb,vQ tz,?_};let s8b:=(s9.trans sa).trans sb;left;refine{D7,_,_,rfl,rfl,s8b _ _ hD8,?_,?_}
        ·rw[kU];simp only[zh,za,zQ];omega
        exists Lo.of rfl rfl,bj nD7 (s8.trans s8b),?_;rw[aB,cM hy,zk,<-zF];exact congrArg (λl=>some (HO.lst l)) (kW _ [Told.aI y.1.1 y.1.2 y.2]).symm
      ·rintro U H8 ⟨⟨e,rfl⟩,s8,hD8⟩
       rw[rln.len,zN] at hD8;exists p,S,rfl,la.mono s8,rok,rln3,λj hj=>(tok (.bT j) (by rw[tB];unfold xn;rw[hj];simp)).1,λD9 H9 s9 _ h9=>?_;refine{D7,D9,_,_,rfl,rfl,aH.of (s9 _ _ hD8),aH.of h9,?_,?_}
       ·have:=tl
        rw[tB] at this;simp only[zh,za] at this;rw[kU];simp only[zh,za];omega
       intro Dx nx;generalize hU:upd H9 Dx _=Hx;let sx:au H9 Hx:=by rw[<-hU];exact bq nx
       refine kk Dx Hx ((s8.trans s9).trans sx) ((s8.trans s9).back nx) ?_;rw[<-hU,aB,tB];exact congrArg (λl=>some (HO.lst l)) (kW _ _).symm
def LJ {t:Told} (h:TD t):⇑(rowOf t)<=10100:=by
 let a:=xi (sep:=" ") h.2.2;let b:⇑(Sc.wordsOf t)*(100+(" ": Str).length)<=100*(100+(" ": Str).length):=Nat.mul_le_mul h.2.1 (zm _);exact zM a (zM b (by show 100*(100+1)<=10100;decide))
inductive oK (vs:List V) (H:Hp) (Q:VK) (E:XK):Prop
 | mk (p:Addr) (S:bW) (_:vs=[.ref p]) (_:kM H p S) (_:(∀t∈eC S,TD t)) (_:⇑(eC S)<=1000) (_:(∀r∈S.repeats,Lf r)) (_:⇑S.repeats<=1000) (_:∀H',au H H'->Q (.str (Str.join "\n" ((eC S).map rowOf))) H')
def EF {ts:List Told} (h:∀t∈ts,TD t) (hl:⇑ts<=1000):((ts.map rowOf).map (λz:Str=>⇑z+("\n": Str).length)).sum<=1000*10101:=by
 let a:=oJ (sep:="\n") (k:=10100) (zs:=ts.map rowOf) λz hz=>by
  let⟨t,ht,rfl⟩:=zH.mp hz;exact LJ (h t ht)
 rw[za] at a;let b:⇑ts*(10100+("\n": Str).length)<=1000*(10100+("\n": Str).length):=Nat.mul_le_mul hl (zm _);exact zM a (zM b (by show 1000*(10100+1)<=1000*10101;decide))
def pw:cV P w base 4 T.gZ oK:=by
 nomatch T.gZ,["_law_s"]
 let⟨p,S,rfl,la,tok,tl,rok,rl,kk⟩:=h;let sl:=yC;refine{_,(aj (ao (bO yG yI yH gE aL (aa (bN (pz T) hr T.g9 (aa (pv 0) ag)) ag)))),?_};ac_rfl;exists p,S,rfl,la,tok,nofun,rok,rl,λD H1 s1 _ h1=>?_;refine{"\n",D,(eC S).map rowOf,rfl,rfl,aH.of h1,zM (EF tok tl) nofun,?_};exact kk _ s1
theorem Ji:∀{ts:List Told},(∀t∈ts,TD t)->RT (ts.map rowOf) ts
 | [],_=>.nil
 | t::r,h=>by
  let ht:=h t zr;exact .row (zM (LJ ht) ∅) (Kc ht.1) ht.1 (zM ht.2.1 ∅) (λy hy=>zM (ht.2.2 y hy) ∅) (Ji λx hx=>h x (zp _ hx))
def Oh {ts:List Told} (ne:ts≠[]) (h:∀t∈ts,TD t):RT (Txt.split (Str.join "\n" (ts.map rowOf)) "\n") ts:=by
 rw[show Txt.split (Str.join "\n" (ts.map rowOf)) "\n"= ts.map rowOf from gf (c:=10) (by simpa using ne) λz hz=>by
  let⟨t,ht,rfl⟩:=zH.mp hz;exact Mc (h t ht).1]
 exact Ji h
def text_len {ts:List Told} (h:∀t∈ts,TD t) (hl:⇑ts<=1000):(Str.join "\n" (ts.map rowOf)).length+2<=sizeLine:=by
 let sl:=yC;let a:=join_le "\n" (ts.map rowOf);let b:=EF h hl;omega
def Ek (ps:List Str) (sts:List (Str×List Str)):Prop:=⇑sts<=2/\yZ (sts.map (·.1))/\(sts.map (·.2)).flatten.Nodup/\∀x∈sts,x.2≠[]/\⇑x.2<=⇑ps/\∀p∈x.2,p∈ps
inductive qh (vs:List V) (H:Hp) (Q:VK) (E:XK):Prop
 | mk (c:Int) (pp:Addr) (ps:List Str) (_:vs=[.int c,.ref pp]) (_:H pp=some (.lst (ps.map V.str))) (_:ps.Nodup) (_:⇑ps<=12) (_:∀(sts:List (Str×List Str)) D us H',Ek ps sts->au H H'->H' D=some (.lst us)->aD H' (sts.map gn) us->Q (.ref D) H')
theorem vM {H:Hp}:∀{nms:List Str} {rows:List (List Str)} {rv us:List V},⇑nms=⇑rows->RL (λo v=>∃r,v=V.ref r/\H r=some (.tup (o.map V.str))) rows rv->Pairs H (nms.map V.str) rv us ⇑nms->aD H ((nms.zip rows).map gn) us
 | [],[],_,us,_,_,p=>by
  have:us=[]:=yt.mp p.1;rw[this];exact cD
 | n::ns,o::ot,_,us,hl,⟨v,rv,rfl,⟨r,ev,hr⟩,rl⟩,p=>by
  subst ev;cases us with
  | nil=>have:=p.1;simp at this
  | cons u us=>
   let⟨q,e1,e2⟩:=p.2 0 (.str n) (.ref r) (by simp) rfl rfl;simp at e1;subst e1;refine aN (cw e2 (aN eK (aN (cw hr (xj o)) cD))) (vM (by simpa using hl) rl {by have:=p.1;simpa using this,λj x y hj hx hy=>?_});let⟨q',f1,f2⟩:=p.2 (j+1) x y (by simp;omega) (by simpa using hx) (by simpa using hy);exact{q',by simpa using f1,f2}
 | [],_::_,_,_,hl,_,_=>by simp at hl
 | _::_,[],_,_,hl,_,_=>by simp at hl
theorem IX {α β:Type}:∀{a:List α} {b:List β},⇑a=⇑b->(a.zip b).map (·.1)=a
 | [],[],_=>rfl
 | x::xs,y::ys,h=>by rw[List.zip_cons_cons,zj,IX (by simpa using h)]
 | [],_::_,h=>by simp at h
 | _::_,[],h=>by simp at h
theorem B8 {α β:Type}:∀{a:List α} {b:List β},⇑a=⇑b->(a.zip b).map (·.2)=b
 | [],[],_=>rfl
 | x::xs,y::ys,h=>by rw[List.zip_cons_cons,zj,B8 (by simpa using h)]
 | [],_::_,h=>by simp at h
 | _::_,[],h=>by simp at h
noncomputable def two (o1 o2:List Str):List (List Str):=(if o1=[] then [] else [o1])++(if o2=[] then [] else [o2])
noncomputable def y9 (o1 o2:List Str) (r1 r2:Addr):List V:=(if o1=[] then [] else [.ref r1])++(if o2=[] then [] else [.ref r2])
noncomputable def TH (o1 o2:List Str) (r1 r2:Addr):Nat->List V
 | 0=>[]
 | 1=>if o1=[] then [] else [.ref r1]
 | _=>y9 o1 o2 r1 r2
def LF (o1 o2:List Str):(two o1 o2).flatten=o1++o2:=by
 unfold two
 by_cases h1:o1=[] <;> by_cases h2:o2=[] <;> simp[h1,h2]
def P8 {o1 o2 o:List Str} (h:o∈two o1 o2):o≠[]/\(o=o1\/o=o2):=by
 unfold two at h;rcases zG.mp h with h | h
 ·by_cases h1:o1=[]
  ·rw[if_pos h1] at h;cases h
  ·rw[if_neg h1] at h;rw[zA.mp h];exact{h1,.inl rfl}
 ·by_cases h1:o2=[]
  ·rw[if_pos h1] at h;cases h
  ·rw[if_neg h1] at h;rw[zA.mp h];exact{h1,.inr rfl}
def P7 {H:Hp} {o1 o2:List Str} {r1 r2:Addr} (h1:H r1=some (.tup (o1.map V.str))) (h2:H r2=some (.tup (o2.map V.str))):RL (λo v=>∃r,v=V.ref r/\H r=some (.tup (o.map V.str))) (two o1 o2) (y9 o1 o2 r1 r2):=by
 unfold two y9
 by_cases e1:o1=[] <;> by_cases e2:o2=[]
 ·rw[if_pos e1,if_pos e2,if_pos e1,if_pos e2];exact rfl
 ·rw[if_pos e1,if_neg e2,if_pos e1,if_neg e2];exact{_,_,rfl,{_,rfl,h2},rfl}
 ·rw[if_neg e1,if_pos e2,if_neg e1,if_pos e2];exact{_,_,rfl,{_,rfl,h1},rfl}
 ·rw[if_neg e1,if_neg e2,if_neg e1,if_neg e2];exact{_,_,rfl,{_,rfl,h1},_,_,rfl,{_,rfl,h2},rfl}
def I9 (o1 o2:List Str):⇑(two o1 o2)<=2:=by
 unfold two
 by_cases h1:o1=[] <;> by_cases h2:o2=[] <;> simp[h1,h2]
def J0 {ps o1 o2:List Str} {nms:List Str} (pn:ps.Nodup) (hs:(o1++o2).Nodup) (hi:∀p∈o1++o2,p∈ps) (hl:⇑(o1++o2)<=⇑ps) (nl:⇑nms=⇑(two o1 o2)) (nok:yZ nms):Ek ps (nms.zip (two o1 o2)):=by
 refine{?_,by rw[IX nl];exact nok,by rw[B8 nl,LF];exact hs,λx hx=>?_}
 ·rw[List.length_zip,nl,Nat.min_self];exact I9 o1 o2
 ·let hm:x.2∈two o1 o2:=by
   have:=zP (f:=λy:Str×List Str=>y.2) hx;rw[B8 nl] at this;exact this
  let⟨ne,e⟩:=P8 hm;rw[zh] at hl;rcases e with e | e <;> rw[e]
  ·exact{e▸ne,nofun,λp hp=>hi p (zJ _ hp)}
  ·exact{e▸ne,nofun,λp hp=>hi p (zI _ hp)}
def qR:cV P w base 2 T.jn qh:=by
 nomatch T.jn,["_law_cell","_law_players","_law_m","_law_order","_law_alone","_law_cut","_law_rows"]
 let⟨c,pp,ps,rfl,hpp,pn,pl,kk⟩:=h;let sl:=yC;refine{_,(af (bJ 2 qN (bN (bQ T) hr T.cy (aa (pv 0) (aa ae ag))))
  (af (aG (ptr cW (aq aQ (pv 2) ae) ae)
  (aj (ao (aY ag)))
  ax)
  (af (bJ 3 qN (mD iD T.jY (aa (pv 1) ag)))
  (af (aG (ptr cW (aq aQ (aq aU (pv 2) ae) ae) ae)
  (aj (bw (ME yD PySem.F.slot_list_reverse PySem.F.type_list_reverse xc (pv 3))))
  ax)
  (af (bJ 4 qN (aq aQ (aq aU (pv 2) ae) (aq aS (d9 aE T.bF (aa (pv 3) ag)) ae)))
  (af (bJ 3 qN (aq gC (dq gA (pv 3) dN (dM (pv 4))) (dq gA (pv 3) (dM (aq aS (pv 4) ae)) dN)))
  (af (bJ 5 qN (aq aQ (aq aU (pv 2) ae) (aq aS (d9 aE T.bF (aa (pv 3) ag)) ae)))
  (af (MF (i:=6) (ts:=["_law_row"]) (ys:=[]) (js:=[]) (g:=(bS 0)) (tc:=(ki (e9 (Qz K) (aX 0) (EH eD)))) (te:=(aX 0)) (aZ (aY (aa (mD cN T.gD (aa (dq gA (pv 3) dN (dM (pv 5))) ag)) (aa (mD cN T.gD (aa (dq gA (pv 3) (dM (pv 5)) dN) ag)) ag)))) (fZ 0) (fL (ptr (wV hr.units) (pv 0) (bz ag))) (pv 0) qN)
  (aj (ao (MB rfl (by rfl) T.jY (by rfl) T.MM (aa (bN (eR T) hr T.d6 (aa (aq aU (pv 2) ae) (aa (d9 aE T.bF (aa (pv 6) ag)) ag))) (aa (pv 6) ag))))))))))))),?_}
 ac_rfl;exists c,9,rfl,nofun,nofun,?_;let m0:0<=mixed c 9:=zw _ ∅;let m1:mixed c 9<2147483399:=zt _ ∅;generalize mixed c 9=m at m0 m1;left
 by_cases c0:m%4=0
 ·refine bU (zg (congrArg V.int c0)) ?_
  exists by show 0<=sizeLine;omega,λD nD=>?_
  exact kk [] D [] _ {∅,{by simp,by simp},by simp,by simp} (bq nD) aB cD
 refine b9 (ze λz=>c0 (V.int.inj z)) ?_;exists pp,_,rfl,.inl (aH.of hpp),λD nD=>?_;let s1:au H (upd H D (.lst (ps.map V.str))):=bq nD;let h1:upd H D (.lst (ps.map V.str)) D=some (.lst (ps.map V.str)):=aB;generalize upd H D (.lst (ps.map V.str))=H1 at s1 h1 ⊢;left;refine join (λU H'=>∃od:List Str,U=[some (.int c),some (.ref pp),some (.int m),some (.ref D),none,none,none]/\au H H'/\H' D=some (.lst (od.map V.str))/\od.Perm ps) (λN hN c1=>?_) (λN hN c1=>?_) ?_
 ·left
  refine{.inl {rfl,_,aH.of h1},D,_,rfl,rfl,h1,?_};change hN _ _ {ps.reverse,rfl,bj nD s1,by rw[aB,List.map_reverse],ps.reverse_perm}
 ·left
  exact hN _ _ {ps,rfl,s1,h1,List.Perm.refl _}
 clear s1 h1 H1;rintro U1 H1 ⟨od,rfl,s1,h1,pm⟩;let ol:=pm.length_eq;exists D,_,rfl,.inl (aH.of h1),?_;rw[za];exists by show 0<(⇑od:Int)+2;omega,?_
 let a0:0<=m/5%((⇑od:Int)+2):=zw _ nofun;obtain⟨al,hal⟩:∃j:Nat,m/5%((⇑od:Int)+2)=(j:Int):={(m/5%((⇑od:Int)+2)).toNat,nofun}
 exists D,_,rfl,aH.of h1,λp2 n2=>?_;generalize hU2:upd H1 p2 _=H2;let s2:au H1 H2:=au.i9 hU2 n2;let h2:H2 p2=some (.lst ((od.take al).map V.str)):=(ji hU2).trans (congrArg (λz=>some (HO.lst z)) (by show ka (od.map V.str) none (some (m/5%((⇑od:Int)+2)))=_;rw[hal,DO,List.map_take]));clear hU2;exists D,_,rfl,aH.of (s2 _ _ h1),λp3 n3=>?_;generalize hU3:upd H2 p3 _=H3;let s3:au H2 H3:=au.i9 hU3 n3;let h3:H3 p3=some (.lst ((od.drop (al+1)).map V.str)):=(ji hU3).trans (congrArg (λz=>some (HO.lst z)) (by
  show ka (od.map V.str) (some (m/5%((⇑od:Int)+2)+1)) none=_;rw[hal,show((al:Int)+1)=((al+1:Nat):Int) by omega,fF,List.map_drop]))
 clear hU3;left;refine{p2,p3,_,_,rfl,rfl,aH.of (s3 _ _ h2),aH.of h3,?_,λp4 n4=>?_}
 ·rw[za,za,zQ,List.length_drop];omega
 generalize hU4:upd H3 p4 _=H4;let s4:au H3 H4:=au.i9 hU4 n4;obtain⟨o0,eo0⟩:∃o0:List Str,o0=od.take al++od.drop (al+1):={_,rfl}
 let h4:H4 p4=some (.lst (o0.map V.str)):=(ji hU4).trans (by rw[eo0,zk]);clear hU4;let sub:o0.Sublist od:=by
  rw[eo0]
  conv=>rhs;rw[<-zZ al od]
  exact List.Sublist.append (List.Sublist.refl _) (by rw[List.drop_add_one_eq_tail_drop];exact List.tail_sublist _)
 let o0n:o0.Nodup:=sub.nodup (pm.nodup_iff.mpr pn);let o0l:⇑o0<=⇑ps:=by have:=sub.length_le;omega
 let o0i:∀p∈o0,p∈ps:=λp hp=>pm.mem_iff.mp (sub.subset hp);let s04:=s1.trans (s2.trans (s3.trans s4));clear s1 s2 s3 s4 h1 h2 h3 sub eo0 hal a0 n2 n3 n4 ol pm;exists p4,_,rfl,.inl (aH.of h4),?_;rw[za];exists by show 0<(⇑o0:Int)+1;omega,?_
 let a0:0<=m/8%((⇑o0:Int)+1):=zw _ nofun;obtain⟨al,hal⟩:∃j:Nat,m/8%((⇑o0:Int)+1)=(j:Int):={(m/8%((⇑o0:Int)+1)).toNat,nofun}
 exists p4,_,rfl,aH.of h4,λp5 n5=>?_;generalize hU5:upd H4 p5 _=H5;let s5:au H4 H5:=au.i9 hU5 n5;let h5:H5 p5=some (.lst ((o0.take al).map V.str)):=(ji hU5).trans (congrArg (λz=>some (HO.lst z)) (by show ka (o0.map V.str) none (some (m/8%((⇑o0:Int)+1)))=_;rw[hal,DO,List.map_take]));clear hU5;left;refine{p5,_,rfl,.inl {aH.of h5,?_}};intros p6 H6 s6 h6;exists p4,_,rfl,aH.of (s6 _ _ (s5 _ _ h4)),λp7 n7=>?_;generalize hU7:upd H6 p7 _=H7;let s7:au H6 H7:=au.i9 hU7 n7;let h7:H7 p7=some (.lst ((o0.drop al).map V.str)):=(ji hU7).trans (congrArg (λz=>some (HO.lst z)) (by show ka (o0.map V.str) (some (m/8%((⇑o0:Int)+1))) none=_;rw[hal,fF,List.map_drop]));clear hU7;left;refine{p7,_,rfl,.inl {aH.of h7,?_}};intros p8 H8 s8 h8;exists by show 2<=sizeLine;omega,?_
 intros p9 H9 s9 h9;exists{_,aH.of h9},?_;let s49:=s5.trans (s6.trans (s7.trans (s8.trans s9)));let h69:H9 p6=some (.tup ((o0.take al).map V.str)):=s9 _ _ (s8 _ _ (s7 _ _ h6));let h89:H9 p8=some (.tup ((o0.drop al).map V.str)):=s9 _ _ h8;let fl:(o0.take al++o0.drop al)=o0:=zZ al o0;generalize o0.take al=o1 at h69 fl;generalize o0.drop al=o2 at h89 fl;let s09:=s04.trans s49;clear s04 s49 s5 s6 s7 s8 s9 h5 h6 h7 h8;let tst:∀(o:List Str) (r:Addr) (H':Hp) (R:Bool->Hp->Prop),H' r=some (.tup (o.map V.str))->(∀H'',au H' H''->R (!decide (o=[])) H'')->ki (e9 (Qz K) (aX 0) (EH eD)) [some (.ref r)] H' R:=λo r H' R hr hR=>by
  exists by show 0<=sizeLine;omega,?_
  intros pa Ha sa ha;refine{r,pa,_,_,rfl,rfl,.inr {cY.of (sa _ _ hr),cY.of ha},.inr (.inl rfl),?_};let e:decide (o.map V.str=[])=decide (o=[]):=by simp
  rw[e];exact{_,rfl,hR _ sa}
 refine nu 2 (TH o1 o2 p6 p8) (λi U H'=>(∃v,U=[v])/\au H9 H') ?_ nofun rfl {{_,rfl},au.refl _} ?_ ?_ ?_ ?_
 ·intro i hi
  match i,hi with
  | 0,_=>exact zm _
  | 1,_=>show(if o1=[] then([]:List V) else [.ref p6]).length<=1;by_cases e:o1=[] <;> simp[e]
  | 2,_=>show(y9 o1 o2 p6 p8).length<=2;unfold y9;by_cases e:o1=[] <;> by_cases e2:o2=[] <;> simp[e,e2]
 ·rintro i U H' hi ⟨_,sm⟩
  exact BN (aH.of (sm _ _ h9)) hi
 ·rintro U H' ⟨_,sm⟩
  exact{_,aH.of (sm _ _ h9),zm _}
 ·rintro i x U H' H'' hi ⟨⟨v,rfl⟩,sm⟩ ⟨rfl,hy⟩
  let hx:=hy _ (aH.of (sm _ _ h9))
  match i,hi with
  | 0,_=>
   let ex:V.ref p6=x:=yk hx;subst ex;refine tst o1 p6 _ _ (sm _ _ h69) λH3 s3=>?_
   by_cases e:o1=[]
   ·rw[zg e]
    exact GW.skip nofun (by show(if o1=[] then([]:List V) else [.ref p6])=[];rw[if_pos e]) {{_,rfl},sm.trans s3}
   ·rw[ze e]
    change GW.push nofun (by show(if o1=[] then([]:List V) else [.ref p6])=[]++[.ref p6];rw[if_neg e];rfl) {{_,rfl},sm.trans s3}
  | 1,_=>
   let ex:V.ref p8=x:=yk hx;subst ex;refine tst o2 p8 _ _ (sm _ _ h89) λH3 s3=>?_
   by_cases e:o2=[]
   ·rw[zg e]
    exact GW.skip nofun (by show y9 o1 o2 p6 p8=(if o1=[] then([]:List V) else [.ref p6]);unfold y9;rw[if_pos e,zV]) {{_,rfl},sm.trans s3}
   ·rw[ze e]
    change GW.push nofun (by show y9 o1 o2 p6 p8=(if o1=[] then([]:List V) else [.ref p6])++[.ref p8];unfold y9;rw[if_neg e]) {{_,rfl},sm.trans s3}
 ·rintro U H' ⟨_,sm⟩ D5 n5'
  generalize hU:upd H' D5 _=H5;let s5:au H9 H5:=sm.trans (au.i9 hU n5');let hD5:H5 D5=some (.lst (y9 o1 o2 p6 p8)):=ji hU;clear hU;let rl5:=P7 (s5 _ _ h69) (s5 _ _ h89);let tl:=rl5.len;let t2:=I9 o1 o2;exists D5,_,rfl,.inl (aH.of hD5),?_;rw[tl];left;refine{_,_,rfl,zW m0 ∅,?_,nofun,nofun,λnms pn2 H6 nl nok s6 h6=>?_}
  ·have:=zX (a:=m) 80 m0;omega
  left;let nl':⇑nms=⇑(two o1 o2):=by rw[nl];omega
  refine{false,false,pn2,D5,_,_,rfl,aH.of h6,aH.of (s6 _ _ hD5),by rw[za,tl];exact nl',λl H7 us s7 n7 h7 pr=>?_};rw[za] at pr;refine kk (nms.zip (two o1 o2)) l us H7 (J0 pn (by rw[fl];exact o0n) (by rw[fl];exact o0i) (by rw[fl];exact o0l) nl' nok) (((s09.trans s5).trans s6).trans s7) h7 (vM nl' ?_ pr);exact rl5.imp λo v ⟨r,e1,e2⟩=>{r,e1,s7 _ _ (s6 _ _ e2)}
inductive uF (vs:List V) (H:Hp) (Q:VK) (E:XK):Prop
 | mk (m first last times:Int) (_:vs=[.int m,.int first,.int last,.int times]) (_:0<=m) (_:m<1099511627776) (_:0<=first) (_:first<=last) (_:last<=200) (_:2<=times) (_:times<=9) (_:∀(es:List Sc.End) v H',JM first last times es->au H H'->Is H' (.tup (es.map mG)) v->Q v H')
def IW (first last:Int) (bs:List Int):Prop:=bs≠[]/\bs.Pairwise (·<·)/\∀b∈bs,first<=b/\b<=last
def NC {first last:Int} {bs:List Int} (h:IW first last bs):∃b,(bs.map V.int)[⇑(bs.map V.int)-1]?=some (.int b)/\first<=b/\b<=last/\∀x∈bs,x<=b:=by
 let⟨ne,asc,hin⟩:=h;let e:=List.dropLast_concat_getLast ne;let hm:=List.getLast_mem ne;refine{bs.getLast ne,?_,(hin _ hm).1,(hin _ hm).2,λx hx=>?_}
 ·rw[za,zK,List.getLast_eq_getElem,zd (by have:=yr.mpr ne;omega)];rfl
 ·rw[<-e] at hx asc
  rw[zU] at asc;rcases zG.mp hx with z | z
  ·exact Int.le_of_lt (asc.2.2 x z _ (zA.mpr rfl))
  ·rw[zA.mp z];exact Int.le_refl _
def NA {first last b c:Int} {bs:List Int} (h:IW first last bs) (hb:∀x∈bs,x<=b) (h1:first<=b) (h2:b<c) (h3:c<=last):IW first last (bs++[c]):=by
 let⟨ne,asc,hin⟩:=h;refine{by simp,?_,λx hx=>?_}
 ·rw[zU]
  refine{asc,by simp,λx hx y hy=>?_};let ey:y=c:=by simpa using hy
  have:=hb x hx;omega
 ·rcases zG.mp hx with z | z
  ·exact hin x z
  ·let ey:x=c:=by simpa using z
   omega
noncomputable def mz (m:Int) (n k:Nat):Nat:=if k<n then(k+(m/90).toNat)%n else(m/((k:Int)+7)%(n:Int)).toNat
def uW:cV P w base 1 T.lR uF:=by
 nomatch T.lR,["_law_m","_law_first","_law_last","_law_times","_law_begins","_law_passes","_law_k","_law_spot"]
 let⟨m,first,last,times,rfl,m0,m1,f0,fl,l1,t0,t1,kk⟩:=h;let sl:=yC;refine{_,(af (aG (PW.pt (dY (ptr cW (pv 2) (pv 1)) (dw (ptr cW (aq aQ (pv 0) ae) ae))))
  (aj (ao (bz ag)))
  ax)
  (af (bJ 4 qN (aY (aa (aq aS (pv 1) (aq aQ (aq aU (pv 0) ae) (aq aS (aq i6 (pv 2) (pv 1)) ae))) ag)))
  (af (mU PassesOwn.never (PW.pt (dn (ptr eZ (d9 aE T.bF (aa (pv 4) ag)) (pv 3)) (dn (ptr eZ (fw (pv 4) (mV iT ae)) (pv 2)) (cQ (ptr fi (aq aQ (aq aU (pv 0) (aq aS (aq dQ ae (d9 aE T.bF (aa (pv 4) ag))) ae)) ae) ae)))))
  (aj (bw (bO yD yF yE bu (pv 4) (aa (d9 (K1 rfl) T.R8 (aa (pv 2) (aa (aq aS (aq aS (fw (pv 4) (mV iT ae)) ae) (aq aQ (aq aU (pv 0) (aq aS (d9 aE T.bF (aa (pv 4) ag)) ae)) ae)) ag))) ag)))))
  (af (MF (i:=5) (ts:=["_law_begin"]) (ys:=[]) (js:=[]) (te:=(EJ eD)) (aZ (pv 4)) (fZ 0) bx (aY ag) qN)
  (af (b8 PassesOwn.never rfl (dk (by rfl) T.cF (aa (pv 3) ag)) (iZ 6 qN)
  (af (bJ 7 qN (Fq (ptr eZ (pv 6) (d9 aE T.bF (aa (pv 4) ag))) (aq aQ (aq aS (pv 6) (aq aU (pv 0) ae)) (d9 aE T.bF (aa (pv 4) ag))) (aq aQ (aq aU (pv 0) (aq aS (pv 6) ae)) (d9 aE T.bF (aa (pv 4) ag)))))
   (aj (bw (bO yD yF yE bu (fw (pv 5) (pv 7)) (aa (aq aS (pv 6) ae) ag))))))
  (aj (ao (mD cN T.gD (aa (mX (ts:=["_law_begin","_law_some"]) (ys:=[]) (js:=[]) (g:=(Dp K 2 (fm (bS 0) (fm (bS 1) Dq)))) (te:=(EH (bR (aX 0) (bR (JY (QA K) (bR (aX 1) eD)) eD)))) (Mx (by rfl) T.MM (aa (pv 4) (aa (pv 5) ag))) (dP (n:=2) rfl (aM (fZ 0) (aM (fZ 1) de))) bx (bz (aa (pv 0) (aa (mD cN T.gD (aa (pv 1) ag)) ag)))) ag))))))))),?_}
 ac_rfl;left;let none_:∀(Hq:Hp),au H Hq->(∀p,Hq p=none->Q (.ref p) (upd Hq p (.tup []))):=λHq sq p n=>kk [] (.ref p) _ KI (sq.trans (bq n)) (cw aB cD);refine CV (decide (V.int last=V.int first)||decide (V.int (m%3)=V.int 0)) ?_ ?_ ?_
 ·intro c1 Z hz
  rw[c1,Bool.false_or] at hz;change hz
 ·intro c1;rw[c1,Bool.true_or]
 cases qv:(decide (V.int last=V.int first)||decide (V.int (m%3)=V.int 0)) with
 | true=>
  change{by show 0<=sizeLine;omega,none_ H (au.refl _)}
 | false=>
 exists by show 0<last-first+1;omega,?_
 let a0:0<=m/3%(last-first+1):=zw _ nofun;let a1:m/3%(last-first+1)<last-first+1:=zt _ nofun;exists by show 1<=sizeLine;omega,λB nB=>?_
 generalize hU1:upd H B _=H1;let s1:au H H1:=au.i9 hU1 nB;let h1:H1 B=some (.lst ([first+m/3%(last-first+1)].map V.int)):=ji hU1;let b1:IW first last [first+m/3%(last-first+1)]:=by
  refine{by simp,by simp,λb hb=>?_};have:b=first+m/3%(last-first+1):=by simpa using hb
  omega
 clear hU1;left;refine rO (λn U H'=>∃bs:List Int,n=9-⇑bs/\U=[some (.int m),some (.int first),some (.int last),some (.int times),some (.ref B),none,none,none]/\au H H'/\H' B=some (.lst (bs.map V.int))/\IW first last bs/\(⇑bs:Int)<=times)
  (λU H'=>∃bs:List Int,U=[some (.int m),some (.int first),some (.int last),some (.int times),some (.ref B),none,none,none]/\au H H'/\H' B=some (.lst (bs.map V.int))/\IW first last bs/\(⇑bs:Int)<=times)
  {_,_,rfl,rfl,s1,h1,b1,by show(1:Int)<=times;omega} ?_ ?_
 ·rintro n U H2 ⟨bs,rfl,rfl,s2,h2,b2,bl⟩ N hN
  let⟨lb,hlb,lb0,lb1,lbx⟩:=NC b2;let out:=hN _ _ {(bs),rfl,s2,h2,b2,bl};exists B,_,rfl,.inl (aH.of h2),?_;rw[za];left;let q0:0<=m/(7*(⇑bs:Int)+5)%4:=zw _ ∅;refine d5 (decide ((⇑bs:Int)<times)&&(decide (lb<last)&&decide (0<m/(7*(⇑bs:Int)+5)%4))) ?_ ?_ ?_
  ·intro c1 Z hz
   rw[c1,Bool.true_and] at hz;exists B,_,-1,_,rfl,rfl,aH.of h2,oh hlb,?_;left;refine d5 (decide (lb<last)&&decide (0<m/(7*(⇑bs:Int)+5)%4)) ?_ ?_ hz
   ·intro c2 Z hz
    rw[c2,Bool.true_and] at hz;exists B,_,rfl,.inl (aH.of h2),?_;rw[za];exists{by show 0<7*(⇑bs:Int)+5;omega,by show 7*(⇑bs:Int)+5<1073741824;omega},?_;change hz
   ·intro c2;rw[c2,Bool.false_and]
  ·intro c1;rw[c1,Bool.false_and]
  cases qw:(decide ((⇑bs:Int)<times)&&(decide (lb<last)&&decide (0<m/(7*(⇑bs:Int)+5)%4))) with
  | false=>exact b9 rfl out
  | true=>
   simp only[zO,decide_eq_true_eq] at qw;let⟨c1,c2,c3⟩:=qw;refine bU rfl {λU H'=>∃bs':List Int,⇑bs'=⇑bs+1/\U=[some (.int m),some (.int first),some (.int last),some (.int times),some (.ref B),none,none,none]/\au H H'/\H' B=some (.lst (bs'.map V.int))/\IW first last bs'/\(⇑bs':Int)<=times,?_,?_}
   ·rintro U' H' ⟨bs',e1,e2,e3,e4,e5,e6⟩
    exact{9-⇑bs',nofun,bs',rfl,e2,e3,e4,e5,e6}
   exists .inl {rfl,_,aH.of h2},?_;exists B,_,-1,_,rfl,rfl,aH.of h2,oh hlb,?_;exists B,_,rfl,.inl (aH.of h2),?_;rw[za];exists{by show 0<(⇑bs:Int)+11;omega,by show(⇑bs:Int)+11<1073741824;omega},?_;left;let r0:0<=m/((⇑bs:Int)+11)%3:=zw _ ∅;refine{_,_,rfl,?_};exists B,_,_,rfl,rfl,h2,by rw[za];omega,?_
   left;refine{bs++[if lb+1+m/((⇑bs:Int)+11)%3<last then lb+1+m/((⇑bs:Int)+11)%3 else last],by rw[zh];rfl,rfl,bj nB s2,by rw[aB,zk];rfl,NA b2 lbx lb0 ?_ ?_,by rw[zh];show((⇑bs+1:Nat):Int)<=times;omega}
   ·split <;> omega
   ·split <;> omega
 ·clear s1 h1 b1
  rintro U1 H1 ⟨bs,rfl,s1,h1,b1,bl⟩;let bp:0<⇑bs:=yr.mpr b1.1;exists{_,aH.of h1},?_;refine DP (by rw[za];omega) (aH.of h1) {(none),rfl} λD qs H2 s2 nD h2 nd nDq ql hq=>?_;rw[za] at ql;exists by omega,nofun,?_
  let neB:∀q∈qs,q≠B:=λq hq' e=>by
   have:=(hq q hq').1;rw[e,h1] at this;cases this
  let tn:((times.toNat:Nat):Int)=times:=nofun
  refine eV (λk U H'=>∃(v6 v7:Option V),U=[some (.int m),some (.int first),some (.int last),some (.int times),some (.ref B),some (.ref D),v6,v7]/\au H H'/\H' B=some (.lst (bs.map V.int))/\H' D=some (.lst (qs.map V.ref))/\∀(i:Nat) (q:Addr),qs[i]?=some q->H' q=some (.lst ((cO (mz m ⇑bs) k i).map V.int)))
   {none,none,rfl,s1.trans s2,s2 _ _ h1,h2,λi q e=>(hq q (zC e)).2} ?_ ?_
  ·intro k U H3 hk hh
   refine cC λN kN0 kR0 _ _=>?_;let⟨v6,v7,rfl,s3,hB3,hD3,hq3⟩:=hh;left;let m90:0<=m/90:=zW m0 ∅;let sl0:mz m ⇑bs k<⇑bs:=by
    unfold mz;split
    ·exact Nat.mod_lt _ bp
    ·have:=zt (m/((k:Int)+7)) (b:=(⇑bs:Int)) nofun
     have:=zw (m/((k:Int)+7)) (b:=(⇑bs:Int)) nofun;omega
   refine{B,_,rfl,.inl (aH.of hB3),?_};rw[za];left;refine Ux (H:=H3) (.int ((mz m ⇑bs k:Nat):Int)) ?_ ?_ ?_
   ·intro c1 Z hz
    let c1':k<⇑bs:=by have:=ye c1;omega
    let e:((mz m ⇑bs k:Nat):Int)=(0+(k:Int)+m/90)%(⇑bs:Int):=by
     unfold mz;rw[if_pos c1',Int.natCast_emod,Int.natCast_add,Int.toNat_of_nonneg m90,Int.zero_add]
    rw[e] at hz;exists B,_,rfl,.inl (aH.of hB3),?_;rw[za];change{by show 0<(⇑bs:Int);omega,hz}
   ·intro c1 Z hz
    let c1':¬k<⇑bs:=by have:=of_decide_eq_false c1;omega
    let e:((mz m ⇑bs k:Nat):Int)=m/(0+(k:Int)+7)%(⇑bs:Int):=by
     unfold mz;rw[if_neg c1',Int.zero_add,Int.toNat_of_nonneg (zw _ nofun)]
    rw[e] at hz;exists{by show 0<0+(k:Int)+7;omega,by show 0+(k:Int)+7<1073741824;omega},?_;exists B,_,rfl,.inl (aH.of hB3),?_;rw[za];change{by show 0<(⇑bs:Int);omega,hz}
   left;let qe:qs[mz m ⇑bs k]?=some (qs[mz m ⇑bs k]'nofun):=zd nofun;generalize qs[mz m ⇑bs k]'nofun=q at qe;let qm:=zC qe;refine{D,_,_,.ref q,rfl,rfl,aH.of hD3,bC (by rw[zK,qe];rfl),?_};let hq3':=hq3 _ _ qe;refine{.inl {rfl,_,aH.of hq3'},?_};exists q,_,_,rfl,rfl,hq3',by rw[za];have:=wR (sp:=mz m ⇑bs) (i:=mz m ⇑bs k) (k:=k);omega,?_
   exists _,_,rfl,bj (s1.back (hq q qm).1) s3,by rw[aC (neB q qm).symm];exact hB3,by rw[aC (λz=>nDq (by rw[z];exact qm))];exact hD3,λi q' e=>?_
   by_cases ei:i=mz m ⇑bs k
   ·have:q'=q:=by rw[ei,qe] at e;exact(yk e).symm
    rw[this,aB,cO,if_pos ei,zk,Int.zero_add,ei];rfl
   ·let nq:q'≠q:=λz=>by
     rw[z] at e;exact ei (FP nd e qe)
    rw[aC nq,cO,if_neg ei];exact hq3 i q' e
  ·rintro U H3 ⟨v6,v7,rfl,s3,hB3,hD3,hq3⟩
   left;let eb:=sL V.int 0 bs;let eq:=sL V.ref 0 qs;rw[ql] at eq;refine{false,false,B,D,_,_,rfl,aH.of hB3,aH.of hD3,?_};refine Iw (ws:=List.range ⇑bs) (e1:=λi=>.int (bs.getD i 0)) (e2:=λi=>.ref (qs.getD i 0)) (λi=>mG (bs.getD i 0,cO (mz m ⇑bs) times.toNat i)) (λU=>∃v w,U=[v,w]) (by rw[zR];omega) (by rw[eb];exact aH.of hB3) (by rw[eq];exact aH.of hD3) {(none),none,rfl} ?_ ?_
   ·rintro i U H4 p R hi s4 hp ⟨v,w',rfl⟩ rr
    let il:=List.mem_range.mp hi;let qe:qs[i]?=some (qs.getD i 0):=by rw[List.getD_eq_getElem?_getD,zd nofun];rfl
    let h5:=s4 _ _ (hq3 i _ qe);refine{p,_,rfl,cY.of hp,rfl,?_};refine{_,_,rfl,{_,_,rfl,{rfl,?_}}};left;refine{_,_,rfl,.inl {aH.of h5,?_}};intros p6 H6 s6 h6;exists cH,?_;intros p7 H7 s7 h7;exact rr _ _ _ (s6.trans s7) (cw h7 (aN cE (aN (cw (s7 _ _ h6) q9) cD))) {_,_,rfl}
   ·intro D5 vs5 H5 s5 _ h5 il5
    rw[KJ] at il5;left;refine{D5,_,rfl,.inl {aH.of h5,?_}};intros p6 H6 s6 h6;refine kk _ _ _ ?_ ((s3.trans s5).trans s6) (cw h6 (il5.mono s6));have:=Ie (first:=first) (last:=last) (t:=times.toNat) (bs:=bs) (sp:=mz m ⇑bs) nofun b1.1 b1.2.1 b1.2.2 ?_ ?_ nofun
    ·rw[tn] at this;exact this
    ·intro j hj
     unfold mz;split
     ·exact Nat.mod_lt _ bp
     ·have:=zt (m/((j:Int)+7)) (b:=(⇑bs:Int)) nofun
      have:=zw (m/((j:Int)+7)) (b:=(⇑bs:Int)) nofun;omega
    ·intro i hi
     let⟨j,hj,ej⟩:=N9 (c:=(m/90).toNat) hi;exact{j,nofun,by unfold mz;rw[if_pos hj];exact ej}
def Em (many:Int) (r:Rep):Prop:=0<=r.first/\r.first<=r.last/\r.last<many/\2<=r.times/\r.times<=9/\JM r.first r.last r.times r.ends
def B6 (many:Int) (rs:List Rep):Prop:=⇑rs<=4/\(∀r∈rs,Em many r)/\rs.Pairwise λa b=>a.last<b.first
inductive oN (vs:List V) (H:Hp) (Q:VK) (E:XK):Prop
 | mk (c many:Int) (_:vs=[.int c,.int many]) (_:many<=200) (_:∀(rs:List Rep) D us H',B6 many rs->au H H'->H' D=some (.lst us)->aD H' (rs.map gq) us->Q (.ref D) H')
def pA:cV P w base 2 T.hJ oN:=by
 nomatch T.hJ,["_law_cell","_law_many","_law_repeats","_law_bar","_law_k","_law_m","_law_first","_law_last","_law_times"]
 let⟨c,many,rfl,my,kk⟩:=h;let sl:=yC;refine{_,(af (bJ 2 qN (aY ag))
  (af (bJ 3 qN ae)
  (af (b8 PassesOwn.never rfl (dk (by rfl) T.cF (aa ae ag)) (iZ 4 qN)
  (af (bJ 5 qN (bN (bQ T) hr T.cy (aa (pv 0) (aa (aq aS (pv 4) ae) ag))))
   (af (bJ 6 qN (aq aS (pv 3) (aq aQ (pv 5) ae)))
   (af (bJ 7 qN (aq aS (pv 6) (aq aQ (aq aU (pv 5) ae) ae)))
   (aj (aG (PW.pt (dn (ptr eZ (pv 7) (pv 1)) (cQ (ptr fi (aq aQ (aq aU (pv 5) ae) ae) ae))))
   (af (bJ 8 qN (aq aS ae (aq aQ (aq aU (pv 5) ae) (fw (aY (aa ae (aa ae (aa ae ag)))) (aq aQ (aq aU (pv 5) ae) ae)))))
    (af (bw (bO yD yF yE bu (pv 2) (aa (bz (aa (pv 6) (aa (pv 7) (aa (pv 8) (aa (bN (uW T) hr T.lR (aa (aq aU (pv 5) ae) (aa (pv 6) (aa (pv 7) (aa (pv 8) ag))))) ag))))) ag)))
    (aj (bJ 3 qN (aq aS (pv 7) ae)))))
   ax))))))
  (aj (ao (pv 2)))))),?_}
 ac_rfl;left
 intros D nD s2 h2 H2
 exists by decide,(by decide),?_
 refine eV (λi U H'=>∃(rs:List Rep) (us:List V) (bar:Int),Lo [some (.int c),some (.int many),some (.ref D),some (.int bar)] 5 U/\au H H'/\H' D=some (.lst us)/\aD H' (rs.map gq) us/\⇑rs<=i/\0<=bar/\(∀r∈rs,Em many r/\r.last<bar)/\rs.Pairwise λa b=>a.last<b.first)
  {[],[],0,Lo.of rfl rfl,s2,h2,cD,zm _,∅,by simp,by simp} ?_ ?_
 ·intro i U H3 hi hh
  refine cC λN kN0 kR0 _ _=>?_;let⟨rs,us,bar,⟨e,rfl⟩,s3,h3,il3,rl,b0,rok,asc⟩:=hh;exists c,_,rfl,nofun,nofun,?_;let m0:0<=mixed c (0+(i:Int)+500):=zw _ ∅;let m1:mixed c (0+(i:Int)+500)<2147483399:=zt _ ∅;generalize mixed c (0+(i:Int)+500)=m at m0 m1;let a0:0<=m%4:=zw _ ∅;let e0:0<=m/4%8:=zw _ ∅;left;refine d5 (decide (bar+m%4+m/4%8<many)&&decide (0<m/32%4)) ?_ ?_ ?_
  ·intro c1 Z hz
   rw[c1,Bool.true_and] at hz;change hz
  ·intro c1;rw[c1,Bool.false_and]
  cases qw:(decide (bar+m%4+m/4%8<many)&&decide (0<m/32%4)) with
  | false=>
   change{rs,us,bar,Lo.of rfl rfl,s3,h3,il3,nofun,b0,rok,asc}
  | true=>
   simp only[zO,decide_eq_true_eq] at qw;let⟨c1,c2⟩:=qw;exists by show 3<=sizeLine;omega,?_
   intros p4 H4 s4 h4;let g0:0<=m/1024%3:=zw _ ∅;let g1:m/1024%3<3:=zt _ ∅;obtain⟨jj,hjj⟩:∃j:Nat,m/1024%3=(j:Int):={(m/1024%3).toNat,nofun}
   obtain⟨z,hz,z0,z1⟩:∃z:Int,[V.int 2,V.int 3,V.int 8][jj]?=some (.int z)/\2<=z/\z<=8:=by
    have:jj<3:=nofun
    match jj,this with
    | 0,_=>exact{2,rfl,∅,∅}
    | 1,_=>exact{3,rfl,∅,∅}
    | 2,_=>exact{8,rfl,∅,∅}
   exists p4,_,m/1024%3,.int z,rfl,rfl,aH.of h4,(by rw[hjj];exact bC hz),?_;exists by show 0<z;omega,?_
   let t0:0<=m/128%z:=zw _ nofun;let t1:m/128%z<z:=zt _ nofun;exists .inl {rfl,_,aH.of (s4 _ _ h3)},?_;left;refine{_,_,_,_,rfl,zW m0 ∅,?_,nofun,nofun,nofun,nofun,nofun,λes v H5 eok s5 h5=>?_}
   ·have:=zX (a:=m) 7 m0;omega
   exists by show 4<=sizeLine;omega,?_
   intros p6 H6 s6 h6;let s36:=s4.trans (s5.trans s6);let h36:=s36 _ _ h3;refine{D,us,_,rfl,rfl,h36,by have:=aO il3;omega,?_};let nt:cj (H6 D):=by rw[h36];exact λ_ z=>by cases z
   let ix:Is H6 (gq {bar+m%4,bar+m%4+m/4%8,2+m/128%z,es}) (.ref p6):=cw h6 (aN cE (aN cE (aN cE (aN (h5.mono s6) cD))));left;refine{rs++[{bar+m%4,bar+m%4+m/4%8,2+m/128%z,es}],_,_,Lo.of rfl rfl,bj nD (s3.trans s36),aB,?_,by rw[zh];show ⇑rs+1<=i+1;omega,nofun,λr hr=>?_,?_}
   ·rw[zk]
    exact cX (Is.upd nt ix) (aD.upd nt (il3.mono s36))
   ·rcases zG.mp hr with y | y
    ·have:=rok r y
     exact{(this.1),nofun}
    ·rw[zA.mp y]
     exact{{by show 0<=bar+m%4;omega,by show bar+m%4<=bar+m%4+m/4%8;omega,c1,by show 2<=2+m/128%z;omega,by show 2+m/128%z<=9;omega,eok},by show bar+m%4+m/4%8<bar+m%4+m/4%8+1;omega}
   ·rw[zU]
    refine{asc,by simp,λa ha b hb=>?_};let eb:b=⟨bar+m%4,bar+m%4+m/4%8,2+m/128%z,es⟩:=by simpa using hb
    rw[eb];have:=(rok a ha).2;show a.last<bar+m%4;omega
 ·rintro U H3 ⟨rs,us,bar,⟨e,rfl⟩,s3,h3,il3,rl,b0,rok,asc⟩
  change kk rs D us H3 {rl,λr hr=>(rok r hr).1,asc} s3 h3 il3
def PU (H:Hp) (p:Addr) (rs:List Rep):Prop:=⇑rs<=1000/\(∀r∈rs,⇑r.ends<=1000)/\∃rv,H p=some (.lst rv)/\aD H (rs.map gq) rv
theorem PU.mono {H H':Hp} (s:au H H') {p:Addr} {rs:List Rep} (h:PU H p rs):PU H' p rs:=by
 let⟨h1,h2,rv,h3,h4⟩:=h;exact{h1,h2,rv,s _ _ h3,h4.mono s}
inductive gW (vs:List V) (H:Hp) (Q:VK) (E:XK):Prop
 | mk (p:Addr) (rs:List Rep) (b:Int) (_:vs=[.ref p,.int b]) (_:PU H p rs) (_:∀H',au H H'->Q (.bl (jM rs b)) H')
inductive jW (vs:List V) (H:Hp) (Q:VK) (E:XK):Prop
 | mk (p:Addr) (rs:List Rep) (b:Int) (_:vs=[.ref p,.int b]) (_:PU H p rs) (_:∀H',au H H'->Q (.bl (eL rs b)) H')
def oE:cV P w base 1 T.lQ jW:=by
 nomatch T.lQ,["_law_repeats","_law_bar"]
 let⟨p,rs,b,rfl,⟨rl,el,rv,hp,il⟩,kk⟩:=h;let sl:=yC;let⟨ps,e1,e2,e3⟩:=gP il;let pln:⇑ps=⇑rs:=by rw[<-e1,za]
 refine{_,(aj (ao (d9 (gx rfl) T.xb (aa (mX (ts:=["_law_first","_law_last","_law_times","_law_ends"]) (ys:=["_law_bar"]) (js:=[1]) (g:=(Dp K 4 (fm (bS 0) (fm (bS 1) (fm (bS 2) (fm (bS 3) Dq)))))) (te:=(vX (sM λi j=>.bl (decide (i<j))) (sM λi j=>.bl (decide (i<=j))) (aX 0) (aX 4) (aX 1))) (aZ (pv 0)) (dP (n:=4) rfl (aM (fZ 0) (aM (fZ 1) (aM (fZ 2) (aM (fZ 3) de))))) bx (Fu eZ fN (pv 0) (pv 4) (pv 1))) ag)))),?_};ac_rfl;exists{_,aH.of hp},?_;refine dU (enc:=λq:Rep×V=>q.2) (ws:=ps) (λq=>.bl (decide (q.1.first<b)&&decide (b<=q.1.last))) (λU=>∃v1 v2 v3 v4,U=[v1,v2,v3,v4,some (.int b)]) nofun (by rw[e2];exact aH.of hp) {_,_,_,_,rfl} ?_ ?_
 ·rintro z U H1 R hz s1 ⟨v1,v2,v3,v4,rfl⟩ rr
  let⟨a,e,ev,ha,_⟩:=dB ((e3 z hz).mono s1);rw[ev];refine{a,_,rfl,cY.of ha,rfl,?_};refine{_,_,rfl,{_,_,rfl,{_,_,rfl,{_,_,rfl,{rfl,?_}}}}};left
  by_cases c:z.1.first<b
  ·refine bU (zg c) ?_
   change rr _ _ _ (au.refl _) (by rw[zg c,Bool.true_and];unfold Is;rfl) {_,_,_,_,rfl}
  ·refine b9 (ze c) ?_
   exact rr _ _ _ (au.refl _) (by rw[ze c,Bool.false_and];unfold Is;rfl) {_,_,_,_,rfl}
 ·intro D vs H1 s1 nD hD ilD
  let ee:ps.map (λq:Rep×V=>Dt.bl (decide (q.1.first<b)&&decide (b<=q.1.last)))=(rs.map λr=>decide (r.first<b)&&decide (b<=r.last)).map Dt.bl:=by rw[<-e1,zB,zB];rfl
  rw[ee] at ilD;rw[jZ ilD] at hD;exists D,_,rfl,aH.of hD,?_;have:=kk _ s1;unfold eL at this;rw[List.any_map];exact this
def mj:cV P w base 1 T.iK gW:=by
 nomatch T.iK,["_law_repeats","_law_bar","_law_first","_law_last","_law_times","_law_ends","_law_mine"]
 let⟨p,rs,b,rfl,⟨rl,el,rv,hp,il⟩,kk⟩:=h;let sl:=yC;let rvl:=aO il;refine{_,(af (b8 PassesOwn.never rfl (aZ (pv 0)) (dP (n:=4) rfl (aM (iZ 2 qN) (aM (iZ 3 qN) (aM (iZ 4 qN) (aM (iZ 5 qN) de)))))
  (aj (aG (Mp fN fN (pv 2) (pv 1) (pv 3))
   (af (MF (i:=6) (ts:=["_law_begin","_law_passes"]) (ys:=["_law_bar"]) (js:=[1]) (g:=(Dp K 2 (fm (bS 0) (fm (bS 1) Dq)))) (tc:=(ki (e9 (sM λi j=>.bl (decide (i<=j))) (aX 0) (aX 2)))) (te:=(aX 1)) (iY (pv 5)) (dP (n:=2) rfl (aM (fZ 0) (aM (fZ 1) de))) (fL (ptr fN (pv 0) (pv 2))) (pv 1) qN)
    (aj (ao (Mz (dF (sQ hr.units) (pv 6) (aY ag) (gY _)) (mW (dF iP (pv 4) (fw (pv 6) (mV iT ae)) (by with_unfolding_all rfl)))))))
   ax)))
  (aj (ao ky))),?_}
 ac_rfl;exists{_,aH.of hp},?_;refine dr (K:=K) (a:=p) (xs:=rv) (λi U H'=>H'=H/\(∀r∈rs.take i,Es r b=false)/\∃(v2 v3 v4 v5 v6:Option V),U=[some (.ref p),some (.int b),v2,v3,v4,v5,v6]) {rfl,by simp,none,none,none,none,none,rfl} (λi U H' _ h=>by rw[h.1];exact aH.of hp) ?_ ?_
 ·rintro i x U H1 hx ⟨rfl,no,v2,v3,v4,v5,v6,rfl⟩
  let⟨r,hr',ir⟩:=cT il hx;let⟨a,ep,rfl,ha,ie⟩:=dB ir;let rin:=zC hr';let nxt:Es r b=false->∀y∈rs.take (i+1),Es y b=false:=λe y hy=>by
   rw[cM hr'] at hy;rcases zG.mp hy with z | z
   ·exact no y z
   ·rw[zA.mp z];exact e
  refine{a,_,rfl,cY.of ha,rfl,?_};refine{_,_,rfl,{_,_,rfl,{_,_,rfl,{_,_,rfl,{rfl,?_}}}}};left
  by_cases c1:r.first<=b
  ·refine bU (zg c1) ?_
   left
   by_cases c2:b<=r.last
   ·refine bU (zg c2) ?_
    left;obtain⟨ep',evs,e0,hep,ile⟩:∃ep' evs,V.ref ep=.ref ep'/\H1 ep'=some (.tup evs)/\aD H1 (r.ends.map mG) evs:=by unfold Is at ie;exact ie
    cases e0;let⟨ps,e1,e2,e3⟩:=gP ile;let pln:⇑ps=⇑r.ends:=by rw[<-e1,za]
    let elr:=el r rin;refine{{_,cY.of hep},?_};let hro:dE rs b=some r:=xq hr' (by rw[zg c1,zg c2];rfl) λy hy=>no y hy;refine lJ (ws:=ps) (enc:=λq:Sc.End×V=>q.2) (λq=>decide (q.1.1<=b)) (λq=>jQ q.1.2) (λU=>∃v w',U=[v,w',some (.int b)]) nofun {_,_,rfl} (λi H hi sm=>Dn (eO sm hep) (by rw[<-e2,za];exact hi)) (λH sm=>{_,eO sm hep,by rw[<-e2,za];exact zm _}) ?_ ?_ ?_
    ·rintro i x H H2 hi sm ⟨rfl,hy⟩
     let hx':=hy _ (eO sm hep);rw[<-e2,zK,zd hi] at hx';cases hx';exact{(rfl),rfl}
    ·rintro z U H2 R N hz s2 ⟨v,w',rfl⟩ rr nn
     let⟨a2,q2,ev,ha2,hq2⟩:=pF ((e3 z hz).mono s2);rw[ev];refine{a2,_,rfl,cY.of ha2,rfl,?_};refine{_,_,rfl,{_,_,rfl,{rfl,?_}}};left
     by_cases c3:z.1.1<=b
     ·refine bU (zg c3) ?_
      change rr (zg c3) _ _ _ (au.refl _) (cw hq2 q9) {_,_,rfl}
     ·refine b9 (ze c3) ?_
      exact nn (ze c3) _ _ (au.refl _) {_,_,rfl}
    ·intro D vs H2 s2 nD hD ilD
     let ee:(ps.filter λq:Sc.End×V=>decide (q.1.1<=b)).map (λq=>jQ q.1.2)=((r.ends.filter λe=>decide (e.1<=b)).map (·.2)).map jQ:=by
      rw[<-e1,List.filter_map,zB,zB];rfl
     rw[ee] at ilD;let vl:=aO ilD;rw[za] at vl;exists by show 0<=sizeLine;omega,?_
     intros p3 H3 s3 h3;refine{D,p3,_,_,rfl,rfl,.inl {aH.of (s3 _ _ hD),aH.of h3},.inr (.inl rfl),?_};let hlp:jM rs b=(match (r.ends.filter λe=>decide (e.1<=b)).getLast? with | none=>true | some e=>decide (r.times∈e.2)):=by unfold jM;rw[hro];try rfl
     rw[hlp] at kk;clear hlp ee;generalize (r.ends.filter λe=>decide (e.1<=b))=fs at kk ilD vl;let s13:=s2.trans s3
     by_cases e:vs=[]
     ·refine{_,rfl,bU (zg e) ?_}
      have:fs=[]:=by
       rw[e] at vl;exact yt.mp vl.symm
      rw[this] at kk;exact kk _ s13
     ·refine{_,rfl,b9 (ze e) ?_}
      let vp:0<⇑vs:=yr.mpr e;let⟨ps5,hps5,i5⟩:=cT ilD (i:=⇑vs-1) (zd nofun);rw[zK] at hps5;cases qf:fs[⇑vs-1]? with
      | none=>rw[qf] at hps5;cases hps5
      | some en=>
       rw[qf] at hps5;let e5:en.2=ps5:=yk hps5;subst e5;let gl:fs.getLast?=some en:=by rw[List.getLast?_eq_getElem?,<-vl];exact qf
       rw[gl] at kk;unfold jQ Is at i5;let⟨a5,us5,ev5,ha5,il5⟩:=i5;rw[dS il5] at ha5;left;refine{D,vs,-1,_,rfl,rfl,aH.of (s3 _ _ hD),oh (zd nofun),?_};rw[ev5];refine{a5,_,rfl,.inr (cY.of (s3 _ _ ha5)),rfl,by rw[List.all_map];exact yp.mpr λx _=>rfl,?_};show Q (.bl (Di (.int r.times) (en.2.map V.int))) _;rw[vF];exact kk _ s13
   ·refine b9 (ze c2) ?_
    change{nxt (by unfold Es;rw[ze c2,Bool.and_false]),_,_,_,_,_,rfl}
  ·refine b9 (ze c1) ?_
   change{nxt (by unfold Es;rw[ze c1,Bool.false_and]),_,_,_,_,_,rfl}
 ·rintro U H1 ⟨rfl,no,v2,v3,v4,v5,v6,rfl⟩
  left;let e:jM rs b=true:=by
   unfold jM;rw[show dE rs b=none from List.find?_eq_none.mpr λy hy=>by
    have:=no y (by rw[rvl,zN];exact hy);unfold Es at this;rw[this];simp]
  rw[e] at kk;exact kk _ (au.refl _)
def B6.apart {many:Int} {rs:List Rep} (h:B6 many rs):Apart rs:=by
 refine{λr hr=>?_,h.2.2};let⟨h1,h2,h3,h4,h5,e1,e2,e3,e4,e5⟩:=h.2.1 r hr;exact{h2,e5,λe he=>{(e3 e he).1,(e3 e he).2.1}}
inductive uE (vs:List V) (H:Hp) (Q:VK) (E:XK):Prop
 | mk (c many:Int) (p:Addr) (rs:List Rep) (_:vs=[.int c,.int many,.ref p]) (_:PU H p rs) (_:B6 many rs) (_:1<=many) (_:many<=200) (_:∀(jo:Option Jump) v H',(∀j,jo=some j->Pg many rs j)->au H H'->Is H' (dO jP jo) v->Q v H')
def JG {l:List Int} {j:Nat} (h:j<⇑l):∃x,(l.map V.int)[j]?=some (.int x)/\x∈l:={l[j],by rw[zK,zd h];rfl,ym h}
def HR {m:Int} {l:List Int} (h:l≠[]):∃x,B5 (l.map V.int) (m%(⇑l:Int))=some (.int x)/\x∈l:=by
 let hp:0<⇑l:=yr.mpr h;let a0:=zw m (b:=(⇑l:Int)) nofun;let a1:=zt m (b:=(⇑l:Int)) nofun;obtain⟨j,hj⟩:∃j:Nat,m%(⇑l:Int)=(j:Int):={(m%(⇑l:Int)).toNat,nofun}
 let⟨x,e1,e2⟩:=JG (l:=l) (j:=j) nofun;exact{x,by rw[hj];exact bC e1,e2}
def GD (l:List Int):(l.map V.int).all mn=true:=by rw[List.all_map];exact yp.mpr λ_ _=>rfl
def uV:cV P w base 2 T.lP uE:=by
 nomatch T.lP,["_law_cell","_law_many","_law_repeats","_law_m","_law_lasts","_law_inside","_law_ats","_law_at","_law_tos","_law_to","_law_untils","_law_codas"]
 let⟨c,many,p,rs,rfl,rsl,rd,mn1,mn2,kk⟩:=h;let sl:=yC;let ap:=rd.apart;let⟨rl,el,rv,hp,il⟩:=id rsl;let⟨ps,e1,e2,e3⟩:=gP il;let pln:⇑ps=⇑rs:=by rw[<-e1,za]
 refine{_,(af (bJ 3 qN (bN (bQ T) hr T.cy (aa (pv 0) (aa ae ag))))
  (af (bJ 4 qN (mX (ts:=["_law_first","_law_last","_law_times","_law_ends"]) (ys:=[]) (js:=[]) (g:=(Dp K 4 (fm (bS 0) (fm (bS 1) (fm (bS 2) (fm (bS 3) Dq)))))) (te:=(aX 1)) (aZ (pv 2)) (dP (n:=4) rfl (aM (fZ 0) (aM (fZ 1) (aM (fZ 2) (aM (fZ 3) de))))) bx (pv 1)))
  (af (bJ 5 qN (mX (ts:=["_law_bar"]) (ys:=["_law_repeats"]) (js:=[2]) (g:=(bS 0)) (tc:=(tB (JY (T7 K) (bR (mL [none,some 0] (Jt K (aX 1)) (bS 0) rS (vX (sM λi j=>.bl (decide (i<=j))) (sM λi j=>.bl (decide (i<=j))) (e9 (mC K) (aX 0) (tC (.int (0)))) (aX 1) (e9 (mC K) (aX 0) (tC (.int (1)))))) eD)))) (te:=(aX 0)) (dk (by rfl) T.cF (aa (pv 1) ag)) (fZ 0) (fL (cI (d9 (gx rfl) T.xb (aa (mX (ts:=["_law_one"]) (ys:=["_law_bar"]) (js:=[0]) (te:=(vX (sM λi j=>.bl (decide (i<=j))) (sM λi j=>.bl (decide (i<=j))) (e9 (mC K) (aX 0) (tC (.int (0)))) (aX 1) (e9 (mC K) (aX 0) (tC (.int (1)))))) (aZ (pv 1)) (fZ 0) bx (Fu fN fN (bG (pv 0) ae) (pv 1) (bG (pv 0) ae))) ag)))) (pv 0)))
  (af (MF (i:=6) (ts:=["_law_bar"]) (ys:=["_law_lasts","_law_inside"]) (js:=[4,5]) (g:=(bS 0)) (tc:=(TL (ki (e9 (Rt K false) (aX 0) (aX 1))) (ki (e9 (Rt K true) (aX 0) (aX 2))))) (te:=(aX 0)) (dk (by rfl) T.cF (aa (pv 1) ag)) (fZ 0) (fL (PW.pt (dY (gB iP (pv 0) (pv 1) (by with_unfolding_all rfl)) (dw (gB eQ (pv 0) (pv 2) (by with_unfolding_all rfl)))))) (pv 0) qN)
  (af (aG (PW.pt (dY (ptr cW (aq aQ (aq aU (pv 3) ae) ae) ae) (dw (ptr (sQ hr.units) (pv 6) (aY ag)))))
  (aj (ao aR))
  ax)
  (af (bJ 7 qN (fw (pv 6) (aq aQ (aq aU (pv 3) ae) (d9 aE T.bF (aa (pv 6) ag)))))
  (af (MF (i:=8) (ts:=["_law_bar"]) (ys:=["_law_repeats"]) (js:=[2]) (g:=(bS 0)) (tc:=(N4 (tB (gK jW [] E0 (bR (aX 1) (bR (aX 0) eD)))))) (te:=(aX 0)) (dk (by rfl) T.cF (aa (aq aS (pv 7) ae) ag)) (fZ 0) (fL (eI (cI (bN (oE T) hr T.lQ (aa (pv 1) (aa (pv 0) ag)))))) (pv 0) qN)
  (af (bJ 9 qN (fw (pv 8) (aq aQ (aq aU (pv 3) ae) (d9 aE T.bF (aa (pv 8) ag)))))
  (af (MF (i:=10) (ts:=["_law_bar"]) (ys:=["_law_repeats"]) (js:=[2]) (g:=(bS 0)) (tc:=(tB (gK gW [] E0 (bR (aX 1) (bR (aX 0) eD))))) (te:=(aX 0)) (kr (by rfl) T.cF (aa (pv 9) (aa (aq aS (pv 7) ae) ag))) (fZ 0) (fL (cI (bN (mj T) hr T.iK (aa (pv 1) (aa (pv 0) ag))))) (pv 0) qN)
  (af (MF (i:=11) (ts:=["_law_bar"]) (ys:=["_law_repeats"]) (js:=[2]) (g:=(bS 0)) (tc:=(Qo (N4 (tB (gK jW [] E0 (bR (aX 1) (bR (aX 0) eD))))) (tB (gK gW [] E0 (bR (aX 1) (bR (aX 0) eD)))))) (te:=(aX 0)) (kr (by rfl) T.cF (aa (aq aS (pv 7) ae) (aa (pv 1) ag))) (fZ 0) (fL (PW.pt (dn (eI (cI (bN (oE T) hr T.lQ (aa (pv 1) (aa (pv 0) ag))))) (cQ (cI (bN (mj T) hr T.iK (aa (pv 1) (aa (pv 0) ag)))))))) (pv 0) qN)
  (af (aG (ptr (sQ hr.units) (pv 10) (aY ag))
  (aj (ao aR))
  ax)
  (aj (ao (bz (aa (pv 7) (aa (pv 9) (aa (fw (pv 10) (aq aQ (aq aU (pv 3) ae) (d9 aE T.bF (aa (pv 10) ag)))) (aa (fw (aq gC (aY (aa aR ag)) (pv 11)) (aq aQ (aq aU (pv 3) ae) (aq aS ae (d9 aE T.bF (aa (pv 11) ag))))) ag)))))))))))))))))),?_}
 ac_rfl;exists c,520,rfl,nofun,nofun,?_;let m0:0<=mixed c 520:=zw _ ∅;generalize mixed c 520=m at m0;exists{_,aH.of hp},?_;refine dU (enc:=λq:Rep×V=>q.2) (ws:=ps) (λq=>.int q.1.last) (λU=>∃v1 v2 v3 v4,U=[v1,v2,v3,v4]) nofun (by rw[e2];exact aH.of hp) {_,_,_,_,rfl} ?_ ?_
 ·rintro z U H1 R hz s1 ⟨v1,v2,v3,v4,rfl⟩ rr
  let⟨a,e,ev,ha,_⟩:=dB ((e3 z hz).mono s1);rw[ev];refine{a,_,rfl,cY.of ha,rfl,?_};refine{_,_,rfl,{_,_,rfl,{_,_,rfl,{_,_,rfl,{rfl,?_}}}}};change rr _ _ _ (au.refl _) cE {_,_,_,_,rfl}
 intro D4 vs4 H4 s4 _ hD4 il4;let ee:ps.map (λq:Rep×V=>Dt.int q.1.last)=(rs.map (·.last)).map Dt.int:=by rw[<-e1,zB,zB];rfl
 rw[ee] at il4;rw[dS il4] at hD4;clear ee il4;exists by omega,nofun,?_
 let mt:((many.toNat:Nat):Int)=many:=nofun
 refine jf (rest:=[some (.ref p)]) (λb=>rs.any λr=>Es r b) nofun {(none),rfl} ?_ ?_
 ·intro i H5 R i0 i1 s5 hR
  let s05:=s4.trans s5;exists{_,aH.of (s05 _ _ hp)},?_;refine dU (enc:=λq:Rep×V=>q.2) (ws:=ps) (λq=>.bl (Es q.1 i)) (λU=>∃v1,U=[v1,some (.int i)]) nofun (by rw[e2];exact aH.of (s05 _ _ hp)) {_,rfl} ?_ ?_
  ·rintro z U H6 R hz s6 ⟨v1,rfl⟩ rr
   let⟨a,e,ev,ha,_⟩:=dB ((e3 z hz).mono (s05.trans s6));rw[ev];left
   by_cases c1:z.1.first<=i
   ·refine bU (zg c1) ?_
    change rr _ _ _ (au.refl _) (by unfold Es;rw[zg c1,Bool.true_and];unfold Is;rfl) {_,rfl}
   ·refine b9 (ze c1) ?_
    exact rr _ _ _ (au.refl _) (by unfold Es;rw[ze c1,Bool.false_and];unfold Is;rfl) {_,rfl}
  ·intro D vs H6 s6 nD hD ilD
   let ee:ps.map (λq:Rep×V=>Dt.bl (Es q.1 i))=(rs.map λr=>Es r i).map Dt.bl:=by rw[<-e1,zB,zB];rfl
   rw[ee] at ilD;rw[jZ ilD] at hD;exists D,_,rfl,aH.of hD,?_;rw[List.any_map];exact{_,rfl,hR _ s6}
 intro D5 H5 s5 _ hD5;let hD45:=s5 _ _ hD4;generalize hins:mq (λb=>rs.any λr=>Es r b) 0 many.toNat=ins at hD5;exists by omega,nofun,?_
 refine jf (rest:=[some (.ref D4),some (.ref D5)]) (λb=>decide (b∈rs.map (·.last))||!decide (b∈ins)) nofun ⟨none,rfl⟩ ?_ ?_
 ·intro i H6 R i0 i1 s6 hR
  exists D4,_,rfl,.inl (aH.of (s6 _ _ hD45)),rfl,GD _,?_;show∃k,V.bl (Di (.int i) ((rs.map (·.last)).map V.int))=.bl k/\_;rw[vF];refine{_,rfl,?_};refine CV (decide (i∈rs.map (·.last))||!decide (i∈ins)) ?_ ?_ (hR _ (au.refl _))
  ·intro c1 Z hz
   rw[c1,Bool.false_or] at hz;exists D5,_,rfl,.inl (aH.of (s6 _ _ hD5)),rfl,GD _,?_;show∃k,V.bl (!Di (.int i) (ins.map V.int))=.bl k/\_;rw[vF];exact{_,rfl,hz}
  ·intro c1;rw[c1,Bool.true_or]
 intro D6 H6 s6 _ hD6;let s06:=(s4.trans s5).trans s6;generalize hats:mq (λb=>decide (b∈rs.map (·.last))||!decide (b∈ins)) 0 many.toNat=ats at hD6;left;let out:∀H',au H H'->Q .bI H':=λH' s'=>kk none .bI H' (λj z=>by cases z) s' (by unfold dO Is;rfl)
 by_cases c0:m/7%3=0
 ·refine bU (zg (congrArg V.int c0)) ?_
  change out _ s06
 refine b9 (ze λz=>c0 (V.int.inj z)) ?_;exists by show 0<=sizeLine;omega,?_
 intros p7 H7 s7 h7;refine{D6,p7,_,_,rfl,rfl,.inl {aH.of (s7 _ _ hD6),aH.of h7},.inr (.inl rfl),?_}
 by_cases cn:ats=[]
 ·rw[cn]
  change out _ (s06.trans s7)
 let hn:decide (ats.map V.int=[])=false:=ze (by simpa using cn);rw[hn];let s07:=s06.trans s7;let hD67:=s7 _ _ hD6;left;let⟨at_,hat,atin⟩:=HR (m:=m/3) cn;let anp:0<⇑ats:=yr.mpr cn;refine{D6,_,rfl,.inl (aH.of hD67),?_};rw[za];exists by show 0<(⇑ats:Int);omega,?_
 refine{D6,_,_,_,rfl,rfl,aH.of hD67,hat,?_};rw[<-hats] at atin;let⟨a0,a1,a2⟩:=nZ atin;let a1':at_<many:=nofun
 let aleave:(∃r∈rs,r.last=at_)\/(rs.any λr=>Es r at_)=false:=by
  rw[Bool.or_eq_true,decide_eq_true_eq] at a2;rcases a2 with z | z
  ·let⟨r,hr1,hr2⟩:=zH.mp z
   exact .inl {(r),hr1,hr2}
  ·right
   cases q:rs.any λr=>Es r at_ with
   | false=>rfl
   | true=>
    have:at_∈ins:=by rw[<-hins];exact F7 a0 nofun q
    rw[zg this] at z;cases z
 clear hats atin hat;exists by show -2^62<=at_+1;omega,(by show at_+1<2^62;omega),?_
 let pt:∀H',au H7 H'->PU H' p rs:=λH' s'=>(rsl.mono s07).mono s';refine jf (rest:=[some (.ref p)]) (λb=>!eL rs b) (by show(at_+1).toNat<=sizeLine;omega) {(none),rfl} ?_ ?_
 ·intro i H8 R i0 i1 s8 hR
  change{p,rs,i,rfl,pt _ s8,λH' s'=>{_,rfl,hR _ s'}}
 intro D8 H8 s8 _ hD8;generalize htos:mq (λb=>!eL rs b) 0 (at_+1).toNat=tos at hD8;let tn:tos≠[]:=by
  rw[<-htos];refine List.ne_nil_of_mem (F7 (x:=0) nofun nofun ?_);have:eL rs 0=false:=by
   unfold eL;rw[List.any_eq_false];intro r hr';have:=(rd.2.1 r hr').1;rw[ze (show¬r.first<0 by omega)];simp
  rw[this];rfl
 let⟨to_,hto,toin⟩:=HR (m:=m/50) tn;let tnp:0<⇑tos:=yr.mpr tn;exists D8,_,rfl,.inl (aH.of hD8),?_;rw[za];exists by show 0<(⇑tos:Int);omega,?_
 refine{D8,_,_,_,rfl,rfl,aH.of hD8,hto,?_};rw[<-htos] at toin;let⟨b0,b1,b2⟩:=nZ toin;let b2':eL rs to_=false:=by cases q:eL rs to_ with
  | false=>rfl
  | true=>rw[q] at b2;cases b2
 clear htos toin hto tnp tn;exists _,_,rfl,{nofun,nofun,(by show -2^62<=at_+1;omega),by show at_+1<2^62;omega},?_;refine jf (rest:=[some (.ref p)]) (λb=>jM rs b) (by show(at_+1-to_).toNat<=sizeLine;omega) {(none),rfl} ?_ ?_
 ·intro i H9 R i0 i1 s9 hR
  change{p,rs,i,rfl,pt _ (s8.trans s9),λH' s'=>{_,rfl,hR _ s'}}
 intro D9 H9 s9 _ hD9;generalize hunt:mq (λb=>jM rs b) to_ (at_+1-to_).toNat=unt at hD9;exists _,_,rfl,{by show -2^62<=at_+1;omega,(by show at_+1<2^62;omega),nofun,nofun},?_;refine jf (rest:=[some (.ref p)]) (λb=>!eL rs b&&jM rs b) (by show(many-(at_+1)).toNat<=sizeLine;omega) {(none),rfl} ?_ ?_
 ·intro i Ha R i0 i1 sa hR
  left;refine{p,rs,i,rfl,pt _ ((s8.trans s9).trans sa),λH' s'=>{_,rfl,?_}};cases q:eL rs i with
  | true=>
   rw[q] at hR;exact b9 rfl (hR _ s')
  | false=>
   rw[q] at hR;refine bU rfl ?_;change{p,rs,i,rfl,(pt _ ((s8.trans s9).trans sa)).mono s',λH'' s''=>{_,rfl,hR _ (s'.trans s'')}}
 intro Da Ha sa _ hDa;generalize hcod:mq (λb=>!eL rs b&&jM rs b) (at_+1) (many-(at_+1)).toNat=cod at hDa;let cl:⇑cod<=200:=by
  have:=KH (f:=λb=>!eL rs b&&jM rs b) (lo:=at_+1) (n:=(many-(at_+1)).toNat);rw[hcod] at this;omega
 let s0a:=((s07.trans s8).trans s9).trans sa;exists by show 0<=sizeLine;omega,?_
 intros pb Hb sb hb;let hD9b:=sb _ _ (sa _ _ hD9);refine{D9,pb,_,_,rfl,rfl,.inl {aH.of hD9b,aH.of hb},.inr (.inl rfl),?_}
 by_cases un:unt=[]
 ·rw[un]
  change out _ (s0a.trans sb)
 let hn2:decide (unt.map V.int=[])=false:=ze (by simpa using un);rw[hn2];let⟨u_,hu,uin⟩:=HR (m:=m/500) un;let unp:0<⇑unt:=yr.mpr un;rw[<-hunt] at uin;let⟨u0,u1,u2⟩:=nZ uin;exists D9,_,rfl,.inl (aH.of hD9b),?_;rw[za];exists by show 0<(⇑unt:Int);omega,?_
 refine{D9,_,_,_,rfl,rfl,aH.of hD9b,hu,?_};exists by show 1<=sizeLine;omega,?_
 intros pc Hc sc hc;let hDac:=sc _ _ (sb _ _ hDa);exists pc,Da,_,_,rfl,rfl,aH.of hc,aH.of hDac,by rw[za];show 1+⇑cod<=sizeLine;omega,?_
 intros pd Hd sd hd;exists Da,_,rfl,.inl (aH.of (sd _ _ hDac)),?_;rw[za];exists by show 0<1+(⇑cod:Int);omega,?_
 let k0:0<=m/7%(1+(⇑cod:Int)):=zw _ nofun;let k1:m/7%(1+(⇑cod:Int))<1+(⇑cod:Int):=zt _ nofun;obtain⟨kj,hkj⟩:∃j:Nat,m/7%(1+(⇑cod:Int))=(j:Int):={(m/7%(1+(⇑cod:Int))).toNat,nofun}
 obtain⟨co,cv,hcv,icv,cok⟩:∃(co:Option Int) (cv:V),(V.bI::cod.map V.int)[kj]?=some cv/\(∀H',Is H' (dO Dt.int co) cv)/\∀x,co=some x->x∈cod:=by
  cases kj with
  | zero=>exact{none,.bI,rfl,λH'=>by unfold dO Is;rfl,λx z=>by cases z}
  | succ k=>
   let⟨x,f1,f2⟩:=JG (l:=cod) (j:=k) nofun;exact{some x,.int x,by simpa using f1,λH'=>by unfold dO Is;rfl,λy z=>by cases z;exact f2}
 refine{pd,_,_,_,rfl,rfl,aH.of hd,(by rw[hkj];exact bC hcv),?_};exists by show 4<=sizeLine;omega,?_
 intros pe He se he;refine kk (some {(at_),to_,u_,co}) _ _ (λj z=>?_) ((((s0a.trans sb).trans sc).trans sd).trans se) (cw he (aN cE (aN cE (aN cE (aN (icv _) cD)))));cases z;refine QX ap a0 a1' aleave b0 nofun b2' u0 nofun u2 λx hx=>?_;let xin:=cok x hx;rw[<-hcod] at xin;let⟨x0,x1,x2⟩:=nZ xin;rw[zO] at x2;refine{nofun,nofun,?_,x2.2};cases q:eL rs x with
 | false=>rfl
 | true=>rw[q] at x2;cases x2.1
def LC:∀x∈Dd,∀z∈([2,3,5]:List Int),(red x.1 (x.2*z)).1*(red x.1 x.2).2<(red x.1 x.2).1*(red x.1 (x.2*z)).2:=by decide +kernel
structure nI (most:Int) (S:bW):Prop where
 Ru:1<=⇑S.players
 pl:⇑S.players<=4
 pn:yZ S.players
 ins:SH S.ak
 st:Ek S.players S.aJ
 b1:1<=⇑S.aK
 bl:(⇑S.aK:Int)<=most
 bd:∀b∈S.aK,Ln b
 up:∀u,S.aF=some u->∃x z,S.aK[0]?=some x/\z∈([2,3,5]:List Int)/\u=red x.aP.1 (x.aP.2*z)
 hs:List.Sublist (S.holds.map (·.1)) S.players
 hr:∀x∈S.holds,JJ (S.ak.map (·.1)) ⇑S.aK x.2
 no:En S S.aI
 nl:⇑S.aI<=9*⇑S.aK
 rp:B6 ⇑S.aK S.repeats
 ju:∀j,S.bT=some j->Pg ⇑S.aK S.repeats j
def xB {aK:List Sc.Lv} {upb:Option (Int×Int)} {S:bW} (eb:S.aK=aK) (eu:S.aF=upb) (bd:∀b∈aK,Ln b) (up:∀u,upb=some u->∃x z,aK[0]?=some x/\z∈([2,3,5]:List Int)/\u=red x.aP.1 (x.aP.2*z)) (b:Nat) (hb:b<⇑aK):IQ (S.len b):=by
 let hm:IQ (S.aP b):=by
  unfold bW.aP;rw[eb,zd hb];let⟨m1,m2,m3,m4,m5⟩:=jK (bd _ (ym hb)).1;exact HV nofun nofun nofun nofun
 unfold bW.len;rw[eu];cases q:upb with
 | none=>exact hm
 | some u=>
  dsimp only;split
  ·let⟨x,z,e1,e2,e3⟩:=up u q
   let⟨m1,m2,m3,m4,m5⟩:=jK (bd _ (zC e1)).1;rw[e3];let z1:2<=z/\z<=5:=by
    simp only[zD,zE,or_false] at e2;omega
   let p1:0<x.aP.2*z:=Int.mul_pos nofun nofun;let p2:x.aP.2*z<=32*5:=Int.mul_le_mul m5 z1.2 nofun ∅;exact HV nofun nofun p1 nofun
  ·exact hm
inductive rW (K:yB) (vs:List V) (H:Hp) (Q:VK) (E:XK):Prop
 | mk (a:Addr) (ns:List Int) (most:Int) (_:vs=[.ref a,.int most]) (_:aH K H a (ns.map V.int)) (_:⇑ns<=1000) (_:1<=most) (_:most<=24) (_:∀S p H',nI most S->au H H'->kM H' p S->Q (.ref p) H')
def sS:cV P w base 4 T.kc (rW K):=by
 nomatch T.kc,["_law_script","_law_most","_law_m","_law_players","_law_instruments","_law_many","_law_bars","_law_upbeat","_law_holds","_law_notes","_law_repeats","_law_jump","_law_staffs"]
 let⟨a,ns,most,rfl,hS,nl,mo1,mo2,kk⟩:=h;let sl:=yC;refine{_,(af (bJ 2 qN (bN (bQ T) hr T.cy (aa (bN (bZ T) hr T.cz (aa (pv 0) (aa ae ag))) (aa ae ag))))
  (af (bJ 3 qN (bN (eR T) hr T.d6 (aa (aq aU (pv 2) ae) (aa (aq aS ae (aq aQ (pv 2) ae)) ag))))
  (af (bJ 4 qN (bN (lB T) hr T.fe (aa (bN (bZ T) hr T.cz (aa (pv 0) (aa ae ag))) ag)))
  (af (bJ 5 qN (aq aS ae (aq aQ (bN (bQ T) hr T.cy (aa (bN (bZ T) hr T.cz (aa (pv 0) (aa ae ag))) (aa ae ag))) (pv 1))))
  (af (bJ 6 qN (bN (uX T) hr T.lS (aa (bN (bZ T) hr T.cz (aa (pv 0) (aa ae ag))) (aa (pv 5) ag))))
  (af (bJ 7 qN aR)
  (af (aG (ptr cW (aq aQ (aq aU (pv 2) ae) ae) ae)
  (aj (bJ 7 qN (bN (fO T) hr T.fG (aa (bG (bG (fw (pv 6) ae) ae) ae) (aa (aq dQ (bG (bG (fw (pv 6) ae) ae) ae) (fw (aY (aa ae (aa ae (aa ae ag)))) (aq aQ (aq aU (pv 2) ae) ae))) ag)))))
  ax)
  (af (bJ 8 qN (bN (sW T) hr T.kh (aa (bN (bZ T) hr T.cz (aa (pv 0) (aa ae ag))) (aa (pv 3) (aa (pv 4) (aa (pv 5) ag))))))
  (af (bJ 9 qN (bN (sU T) hr T.kf (aa (bN (bZ T) hr T.cz (aa (pv 0) (aa ae ag))) (aa (pv 3) (aa (pv 6) (aa (pv 7) ag))))))
  (af (bJ 10 qN (bN (pA T) hr T.hJ (aa (bN (bZ T) hr T.cz (aa (pv 0) (aa ae ag))) (aa (pv 5) ag))))
  (af (bJ 11 qN (bN (uV T) hr T.lP (aa (bN (bZ T) hr T.cz (aa (pv 0) (aa ae ag))) (aa (pv 5) (aa (pv 10) ag)))))
  (af (bJ 12 qN (bN (qR T) hr T.jn (aa (bN (bZ T) hr T.cz (aa (pv 0) (aa ae ag))) (aa (pv 3) ag))))
  (aj (ao (bz (aa (pv 3) (aa (pv 4) (aa (pv 12) (aa (pv 6) (aa (pv 7) (aa (pv 8) (aa (pv 9) (aa (pv 10) (aa (pv 11) ag)))))))))))))))))))))))),?_}
 ac_rfl;exists a,ns,0,rfl,hS,(by decide),nl,λc0=>?_;exists c0,1,rfl,(by decide),(by decide),?_;let m0:0<=mixed c0 1:=zw _ ∅;let m1:mixed c0 1<2147483399:=zt _ ∅;generalize mixed c0 1=m at m0 m1;let a0:0<=m%4:=zw _ ∅;let a1:m%4<4:=zt _ ∅;left;refine{_,_,rfl,zW m0 ∅,?_,nofun,nofun,λps pp H1 pl pok s1 hpp=>?_}
 ·have:=zX (a:=m) 4 m0;omega
 let Ru:1<=⇑ps/\⇑ps<=4:=nofun
 exists a,ns,1,rfl,s1.seq hS,(by decide),nl,λc1=>?_;left;intro ins ip iv H2 iok s2 hip ili;exists a,ns,2,rfl,(s1.trans s2).seq hS,(by decide),nl,λc2=>?_;exists c2,2,rfl,(by decide),(by decide),?_;let n0:0<=mixed c2 2:=zw _ ∅;generalize mixed c2 2=n at n0;exists by show 0<most;omega,?_
 let d0:0<=n%most:=zw _ nofun;let d1:n%most<most:=zt _ nofun;exists a,ns,2,rfl,(s1.trans s2).seq hS,(by decide),nl,λc3=>?_;exists c3,_,rfl,nofun,nofun,λaK bp bv H3 bl bok s3 nb hbp ilb=>?_;let bl2:((⇑aK:Nat):Int)=1+n%most:=nofun
 let bvl:=aO ilb;let s03:=(s1.trans s2).trans s3;let x0:aK[0]?=some (aK[0]'nofun):=zd nofun;generalize aK[0]'nofun=x at x0;let⟨y,hy,iy⟩:=cT ilb (i:=0) (zd nofun);let ey:y=x:=by rw[x0] at hy;exact(yk hy).symm
 subst ey;let⟨ab,mv,qb,ev,hab,imv,_⟩:=vC iy;let xin:y.aP∈Dd:=(bok y (zC x0)).1;let⟨e1,e2,e3,e4,e5⟩:=jK xin;let av:bv[0]?=some (.ref ab):=by rw[<-ev];exact zd nofun
 cases fc (o:=some y.aP) imv with
 | ref hmv=>
 rename_i am;left;refine join (λU H'=>au H3 H'/\∃(upb:Option (Int×Int)) (uv:V),U=[some (.ref a),some (.int most),some (.int m),some (.ref pp),some (.ref ip),some (.int (1+n%most)),some (.ref bp),some uv,none,none,none,none,none]/\Is H' (dO dL upb) uv/\∀u,upb=some u->∃x z,aK[0]?=some x/\z∈([2,3,5]:List Int)/\u=red x.aP.1 (x.aP.2*z)) (λN hN cc=>?_) (λN hN cc=>?_) ?_
 ·left
  refine{bp,bv,0,_,rfl,rfl,aH.of hbp,bC av,?_};exists bp,bv,0,_,rfl,rfl,aH.of hbp,bC av,?_;exists by show 3<=sizeLine;omega,?_
  intros p4 H4 s4 h4;let g0:0<=m/64%3:=zw _ ∅;let g1:m/64%3<3:=zt _ ∅;obtain⟨jj,hjj⟩:∃j:Nat,m/64%3=(j:Int):={(m/64%3).toNat,nofun}
  obtain⟨z,hz,zi⟩:∃z:Int,[V.int 2,V.int 3,V.int 5][jj]?=some (.int z)/\z∈([2,3,5]:List Int):=by
   have:jj<3:=nofun
   match jj,this with
   | 0,_=>exact{2,rfl,∅}
   | 1,_=>exact{3,rfl,∅}
   | 2,_=>exact{5,rfl,∅}
  let z1:2<=z/\z<=5:=by
   simp only[zD,zE,or_false] at zi;omega
  exists p4,_,m/64%3,.int z,rfl,rfl,aH.of h4,(by rw[hjj];exact bC hz),?_;exists .inl {(nofun),nofun},?_;let p1:0<y.aP.2*z:=Int.mul_pos nofun nofun;let p2:y.aP.2*z<=32*5:=Int.mul_le_mul e5 z1.2 nofun ∅;refine{_,_,rfl,nofun,p1,(cm (n:=10) nofun nofun).mono ∅,λp5 H5 s5 h5=>?_};change hN _ _ {s4.trans s5,some (red y.aP.1 (y.aP.2*z)),.ref p5,rfl,iB h5,λu q=>by cases q;exact{(y),z,x0,zi,rfl}}
 ·left
  exact hN _ _ {au.refl _,none,.bI,rfl,by unfold dO Is;rfl,λu z=>by cases z}
 rintro U4 H4 ⟨s4,upb,uv,rfl,iuv,uok⟩;let s04:=s03.trans s4;exists a,ns,1,rfl,s04.seq hS,(by decide),nl,λc5=>?_;left;let s14:=(s2.trans s3).trans s4;let s24:=s3.trans s4;refine{c5,_,pp,ip,ps,ins,iv,rfl,s14 _ _ hpp,s24 _ _ hip,ili.mono s24,nofun,by have:=iok.1;omega,nofun,λhs hp hv H5 hsub hrow s5 hhp rlh=>?_};let s05:=s04.trans s5;exists a,ns,3,rfl,s05.seq hS,(by decide),nl,λc6=>?_;left;let s15:=s14.trans s5;let s25:=s24.trans s5;let s35:=s4.trans s5;refine{c6,pp,bp,{players:=ps,aK:=aK,aF:=upb},bv,uv,rfl,s15 _ _ hpp,s35 _ _ hbp,ilb.mono s35,iuv.mono s5,by show ⇑ps<=9;omega,pok.2,by show ⇑aK<=200;omega,bok,xB rfl rfl bok uok,λnts np nv H6 nok nlen s6 hnp rln=>?_};let s06:=s05.trans s6;exists a,ns,4,rfl,s06.seq hS,(by decide),nl,λc7=>?_;exists c7,_,rfl,nofun,λrs rp rv H7 rok s7 hrp ilr=>?_;let s07:=s06.trans s7;exists a,ns,4,rfl,s07.seq hS,(by decide),nl,λc8=>?_;left;let rsl:PU H7 rp rs:={by have:=rok.1;omega,λr hr'=>by have:=(rok.2.1 r hr').2.2.2.2.2.2.1;omega,rv,hrp,ilr}
 refine{c8,_,rp,rs,rfl,rsl,rok,nofun,nofun,λjo jv H8 jok s8 ij=>?_};let s08:=s07.trans s8;exists a,ns,0,rfl,s08.seq hS,(by decide),nl,λc9=>?_;left;let s18:=((s15.trans s6).trans s7).trans s8;refine{c9,pp,ps,rfl,s18 _ _ hpp,pok.2,nofun,λsts sp sv H9 stok s9 hsp ils=>?_};exists by show 9<=sizeLine;omega,?_
 intros pa Ha sa ha;let s9a:=sa;let s8a:=s9.trans sa;let s7a:=s8.trans s8a;let s6a:=s7.trans s7a;let s5a:=s6.trans s6a;let s4a:=s5.trans s5a;let s3a:=s4.trans s4a;let s2a:=s3.trans s3a;let s1a:=s2.trans s2a;refine kk {(ps),ins,sts,aK,upb,hs,nts,rs,jo} pa Ha ?_ (s08.trans s8a) ?_
 ·exact{Ru.1,Ru.2,pok,iok,stok,by show 1<=⇑aK;omega,by show(⇑aK:Int)<=most;omega,bok,uok,hsub,λx hx=>by show JJ (ins.map (·.1)) ⇑aK x.2;rw[bl2];exact hrow x hx,nok,nlen,by show B6 ⇑aK rs;rw[bl2];exact rok,λj hj=>by show Pg ⇑aK rs j;rw[bl2];exact jok j hj}
 ·exact{pp,ip,sp,bp,hp,np,rp,uv,jv,iv,sv,bv,hv,nv,rv,ha,s1a _ _ hpp,{s2a _ _ hip,ili.mono s2a},{s9a _ _ hsp,ils.mono s9a},{s3a _ _ hbp,ilb.mono s3a},iuv.mono s4a,{s5a _ _ hhp,rlh.imp λx v z=>z.mono s5a},{s6a _ _ hnp,rln.imp λx v z=>z.mono s6a},{s7a _ _ hrp,ilr.mono s7a},ij.mono s8a}
def m7 {n:Str} (h:gc n):⇑n<=12:=by
 unfold gc cK at h;split at h
 ·cases h
 ·split at h
  ·cases h
  ·omega
def Gi {n:Int} (h:NB n):⇑(dec n)<=5:=bD (by have:=h.1;omega) (by have:=h.2;omega)
theorem EE:∀es:List Sc.End,G8 es=⇑((es.map (·.2)).flatten)
 | []=>rfl
 | e::r=>by rw[zj,ya,zh,<-EE r];rfl
theorem Fi {n:Nat} (hn:n<=999):∀{l rs:List Rep},(rs++l).Pairwise (λa b=>a.last<b.first)->(∀r∈l,Em n r)->vL n rs l
 | [],_,_,_=>trivial
 | r::l,rs,asc,ok=>by
  let⟨h1,h2,h3,h4,h5,e1,e2,e3,e4,e5⟩:=ok r zr;refine{λb hb=>?_,?_,{by rw[EE];omega,nofun,nofun,nofun},Fi hn (by rw[zF];exact asc) λx hx=>ok x (zp _ hx)}
  ·rcases zG.mp hb with z | z
   ·simp only[zD,zE,or_false] at z
    rcases z with z | z <;> omega
   ·let⟨e,he,rfl⟩:=zH.mp z
    have:=(e3 e he).2.1;omega
  ·let fin:(decide (r.first<=r.last)&&fQ r)=true:=by rw[zg h2];exact e1
   unfold kX;cases q:rs.getLast? with
   | none=>exact fin
   | some p=>
    have:=(zU.mp asc).2.2 p (List.mem_of_getLast? q) r zr;dsimp only;rw[if_neg nofun];exact fin
def O1 {most:Int} {S:bW} (hm:most<=24) (D:nI most S):Uy S:=by
 let bl:=D.bl;let b1:=D.b1;let pl:=D.pl;let⟨i1,i2,i3⟩:=D.ins;let⟨t1,t2,t3,t4⟩:=D.st;let nl:=D.nl;let⟨r1,r2,r3⟩:=D.rp;let hl:=D.hs.length_le;rw[za] at hl;refine{D.pn.2,nofun,i2.2,nofun,t2.2,t3,λx hx=>(t4 x hx).2.2,λx hx=>by have:=(t4 x hx).2.1;omega,nofun,nofun,λb hb=>?_,λu hu=>?_,D.hs.nodup D.pn.2,nofun,λx hx=>?_,D.no.1,nofun,λx hx=>?_,Fi nofun (by rw[List.nil_append];exact r3) r2,nofun,λr hr=>?_,λj hj=>?_}
 ·let⟨m1,m2,m3,m4,m5⟩:=jK (D.bd b hb).1
  exact{(nofun),nofun,nofun,nofun}
 ·let⟨x,z,e1,e2,e3⟩:=D.up u hu
  let xin:=(D.bd x (zC e1)).1;let⟨m1,m2,m3,m4,m5⟩:=jK xin;refine{nofun,?_,?_}
  ·unfold bW.aP
   rw[e1,e3];exact LC x.aP xin z e2
  ·let z1:2<=z/\z<=5:=by
    simp only[zD,zE,or_false] at e2;omega
   let p1:0<x.aP.2*z:=Int.mul_pos nofun nofun;let p2:x.aP.2*z<=32*5:=Int.mul_le_mul m5 z1.2 nofun ∅;let⟨q1,q2,q3,q4⟩:=HV (t:=x.aP.1) (b:=x.aP.2*z) nofun nofun p1 nofun;let⟨_,q5,_⟩:=q1.pos;rw[e3];exact{(cm (n:=10) nofun nofun).mono ∅,(cm (n:=10) nofun nofun).mono ∅}
 ·let⟨h1,h2,h3,h4⟩:=D.hr x hx
  exact{h1,nofun,h3,D.hs.subset (zP (f:=λy:Str×List (Int×Str)=>y.1) hx),λh hh=>{(h4 h hh).2.1,(h4 h hh).2.2}}
 ·let⟨h1,h2,h3,h4,h5,h6,h7⟩:=D.no.2 x hx
  exact{h1,h2,h3,h4,λit hit=>(h5 it hit).1,h6}
 ·have:=(r2 r hr).2.2.2.2.2.2.1
  omega
 ·let⟨j1,j2,j3,j4,j5⟩:=D.ju j hj
  refine{λb hb=>?_,j1};rcases zG.mp hb with z | z
  ·simp only[zD,zE,or_false] at z
   rcases z with z | z | z <;> omega
  ·cases q:j.gw with
   | none=>rw[q] at z;cases z
   | some c=>
    rw[q] at z;have:b=c:=by simpa using z
    have:=(j5 c q).2;omega
def BV {many:Int} {r:Rep} (hm:many<=200) (h:Em many r):Lf r:=by
 let⟨h1,h2,h3,h4,h5,e1,e2,e3,e4,e5⟩:=h;exact{{{(h1),nofun},{(nofun),nofun},h4,h5,λe he=>{by have:=(e3 e he).1;omega,by have:=(e3 e he).2.1;omega,(e3 e he).2.2.1,(e3 e he).2.2.2.2}},e2,λe he=>(e3 e he).2.2.2.1}
def Nl {most:Int} {S:bW} (hm:most<=24) (D:nI most S):∀t∈eC S,TD t:=by
 let bl:=D.bl;let b1:=D.b1;let pl:=D.pl;let⟨i1,i2,i3⟩:=D.ins;let⟨t1,t2,t3,t4⟩:=D.st;let⟨r1,r2,r3⟩:=D.rp;let pnm:∀p∈S.players,gc p:=D.pn.1;let inm:∀p∈S.ak.map (·.1),gc p:=i2.1;intro t ht;unfold eC at ht;simp only[zG] at ht;rcases ht with((((((ht | ht) | ht) | ht) | ht) | ht) | ht) | (ht | ht)
 ·let⟨n,hn,rfl⟩:=zH.mp ht
  refine{pnm n hn,by show 2<=100;decide,λw hw=>?_};simp only[Sc.wordsOf,zD,zE,or_false] at hw;rcases hw with rfl | rfl
  ·decide
  ·have:=m7 (pnm _ hn);omega
 ·let⟨x,hx,rfl⟩:=zH.mp ht
  let⟨q1,q2,q3,q4,q5,q6⟩:=i3 x hx;let nx:=inm x.1 (zP (f:=λy:Str×(Int×Int)×(Int×Int)=>y.1) hx);let⟨p1,p2,_⟩:=q4.pos;refine{{(nx),q1,q2,q3,q4,q5,q6},by show 5<=100;decide,λw hw=>?_};simp only[Sc.wordsOf,zD,zE,or_false] at hw;let⟨o1,o2,o3,o4,_⟩:=q1;rcases hw with rfl | rfl | rfl | rfl | rfl
  ·decide
  ·have:=m7 nx;omega
  ·have:=bD (n:=x.2.1.1) nofun nofun;omega
  ·have:=bD (n:=x.2.1.2) nofun nofun;omega
  ·have:=kA (x:=x.2.2) nofun q5 nofun q6;omega
 ·let⟨x,hx,rfl⟩:=zH.mp ht
  let⟨q1,q2,q3⟩:=t4 x hx;let nx:=t2.1 x.1 (zP (f:=λy:Str×List Str=>y.1) hx);refine{{nx,q1,λp hp=>pnm p (q3 p hp)},by show ⇑x.2+1+1<=100;omega,λw hw=>?_};simp only[Sc.wordsOf,zD] at hw;rcases hw with rfl | rfl | hw
  ·decide
  ·have:=m7 nx;omega
  ·have:=m7 (pnm w (q3 w hw));omega
 ·let⟨b,hb,rfl⟩:=zH.mp ht
  let⟨q1,q2,q3,q4,q5⟩:=D.bd b hb;let⟨m1,m2,m3,m4,m5⟩:=jK q1;refine{{(m1),nofun,m3,q2,q3,q4},by show ⇑b.marks+1+1+1<=100;omega,λw hw=>?_};simp only[Sc.wordsOf,zD] at hw;rcases hw with rfl | rfl | rfl | hw
  ·decide
  ·let l1:=bD (n:=b.aP.1) nofun nofun
   let l2:=bD (n:=b.aP.2) nofun nofun;rw[len_app,len_app];have:("/": Str).length=1:=rfl;omega
  ·have:=bD (n:=b.key) nofun nofun;omega
  ·have:=m7 (q4 w hw);omega
 ·let⟨u,hu,rfl⟩:=zH.mp ht
  let hu':S.aF=some u:=by
   cases q:S.aF with
   | none=>rw[q] at hu;cases hu
   | some v=>
    rw[q] at hu;have:u=v:=by simpa using hu
    rw[this]
  let ln:=xB (S:=S) rfl rfl D.bd D.up 0 nofun;let el:S.len 0=u:=by unfold bW.len;rw[hu'];rfl
  rw[el] at ln;let⟨l1,l2,l3,l4⟩:=ln;let⟨p1,p2,_⟩:=l1.pos;refine{{(l1),l2,nofun,nofun},by show 2<=100;decide,λw hw=>?_};simp only[Sc.wordsOf,zD,zE,or_false] at hw;rcases hw with rfl | rfl
  ·decide
  ·have:=kA (x:=u) nofun nofun nofun nofun;omega
 ·let⟨l,hl,ht⟩:=List.mem_flatten.mp ht
  let⟨x,hx,rfl⟩:=zH.mp hl;let⟨h,hh,rfl⟩:=zH.mp ht;let⟨h1,h2,h3,h4⟩:=D.hr x hx;let np:=pnm x.1 (D.hs.subset (zP (f:=λy:Str×List (Int×Str)=>y.1) hx));let nb:NB h.1:={(h4 h hh).1,by have:=(h4 h hh).2.1;omega}
  let ni:=inm h.2 (h4 h hh).2.2;refine{{(np),nb,ni},by show 4<=100;decide,λw hw=>?_};simp only[Sc.wordsOf,zD,zE,or_false] at hw;rcases hw with rfl | rfl | rfl | rfl
  ·decide
  ·have:=m7 np;omega
  ·have:=Gi nb;omega
  ·have:=m7 ni;omega
 ·let⟨x,hx,rfl⟩:=zH.mp ht
  let⟨h1,h2,h3,h4,h5,h6,h7⟩:=D.no.2 x hx;let nb:NB x.1.1:={(h1),nofun}
  refine{{nb,pnm _ h3,h5,h7},by show(x.2.map pE).length+1+1+1<=100;rw[za];omega,λw hw=>?_};simp only[Sc.wordsOf,zD] at hw;rcases hw with rfl | rfl | rfl | hw
  ·decide
  ·have:=Gi nb;omega
  ·have:=m7 (pnm _ h3);omega
  ·let⟨it,hit,rfl⟩:=zH.mp hw
   have:=Kw (h5 it hit);omega
 ·let⟨r,hr,rfl⟩:=zH.mp ht
  let⟨⟨q1,q2,q3,q4,q5⟩,q6,q7⟩:=BV nofun (r2 r hr);refine{{(q1),q2,q3,q4,q5},by show(r.ends.map oy).length+1+1+1+1<=100;rw[za];omega,λw hw=>?_};simp only[Sc.wordsOf,zD] at hw;rcases hw with rfl | rfl | rfl | rfl | hw
  ·decide
  ·have:=Gi q1;omega
  ·have:=Gi q2;omega
  ·have:=bD (n:=r.times) nofun nofun;omega
  ·let⟨e,he,rfl⟩:=zH.mp hw
   have:=F9 (q5 e he) (q7 e he);omega
 ·let⟨j,hj,rfl⟩:=zH.mp ht
  let hj':S.bT=some j:=by
   cases q:S.bT with
   | none=>rw[q] at hj;cases hj
   | some v=>
    rw[q] at hj;have:j=v:=by simpa using hj
    rw[this]
  let⟨j1,j2,j3,j4,j5⟩:=D.ju j hj';let n1:NB j.vE:={(j2.1),nofun}
  let n2:NB j.y7:={(j3.1),nofun}
  let n3:NB j.dy:={(j4.1),nofun}
  let n4:∀c,j.gw=some c->NB c:=λc hc=>{(j5 c hc).1,by have:=(j5 c hc).2;omega}
  refine{{(n1),n2,n3,n4},by show 5<=100;decide,λw hw=>?_};simp only[Sc.wordsOf,zD,zE,or_false] at hw;rcases hw with rfl | rfl | rfl | rfl | rfl
  ·decide
  ·have:=Gi n1;omega
  ·have:=Gi n2;omega
  ·have:=Gi n3;omega
  ·unfold ctxt
   cases q:j.gw with
   | none=>decide
   | some c=>have:=Gi (n4 c q);dsimp only;omega
theorem Jw {α:Type} {k:Nat}:∀{l:List (List α)},(∀x∈l,⇑x<=k)->⇑l.flatten<=k*⇑l
 | [],_=>by simp
 | x::r,h=>by
  let ih:=Jw (l:=r) λy hy=>h y (zp _ hy);have:=h x zr;rw[ya,zh,zv,Nat.mul_succ];omega
def KO {most:Int} {S:bW} (hm:most<=24) (D:nI most S):⇑(eC S)<=1000/\eC S≠[]:=by
 let bl:=D.bl;let b1:=D.b1;let pl:=D.pl;let Ru:=D.Ru;let i1:=D.ins.1;let t1:=D.st.1;let r1:=D.rp.1;let nl:=D.nl;let hl:=D.hs.length_le;rw[za] at hl;let f:=Jw (k:=4) (l:=S.holds.map λx=>x.2.map λh=>Told.holds x.1 h.1 h.2) λy hy=>by
  let⟨x,hx,rfl⟩:=zH.mp hy;rw[za];exact(D.hr x hx).2.1
 rw[za] at f;let u:⇑S.aF.toList<=1:=by cases S.aF <;> simp
 let j:⇑S.bT.toList<=1:=by cases S.bT <;> simp
 refine{?_,λz=>?_}
 ·unfold eC
  simp only[zh,za];omega
 ·have:=congrArg List.length z
  unfold eC at this;simp only[zh,za,List.length_nil] at this;omega
def Ah:Sp:=λvs H Q _=>∃(i:Int),vs=[.int i]/\Q (.bl true) H
def AM:cV P w base 1 T.pO Ah:=by
 nomatch T.pO,["_law_found"]
 let⟨i,rfl,kk⟩:=h;refine{_,(aj (ao (pf (CS .int (by decide +kernel) (pv 0) T.ik T.MN) (mW (QF (CS .bl (by decide +kernel) (pv 0) T.ik T.QO)))))),?_};ac_rfl;change kk
inductive Ct (vs:List V) (H:Hp) (Q:VK) (E:XK):Prop
 | mk (v:V) (r:Rep) (n:Int) (_:vs=[v,.int n]) (_:Is H (gq r) v) (_:Rw r) (_:∀D H',au H H'->H D=none->H' D=some (.lst ((MY r n).map V.int))->Q (.ref D) H')
def C6:cV P w base 1 T.tR Ct:=by
 nomatch T.tR,["_law_repeat","_law_number","_law_out","_law_bar","_law_mine"]
 let⟨v,r,n,rfl,iv,rd,kk⟩:=h;let sl:=yC;let⟨a,e,rfl,ha,he⟩:=dB iv;let⟨r1,r2,r3,r4,r5,r6,r7⟩:=rd;unfold Is at he;let⟨e',us,ee,hu,ilu⟩:=he;cases ee;let⟨ps,f1,f2,f3⟩:=qZ ilu;let psl:⇑ps<=9:=by rw[<-f1,za] at r6;exact r6
 refine{_,(af (bJ 2 qN (aY ag))
  (af (b8 PassesOwn.never rfl (kr (by rfl) T.cF (aa (bG (pv 0) ae) (aa (aq aS (bG (pv 0) ae) ae) ag))) (iZ 3 qN)
  (af (MF (i:=4) (ts:=["_law_begin","_law_passes"]) (ys:=["_law_bar"]) (js:=[3]) (g:=(Dp K 2 (fm (bS 0) (fm (bS 1) Dq)))) (tc:=(ki (e9 (sM λi j=>.bl (decide (i<=j))) (aX 0) (aX 2)))) (te:=(aX 1)) (iY (bG (pv 0) ae)) (dP (n:=2) rfl (aM (fZ 0) (aM (fZ 1) de))) (fL (ptr fN (pv 0) (pv 2))) (pv 1) qN)
   (aj (aG (PW.pt (dY (ptr (sQ hr.units) (pv 4) (aY ag)) (dw (gB iP (pv 1) (fw (pv 4) (mV iT ae)) (by with_unfolding_all rfl)))))
   (aj (bw (bO yD yF yE bu (pv 2) (aa (pv 3) ag))))
   ax))))
  (aj (ao (pv 2))))),?_}
 ac_rfl;left
 intros D nD s1 hD H1
 let ha1:=s1 _ _ ha;exists _,_,rfl,{(nofun),nofun,nofun,nofun},?_;refine eV (λi U H'=>∃(w3 w4:Option V),au H H'/\H' D=some (.lst (((cZ r.first i).filter (Lp r.ends n)).map V.int))/\U=[some (.ref a),some (.int n),some (.ref D),w3,w4]) {(none),none,s1,hD,rfl} ?_ ?_
 ·intro i U H2 hi hh
  refine cC λN kN0 kR0 _ _=>?_;let⟨w3,w4,s2,h2,rfl⟩:=hh;let ha2:=s2 _ _ ha;let fl:⇑((cZ r.first i).filter (Lp r.ends n))<=i:=zM (List.length_filter_le _ _) (by unfold cZ;rw[za,zR];exact zm _);let fs:(cZ r.first (i+1)).filter (Lp r.ends n)=(cZ r.first i).filter (Lp r.ends n)++if Lp r.ends n (r.first+(i:Int))=true then [r.first+(i:Int)] else []:=by
   rw[nK,List.filter_append,List.filter_cons,List.filter_nil]
  exists{_,cY.of (s2 _ _ hu)},?_;refine Iu (ws:=ps) (enc:=λz:Sc.End×V=>z.2) (λz=>decide (z.1.1<=r.first+(i:Int))) (λz=>jQ z.1.2) (λU=>∃u v,U=[u,v,some (.int (r.first+(i:Int)))]) nofun (by rw[f2];exact s2 _ _ hu) {(none),none,rfl} ?_ ?_
  ·rintro z U H3 R N hz s3 ⟨u,v,rfl⟩ hR hN
   let⟨az,qz,ev,haz,hqz⟩:=pF ((f3 z hz).mono (s2.trans s3));rw[ev];refine{az,_,rfl,cY.of haz,rfl,?_};refine{_,_,rfl,{_,_,rfl,{rfl,?_}}};left
   by_cases c:z.1.1<=r.first+(i:Int)
   ·refine bU (zg c) ?_
    change hR (zg c) _ _ _ (au.refl _) (OS hqz) {_,_,rfl}
   ·refine b9 (ze c) ?_
    exact hN (ze c) _ _ (au.refl _) {_,_,rfl}
  intro M vs H3 s3 _ hM ilM;let ef:(ps.filter λz=>decide (z.1.1<=r.first+(i:Int))).map (λz=>jQ z.1.2)=(r.ends.filter λx=>decide (x.1<=r.first+(i:Int))).map λx=>jQ x.2:=by
   rw[<-f1,List.filter_map,zB];rfl
  rw[ef] at ilM;let s03:=s2.trans s3;let h23:=s3 _ _ h2;let okd:Lp r.ends n (r.first+(i:Int))=((r.ends.filter λe=>decide (e.1<=r.first+(i:Int))).getLast?.map λe=>decide (n∈e.2)).getD true:=rfl;rw[okd] at fs;clear okd ef;generalize (r.ends.filter λe=>decide (e.1<=r.first+(i:Int)))=es at ilM fs;let vl:=aO ilM;exists by show 0<=sizeLine;omega,?_
  intros z4 H4 s4 h4;let hM4:=s4 _ _ hM;let h24:=s4 _ _ h23;let s04:=s03.trans s4;refine{M,z4,_,_,rfl,rfl,.inl {aH.of hM4,aH.of h4},.inr (.inl rfl),?_};refine{_,rfl,?_};refine CV ((es.getLast?.map λe=>decide (n∈e.2)).getD true) ?_ ?_ ?_
  ·intro c Z hz
   let ne:es≠[]:=λz=>by
    rw[z] at vl;rw[yt.mp vl] at c;simp at c
   let ep:0<⇑es:=yr.mpr ne;let v0:vs[⇑vs-1]?=some (vs[⇑vs-1]'nofun):=zd nofun;let⟨x,hx,ix⟩:=cT ilM v0;rw[vl] at hx;let gl:es.getLast?=some x:=by rw[List.getLast?_eq_getElem?];exact hx
   rw[gl] at hz;let⟨qx,ex,hqx⟩:=OU ix;rw[ex] at v0;exists M,vs,-1,_,rfl,rfl,aH.of hM4,oh v0,?_;exists qx,_,rfl,.inr (cY.of (s4 _ _ hqx)),rfl,nY _,?_;show∃k,V.bl (Di (.int n) (x.2.map V.int))=.bl k/\_;rw[ng];exact{_,rfl,hz}
  ·intro c
   let e0:vs=[]:=ye c;rw[e0] at vl;rw[yt.mp vl.symm];rfl
  ·cases cv:(es.getLast?.map λe=>decide (n∈e.2)).getD true with
   | true=>
    rw[cv,if_pos rfl] at fs;refine bU rfl ?_;exists .inl {rfl,_,aH.of h24},?_;exists D,_,_,rfl,rfl,h24,by rw[za];omega,?_
    change{_,_,bj nD s04,by rw[aB,fs,zk];rfl,rfl}
   | false=>
    rw[cv,if_neg (by simp),zV] at fs;refine b9 rfl ?_;change{_,_,s04,by rw[fs];exact h24,rfl}
 ·rintro U H2 ⟨w3,w4,s2,h2,rfl⟩
  change kk D _ s2 nD h2
inductive uD (vs:List V) (H:Hp) (Q:VK) (E:XK):Prop
 | mk (d:Addr) (c:Int) (kvs:List (Key×V)) (S:bW) (_:vs=[.ref d,.int c,.bl false]) (_:H d=some (.dK kvs)) (_:Ll S H ⇑S.repeats kvs) (_:GR S) (_:Pl S) (_:∀p v H',au H H'->v=.ref p->pQ H H' (Er S false c) v->Q v H')
def uU:cV P w base 2 T.lO uD:=by
 nomatch T.lO,["_law_firsts","_law_at","_law_once","_law_repeat","_law_out","_law_number"]
 let⟨d,c,kvs,S,rfl,hd,⟨bg,bc⟩,⟨rd,rl,rp,rb⟩,ed,kk⟩:=h;let sl:=yC;rw[zN] at bc;refine{_,(af (aG (bE (sP (fC hr) (pv 1) (pv 0)))
  (aj (ao (bz (aa (aY (aa (pv 1) ag)) (aa (pv 1) ag)))))
  ax)
  (af (bJ 3 qN (vA (fC hr) (pv 0) (pv 1) (λ_ _=>rfl)))
  (af (bJ 4 qN (aY ag))
  (af (b8 PassesOwn.never rfl (kr (by rfl) T.cF (aa (fw (aY (aa ae (aa (bG (pv 3) ae) ag))) (mD K3 T.MN (aa (pv 2) ag))) (aa (aq aS (bG (pv 3) ae) ae) ag))) (iZ 5 qN)
  (aj (bw (bO yD PySem.F.slot_list_extend PySem.F.type_list_extend gg (pv 4) (aa (bN (C6 T) hr T.tR (aa (pv 3) (aa (pv 5) ag))) ag)))))
  (aj (ao (bz (aa (pv 4) (aa (bG (pv 3) ae) ag))))))))),?_}
 ac_rfl;exists d,_,rfl,.inl {kvs,.inl c,.inl hd,rfl,rfl},?_;refine{_,rfl,?_};cases gv:cR kvs (.inl c) with
 | none=>
  rw[Jd λr hr' z=>bc r hr' (by rw[z];exact gv)] at kk;refine bU rfl ?_;exists by show 1<=sizeLine;omega,?_
  intros q nq s1 h1 H1
  exists cH,?_;intros p2 H2 s2 h2;exact kk p2 _ _ (s1.trans s2) rfl {p2,q,rfl,h2,s2 _ _ h1,nq,by show 1<=18000;decide}
 | some v=>
  let⟨r,hr',rfl,ir⟩:=bg c v gv;let rr:=rd r hr';let⟨r1,r2,r3,r4,r5,r6,r7⟩:=id rr;let pl9:∀n,⇑(i4 r n)<=200:=λn=>by rw[Jm r2 (ed r hr') r7];exact OO r3 r1
  rw[LY rp rd hr'] at kk;let⟨ar,er,rfl,har,_⟩:=dB ir;refine b9 rfl ?_;exists d,.ref ar,rfl,.inl {kvs,.inl r.first,.inl hd,rfl,gv.symm},?_;left
  intros D nD s1 h1 H1
  let har1:=s1 _ _ har;exists cH,?_;intros l2 H2 s2 h2;let s02:=s1.trans s2;let h12:=s2 _ _ h1;let har2:=s02 _ _ har;exists l2,_,0,_,rfl,rfl,aH.of h2,bC (j:=0) rfl,?_;exists _,_,rfl,{(nofun),nofun,nofun,nofun},?_;refine eV (λi U H'=>∃(w5:Option V),au H H'/\H' D=some (.lst ((((cZ 1 i).map (i4 r)).flatten).map V.int))/\U=[some (.ref d),some (.int r.first),some (.bl false),some (.ref ar),some (.ref D),w5]) {(none),s02,h12,rfl} ?_ ?_
  ·intro i U H3 hi hh
   refine cC λN kN0 kR0 _ _=>?_;let⟨w5,s3,h3,rfl⟩:=hh;let l1:=xo pl9 i;let l2:=pl9 (1+(i:Int));exists .inl {rfl,_,aH.of h3},?_;exists _,r,_,rfl,ir.mono s3,rr,λD4 H4 s4 n4 h4=>?_;rw[<-Jm r2 (ed r hr') r7] at h4;refine .inl {D,D4,_,_,rfl,rfl,s4 _ _ h3,h4,by rw[za,za];omega,?_};change{_,bj nD (s3.trans s4),by rw[aB,nK];simp,rfl}
  ·rintro U H3 ⟨w5,s3,h3,rfl⟩
   rw[show(r.times+1-1).toNat=r.times.toNat from by omega] at h3;let har3:=s3 _ _ har;exists cH,?_;intros p4 H4 s4 h4;let l9:=xo pl9 r.times.toNat;exact kk p4 _ _ (s3.trans s4) rfl {p4,D,rfl,h4,s4 _ _ h3,nD,by show(((cZ 1 r.times.toNat).map (i4 r)).flatten).length<=18000;omega}
inductive wa (vs:List V) (H:Hp) (Q:VK) (E:XK):Prop
 | mk (p:Addr) (S:bW) (_:vs=[.ref p,.int 0,.bl false]) (_:kM H p S) (_:GR S) (_:Pl S) (_:⇑S.aK<=200) (_:∀D us k H',au H H'->H D=none->H' D=some (.lst us)->RL (pQ H H') (j6 S false 0 k).1 us->⇑us<=200->¬(j6 S false 0 k).2<⇑S.aK->Q (.ref D) H')
def xa:cV P w base 3 T.nG wa:=by
 nomatch T.nG,["_law_s","_law_at","_law_once","_law_firsts","_law_repeat","_law_rows"]
 let⟨p,S,rfl,la,rps,ed,b2,kk⟩:=h;let⟨rd,rn,rp,rb⟩:=id rps;let sl:=yC;let⟨pl,il,st,bl,hl,nl,rl,ub,jm,iv,sv,bv,hv,nv,rv,h1,h2,_,_,⟨h5,ilb⟩,_,_,_,⟨hre,ilr⟩,_⟩:=la.at';let rvl:=aO ilr;refine{_,(af (bJ 3 qN ku)
  (af (b8 PassesOwn.never rfl (aZ (bG (pv 0) ae)) (iZ 4 qN)
  (aj (ly (fC hr) (pv 3) (bG (pv 4) ae) (pv 4) rfl)))
  (af (bJ 5 qN (aY ag))
  (af (mU PassesOwn.never (ptr eZ (pv 1) (d9 aE T.bF (aa (bG (pv 0) ae) ag)))
  (af (bw (bO yD yF yE bu (pv 5) (aa (bN (uU T) hr T.lO (aa (pv 3) (aa (pv 1) (aa (pv 2) ag)))) ag)))
   (aj (bJ 1 qN (aq aS (bG (fw (pv 5) (mV iT ae)) ae) ae)))))
  (aj (ao (pv 5))))))),?_}
 ac_rfl;left
 intros d nd s1 hd H1
 let h11:=s1 _ _ h1;exists{_,aH.of (s1 _ _ hre)},?_;refine dr (K:=K) (a:=rl) (xs:=rv) (λi U H'=>∃(kvs:List (Key×V)) (w4:Option V),au H H'/\H' d=some (.dK kvs)/\⇑kvs<=i/\Ll S H i kvs/\U=[some (.ref p),some (.int 0),some (.bl false),some (.ref d),w4,none]) {[],none,s1,hd,zm _,Ll.nil,rfl} (λi U H' _ h=>by let⟨_,_,s,_⟩:=h;exact aH.of (s _ _ hre)) ?_ ?_
 ·intro i x U H2 hx hh
  refine cC λN kN0 kR0 _ _=>?_;let⟨kvs,w4,s2,hk,kl,bg,rfl⟩:=hh;let⟨r,hr',ir⟩:=cT ilr hx;let hi:=(zy.mp hx).1;let⟨ar,er,rfl,har,_⟩:=dB ir;let har2:=s2 _ _ har;let pl:=gQ kvs (.inl r.first) (.ref ar);exists d,_,rfl,.inl {_,.inl r.first,hk,rfl,nofun,rfl},?_;change{_,_,bj nd s2,aB,nofun,bg.put hr' ir,rfl}
 ·rintro U H2 ⟨kvs,w4,s2,hk,kl,bg,rfl⟩
  rw[rvl] at bg;exists by show 0<=sizeLine;omega,?_
  intro B nB;let s3:au H2 (upd H2 B (.lst [])):=bq nB;let hB:upd H2 B (.lst []) B=some (.lst []):=aB;let hB3:∀x,x≠B->upd H2 B (.lst []) x=H2 x:=λx ne=>aC ne;generalize upd H2 B (.lst [])=H3 at s3 hB hB3 ⊢;left;refine rO (λm U H'=>∃(k:Nat) (b:Int) (us:List V),m=(200-b).toNat/\(j6 S false 0 k).2=b/\0<=b/\b<=200/\⇑us<=b.toNat/\U=[some (.ref p),some (.int b),some (.bl false),some (.ref d),w4,some (.ref B)]/\au H2 H'/\H3 B≠none/\H' B=some (.lst us)/\RL (pQ H3 H') (j6 S false 0 k).1 us)
   (λU H'=>∃(k:Nat) (us:List V) (w1:Option V),¬(j6 S false 0 k).2<⇑S.aK/\⇑us<=200/\U=[some (.ref p),w1,some (.bl false),some (.ref d),w4,some (.ref B)]/\au H2 H'/\H' B=some (.lst us)/\RL (pQ H3 H') (j6 S false 0 k).1 us)
   {_,0,0,[],rfl,rfl,∅,∅,zm _,rfl,s3,by rw[hB];simp,hB,rfl} ?_ ?_
  ·rintro m U H4 ⟨k,b,us,rfl,gk,b0,b3,ul,rfl,s4,h3B,h4,rl4⟩ N hN
   let s04:=s2.trans s4;let h14:=s04 _ _ h1;exists bl,bv,rfl,.inl (aH.of (s04 _ _ h5)),?_;rw[aO ilb];left
   by_cases c1:b<⇑S.aK
   ·refine bU (zg c1) ?_
    let gs:j6 S false 0 (k+1)=((j6 S false 0 k).1++[Er S false b],(Er S false b).2+1):=by rw[j6,gk,if_pos c1]
    let gb:=RQ (once:=false) rps b0 c1;refine{λU H'=>∃(us:List V),⇑us<=b.toNat+1/\U=[some (.ref p),some (.int ((Er S false b).2+1)),some (.bl false),some (.ref d),w4,some (.ref B)]/\au H2 H'/\H' B=some (.lst us)/\RL (pQ H3 H') (j6 S false 0 (k+1)).1 us,?_,?_}
    ·rintro U' H' ⟨us,u1,rfl,z3,z4,z5⟩
     exact{_,nofun,k+1,_,us,rfl,by rw[gs],nofun,nofun,nofun,rfl,z3,h3B,z4,z5}
    ·left
     refine{.inl {rfl,_,aH.of h4},?_};exists d,b,kvs,S,rfl,s4 _ _ hk,bg.mono s04,rps,ed,λp5 v H5 s5 ev rw5=>?_;subst ev;let h45:=s5 _ _ h4;let nt5:cj (H5 B):=λ_ z=>by rw[h45] at z;cases z
     let⟨a5,q5,e5,ha5,hq5,nq5,l5⟩:=rw5;cases e5;refine{B,us,_,rfl,rfl,h45,nofun,?_};let s6:au H2 (upd H5 B (.lst (us++[.ref p5]))):=bj nB (s4.trans s5);let h6:upd H5 B (.lst (us++[.ref p5])) B=some (.lst (us++[.ref p5])):=aB;let rl6:RL (pQ H3 (upd H5 B (.lst (us++[.ref p5])))) (j6 S false 0 (k+1)).1 (us++[.ref p5]):=by
      rw[gs];exact RL.snoc (pQ.upd h3B nt5 {p5,q5,rfl,ha5,hq5,(hB3 q5 λe=>by rw[e,h4] at nq5;cases nq5).trans (s4.back nq5),l5}) (rl4.imp λx v z=>(z.mono s5).upd h3B nt5)
     let ha6:upd H5 B (.lst (us++[.ref p5])) p5=some (.tup [.ref q5,.int (Er S false b).2]):=by rw[aC λe=>nt5 _ (e▸ha5)];exact ha5
     generalize upd H5 B _=H6 at s6 h6 rl6 ha6 ⊢;exists B,_,-1,_,rfl,rfl,aH.of h6,rF _ _,?_;change{_,by rw[zh];show _+1<=_;omega,rfl,s6,h6,rl6}
   ·refine b9 (ze c1) ?_
    exact hN _ _ {k,us,_,by rw[gk];exact c1,nofun,rfl,s4,h4,rl4}
  ·rintro U H4 ⟨k,us,w1,gk,ul,rfl,s4,h4,rl4⟩
   change kk B us k _ (s2.trans s4) (s2.back nB) h4 (rl4.imp λx v z=>by let⟨a,q,z1,z2,z3,z4,z5⟩:=z;exact{a,q,z1,z2,z3,(s2.trans s3).back z4,z5}) ul gk
inductive Ai (vs:List V) (H:Hp) (Q:VK) (E:XK):Prop
 | mk (p:Addr) (S:bW) (_:vs=[.ref p]) (_:kM H p S) (_:S.bT=none) (_:GR S) (_:Pl S) (_:⇑S.aK<=200) (_:∀D k H',au H H'->H' D=some (.lst ((((j6 S false 0 k).1.map (·.1)).flatten).map V.int))->¬(j6 S false 0 k).2<⇑S.aK->Q (.ref D) H')
def AN:cV P w base 4 T.pP Ai:=by
 nomatch T.pP,["_law_s","_law_bars","_law_some","_law_last","_law_again"]
 let⟨p,S,rfl,la,ej,rps,ed,b2,kk⟩:=h;let sl:=yC;let⟨pl,il,st,bl,hl,nl,rl,ub,jm,iv,sv,bv,hv,nv,rv,h1,h2,_,_,_,_,_,_,_,hj⟩:=la.at';rw[ej] at hj;unfold dO Is at hj;subst hj;refine{_,(af (bJ 1 qN (aY ag))
  (af (b8 PassesOwn.never rfl (aZ (bN (xa T) hr T.nG (aa (pv 0) (aa ae (aa ky ag))))) (dP (n:=2) rfl (aM (iZ 2 qN) (aM (iZ 3 qN) de)))
  (af (bw (bO yD PySem.F.slot_list_extend PySem.F.type_list_extend gg (pv 1) (aa (pv 2) ag)))
   (aj (aG (PW.pt (dn (bE (fM (bG (pv 0) ae))) (cQ (ptr cW (pv 3) (bG (bG (pv 0) ae) ae)))))
   (aj Mu)
   ax))))
  (af (aG (bE (cu (bG (pv 0) ae)))
  (aj (ao (pv 1)))
  ax)
  By))),?_}
 ac_rfl;left
 intros D nD s1 hD H1
 exists p,S,rfl,la.mono s1,rps,ed,b2,λE us k H2 s2 nE hE rl2 ul gk=>?_;let nt1:H1 D≠none:=by rw[hD];simp
 let nDE:E≠D:=λz=>nt1 (by rw[<-z];exact nE);let rln:=rl2.len;generalize hg:(j6 S false 0 k).1=gs at rl2 rln;exists{_,aH.of hE},?_;refine dr (K:=K) (a:=E) (xs:=us) (λi U H'=>∃(bs:List Int) (w2 w3:Option V),au H H'/\H' E=some (.lst us)/\H' D=some (.lst (bs.map V.int))/\bs=((gs.take i).map (·.1)).flatten/\⇑bs<=18000*i/\RL (pQ H1 H') gs us/\U=[some (.ref p),some (.ref D),w2,w3,none]) {[],none,none,s1.trans s2,hE,s2 _ _ hD,rfl,zm _,rl2,rfl} (λi U H' _ h=>by let⟨_,_,_,_,h,_⟩:=h;exact aH.of h) ?_ ?_
 ·intro i x U H3 hx hh
  refine cC λN kN0 kR0 _ _=>?_;let⟨bs,w2,w3,s3,hE3,hD3,eb,bl3,rl3,rfl⟩:=hh;let⟨y,hy,a,q,rfl,ha,hq,nq,lq⟩:=rl3.at hx;let hi:=(zy.mp hx).1;let ntD:cj (H3 D):=λ_ z=>by rw[hD3] at z;cases z
  let e2:((gs.take (i+1)).map (·.1)).flatten=bs++y.1:=by rw[cM hy,zk,List.flatten_append,<-eb];simp
  refine{a,_,rfl,cY.of ha,rfl,?_};refine{_,_,rfl,{_,_,rfl,{rfl,?_}}};exists .inl {rfl,_,aH.of hD3},?_;left;refine .inl {D,q,_,_,rfl,rfl,hD3,hq,by rw[za,za];omega,?_};let s4:au H (upd H3 D (.lst (bs.map V.int++y.1.map V.int))):=bj nD s3;let h4:upd H3 D (.lst (bs.map V.int++y.1.map V.int)) D=some (.lst ((bs++y.1).map V.int)):=by rw[aB,zk]
  let hE4:upd H3 D (.lst (bs.map V.int++y.1.map V.int)) E=some (.lst us):=by rw[aC nDE];exact hE3
  let rl4:RL (pQ H1 (upd H3 D (.lst (bs.map V.int++y.1.map V.int)))) gs us:=rl3.imp λx v z=>z.upd nt1 ntD;generalize upd H3 D _=H4 at s4 h4 hE4 rl4 ⊢;let h14:=s4 _ _ h1;change{_,_,_,s4,hE4,h4,e2.symm,by rw[zh];omega,rl4,rfl}
 ·rintro U H3 ⟨bs,w2,w3,s3,hE3,hD3,eb,bl3,rl3,rfl⟩
  rw[rln,zN] at eb;let h13:=s3 _ _ h1;left;refine kk D k _ s3 ?_ gk;rw[hg,<-eb];exact hD3
inductive L0 (K:yB) (vs:List V) (H:Hp) (Q:VK) (E:XK):Prop
 | mk (a:Addr) (ns:List Int) (_:vs=[.ref a]) (_:aH K H a (ns.map V.int)) (_:⇑ns<=63) (_:∀H':Hp,Q (.bl true) H')
def Rc:∀x∈Dd,(red x.1 x.2).2 ∣ 960:=by decide +kernel
def Ss:∀x∈Dd,∀z∈([2,3,5]:List Int),(red x.1 (x.2*z)).2 ∣ 960:=by decide +kernel
def KN {most:Int} {S:bW} (D:nI most S) (b:Nat) (hb:b<⇑S.aK):S8 (S.len b):=by
 refine{xB rfl rfl D.bd D.up b hb,?_};let hm:(S.aP b).2 ∣ 960:=by
  unfold bW.aP;rw[zd hb];exact Rc _ (D.bd _ (ym hb)).1
 unfold bW.len;cases q:S.aF with
 | none=>exact hm
 | some u=>
  dsimp only;split
  ·let⟨x,z,e1,e2,e3⟩:=D.up u q
   rw[e3];exact Ss _ (D.bd _ (zC e1)).1 _ e2
  ·exact hm
def Nm {most:Int} {S:bW} (D:nI most S):nI most {S with bT:=none}:={D.Ru,D.pl,D.pn,D.ins,D.st,D.b1,D.bl,D.bd,D.up,D.hs,D.hr,D.no,D.nl,D.rp,λ_ z=>by cases z}
def QM (B:Dk P w K T) (F:Cf K T.lL):cV P w base 9 T.Ua (L0 K):=by
 nomatch T.Ua,["_law_script","_law_s","_law_score","_law_due","_law_found","_law_taken_here"]
 let⟨a,ns,rfl,hS,nl,kk⟩:=h;let sl:=yC;refine{_,(af (bJ 1 qN (bN (sS T) hr T.kc (aa (pv 0) (aa ae ag))))
  (af (bJ 1 qN (aq OH (dq Jg (pv 1) dN (dM ae)) (bz (aa aR ag))))
  (af (bJ 2 qN (bN (AH T B F) hr T.oZ (aa (bN (pw T) hr T.gZ (aa (pv 1) ag)) ag)))
  (af (bJ 3 qN (bN (AN T) hr T.pP (aa (pv 1) ag)))
  (af (bJ 4 qN (bN (BC T F) hr T.CP (aa (pv 2) ag)))
  (af (aG (eI (cI (CS .lst (by decide +kernel) (pv 4) T.ik T.jY)))
  (aj (ao ky))
  ax)
  (af (b8 PassesOwn.never rfl (aZ (pv 4)) (iZ 5 qN)
  (aj (aG (PW.pt (dY (eI (cI (CS .tup (by decide +kernel) (pv 5) T.ik T.gD))) (dY (ptr jG (d9 aE T.bF (aa (pv 5) ag)) ae) (dw (eI (cI (bN (AM T) hr T.pO (aa (bG (pv 5) ae) ag))))))))
   (aj (ao ky))
   ax)))
  (af (aG (ptr (wV hr.units) (mX (ts:=["_law_taken_here"]) (ys:=[]) (js:=[]) (te:=(e9 (mC K) (aX 0) (tC (.int (0))))) (aZ (pv 4)) (fZ 0) bx (bG (pv 0) ae)) (pv 3))
  (aj (ao ky))
  ax)
  (af (bw (ME yD PySem.F.slot_list_reverse PySem.F.type_list_reverse xc (pv 4)))
  (af (bw (bO yD yF yE bu (pv 4) (aa (bz (aa ae (aa (bz (aa ae (aa ae ag))) (aa ae ag)))) ag)))
  (aj (ao (dF (sQ hr.units) (mX (ts:=["_law_taken_here"]) (ys:=[]) (js:=[]) (te:=(e9 (mC K) (aX 0) (tC (.int (0))))) (aZ (bN (BC T F) hr T.CP (aa (pv 2) ag))) (fZ 0) bx (bG (pv 0) ae)) (pv 3) (gY _)))))))))))))),?_}
 ac_rfl;exists a,ns,24,rfl,hS,nofun,(by decide),(by decide),λS0 p0 H0 D0 s0 la0=>?_;let⟨pl,il,st,bl,hl,nl',rl,ub,jm,iv,sv,bv,hv,nv,rv,h1,h2,f3,f4,f5,f6,f7,f8,f9,_⟩:=la0.at';left;refine .inl {p0,_,rfl,cY.of h1,(by show¬(HT.eY 9 0 none=0/\HT.eY 9 9 (some 8)=9);decide),?_};right;rename_i p1 H1 s1 h1';exists by show 1<=sizeLine;omega,?_
 right;rename_i p2 H2 s2 h2';exists p1,p2,_,_,rfl,rfl,cY.of (s2 _ _ h1'),cY.of h2',(λz=>by cases z),(by show 9<=sizeLine;omega),(λz=>by cases z),λ_=>?_;intros p H3 s3 h3;let s03:=(s1.trans s2).trans s3;obtain⟨S,ej,D,la⟩:∃S,S.bT=none/\nI 24 S/\kM H3 p S:={{S0 with bT:=none},rfl,Nm D0,{pl,il,st,bl,hl,nl',rl,ub,.bI,iv,sv,bv,hv,nv,rv,h3,s03 _ _ h2,{s03 _ _ f3.1,f3.2.mono s03},{s03 _ _ f4.1,f4.2.mono s03},{s03 _ _ f5.1,f5.2.mono s03},f6.mono s03,{s03 _ _ f7.1,f7.2.imp λx v z=>z.mono s03},{s03 _ _ f8.1,f8.2.imp λx v z=>z.mono s03},{s03 _ _ f9.1,f9.2.mono s03},dJ}}
 clear h1 h2 f3 f4 f5 f6 f7 f8 f9 h1' h2' h3 la0 D0;let vok:=O1 ∅ D;let td:=Nl ∅ D;let⟨tl,tne⟩:=KO ∅ D;let rok:∀r∈S.repeats,Lf r:=λr hr'=>BV (by have:=D.bl;omega) (D.rp.2.1 r hr');let b24:=D.bl;let b1:=D.b1;let lnd:=KN D;let r4:=D.rp.1;let rps:GR S:={λr hr'=>by
  let⟨h1,h2,h3,h4,h5,_,e2,e3,_⟩:=D.rp.2.1 r hr';exact{h1,h2,nofun,h4,h5,e2,λe he=>{(e3 e he).1,(e3 e he).2.1}},nofun,D.rp.2.2,λr hr'=>(D.rp.2.1 r hr').2.2.1}
 let ed:Pl S:=λr hr'=>by
  let⟨_,_,_,_,_,_,_,_,_,e5⟩:=D.rp.2.1 r hr';exact List.pairwise_map.mp e5
 let bok:∀x∈S.aK,B7 x:=λx hx=>by
  let⟨m1,m2,m3,m4,m5⟩:=jK (D.bd x hx).1;exact{(nofun),nofun,nofun,nofun}
 exists p,S,rfl,la,td,tl,rok,nofun,λH4 s4=>?_;exists _,eC S,S,rfl,text_len td tl,Oh tne td,L8 vok,λsa o H5 sc s5 ow=>?_;exists p,S,rfl,(la.mono s4).mono s5,ej,rps,ed,nofun,λDt k H6 s6 h6 gk=>?_;exists sa,S,o,rfl,sc.mono s6,rps,b1,nofun,ej,bok,lnd,λD7 us bs k7 H7 s7 n7 h7 bl7 e7 l7 rl7=>?_;let ge:=go_eq (m:=k7) gk nofun;rw[ge,<-e7] at h6;exists _,N3 h7,?_;exists{_,aH.of h7},?_;refine dr (K:=K) (a:=D7) (xs:=us) (λi U H'=>au H7 H'/\∃(w5:Option V),U=[some (.ref a),some (.ref p),some (.ref sa),some (.ref Dt),some (.ref D7),w5]) {au.refl _,none,rfl} (λi U H' _ h=>aH.of (h.1 _ _ h7)) ?_ ?_
 ·rintro i x U H8 hx ⟨s8,w5,rfl⟩
  let⟨j,hj,aA,qA,cA,bA,rfl,haA,hqA,hbA⟩:=rl7.at hx;let haA8:=s8 _ _ haA;exists aA,_,rfl,.inr (cY.of haA8),?_;change{s8,_,rfl}
 ·rintro U H8 ⟨s8,w5,rfl⟩
  exists{_,aH.of (s8 _ _ h7)},?_;refine BX (s8 _ _ h7) (rl7.imp λx v z=>z.mono s8) bl7 λD9 H9 s9 h9=>?_;let s79:=s8.trans s9;let h69:=s79 _ _ (s7 _ _ h6);let h79:=s79 _ _ h7;exists D9,Dt,_,_,rfl,rfl,.inl {aH.of h9,aH.of h69},.inr (.inr {vK _,vK _}),?_;rw[zg rfl];exists .inl {rfl,_,aH.of h79},?_;refine{D7,us,rfl,rfl,h79,?_};let ul:=rl7.len;rw[zR] at ul;let sA:au H6 (upd H9 D7 (.lst us.reverse)):=bj n7 (s7.trans s79);let hA:upd H9 D7 (.lst us.reverse) D7=some (.lst us.reverse):=aB;generalize upd H9 D7 (.lst us.reverse)=HA at sA hA ⊢;exists .inl {rfl,_,aH.of hA},?_;exists cH,?_;intros pB HB sB hB;exists by show 3<=sizeLine;omega,?_
  intros pC HC sC hC;refine{D7,_,_,rfl,rfl,(sB.trans sC) _ _ hA,by rw[List.length_reverse];omega,?_};let sD:au H6 (upd HC D7 (.lst (us.reverse++[.ref pC]))):=bj n7 ((sA.trans sB).trans sC);generalize upd HC D7 _=HD at sD ⊢;exists sa,S,o,rfl,sc.mono (s6.trans sD),rps,b1,nofun,ej,bok,lnd,λDE ue be kE HE sE nE hE blE eE lE rlE=>?_;let ee:be.map (λb:Nat=>(b:Int))=bs.map λb:Nat=>(b:Int):=by rw[eE,e7,go_eq (k:=kE) (m:=k7) nofun nofun]
  exists{_,aH.of hE},?_;refine BX hE rlE blE λDF HF sF hF=>?_;rw[ee] at hF;exists DF,Dt,_,_,rfl,rfl,.inl {aH.of hF,aH.of (sF _ _ (sE _ _ (sD _ _ h6)))},.inr (.inr {vK _,vK _}),?_;rw[zg rfl];change kk _
end
def l1 {α:Type} {n:Nat} {P:List α->Prop} {us:List α} (h:⇑us=n+1) (k:∀u r,⇑r=n->P (u::r)):P us:=match us,h with
 | u::r,h=>k u r (Nat.succ.inj h)
def l0 {α:Type} {P:List α->Prop} {us:List α} (h:⇑us=0) (k:P []):P us:=match us,h with
 | [],_=>k
def lI {K:yB} {h:Heap} {mg:Str->Option Value} {x:Str} {st:Stmt} {f:Addr} {od an:Option Addr} {sl:Array (Option Value)} {oc kV dc pm cd ct:Value} {p0:Str} (X:K.In h) (G:h.Ns mainGlobals mg) (a:PySem.W.nsIn K mainGlobals x=some (some (.ref f))<|>qn_) (l:K.lookup f=some {oc,od,.func (PySem.W.fnOf x x (dg st) (cx st) (aT st) .none kV dc pm an cd ct),sl}<|>qn_) (c:PySem.W.codeIn K cd x=true<|>qn_) (k:PySem.W.keepIn K (.ref f)=true<|>qn_)
  (hb:(∀(kV dc pm:Value) (an:Option Addr) (cd ct u0:Value),bindArgs (PySem.W.fnOf x x (dg st) (cx st) (aT st) .none kV dc pm an cd ct) {[u0],[]}=pure [(p0,u0)])<|>qo_) :
  Df K mg x st f (PySem.W.fnOf x x (dg st) (cx st) (aT st) .none kV dc pm an cd ct) [p0]:=
 {j7 l c k,PySem.W.mg_of X G a,(j7 l c k).binds (ps:=[p0]) λkV dc pm an cd ct us hl=>by
  apply l1 hl;intro u0 r h;apply l0 h;exact hb kV dc pm an cd ct u0}
def kG {K:yB} {h:Heap} {mg:Str->Option Value} {x:Str} {st:Stmt} {f:Addr} {od an:Option Addr} {sl:Array (Option Value)} {oc kV dc pm cd ct:Value} {p0 p1:Str} (X:K.In h) (G:h.Ns mainGlobals mg) (a:PySem.W.nsIn K mainGlobals x=some (some (.ref f))<|>qn_) (l:K.lookup f=some {oc,od,.func (PySem.W.fnOf x x (dg st) (cx st) (aT st) .none kV dc pm an cd ct),sl}<|>qn_) (c:PySem.W.codeIn K cd x=true<|>qn_) (k:PySem.W.keepIn K (.ref f)=true<|>qn_)
  (hb:(∀(kV dc pm:Value) (an:Option Addr) (cd ct u0 u1:Value),bindArgs (PySem.W.fnOf x x (dg st) (cx st) (aT st) .none kV dc pm an cd ct) {[u0,u1],[]}=pure [(p0,u0),(p1,u1)])<|>qo_) :
  Df K mg x st f (PySem.W.fnOf x x (dg st) (cx st) (aT st) .none kV dc pm an cd ct) [p0,p1]:=
 {j7 l c k,PySem.W.mg_of X G a,(j7 l c k).binds (ps:=[p0,p1]) λkV dc pm an cd ct us hl=>by
  apply l1 hl;intro u0 r h;apply l1 h;intro u1 r h;apply l0 h;exact hb kV dc pm an cd ct u0 u1}
def PQ {K:yB} {h:Heap} {mg:Str->Option Value} {x:Str} {st:Stmt} {f:Addr} {od an:Option Addr} {sl:Array (Option Value)} {oc kV dc pm cd ct:Value} {p0 p1 p2:Str} (X:K.In h) (G:h.Ns mainGlobals mg) (a:PySem.W.nsIn K mainGlobals x=some (some (.ref f))<|>qn_) (l:K.lookup f=some {oc,od,.func (PySem.W.fnOf x x (dg st) (cx st) (aT st) .none kV dc pm an cd ct),sl}<|>qn_) (c:PySem.W.codeIn K cd x=true<|>qn_) (k:PySem.W.keepIn K (.ref f)=true<|>qn_)
  (hb:(∀(kV dc pm:Value) (an:Option Addr) (cd ct u0 u1 u2:Value),bindArgs (PySem.W.fnOf x x (dg st) (cx st) (aT st) .none kV dc pm an cd ct) {[u0,u1,u2],[]}=pure [(p0,u0),(p1,u1),(p2,u2)])<|>qo_) :
  Df K mg x st f (PySem.W.fnOf x x (dg st) (cx st) (aT st) .none kV dc pm an cd ct) [p0,p1,p2]:=
 {j7 l c k,PySem.W.mg_of X G a,(j7 l c k).binds (ps:=[p0,p1,p2]) λkV dc pm an cd ct us hl=>by
  apply l1 hl;intro u0 r h;apply l1 h;intro u1 r h;apply l1 h;intro u2 r h;apply l0 h;exact hb kV dc pm an cd ct u0 u1 u2}
def SX {K:yB} {h:Heap} {mg:Str->Option Value} {x:Str} {st:Stmt} {f:Addr} {od an:Option Addr} {sl:Array (Option Value)} {oc kV dc pm cd ct:Value} {p0 p1 p2 p3:Str} (X:K.In h) (G:h.Ns mainGlobals mg) (a:PySem.W.nsIn K mainGlobals x=some (some (.ref f))<|>qn_) (l:K.lookup f=some {oc,od,.func (PySem.W.fnOf x x (dg st) (cx st) (aT st) .none kV dc pm an cd ct),sl}<|>qn_) (c:PySem.W.codeIn K cd x=true<|>qn_) (k:PySem.W.keepIn K (.ref f)=true<|>qn_)
  (hb:(∀(kV dc pm:Value) (an:Option Addr) (cd ct u0 u1 u2 u3:Value),bindArgs (PySem.W.fnOf x x (dg st) (cx st) (aT st) .none kV dc pm an cd ct) {[u0,u1,u2,u3],[]}=pure [(p0,u0),(p1,u1),(p2,u2),(p3,u3)])<|>qo_) :
  Df K mg x st f (PySem.W.fnOf x x (dg st) (cx st) (aT st) .none kV dc pm an cd ct) [p0,p1,p2,p3]:=
 {j7 l c k,PySem.W.mg_of X G a,(j7 l c k).binds (ps:=[p0,p1,p2,p3]) λkV dc pm an cd ct us hl=>by
  apply l1 hl;intro u0 r h;apply l1 h;intro u1 r h;apply l1 h;intro u2 r h;apply l1 h;intro u3 r h;apply l0 h;exact hb kV dc pm an cd ct u0 u1 u2 u3}
def walk {l:PySem.W.OpenLaw} {q:Program} {loose:List Str} {XP:(Str->Option Value)->Heap->Prop} {YP:World->Heap->Prop} {d:DefRec} {K:Params->yB} (hn:l.most=some 63) (hdf:d.params.defaults=[]) (hdn:d.name ="law")
  (hY:∀(w:World) (h:Heap),YP w h->(K w.params).In h)
  (F:∀(w:World) (mg:Str->Option Value) (h:Heap),(K w.params).In h->h.Ns mainGlobals mg->
   ∃T:Txt (K w.params) mg,Dk l.prog w (K w.params) T/\∀(s:Shared) (v:Value),BindsTo s T.Nv {[v],[]} [("_law_script",v)]) :
  PySem.W.WalkO q loose XP YP l.row.toRowW d [] (λf vs=>PySem.call f vs):=
 L2.NZ (n:=63) (k:=9) (x:="_law_script") (CX:=λ_=>GV) (sp:=λw=>L0 (K w.params)) hn ∅ hdf {rfl,∅,∅} hY
  (λw mg fa h kx hns hm=>by
   let⟨T,B,hb⟩:=F w mg h kx hns;rw[hdn] at hm;let e:=hm.symm.trans T.Ua.g;cases e;exact{T.Nv,hb,λbase _ _=>QM T B T.cf}) (λ_ _ a ns hl _ hS=>{a,ns,rfl,hS,hl,λ_=>rfl}) λ_ _ _ _ _ z=>z
def Uw {P:Program} {w:World} {K:yB} {a:Addr} {n:Nat} {t0 t1 t2 t3 t4 t5 t6 t7 t8:Tok} {f0 f1 f2 f3 f4 f5 f6 f7 f8:Addr} {s0 s1 s2 s3 s4 s5 s6 s7 s8:Str} (r:K.lookup a=some {cls:=.type "dict",data:=.dict #[{PyData.keyHash w.params s0,.str s0 t0,.ref f0},{PyData.keyHash w.params s1,.str s1 t1,.ref f1},{PyData.keyHash w.params s2,.str s2 t2,.ref f2},{PyData.keyHash w.params s3,.str s3 t3,.ref f3},{PyData.keyHash w.params s4,.str s4 t4,.ref f4},{PyData.keyHash w.params s5,.str s5 t5,.ref f5},{PyData.keyHash w.params s6,.str s6 t6,.ref f6},{PyData.keyHash w.params s7,.str s7 t7,.ref f7},{PyData.keyHash w.params s8,.str s8 t8,.ref f8}] n}) (y:(a == sysModules)=false) (nd:List.Nodup [s0,s1,s2,s3,s4,s5,s6,s7,s8]) :
  KD P w K a [(s0,.ref f0),(s1,.ref f1),(s2,.ref f2),(s3,.ref f3),(s4,.ref f4),(s5,.ref f5),(s6,.ref f6),(s7,.ref f7),(s8,.ref f8)]:=Sb (l:=[(s0,t0,f0),(s1,t1,f1),(s2,t2,f2),(s3,t3,f3),(s4,t4,f4),(s5,t5,f5),(s6,t6,f6),(s7,t7,f7),(s8,t8,f8)]) r y nd
def UN {K:yB} {a:Addr} {rd:Option Addr} {rs:Array (Option Value)} {rn:Nat} {t0 t1 t2 t3 t4 t5:Tok} {x0 x1 x2 x3 x4 x5:Int} (r:K.lookup a=some {.type "tuple",rd,.seq #[.int x0 t0,.int x1 t1,.int x2 t2,.int x3 t3,.int x4 t4,.int x5 t5] rn,rs}) (H:Hp):cY K H a [.int x0,.int x1,.int x2,.int x3,.int x4,.int x5]:=
 .inr {_,_,_,r,rfl,rfl,by show 6<=sizeLine;decide,.cons {_,rfl} (.cons {_,rfl} (.cons {_,rfl} (.cons {_,rfl} (.cons {_,rfl} (.cons {_,rfl} (.nil))))))}
def UQ {K:yB} {x y:Str} {st:Stmt} {f:Addr} {od an:Option Addr} {sl:Array (Option Value)} {oc kV dc pm cd ct:Value} {p:Str} (l:K.lookup f=some {oc,od,.func (PySem.W.fnOf x y (dg st) (cx st) (aT st) .none kV dc pm an cd ct),sl}<|>qn_) (c:PySem.W.codeIn K cd y=true<|>qn_) (k:PySem.W.keepIn K (.ref f)=true<|>qn_)
  (hb:(∀(kV dc pm:Value) (an:Option Addr) (cd ct u:Value),bindArgs (PySem.W.fnOf x y (dg st) (cx st) (aT st) .none kV dc pm an cd ct) {[u],[]}=pure [(p,u)])<|>qo_):UG K x y st f (PySem.W.fnOf x y (dg st) (cx st) (aT st) .none kV dc pm an cd ct) [p]:=
 {j7 l c k,(j7 l c k).binds (ps:=[p]) λkV dc pm an cd ct us hl=>match us,hl with | [u],_=>hb kV dc pm an cd ct u}
def OK {K:yB} {C:Addr} {f:Str} (e:PySem.W.findIn K (.ref C) f=some none<|>qn_):eN K C f:=e
def vB {K:yB} {h:Heap} {mg:Str->Option Value} {x:Str} {v:Value} (X:K.In h) (G:h.Ns mainGlobals mg) (e:PySem.W.nsIn K mainGlobals x=some (some v)<|>qn_):mg x=some v:=PySem.W.mg_of X G e
def FU {K:yB} {h:Heap} {mg:Str->Option Value} {x:Str} (X:K.In h) (G:h.Ns mainGlobals mg) (e:PySem.W.nsIn K mainGlobals x=some none<|>qn_):mg x=none:=PySem.W.mg_none_of X G e
end K22
set_option genInjectivity false in
structure PySem.W.Fast:Prop where
 (tw14272543457231773447 tw16076534345967544472 tw6300014878820138346 tw16392677987496212244 tw5652473884990425855 tw7016206889155721533 tw17631289313489328656 tw5860261307229832852 tw8876659190103972448 tw10003601172345089431 tw6653475901407410435 tw2697323566864120984 tw16478243102087384431 tw18267765495907775041 tw2602818115110504619 tw17498249693322062975 tw6357568954948701447 tw4834428873411055609 tw11085831202505148752 tw6047463804020467437 tw5036069282828302947 tw14715029500471155775 tw17342411737449520404 tw6381093926297246156 tw8263872928950807479 tw18206083749086482821 tw11578255859263181311 tw14810983519101523728 tw1888119767272471681 tw2298486674499664168 tw10767635699893752566 tw9610262946134136733 tw14127466379335973608 tw5490686459576439595 tw9638625177642961932 tw15004333250420680196 tw6189347359243396547 tw17840757229536721746 tw4011285518411558529 tw17505641506956732200 tw9968197411256747123 tw1837503373825813863 tw10087379055835553475 tw8728093893153149111 tw5684533878336047387 tw2238988082923348001 tw1490985714009535972 tw15836806186428430169 tw517814018659251877 tw16771236320495932845 tw15325520022993203421 tw9084387241261185561 tw5231158956239598066 tw13878362088122300807 tw3592277500668561971 tw1698091497878697385 tw8241737169691793290 tw13340757913847412465 tw9774601398948588556 tw9703992243057614570 tw11449579630567143811 tw10607930953563047605 tw2444889638224542130 tw2413177138973947243 tw8699406736692727246 tw6300609179580063464 tw13620554398551900537 tw2828735742566744294 tw15958055217368385306 tw5054050895039740726 tw2430412221536675046 tw2407050313496177432 tw10615733832086786073 tw14276458455916983233 tw2518169431036261975 tw5724662502538949041 tw18341368224734569035 tw7671678093776748283 tw13988641780052289575 tw6252559784610512819 tw2739043738613380254 tw16515802745335988571 tw14043659385499616296 tw12265341277159225184 tw5126644640914406599 tw3449896064276163236 tw9928987420677240631 tw13684937248456957892 tw5691315376320113051 tw12074873139901830272 tw16408144455339008826 tw15137630088193229291 tw16651402343484745848 tw13434829934110154440 tw15535414486299826264 tw15243512956775303069 tw10556429734184242423 tw5723755264642641514 tw10180284538477748523 tw10860869206289841830 tw16725897479516933053 tw12444162028668653971 tw7997667809983114889 tw2021048844707382282 tw7746479098087785734 tw15852550634347134006 tw12927683266235086348 tw5752529981027128387 tw9142590450783470054 tw9722928798678312250 tw2015039424237946288 tw2212750031973963821 tw3788766292306522226 tw11598435068968446842 tw1186705354239338459 tw4373226038851386278 tw14634911803513640161 tw15856235785595478564 tw10448436084456958250 tw11451286231412313426 tw7006562875142673132 tw3683440146712059985 tw15101348246119124441 tw11275600583073619593 tw4364485767226622581 tw13431195267683052289 tw7633829437377669667 tw16939254189748448317 tw15820787217767793045 tw12911255179926454250 tw17800487101973159205 tw12411735974595412288 tw617433421029775168 tw15914937732862042960 tw15662704520915453513 tw5234200344347386309 tw8873010047200351652 tw13647434805370599258 tw8173700358512391198 tw2073728828011824211 tw8072774233132130434 tw5187015148722905892 tw15602369882548784923 tw3449453632630927652 tw7600019955345467853 tw861878620779042071 tw12223172788117785406 tw508437773376513627 tw14791792649420527900 tw16733340624487215412 tw15803135296889484739 tw10782827107702869429 tw3152796732823620465 tw5318937565536864061 tw1654002668530552722 tw6135253545058374018 tw6290607378829503210 tw12608339602698985256 tw14080290307904476852 tw6163586720648490330 tw3586839776809896454 tw4474258467220442269 tw14601361460551736358 tw15159545673432038074 tw4368482432551248140 tw17671623446521875655 tw5550046370269457483 tw15333453644379156826 tw15164061962188752796 tw12751246921401074593 tw11715617109026250143 tw12315204894356033447 tw7944575200357976495 tw8241250664076520874 tw132729794953362279 tw2588743990730854891 tw7190775235396892081 tw16710916159195832164 tw16390518768971555523 tw17745546407147856813 tw14542620232002299864 tw10570983108679008366 tw2669802668297104565 tw10934076629651945833 tw10806621254959054437 tw13863550093908010901 tw1578865704569892874 tw7517987608051073697 tw2642129218773873297 tw8591900788387993912 tw9336492945394704184 tw2149893756222114106 tw1069638713657810268 tw13201069191075984290 tw7444849840423479994 tw12916674723682489252 tw3244348022383132442 tw913867494855914886 tw12194793625202172633 tw7524464412393283462 tw3006398755257264046 tw5031446841420288828 tw12774997304515235637 tw1719736586334986843 tw5825134674235730141 tw9698575403977425819 tw12453992063033025919 tw8534709691030812935 tw9790344538072748127 tw1644194420278236044 tw11764074852050893789 tw5268592371160227670 tw15341007153392861608 tw3373156286380461657 tw827664679726010775 tw12595343921004332005 tw14888036059561345729 tw14586306734930385436 tw18123878414402607710 tw17260390260803222977 tw17148594565513159428 tw11944027880052184381 tw858749558353229995 tw757639556255102785 tw3297248972791329567 tw13420166258843396586 tw15821510144517359417 tw9443501690346174382 tw16293645964847894414 tw8570218091554967154 tw3023961348602912524 tw4555834552890749987 tw13575374767996545200 tw2785173668071545649 tw11426028213523644977 tw6644863920781269223 tw14079721713473128544 tw7911339755330536588 tw9162018698955889392 tw7416475580206096463 tw13045956334901028274 tw10578295849284289091 tw6475396976170831606 tw8638610666464954520 tw2278946607974240298 tw15197932946943763564 tw15784174736996732843 tw15442644385101287436 tw4073642364979184236 tw3487988657397372674 tw7572880999681800457 tw1614206662698716021 tw6466797809512765047 tw11715229798637137232 tw8968572795567772837 tw7813262220180475973 tw11470458239147260989 tw8844004627573539819 tw15225195890089495778 tw17691829733950169651 tw4418313403177907913 tw6098043534944836907 tw14702607931500589211 tw5198876127616343374 tw9184533208121020193 tw9654836279046048552 tw11125970620118096672 tw6432114750571122105 tw920316289442280083 tw16092520118077128907 tw1781130492901469202 tw13329388298499602111 tw2743458912657543471 tw17300989626588288328 tw7565187063587828147 tw16191996548877583364 tw9418143762800985440 tw11595077861479833660 tw484059594832663359 tw7918682922991198913 tw7710162339603542772 tw4042618661244900753 tw5156863074471669245 tw1709879596983881141 tw11340855241294645560 tw5530214613851077820 tw761754982967156483 tw4997584087602511324 tw1267326582712456731 tw6210600689193785053 tw2992769616773851614 tw15340700530297048988 tw17601379210737444323 tw10073405087473044960 tw7433518080105893337 tw7062029809443929770 tw15917059532596544312 tw6869049373550720151 tw5262408555552635423 tw432184004409803507 tw10703788710561392607 tw10662443650953312904 tw6803933426181880590 tw1315025499883953400 tw8095112724290741293 tw5358885527045560127 tw4813912801728279290 tw4406404363848708909 tw17367930314129704778 tw15922223900752365780 tw13363237908342196558 tw9884836014856246357 tw4234207003085872466 tw2096370404860365589 tw17144490680059332948 tw10133866354490170358 tw1134169165054900522 tw8764021979358879739 tw4656111316849811414 tw1867693307473187256 tw15223067301664168924 tw13189137957184234797 tw15742612953296610092 tw11508024682098482582 tw4328294588123168655 tw7599516209224324269 tw2076804866504404831 tw3373928630334905946 tw14236092579621041449 tw7434770016244259314 tw3072168043738303930 tw15614125052221886804 tw2565767018468284681 tw10105727789788049664 tw14335248112435878696 tw11984429322672976909 tw8907830288152103877 tw7500768597091687625 tw5713446058455114403 tw3949202846379008975 tw297767271590329762 tw17164736428338687555 tw16669782481413387818 tw14901599505644378982 tw6784379638886834500 tw5853659610186801345 tw3668107413742130997 tw13363691314070704176 tw15892729747072033029 tw17409572658174677086 tw16066821940619905409 tw13452516109692227058 tw49456237588022460 tw18135656791612634747 tw14049904385289353622 tw13182020156819879446 tw10142947536315005482 tw10930645362679256026 tw10272950260995437784 tw995666817603416408 tw12789227488621642190 tw15273721325962523637 tw5953852989856594723 tw4185425883593758408 tw14285449646553025317 tw9564442702792112394 tw9407969824944254906 tw890707166627972102 tw6259300379851882917 tw5859690646562169477 tw4635092595548782258 tw3302421950946350253 tw3254393823530586437 tw3163889421773805215 tw2064156553400916382 tw1947980078661625245 tw17778557820855573876 tw17298634761098007240 tw1648111209766475829 tw16129254355547377146 tw15766189787769032455 tw13819672491377579704 tw13637516978735531201 tw13531233122795204974 tw12278456139581533641 tw12248693363891212296 tw12031054491331367467 tw11806278246436640005 tw1165613847487222795 tw10804940262491011123 tw10785031600811987889 tw10554140188575946123 tw1016764201794421994 tw11238315446960174992 tw14685760168399981550 tw10733981876805230530 tw4321655270162095669 tw3963694806867069525 tw1548457980451708130 tw5115905388608460991 tw12663633382467338831 tw17148716467629387448 tw13897980126957490046 tw2195671587925430873 tw7278352113240958122 tw1166680394427614939 tw14468963714238803608 tw7134377825138294120 tw3968577914686069415 tw384756477313579201 tw18167198359807755872 tw1632004691443136384 tw17235529030138930484 tw7612988348165255540 tw5711118429157767094 tw3209571320680556630 tw2263643142563679512 tw2246882816334899373 tw18318764872173510387 tw17880800516927916152 tw2081140154239206766 tw2276711349611835738 tw638374655509034898 tw5287693348150346576 tw4565127001903748478 tw866168922957611058 tw4192279883590482081 tw7614980248935692416 tw626617429526981325 tw15348978080369744318 tw11756791633969063533 tw10160849227444589099 tw3727483760779676089 tw8587219771008804822 tw1763826257972383755 tw134656018703900392 tw1221956991984411066 tw13717126278612705254 tw3334751743190868829 tw13783746858203650636 tw12750991191428186021 tw9948025282886748553 tw8769696756794149047 tw8280623626495849054 tw7302052024920838174 tw4753630189806168055 tw4692042703954957830 tw2241618492384159785 tw1862150160429261165 tw17676597181689468850 tw14115817941869349075 tw11514323019374399783 tw11105615969143423172 tw17669539110536656155 tw11947993517432587569 tw9479003292984157759 tw9002305102326269697 tw8884269233321124699 tw5546387911168357612 tw3613273135424393168 tw318233872638457480 tw1868189597271908949 tw15185380700459552159 tw14295237516492736801 tw14164680153088120904 tw12140389796134183978 tw12119786478458686920 tw11020124990598019483 tw10704923096284780968 tw9934040388776310830 tw9877452801089784600 tw9727562055778233960 tw9570003741926836229 tw9546911821692660182 tw9387817829079260629 tw9366391456838100294 tw926631566594738195 tw9253709802220787120 tw871009199565854224 tw8663460996563516573 tw8611022445744766034 tw849103975867815343 tw8484812511348838445 tw83406205394427936 tw8253172753713066209 tw8104126807997093583 tw8040145343181047947 tw791444593704166760 tw7774002917341394652 tw7738129648473091508 tw7340639037127152662 tw7058342369807993059 tw6997527269708507252 tw6859263128313262063 tw6845943898073352324 tw6821986182155912400 tw665240284313144037 tw6505463824419559853 tw6360220928799110014 tw5866945204256952038 tw5749277116013442127 tw5602883839150511685 tw5483090824028337382 tw5424951714432381643 tw5381046100955926283 tw5299791583608115917 tw5290145264240396056 tw519419397899624517 tw5172347204574161293 tw5089951509635712096 tw5038216789949167521 tw4820858965056658720 tw4726382643566870866 tw47260894615322341 tw4552084217765270362 tw440775302136619720 tw426983010827991471 tw4235501406081104522 tw4194996442455490660 tw3470513478029540716 tw3226476638499611459 tw321403303860171359 tw3173695757466744783 tw3135811121357799359 tw3030022929193173334 tw293982837170876730 tw2889007662128299213 tw2811728567285592104 tw2722215293171670087 tw2639290060456616345 tw2613594951675073261 tw2587294290050713750 tw2262653745387786402 tw2157174812036270373 tw2062167831996536894 tw2015952448750446206 tw1998830463780084685 tw18343361629383285400 tw18229896039498569596 tw18101485006826768822 tw17967613694904020875 tw17937976501156205744 tw17813327792231614138 tw17301367410755737647 tw17172733777702712007 tw17139216153542757388 tw17040562899907284533 tw16991438130033052926 tw16845051884320323626 tw16773814994161046221 tw16613837042765001589 tw16328158333469650816 tw16074269694272623653 tw16070519399619481116 tw1603681350845704592 tw15629952098346758412 tw15462773339977279473 tw15455498869561322471 tw15404836684840077909 tw15398855298483151107 tw1536831920355196470 tw15318535598112666242 tw15189405163443689689 tw15175307288407237072 tw14994746378467983411 tw14816884877860060801 tw14803978285136949531 tw14761569555605283258 tw14757515640833983745 tw14743337899560873555 tw14737246223127858994 tw14733680917197785506 tw1469751207167993569 tw14681125842869449566 tw14503867689648831445 tw14414884256861821175 tw14209450086305922263 tw1417431581616940489 tw14084388267121493614 tw13709791689540797085 tw13344264118880638669 tw13302534055172597752 tw13144463622482750978 tw13086372004576147612 tw13053349291567368435 tw13033924975368252092 tw12938360404249963544 tw12844808013720961289 tw1277077063507456953 tw12767174371309768975 tw1268705731155716953 tw12545198925420740457 tw12530625193018410320 tw12205804422273000350 tw12081979519534716166 tw12006104929900950382 tw11980825053641169275 tw11695718785813108607 tw11673364380530331884 tw11610093863042268274 tw11598376182379750984 tw11570704644051982391 tw11440022754096070875 tw1136609652889554444 tw11189949531051280053 tw10961554254342139533 tw10930643514077336750 tw10622234625025211831:True)
open PySem PySem.W PyProof.Rows L2 Sc K22
set_option maxRecDepth 100000 in
set_option maxHeartbeats 0 in
theorem PySem.Challenge.cw_partsmith_k18_played_without_jump_holds : PySem.Challenge.rw_partsmith_k18_played_without_jump.Holds := by
  w_on; o_law; k_head; (case hw => w_witness2)
  k_fill
  refine K22.walk (l := PySem.Challenge.rw_partsmith_k18_played_without_jump) rfl rfl rfl (fun w h Y => PySem.W.kIn_of Y) ?F
  case F =>
    intro w mg h X G
    exact ⟨⟨_,_,_,_,_,_,_,_,_,_,_,_,_,_,_,_,_,_,_,_,_,_,_,_,_,_,_,_,_,_,_,_,_,_,_,_,_,_,_,_,_,_,_,_,_,_,_,_,_,_,_,_,_,_,_,_,_,_,_,_,_,_,_,_,_,_,_,_,_,_,_,_,_,_,_,_,_,_,_,_,_,_,_,_,_,_,_,_,_,_,_,_,_,_,_,_,_,_,_,_,_,_,_,_,_,_,_,_,_,_,_,_,_,_,_,_,_,_,_,_,_,_,_,_,_,_,_,_,_,_,_,_,_,_,_,_,_,_,_,_,_,_,_,_,_,_,_,_,_,_,_,_,_,_,_,_,_,_,_,_,_,_,_,_,_,_,_,_,_,_,_,_,_,_,_,_,_,_,_,_,_,_,_,_,_,_,_,_,_,_,_,_,_,_,_,_,_,_,_,_,_,_,_,_,_,_,_,_,_,_, kG X G, kG X G, kG X G, kG X G, kG X G, kG X G, lI X G, kG X G, lI X G, lI X G, lI X G, lI X G, lI X G, lI X G, PQ X G, lI X G, kG X G, lI X G, lI X G, lI X G, lI X G, lI X G, lI X G, lI X G, lI X G, lI X G, lI X G, lI X G, lI X G, lI X G, lI X G, lI X G, lI X G, kG X G, kG X G, kG X G, kG X G, kG X G, PQ X G, kG X G, kG X G, kG X G, lI X G, kG X G, kG X G, kG X G, kG X G, kG X G, kG X G, kG X G, kG X G, kG X G, kG X G, PQ X G, kG X G, PQ X G, lI X G, kG X G, kG X G, SX X G, lI X G, lI X G, kG X G, kG X G, kG X G, kG X G, lI X G, kG X G, kG X G, PQ X G, SX X G, SX X G, SX X G, kG X G, kG X G, kG X G, PQ X G, lI X G, kG X G, kG X G, lI X G, lI X G, lI X G, lI X G, lI X G, lI X G, lI X G, kG X G, PQ X G, PQ X G, lI X G, lI X G, vB X G, ⟨by k_is,by k_is,by k_is,by k_is⟩, UQ, vB X G, vB X G, vB X G, vB X G, vB X G, vB X G, vB X G, vB X G, vB X G, vB X G, vB X G, vB X G, UN (by k_is), vB X G, vB X G, vB X G, vB X G, vB X G, vB X G, vB X G, vB X G, vB X G, vB X G, FU X G, FU X G, FU X G, FU X G, FU X G, FU X G, FU X G, FU X G, FU X G, FU X G, FU X G, FU X G, FU X G, FU X G, FU X G, FU X G, FU X G,by k_is, by k_exc, vB X G, ⟨⟨by k_is,by k_is,by k_is,by k_is⟩, OK, OK, OK, OK, OK, OK, OK, OK, OK⟩⟩, ⟨Uw (by k_is) (by rfl) (show List.Nodup [("player" : Str), ("instrument" : Str), ("staff" : Str), ("bar" : Str), ("upbeat" : Str), ("holds" : Str), ("notes" : Str), ("repeat" : Str), ("jump" : Str)] by decide +kernel), Uw (by k_is) (by rfl) (show List.Nodup [("player" : Str), ("instrument" : Str), ("staff" : Str), ("bar" : Str), ("upbeat" : Str), ("holds" : Str), ("notes" : Str), ("repeat" : Str), ("jump" : Str)] by decide +kernel)⟩, fun s v => .of_eq rfl⟩
