import PyProof.Rows.All
import Wide.All
import OpenK.AllK
import Wide.FinOn
import HandS.ForMost
import HandS.Conv
import HandS.Zip
import HandS.Walk
import HandS.IsInst
import HandS.Wide
import HandS.EndBits
import HandS.TupAny
import HandS.TupMul
import HandS.Style
import HandS.Deep
import HandS.NoneIn
import HandS.TupLe
import KE.GoesMore
import KE.GoesZip
import HandS.Dict
import HandS.Codes
import HandS.SetFor
import HandS.Strs
import PySem.Challenge.RW_postvote_k10_price_limit
set_option Elab.async false
set_option linter.all false
set_option maxRecDepth 100000
namespace Pv
open PySem PySem.Spec PyProof.Rows L2

/-! heaps -/
theorem upNew {H : Hp} {p b : Addr} {o z : HO} (np : H p = none) (h : H b = some z) : upd H p o b = some z := by
  rw [upd_ne (ne_of_none h np)]; exact h
theorem sameNew {H : Hp} {p : Addr} {o : HO} (np : H p = none) : Same H (upd H p o) := fun _ _ e => upNew np e

/-! a def that is called where no repr is under way -/
structure FnG (P : Program) (w : World) (K : PySem.W.Frag) (mg : Str → Option Value) (base : Heap) (k : Nat) (f : Addr) (fd : FuncData) (ps : List Str) (sp : Sp) : Prop where
  cnt : ∀ vs H Q E, sp vs H Q E → vs.length = ps.length
  go : ∀ (A : Around) (outer : List Env) (s : Shared) (H : Hp) (args : Args) (us : List Value) (vs : List V) (Q : VK) (E : XK),
    A.guards = some [] → Room k A → Env0 P w K mg base A outer s H → BindsTo s fd args (ps.zip us) → Vals vs us →
    sp vs H Q E → codeAny (model P w) A (.call (.ref f) args) (CR CX0 outer P w H s Q E) s
section
variable {P : Program} {w : World} {K : PySem.W.Frag} {mg : Str → Option Value} {base : Heap}
theorem okG {x qual : Str} {st : Stmt} {f : Addr} {fd : FuncData} {N ps : List Str} {k : Nat} {sp : Sp}
    (F : Fun K x qual st f fd) (S : FnScope N ps (defScope st)) (cnt : ∀ vs H Q E, sp vs H Q E → vs.length = ps.length)
    (hbody : ∀ (cdv : Value) (A : Around) (outer : List Env) (s : Shared) (H : Hp) (vs : List V) (Q : VK) (E : XK),
      A.guards = some [] → Room k (A.deeper (envOfC qual (defScope st) s.heap.objs.size f cdv)) → sp vs H Q E →
      ∃ t, PSs (cxOf CX0 P w K mg base N qual (defScope st) f cdv A outer s H E).nox (defBody st) t ∧
        t { nx := fun _ H' => Q .non H', rt := Q } (start N vs) H) : FnG P w K mg base (k + 1) f fd ps sp := by
  obtain ⟨oc, od, kV, doc, pm, an, cdv, ct, osl, rfl, lk, hcd⟩ := F.ex
  refine ⟨cnt, ?_⟩
  intro A outer s H args us vs Q E hgd hr e0 hb r hsp
  have hl := cnt vs H Q E hsp
  have kk : ∀ b o, base.get? b = some o → s.heap.get? b = some o := fun b o e => (e0.bs b o e).1
  have KX : K.In s.heap := e0.mod.kin.keeps kk
  have lim : s.heap.NoLimit := e0.mod.nolimit.keeps kk
  refine codeAny_call_function hr.depth (KX _ _ lk) rfl S.co S.gen rfl (PySem.W.codeRec_of KX hcd)
    (hb _ _ _ _ (wpAny_newFunctionEnv_cells S.kind ?_ ?_))
  · rintro ⟨n, v⟩ hy
    rcases S.par n (List.of_mem_zip hy).1 with q | q
    · left; exact q
    · right; exact ⟨q, PySem.W.cellsFrom_some _ _ _ (Or.inl q)⟩
  · intro env he s1 x
    cases he
    refine ⟨lim.keeps x.toInCall.keep, ?_⟩
    apply codeAny_func
    obtain ⟨t, ht0, hq⟩ := hbody cdv A outer s H vs Q E hgd (hr.deeper _) hsp
    have ht := ht0.nox
    have I := inv_start (CX := CX0) (f := f) (qual := qual) (E := E) S hr.hd e0 hl r x
    refine wpAny_mono (ht.run [] s1 (start N vs) H _ I hq) ?_ (fun _ _ z => z)
    intro fl s' hs
    cases fl with
    | ret u => obtain ⟨v, σ', H', J, rv, q⟩ := hs; exact ⟨v, H', J.os, J.bare, J.base, J.hok, rv, q⟩
    | next => obtain ⟨σ', H', J, q⟩ := hs; exact ⟨V.non, H', J.os, J.bare, J.base, J.hok, rfl, q⟩
    | brk => obtain ⟨_, _, _, q⟩ := hs; exact q.elim
    | cont => obtain ⟨_, _, _, q⟩ := hs; exact q.elim
end
section
variable {X : Cx} {k : Nat} {f : Addr} {fd : FuncData} {ps : List Str} {sp : Sp} {x : Str} {p pos : Pos} {e : Expr} {es : List Expr} {t : TA}
theorem pe_callG (F : FnG X.prog X.w X.K X.mg X.base k f fd ps sp) (hgd : X.A.guards = some []) (hr : Room k X.A) (hg : Gl X x)
    (hm : X.mg x = some (.ref f)) (hk : PySem.W.keepIn X.K (.ref f) = true) (hb : Binds X.K fd ps []) (ha : PA X (e :: es) t)
    (hdb : (x == ("__debug__" : Str)) = false := by decide) (he : starEach (e :: es) X.env = (false, eval e X.env) :: starEach es X.env := by rfl)
    (hpl : (backTo pos (starEach es X.env)).any (·.1) = false := by rfl) :
    PE X (.Call (.Name x p) (e :: es) [] pos) (tCall sp [] E0 t) := by
  constructor
  intro pins s σ H Q I h
  refine wpAny_Call_Name_kw (ld_glob I hg hm ?_ hdb)
  refine PySem.W.callWith_K (h₀ := X.base) I.ok.mod.kin hk (thn (ha.run pos pins s σ H _ I h) ?_) he hpl
  rintro us s1 ⟨vs, H1, I1, r, q⟩
  refine ⟨I1.kIn, ?_⟩
  have r2 : Vals (vs ++ []) (us ++ []) := r.append .nil
  have hl : (us ++ []).length = ps.length := by rw [← r2.length]; exact F.cnt _ _ _ _ q
  refine wpAny_call (codeAny_mono (F.go X.A X.stack s1 H1 ⟨us, []⟩ (us ++ []) (vs ++ []) Q E0 hgd hr I1.env0 (hb s1 us I1.kIn hl) r2 q) ?_)
  intro rr s' hq
  match rr, hq with
  | .error e, hq => exact hq.elim
  | .ok (.ret u), hq => exact I1.after hq
  | .ok .next, hq => exact hq.elim
  | .ok .brk, hq => exact hq.elim
  | .ok .cont, hq => exact hq.elim
end
theorem lawG {P : Program} {w : World} {K : PySem.W.Frag} {mg mb : Str → Option Value} {k : Nat} {fa a : Addr} {fd : FuncData} {x : Str} {sp : Sp}
    {s₁ : Shared} {vs : List Value} {ns : List Int} (KX : K.In s₁.heap) (hns : s₁.heap.Ns mainGlobals mg) (hb : s₁.heap.Ns builtinsNs mb)
    (hbb : ∀ x : Str, x ≠ "__name__" → mb x = bootBuiltins x) (hlim : s₁.heap.NoLimit) (hg : s₁.gens = #[])
    (ha : s₁.heap.get? a = some { cls := .type "list", data := .seq vs.toArray }) (hi : IntsAre vs ns) (hl : ns.length ≤ sizeLine)
    (hr : Room k callerA) (F : ∀ base : Heap, K.In base → base.Ns mainGlobals mg → FnG P w K mg base k fa fd [x] sp)
    (hbind : ∀ (s : Shared) (u : Value), BindsTo s fd ⟨[u], []⟩ [(x, u)])
    (hsp : ∀ H : Hp, Only H → SqL K H a (ns.map V.int) → sp [.ref a] H (fun v _ => v = .bl true) E0) :
    codeAny (model P w) callerA (.call (.ref fa) ⟨[.ref a], []⟩)
      (fun r s' => r = .ok (.ret (.bool true)) ∧ OldK s₁.heap s'.heap ∧ s'.os = s₁.os ∧ AllBare s'.gens) s₁ := by
  have rv := vals_ints hi
  have lenV := hi.length
  have core : ∀ H : Hp, Only H → SqL K H a (ns.map V.int) → HOk P w H s₁.heap → (∀ b, H b ≠ none → b = a) → (H a ≠ none → K.lookup a = none) →
      codeAny (model P w) callerA (.call (.ref fa) ⟨[.ref a], []⟩)
        (fun r s' => r = .ok (.ret (.bool true)) ∧ OldK s₁.heap s'.heap ∧ s'.os = s₁.os ∧ AllBare s'.gens) s₁ := by
    intro H hO hS hok hA hK
    have noD : ∀ {b : Addr} {o : Obj} {es : Array DictEntry} {ep : Nat}, s₁.heap.get? b = some o → o.data = .dict es ep → H b = none := by
      intro b o es ep e d
      match q : H b with
      | none => rfl
      | some u =>
        obtain rfl : b = a := hA b (by rw [q]; simp)
        rw [ha] at e
        cases e
        exact absurd d (by intro z; cases z)
    have nsK : ∀ {b : Addr} {m : Str → Option Value}, s₁.heap.Ns b m → (hidT s₁.heap H).Ns b m := by
      rintro b m ⟨o, es, ep, e, d, r⟩
      exact ⟨o, es, ep, hidT_get e (noD e d), d, r⟩
    have hKb : K.In (hidT s₁.heap H) := by
      intro b o e
      refine hidT_get (KX b o e) ?_
      match q : H b with
      | none => rfl
      | some u =>
        obtain rfl : b = a := hA b (by rw [q]; simp)
        rw [hK (by rw [q]; simp)] at e
        cases e
    have hM : Mod K mg (hidT s₁.heap H) := by
      obtain ⟨mc, h1, h2⟩ := hlim
      exact ⟨hKb, nsK hns, ⟨mb, nsK hb, hbb⟩, ⟨mc, nsK h1, h2⟩⟩
    have e0 : Env0 P w K mg (hidT s₁.heap H) callerA [] s₁ H :=
      ⟨rfl, hM, fun b o e => of_hidT e, Nat.le_of_eq (hidT_size _ _), trivial, (fun b hb => by cases hb), hok, .of_eq hg⟩
    refine codeAny_mono ((F _ hKb (nsK hns)).go callerA [] s₁ H ⟨[.ref a], []⟩ [.ref a] [.ref a] _ _ rfl hr e0 (hbind s₁ (.ref a)) (.cons rfl .nil) (hsp H hO hS)) ?_
    intro r s' h
    match r, h with
    | .error e, h => exact h.elim
    | .ok .next, h => exact h.elim
    | .ok .brk, h => exact h.elim
    | .ok .cont, h => exact h.elim
    | .ok (.ret u), h =>
      obtain ⟨v, H', os, bare, un, hok', r', q⟩ := h
      cases (show v = V.bl true from q)
      cases (show u = Value.bool true from r')
      refine ⟨rfl, OldK.of_keep ?_, os, bare⟩
      intro b o e
      match q : H b with
      | none => exact un.keep b o e q (by intro z; cases z) (by intro z; cases z)
      | some u =>
        rcases hO b with z | ⟨ob, xs, z⟩
        · rw [q] at z; cases z
        · obtain ⟨e1, _⟩ := hok b _ z
          obtain ⟨e2, _⟩ := hok' b _ (un.frzs b ob _ z)
          rw [e] at e1
          cases e1
          exact e2
  match hk : K.lookup a with
  | some o =>
    have e := KX a o hk
    rw [ha] at e
    cases e
    refine core (fun _ => none) (fun _ => .inl rfl) (.inr ⟨_, vs.toArray, _, hk, rfl, rfl, rfl, ?_, by simpa using rv⟩) (fun b u z => by cases z) (fun b z => absurd rfl z) (fun z => absurd rfl z)
    rw [List.size_toArray, lenV]; exact hl
  | none =>
    let HA : Hp := fun b => if b = a then some (.frz { cls := .type "list", data := .seq vs.toArray } (.lst (ns.map V.int))) else none
    have at_a : HA a = some (.frz { cls := .type "list", data := .seq vs.toArray } (.lst (ns.map V.int))) := if_pos rfl
    have at_ne : ∀ b, b ≠ a → HA b = none := fun b h => if_neg h
    refine core HA ?_ (.inl (.inr ⟨_, at_a⟩)) ?_ ?_ (fun _ => hk)
    · intro b
      by_cases hb : b = a
      · subst hb; exact .inr ⟨_, _, at_a⟩
      · exact .inl (at_ne b hb)
    · intro b u z
      by_cases hb : b = a
      · subst hb
        rw [at_a] at z
        cases z
        exact ⟨ha, by rw [List.length_map]; exact hl, vs, _, rv, ha⟩
      · rw [at_ne b hb] at z; cases z
    · intro b z
      by_cases hb : b = a
      · exact hb
      · exact absurd (at_ne b hb) z
theorem walkG {l : PySem.W.OpenLaw} {n k : Nat} {q : Program} {loose : List Str} {XP : (Str → Option Value) → Heap → Prop} {YP : World → Heap → Prop}
    {d : DefRec} {K : Params → PySem.W.Frag} {sp : World → Sp} {x : Str} (hn : l.most = some n) (hn2 : n ≤ sizeLine) (hdf : d.params.defaults = [])
    (hr : Room k callerA) (hY : ∀ (w : World) (h : Heap), YP w h → (K w.params).In h)
    (F : ∀ (w : World) (mg : Str → Option Value) (fa : Addr) (h : Heap), (K w.params).In h → h.Ns mainGlobals mg → mg d.name = some (.ref fa) →
      ∃ fd : FuncData, (∀ (s : Shared) (u : Value), BindsTo s fd ⟨[u], []⟩ [(x, u)]) ∧
        ∀ base : Heap, (K w.params).In base → base.Ns mainGlobals mg → FnG l.prog w (K w.params) mg base k fa fd [x] (sp w))
    (hsp : ∀ (w : World) (H : Hp) (a : Addr) (ns : List Int), ns.length ≤ n → (∀ z ∈ ns, Builtin.Int.intBits z ≤ 1048576) → Only H →
      SqL (K w.params) H a (ns.map V.int) → sp w [.ref a] H (fun v _ => v = .bl true) E0) :
    PySem.W.WalkO q loose XP YP l.row.toRowW d [] (fun f vs => PySem.call f vs) := by
  refine Att.attach_callB hn hdf ?_
  intro w s₀ s₁ mg mb fa o pm cd doc a vs ns G Y ho hd hcd hmg hobj hints hlen hbits hg
  have KX := hY w _ Y
  obtain ⟨fd, hb, hF⟩ := F w mg fa _ KX G.T.g hmg
  exact lawG KX G.T.g G.T.b G.T.builtins G.T.nolimit hg hobj hints (Nat.le_trans hlen hn2) hr hF hb (fun H hO hS => hsp w H a ns hlen hbits hO hS)

/-! repr of data -/
theorem call_reprD {X : Cx} (hg : X.A.guards = some []) (hu : X.A.units + 70 < cLine) : CallR X (.builtin "repr")
    (fun xs H Q => ∃ a d, xs = [.ref a] ∧ Dp X.K H (.ref a) d ∧ d.showable = true ∧ d.hasDict = false ∧ d.depth ≤ 60 ∧
      d.shown.length ≤ sizeLine ∧ Q (.str d.shown) H) := by
  intro pins s σ H xs us Q I r h
  obtain ⟨a, d, rfl, hd, h1, h2, h3, h4, q⟩ := h
  obtain ⟨u, rfl, rfl⟩ := vals1 r
  obtain ⟨as, rd⟩ := Dp.reads I d _ _ hd rfl
  exact repr_of_reads' rd h1 (PyData.noDict_hsm h2) hg (by omega) (fun _ _ e => e) (fun h' u tk hk => ⟨.str _, H, I.kept hk, ⟨_, rfl⟩, q⟩) h4
end Pv

namespace Pv
open PySem PySem.Spec PyProof.Rows L2
theorem tup_mul0 (l : Addr) (items : Array Value) (n : Nat) (dd : Option Addr) (sl : Array (Option Value)) (u : Tok) (hi : items.isEmpty = false) :
    Meets (Builtin.«tuple.__mul__» ⟨[.ref l, .int ((0 : Nat) : Int) u], []⟩) (fun _ R s => s.heap.get? l = some { cls := .type "tuple", dict := dd, data := .seq items n, slots := sl } ∧
      R (.ok (.ret (Value.ref s.heap.objs.size))) { s with heap := s.heap.push { cls := Value.type "tuple", data := Data.seq #[] }, toks := s.toks }) :=
  .of_wp fun prog w A R s h => by
    obtain ⟨hp, g, d, tk, os⟩ := s
    obtain ⟨hl, h⟩ := h
    have f1 := AutoSeq1.idx_int
    wp_walk using AutoSeq1.wpAny_loadPart' hl
    repeat (first
      | (refine wpAny_ite_false (decide_eq_false (by simp [hi])) ?_; wp_walk using AutoSeq1.wpAny_loadPart' hl)
      | (refine wpAny_ite_true (decide_eq_true (by simp [hi])) ?_; wp_walk using AutoSeq1.wpAny_loadPart' hl))
    exact ⟨_, rfl, h⟩
theorem tup_mul1 (l : Addr) (items : Array Value) (n : Nat) (dd : Option Addr) (sl : Array (Option Value)) (u : Tok) :
    Meets (Builtin.«tuple.__mul__» ⟨[.ref l, .int ((1 : Nat) : Int) u], []⟩) (fun _ R s => s.heap.get? l = some { cls := .type "tuple", dict := dd, data := .seq items n, slots := sl } ∧
      R (.ok (.ret (Value.ref l))) s) :=
  .of_wp fun prog w A R s h => by
    obtain ⟨hp, g, d, tk, os⟩ := s
    obtain ⟨hl, h⟩ := h
    have f1 := AutoSeq1.idx_int
    wp_walk using AutoSeq1.wpAny_loadPart' hl
    repeat (first
      | (refine wpAny_ite_false (decide_eq_false (by simp)) ?_; wp_walk using AutoSeq1.wpAny_loadPart' hl)
      | (refine wpAny_ite_true (decide_eq_true (by simp)) ?_; wp_walk using AutoSeq1.wpAny_loadPart' hl))
    exact ⟨_, rfl, h⟩
def rRepA (K : PySem.W.Frag) : R2 := fun x y H Q => ∃ (l : Addr) (k : Nat) (xs : List V), x = .ref l ∧ y = .int k ∧ SqT K H l xs ∧ xs ≠ [] ∧ k ≤ 1000 ∧ xs.length ≤ 1000 ∧
    (k = 1 → Q (.ref l) H) ∧ (k ≠ 1 → ∀ p, H p = none → Q (.ref p) (upd H p (.tup (List.replicate k xs).flatten)))
abbrev RC := List V → Hp → VK → Prop
def rLenQ (K : PySem.W.Frag) : RC := fun xs H Q => ∃ (p : Addr) (ys : List V), xs = [.ref p] ∧ (SqL K H p ys ∨ SqT K H p ys) ∧ Q (.int ys.length) H
def rTupQ (K : PySem.W.Frag) : RC := fun xs H Q => ∃ (p : Addr) (ys : List V), xs = [.ref p] ∧ ((SqL K H p ys ∧ ∀ l, H l = none → Q (.ref l) (upd H l (.tup ys))) ∨ (SqT K H p ys ∧ Q (.ref p) H))
section
variable {X : Cx}
theorem call_lenQ : CallR X (.builtin "len") (rLenQ X.K) := call_len_seq
theorem call_tupQ : CallR X (.type "tuple") (rTupQ X.K) := call_tuple_of
/-- o[i] of a list, for o[i] += e -/
theorem get_list : PGet X (fun o i H Q => ∃ (p : Addr) (xs : List V) (j : Nat) (v : V), o = .ref p ∧ i = .int j ∧ SqL X.K H p xs ∧ xs[j]? = some v ∧ Q v H) := by
  intro pins s σ H o i ov iv Q I ro ri h
  obtain ⟨p, xs, j, v, rfl, rfl, hq, he, q⟩ := h
  cases ro
  obtain ⟨t, rfl⟩ := ri
  obtain ⟨its, r, pl, hz⟩ := I.list hq
  obtain ⟨u, eu, ru⟩ := r.get he
  have hj : j < its.length := (List.getElem?_eq_some_iff.mp eu).1
  have hl := r.length
  have hn := line63
  exact wpAny_getItem_list pl.isList (by omega) (by omega) (by simpa using eu) ⟨v, H, I, ru, q⟩
/-- tuple * int -/
theorem op_repA : OpR X (binaryOp .Mult) (rRepA X.K) := by
  intro pins s σ H x y v u Q I rx ry h
  obtain ⟨l, k, xs, rfl, rfl, hT, hne, h2, hz, q1, q2⟩ := h
  by_cases hk2 : 2 ≤ k
  · exact op_repT pins s σ H _ _ v u Q I rx ry ⟨l, k, xs, rfl, rfl, hT, hne, by omega, by omega, hz, by simpa using q2 (by omega)⟩
  cases rx
  obtain ⟨t, rfl⟩ := ry
  obtain ⟨its, r, ⟨⟨cls, dd, data, sl⟩, ho, hc, n, hd⟩, hs⟩ := I.tuple hT
  simp only at hc hd
  subst hc hd
  have hi : its.toArray.isEmpty = false := by
    cases its with
    | nil => exact absurd (List.eq_nil_of_length_eq_zero (by simpa using r.length)) hne
    | cons a b => rfl
  refine wpAny_binaryOp_repeat_ref (T := "tuple") (U := "int") (by decide) ⟨_, ho, rfl⟩ (fun s' => typeIs_int s' k t) noFill_tuple_mul F.fills_int_mul F.slot_int_rmul repeat_tuple F.slot_int_index.lookup
    (call_meets F.slot_int_rmul (typeIs_int s k t) F.entry_int_rmul (F.args_int_rmul_2 _ _) (int_rmul_tuple k t l its.toArray n dd sl)
      ⟨ho, rfl, ⟨_, ho, rfl⟩, ?_⟩)
  obtain hk | hk : k = 0 ∨ k = 1 := by omega
  · subst hk
    refine call_meets F.slot_tuple_mul (show s.TypeIs (.ref l) "tuple" from ⟨_, ho, rfl⟩) F.entry_tuple_mul (F.args_tuple_mul_2 _ _) (tup_mul0 l its.toArray n dd sl t hi) ⟨ho, ?_⟩
    refine ⟨.ref s.heap.objs.size, _, I.laid (t' := s.toks) (o := .tup []) (fun b ob q => Heap.get?_push_of_some _ q) (Nat.le_refl _) ?_, rfl, q2 (by decide) _ (I.hok.fresh (Nat.le_refl _))⟩
    exact ⟨Nat.zero_le _, [], .nil, IsTup.new _ _⟩
  · subst hk
    exact call_meets F.slot_tuple_mul (show s.TypeIs (.ref l) "tuple" from ⟨_, ho, rfl⟩) F.entry_tuple_mul (F.args_tuple_mul_2 _ _) (tup_mul1 l its.toArray n dd sl t) ⟨ho, ⟨.ref l, H, I, rfl, q1 rfl⟩⟩
/-- sum of a tuple of ints -/
theorem call_sumT (hc : X.calm = true) : CallR X (.builtin "sum") (fun xs H Q => ∃ (a : Addr) (ns : List Int), xs = [.ref a] ∧ SqT X.K H a (ns.map V.int) ∧ Q (.int ns.sum) H) := by
  intro pins s σ H xs us Q I r h
  obtain ⟨a, ns, rfl, hT, q⟩ := h
  obtain ⟨u, rfl, rfl⟩ := vals1 r
  obtain ⟨its, rv, ht, hz⟩ := I.tuple hT
  have hi : IntsAre its ns := rv.ints
  obtain ⟨ys, e⟩ := hi.allInts.items
  have hn : numsOf (intItems ys).toList = ns := by rw [← e]; exact hi.numsOf
  rw [nums_intItems] at hn
  rw [e] at ht
  have ht' : s.heap.IsTuple a (intItems ys) := ht
  have hlt : a < s.heap.objs.size := by obtain ⟨_, z, _⟩ := ht; exact Heap.lt_size z
  refine call_sum_walkG (wpAny_pyIter_tuple ht' ?_)
  refine ⟨_, _, _, _, _, _, numAt ys, rfl, Walks.tuple (A := X.A.in1) (I.ok.hd hc) _ a (Nat.ne_of_lt hlt) (intItems ys), ⟨⟨_, Heap.get?_push_size _ rfl, rfl, rfl⟩, ht'.push _⟩, ?_, (fun _ _ => intItems_at), ?_⟩
  · intro b hb
    show b < (s.heap.push _).objs.size
    rw [Heap.size_push]
    simp only [List.mem_cons, List.not_mem_nil, or_false] at hb
    rcases hb with rfl | rfl
    · exact Nat.lt_succ_self _
    · exact Nat.lt_succ_of_lt hlt
  · intro h' tk t' hk
    have eq : preSum (numAt ys) (intItems ys).size = ns.sum := by
      rw [preSum_eq, List.take_of_length_le (by simp [intItems]), hn]
    rw [eq]
    refine ⟨.int _, H, I.kept (t' := tk) (h' := h') ?_, ⟨_, rfl⟩, q⟩
    intro b o eb
    refine hk b o (fun hm => ?_) (Heap.get?_push_of_some _ eb)
    exact absurd (Heap.lt_size eb) ((List.mem_singleton.mp hm) ▸ Nat.lt_irrefl _)
end
theorem walk_zipT {K : PySem.W.Frag} {a b : Addr} {xs ys : List V} {n : Nat} (hn : n = min xs.length ys.length) :
    Walk (RZ.ItzT K a b) n (fun H => SqT K H a xs ∧ SqT K H b ys) (YPair (fun i => xs[i]?) (fun i => ys[i]?)) := by
  subst hn
  constructor
  · rintro i H hi ⟨q1, q2⟩
    have h1 : i < xs.length := by omega
    have h2 : i < ys.length := by omega
    exact ⟨xs, ys, xs[i], ys[i], q1, q2, by simp [h1], by simp [h2]⟩
  · rintro H ⟨q1, q2⟩
    exact ⟨xs, ys, q1, q2, by omega⟩
  · rintro i H v H' _ ⟨q1, q2⟩ ⟨T, x, z, h1, h2, h3, h4, h5⟩
    exact ⟨T, x, z, h1, h2, h3, h4 xs q1, h5 ys q2⟩
end Pv

namespace Pv
open PySem PySem.Spec PyProof.Rows L2

/-! tuples never change -/
def TupK (H H' : Hp) : Prop := ∀ b xs, (H b = some (.tup xs) → H' b = some (.tup xs)) ∧ ∀ u, H b = some (.frz u (.tup xs)) → H' b = some (.frz u (.tup xs))
theorem TupK.refl (H : Hp) : TupK H H := fun _ _ => ⟨id, fun _ => id⟩
theorem TupK.trans {H H1 H2 : Hp} (a : TupK H H1) (b : TupK H1 H2) : TupK H H2 := fun c xs => ⟨fun h => (b c xs).1 ((a c xs).1 h), fun u h => (b c xs).2 u ((a c xs).2 u h)⟩
theorem TupK.rd {H H' : Hp} (s : TupK H H') {b : Addr} {xs : List V} (h : Rd H b (.tup xs)) : Rd H' b (.tup xs) := by
  rcases h with h | ⟨o, h⟩
  · exact .inl ((s _ _).1 h)
  · exact .inr ⟨o, (s _ _).2 o h⟩
theorem TupK.of {H H' : Hp} (s : Same H H') : TupK H H' := fun _ _ => ⟨fun h => s _ _ h, fun _ h => s _ _ h⟩
theorem TupK.new {H : Hp} {p : Addr} {o : HO} (np : H p = none) : TupK H (upd H p o) := .of (sameNew np)
theorem TupK.put {H : Hp} {p : Addr} {o : HO} {ys : List V} (e : H p = some (.lst ys)) : TupK H (upd H p o) := by
  intro b xs
  refine ⟨fun h => ?_, fun u h => ?_⟩
  · rw [upd_ne (ne_of h e (by intro z; cases z))]; exact h
  · rw [upd_ne (ne_of h e (by intro z; cases z))]; exact h
theorem TupK.sq {K : PySem.W.Frag} {H H' : Hp} {a : Addr} {xs : List V} (s : TupK H H') (h : SqT K H a xs) : SqT K H' a xs := by
  rcases h with h | h
  · exact .inl (s.rd h)
  · exact .inr h

mutual
def tupOnly : PyData → Bool
  | .none | .bool _ | .int _ | .str _ => true
  | .tuple xs => tupOnlyAll xs
  | .list _ | .dict _ => false
def tupOnlyAll : List PyData → Bool
  | [] => true
  | x :: xs => tupOnly x && tupOnlyAll xs
end
mutual
theorem TupK.dp {K : PySem.W.Frag} {H H' : Hp} (s : TupK H H') : ∀ (d : PyData) (v : V), tupOnly d = true → Dp K H v d → Dp K H' v d
  | .none, v, _, h => by cases h; exact .non
  | .bool b, v, _, h => by cases h; exact .bl _
  | .int b, v, _, h => by cases h; exact .int _
  | .str b, v, _, h => by cases h; exact .str _
  | .tuple xs, v, t, h => by
    cases h with
    | tup hs ha => exact .tup (s.sq hs) (TupK.dpAll s xs _ (by simpa [tupOnly] using t) ha)
  | .list _, v, t, _ => by simp [tupOnly] at t
  | .dict _, v, t, _ => by simp [tupOnly] at t
theorem TupK.dpAll {K : PySem.W.Frag} {H H' : Hp} (s : TupK H H') : ∀ (ds : List PyData) (vs : List V), tupOnlyAll ds = true → DpAll K H vs ds → DpAll K H' vs ds
  | [], vs, _, h => by cases h; exact .nil
  | d :: ds, vs, t, h => by
    have t' : tupOnly d = true ∧ tupOnlyAll ds = true := by simpa [tupOnlyAll] using t
    cases h with
    | cons h1 h2 => exact .cons (TupK.dp s d _ t'.1 h1) (TupK.dpAll s ds _ t'.2 h2)
end
theorem tupOnlyAll_of {ds : List PyData} (h : ∀ d ∈ ds, tupOnly d = true) : tupOnlyAll ds = true := by
  induction ds with
  | nil => simp [tupOnlyAll]
  | cons d ds ih => simp [tupOnlyAll, h d (by simp), ih (fun e he => h e (by simp [he]))]

/-! data -/
abbrev Gp := List Int × Int
def dI (ns : List Int) : PyData := .tuple (ns.map .int)
def dGrp (g : Gp) : PyData := .tuple [dI g.1, .int g.2]
def dInst (cs : List Int) (gs : List Gp) : PyData := .tuple [dI cs, .tuple (gs.map dGrp)]
def dAsg (rows : List (List Int)) : PyData := .tuple (rows.map dI)
theorem to_ints (ns : List Int) : tupOnlyAll (ns.map PyData.int) = true := tupOnlyAll_of (by intro d hd; obtain ⟨n, _, rfl⟩ := List.mem_map.mp hd; simp [tupOnly])
theorem to_dI (ns : List Int) : tupOnly (dI ns) = true := by simp [dI, tupOnly, to_ints]
theorem to_dGrp (g : Gp) : tupOnly (dGrp g) = true := by simp [dGrp, tupOnly, tupOnlyAll, to_dI]
theorem to_grps (gs : List Gp) : tupOnlyAll (gs.map dGrp) = true := tupOnlyAll_of (by intro d hd; obtain ⟨n, _, rfl⟩ := List.mem_map.mp hd; exact to_dGrp n)
theorem to_rows (rs : List (List Int)) : tupOnlyAll (rs.map dI) = true := tupOnlyAll_of (by intro d hd; obtain ⟨n, _, rfl⟩ := List.mem_map.mp hd; exact to_dI n)
theorem to_dInst (cs : List Int) (gs : List Gp) : tupOnly (dInst cs gs) = true := by simp [dInst, tupOnly, tupOnlyAll, to_dI, to_grps]
theorem to_dAsg (rs : List (List Int)) : tupOnly (dAsg rs) = true := by simp [dAsg, tupOnly, to_rows]

section
variable {K : PySem.W.Frag} {H : Hp}
theorem DpAll.len : ∀ {vs : List V} {ds : List PyData}, DpAll K H vs ds → vs.length = ds.length
  | _, _, .nil => rfl
  | _, _, .cons _ t => by simp [DpAll.len t]
theorem DpAll.ints : ∀ {ns : List Int} {vs : List V}, DpAll K H vs (ns.map PyData.int) → vs = ns.map V.int
  | [], _, h => by cases h; rfl
  | n :: ns, _, h => by
    cases h with
    | cons h1 h2 => cases h1; rw [DpAll.ints h2]; rfl
theorem dp_ints : ∀ (ns : List Int), DpAll K H (ns.map V.int) (ns.map PyData.int)
  | [] => .nil
  | n :: ns => .cons (.int n) (dp_ints ns)
theorem DpAll.at : ∀ {vs : List V} {ds : List PyData} {i : Nat} {v : V}, DpAll K H vs ds → vs[i]? = some v → ∃ d, ds[i]? = some d ∧ Dp K H v d
  | _, _, _, _, .nil, e => by simp at e
  | _, _, 0, _, .cons h _, e => by simp at e; subst e; exact ⟨_, rfl, h⟩
  | _, _, i + 1, v, .cons _ t, e => by
    obtain ⟨d, h1, h2⟩ := DpAll.at (i := i) t (by simpa using e)
    exact ⟨d, by simpa using h1, h2⟩
theorem DpAll.snoc : ∀ {vs : List V} {ds : List PyData} {v : V} {d : PyData}, DpAll K H vs ds → Dp K H v d → DpAll K H (vs ++ [v]) (ds ++ [d])
  | _, _, _, _, .nil, h => .cons h .nil
  | _, _, _, _, .cons h t, h' => .cons h (DpAll.snoc t h')
theorem sq_dI {a : Addr} {ns : List Int} (h : Dp K H (.ref a) (dI ns)) : SqT K H a (ns.map V.int) := by
  cases h with
  | tup hs ha => rw [DpAll.ints ha] at hs; exact hs
theorem dI_sq {a : Addr} {ns : List Int} (h : SqT K H a (ns.map V.int)) : Dp K H (.ref a) (dI ns) := .tup h (dp_ints ns)
theorem dI_ref {v : V} {ns : List Int} (h : Dp K H v (dI ns)) : ∃ a, v = .ref a ∧ SqT K H a (ns.map V.int) := by
  cases h with
  | tup hs ha => rw [DpAll.ints ha] at hs; exact ⟨_, rfl, hs⟩
theorem grp_ref {v : V} {g : Gp} (h : Dp K H v (dGrp g)) : ∃ a p, v = .ref a ∧ SqT K H a [.ref p, .int g.2] ∧ SqT K H p (g.1.map V.int) := by
  cases h with
  | tup hs ha =>
    cases ha with
    | cons h1 h2 =>
      cases h2 with
      | cons h3 h4 =>
        cases h4
        cases h3
        obtain ⟨p, rfl, hp⟩ := dI_ref h1
        exact ⟨_, p, rfl, hs, hp⟩
theorem inst_open {v : V} {cs : List Int} {gs : List Gp} (h : Dp K H v (dInst cs gs)) :
    ∃ a c g xs, v = .ref a ∧ SqT K H a [.ref c, .ref g] ∧ SqT K H c (cs.map V.int) ∧ SqT K H g xs ∧ DpAll K H xs (gs.map dGrp) := by
  cases h with
  | tup hs ha =>
    cases ha with
    | cons h1 h2 =>
      cases h2 with
      | cons h3 h4 =>
        cases h4
        obtain ⟨c, rfl, hc⟩ := dI_ref h1
        cases h3 with
        | tup hg hx => exact ⟨_, c, _, _, rfl, hs, hc, hg, hx⟩
theorem asg_open {v : V} {rs : List (List Int)} (h : Dp K H v (dAsg rs)) : ∃ a xs, v = .ref a ∧ SqT K H a xs ∧ DpAll K H xs (rs.map dI) := by
  cases h with
  | tup hg hx => exact ⟨_, _, rfl, hg, hx⟩
end

/-! what repr wants of data -/
structure Fine (k B : Nat) (d : PyData) : Prop where
  sh : d.showable = true
  nd : d.hasDict = false
  dp : d.depth ≤ k
  ln : d.shown.length ≤ B
theorem Fine.mono {k k' B B' : Nat} {d : PyData} (h : Fine k B d) (hk : k ≤ k') (hB : B ≤ B') : Fine k' B' d := ⟨h.sh, h.nd, Nat.le_trans h.dp hk, Nat.le_trans h.ln hB⟩
theorem fine_int {i : Int} (h : i.natAbs < 10 ^ 20) : Fine 0 25 (.int i) := by
  refine ⟨?_, by simp [PyData.hasDict], by simp [PyData.depth], ?_⟩
  · simp only [PyData.showable, decide_eq_true_eq]
    have : i.natAbs.log2 < 100 := by
      by_cases h0 : i.natAbs = 0
      · rw [h0]; decide
      · exact (Nat.log2_lt h0).mpr (Nat.lt_trans h (by decide))
    omega
  · have e := int_text_length_le10 (k := 20) (by decide) h
    show (Str.ofString (toString i)).length ≤ 25
    rw [PySem.ofString_length]
    omega
theorem fine_all {k B : Nat} : ∀ {xs : List PyData}, (∀ x ∈ xs, Fine k B x) → PyData.showableAll xs = true ∧ PyData.hasDictAll xs = false ∧ PyData.depthAll xs ≤ k ∧ ((PyData.shownAll xs).map (·.length)).sum ≤ xs.length * B ∧ (PyData.shownAll xs).length = xs.length
  | [], _ => by simp [PyData.showableAll, PyData.hasDictAll, PyData.depthAll, PyData.shownAll]
  | x :: xs, h => by
    obtain ⟨h1, h2, h3, h4, h5⟩ := fine_all (xs := xs) (fun y hy => h y (by simp [hy]))
    have hx := h x (by simp)
    refine ⟨by simp [PyData.showableAll, hx.sh, h1], by simp [PyData.hasDictAll, hx.nd, h2], ?_, ?_, ?_⟩
    · simp only [PyData.depthAll]; have := hx.dp; omega
    · simp only [PyData.shownAll, List.map_cons, List.sum_cons, List.length_cons]; have := hx.ln; rw [Nat.succ_mul]; omega
    · simp [PyData.shownAll, h5]
theorem fine_tup {k B n : Nat} {xs : List PyData} (h : ∀ x ∈ xs, Fine k B x) (hn : xs.length ≤ n) : Fine (k + 1) (n * (B + 2) + 3) (.tuple xs) := by
  obtain ⟨h1, h2, h3, h4, h5⟩ := fine_all h
  refine ⟨by simp only [PyData.showable]; exact h1, by simp only [PyData.hasDict]; exact h2, by simp only [PyData.depth]; omega, ?_⟩
  simp only [PyData.shown]
  have e := tupleText_len_le (PyData.shownAll xs)
  rw [h5] at e
  have m : xs.length * (B + 2) ≤ n * (B + 2) := Nat.mul_le_mul_right _ hn
  rw [Nat.mul_add] at m
  omega
theorem fine_lst {k B n : Nat} {xs : List PyData} (h : ∀ x ∈ xs, Fine k B x) (hn : xs.length ≤ n) : Fine (k + 1) (n * (B + 2) + 3) (.list xs) := by
  obtain ⟨h1, h2, h3, h4, h5⟩ := fine_all h
  refine ⟨by simp only [PyData.showable]; exact h1, by simp only [PyData.hasDict]; exact h2, by simp only [PyData.depth]; omega, ?_⟩
  simp only [PyData.shown]
  have e := listText_len_le (PyData.shownAll xs)
  rw [h5] at e
  have m : xs.length * (B + 2) ≤ n * (B + 2) := Nat.mul_le_mul_right _ hn
  rw [Nat.mul_add] at m
  omega
theorem fine_dI {ns : List Int} {n : Nat} (h : ∀ i ∈ ns, i.natAbs < 10 ^ 20) (hn : ns.length ≤ n) : Fine 1 (n * 27 + 3) (dI ns) := by
  refine fine_tup (B := 25) ?_ (by simpa using hn)
  intro d hd
  obtain ⟨i, hi, rfl⟩ := List.mem_map.mp hd
  exact fine_int (h i hi)

/-! the drawing state of the law: a list of the cells, the rests and the turn -/
structure DS (H : Hp) (st c r : Addr) (t : Nat) : Prop where
  hs : H st = some (.lst [.ref c, .ref r, .int t])
  ex : ∃ cells rests : List Int, H c = some (.lst (cells.map V.int)) ∧ H r = some (.lst (rests.map V.int)) ∧ cells.length = rests.length ∧
    0 < cells.length ∧ cells.length ≤ 100 ∧ ∀ x ∈ rests, 0 ≤ x
  n1 : c ≠ r
  n2 : st ≠ c
  n3 : st ≠ r
def Ext (st r : Addr) (H H' : Hp) : Prop := ∀ b o, H b = some o → b ≠ st → b ≠ r → H' b = some o
section
variable {H H1 H2 : Hp} {st c r p : Addr} {t : Nat} {o : HO}
theorem Ext.trans (a : Ext st r H H1) (b : Ext st r H1 H2) : Ext st r H H2 := fun x o h n1 n2 => b x o (a x o h n1 n2) n1 n2
theorem Ext.of (s : Same H H1) : Ext st r H H1 := fun b o h _ _ => s b o h
theorem Ext.tup (d : DS H st c r t) (e : Ext st r H H1) : TupK H H1 := by
  obtain ⟨cells, rests, hc, hr, _⟩ := d.ex
  intro b xs
  refine ⟨fun h => ?_, fun u h => ?_⟩
  · exact e _ _ h (ne_of h d.hs (by intro z; cases z)) (ne_of h hr (by intro z; cases z))
  · exact e _ _ h (ne_of h d.hs (by intro z; cases z)) (ne_of h hr (by intro z; cases z))
theorem DS.same (d : DS H st c r t) (s : Same H H1) : DS H1 st c r t := by
  obtain ⟨cells, rests, hc, hr, q⟩ := d.ex
  exact ⟨s _ _ d.hs, ⟨cells, rests, s _ _ hc, s _ _ hr, q⟩, d.n1, d.n2, d.n3⟩
theorem DS.new (d : DS H st c r t) (np : H p = none) : DS (upd H p o) st c r t := d.same (sameNew np)
theorem DS.put (d : DS H st c r t) (h1 : p ≠ st) (h2 : p ≠ c) (h3 : p ≠ r) : DS (upd H p o) st c r t := by
  obtain ⟨cells, rests, hc, hr, q⟩ := d.ex
  exact ⟨by rw [upd_ne h1.symm]; exact d.hs, ⟨cells, rests, by rw [upd_ne h2.symm]; exact hc, by rw [upd_ne h3.symm]; exact hr, q⟩, d.n1, d.n2, d.n3⟩
/-- an address that was free while the state stood is none of its own -/
theorem DS.off (d : DS H st c r t) (np : H p = none) : p ≠ st ∧ p ≠ c ∧ p ≠ r := by
  obtain ⟨cells, rests, hc, hr, q⟩ := d.ex
  exact ⟨(ne_of_none d.hs np).symm, (ne_of_none hc np).symm, (ne_of_none hr np).symm⟩
end
end Pv

namespace Pv
open PySem PySem.Spec PyProof.Rows L2
/-! enumerate of a tuple -/
theorem enumT_new (l : Addr) (items : Array Value) (n : Nat) (dct : Option Addr) (sl : Array (Option Value)) :
    Meets (Builtin.«enumerate.__new__» ⟨[.type "enumerate", .ref l], []⟩) (fun _ R s =>
      s.heap.get? l = some { cls := .type "tuple", dict := dct, data := .seq items n, slots := sl } ∧
      R (.ok (.ret (.ref (s.heap.push { cls := .type "tuple_iterator", data := .fields #[.ref l, .int 0 0] }).objs.size)))
        { s with heap := Heap.push (s.heap.push { cls := .type "tuple_iterator", data := .fields #[.ref l, .int 0 0] }) { cls := .type "enumerate", data := .fields #[.none, .bool false, .ref s.heap.objs.size, rawInt 0, .none, .none] } }) :=
  .of_wp fun prog w A R s h => by
    obtain ⟨hp, g, d, tk, os⟩ := s
    obtain ⟨hl, h⟩ := h
    have hsub := sub_enumerate
    have hL : Heap.IsTuple (Shared.heap ⟨hp, g, d, tk, os⟩) l items := ⟨_, hl, rfl, n, rfl⟩
    wp_walk using AutoSeq1.wpAny_loadPart' hl
    refine wpAny_stack_any fun st => wpAny_pure ?_
    split
    · rename_i c _ _ _ _ _
      cases (c == Value.type "enumerate") <;>
        (wp_walk using AutoSeq1.wpAny_loadPart' hl, wpAny_pyIter_tuple hL; exact ⟨_, rfl, h⟩)
    · wp_walk using AutoSeq1.wpAny_loadPart' hl, wpAny_pyIter_tuple hL
      exact ⟨_, rfl, h⟩
theorem call_enumT {prog : Program} {w : World} {A : Around} {E : Value → Shared → Prop} {s : Shared} {l : Addr} {items : Array Value} {Q : Value → Shared → Prop} (hL : s.heap.IsTuple l items)
    (h : ∀ h', IsEnum h' (s.heap.objs.size + 1) s.heap.objs.size 0 .none → h'.IsTupleIter s.heap.objs.size l 0 →
      (∀ b o, s.heap.get? b = some o → h'.get? b = some o) → Q (.ref (s.heap.objs.size + 1)) { s with heap := h' }) :
    wpAny (model prog w) A (call (.type "enumerate") [.ref l]) Q E s := by
  obtain ⟨⟨c, dct, dt, sl⟩, hl, hc, n, hd⟩ := hL
  simp only at hc hd
  subst hc hd
  refine callType_new F.called_enumerate (by decide) (F.typeCall_enumerate_1 _) (F.newCall_enumerate_1 _) (fun obj => F.args_object_init_2 obj _) F.entry_enumerate_new (enumT_new l items n dct sl) ⟨hl, ?_⟩
  have hz : (s.heap.push { cls := .type "tuple_iterator", data := .fields #[.ref l, .int 0 0] }).objs.size = s.heap.objs.size + 1 := Heap.size_push ..
  show _ ∧ _
  rw [hz]
  have ge : IsEnum (Heap.push (s.heap.push { cls := .type "tuple_iterator", data := .fields #[.ref l, .int 0 0] }) { cls := .type "enumerate", data := .fields #[.none, .bool false, .ref s.heap.objs.size, rawInt 0, .none, .none] }) (s.heap.objs.size + 1) s.heap.objs.size 0 .none := by
    rw [← hz]
    exact Heap.get?_push_size _ rfl
  exact ⟨⟨_, ge, rfl⟩, h _ ge ⟨_, Heap.get?_push_of_some _ (Heap.get?_push_size _ rfl), rfl, rfl⟩ fun b o x => Heap.get?_push_of_some _ (Heap.get?_push_of_some _ x)⟩
def IteT (K : PySem.W.Frag) (a : Addr) : It :=
  ⟨fun i H => ∃ (xs : List V) (x : V), SqT K H a xs ∧ xs[i]? = some x,
   fun i H v H' => ∃ T x, v = .ref T ∧ H T = none ∧ H' = upd H T (.tup [.int (i : Nat), x]) ∧ ∀ xs, SqT K H a xs → xs[i]? = some x,
   fun i H => ∃ xs : List V, SqT K H a xs ∧ xs.length = i⟩
theorem tupLt {h : Heap} {a : Addr} {its : Array Value} (p : IsTup h a its) : a < h.objs.size := by obtain ⟨_, e, _⟩ := p; exact Heap.lt_size e
theorem turn_enumT {P : Program} {w : World} {K : PySem.W.Frag} {elts : List Expr} {kk : Nat} {tpos : Pos} (a e it : Addr) :
    Turn P w K (.Tuple elts kk tpos) (IteT K a) [e, it] e (fun i h => (∃ old, IsEnum h e it ((i : Nat) : Int) old) ∧ h.IsTupleIter it a i ∧ e ≠ it) where
  mem := by simp
  obj := by
    rintro i h ⟨⟨old, he⟩, ⟨o, ho, hc, hd⟩, _⟩ b hb
    simp only [List.mem_cons, List.not_mem_nil, or_false] at hb
    rcases hb with rfl | rfl
    · exact ⟨_, he, fun v q => nomatch q⟩
    · exact ⟨o, ho, fun v q => by rw [hd] at q; cases q⟩
  keep := by
    rintro i h h' ⟨⟨old, he⟩, hi, hne⟩ k
    exact ⟨⟨old, k e (by simp) _ he⟩, hi.at fun o q => k it (by simp) o q, hne⟩
  item := by
    intro X hP hw hK hc i pins s σ H E I hf st hg
    subst hP hw hK
    obtain ⟨⟨old, he⟩, hit, hne⟩ := st
    obtain ⟨xs, x, hq, hx⟩ := hg
    obtain ⟨its, rv, p, hz⟩ := I.tuple hq
    obtain ⟨u, hu, ru⟩ := rv.get hx
    have hel : e < s.heap.objs.size := Heap.lt_size he
    have hil : it < s.heap.objs.size := by obtain ⟨_, q, _⟩ := hit; exact Heap.lt_size q
    have nea : e ≠ a := by
      rintro rfl
      obtain ⟨o, ho, hcl, _⟩ := p
      rw [he] at ho
      cases ho
      injection hcl with hcl
      exact absurd hcl (by decide)
    have nia : a ≠ it := by
      rintro rfl
      obtain ⟨o, ho, hcl, _⟩ := p
      obtain ⟨o2, ho2, hcl2, _⟩ := hit
      rw [ho] at ho2
      cases ho2
      rw [hcl] at hcl2
      injection hcl2 with hcl2
      exact absurd hcl2 (by decide)
    have hlt : i < its.toArray.size := by have := (List.getElem?_eq_some_iff.mp hu).1; simpa using this
    refine wpAny_pyNext_enum_itemD (Draws.tuple (A := X.A.in1) (I.ok.hd hc) it a nia its.toArray) he ⟨hit, p⟩ hlt hne (by simp [hne, nea]) ?_
    intro u' h' tk hu' ho st' hT hsz hk
    have hu2 : its.toArray[i]? = some u' := hu'
    have : u' = u := by
      have h3 : its.toArray[i]? = some u := by simpa using hu
      rw [h3] at hu2
      exact (Option.some.inj hu2).symm
    subst this
    refine ⟨_, rfl, wpAny_letOwnedTupleGo_enum (s := { s with heap := h', toks := tk + 1 }) ho fun h'' he' sb => ?_⟩
    have hT2 : h''.get? s.heap.objs.size = some { cls := .type "tuple", data := .seq #[.int i tk, u'] } := (sb.2 _ (Nat.ne_of_gt hel)).trans hT
    have new : ObjOk X.prog X.w (upd H s.heap.objs.size (.tup [.int (i : Nat), x])) h'' s.heap.objs.size (.tup [.int (i : Nat), x]) :=
      ⟨by show 2 ≤ sizeLine; decide, [.int i tk, u'], .cons ⟨_, rfl⟩ (.cons ru .nil), ⟨_, hT2, rfl, _, rfl⟩⟩
    have kk : ∀ b ob, b ∉ [e, it] → s.heap.get? b = some ob → h''.get? b = some ob := by
      intro b ob hb q
      have h1 : b ≠ e := fun z => hb (by simp [z])
      have h2 : b ≠ it := fun z => hb (by simp [z])
      exact (sb.2 b h1).trans (hk b ob h1 h2 q)
    have I1 : Inv X pins σ (upd H s.heap.objs.size (.tup [.int (i : Nat), x])) { s with heap := h'', toks := tk + 1 } :=
      I.turnedNew (ch := [e, it]) kk hf (Nat.le_refl _) new
    refine ⟨.ref s.heap.objs.size, _, I1, rfl, ⟨_, x, rfl, I.hok.fresh (Nat.le_refl _), rfl, fun ys hy => by rw [I.tuple_inj hy hq]; exact hx⟩, ⟨⟨u', ?_⟩, st'.1.at fun o q => (sb.2 it (Ne.symm hne)).trans q, hne⟩, fun b hb => ?_⟩
    · rw [show ((i + 1 : Nat) : Int) = (i : Int) + 1 by omega]; exact he'
    · have hb' : b < s.heap.objs.size := by
        simp only [List.mem_cons, List.not_mem_nil, or_false] at hb
        rcases hb with rfl | rfl <;> assumption
      rw [upd_ne (Nat.ne_of_lt hb')]
      exact (hf b hb).1
  done := by
    intro X hP hw hK hc i pins s σ H E I hf st hg
    subst hP hw hK
    obtain ⟨⟨old, he⟩, hit, hne⟩ := st
    obtain ⟨xs, hq, hx⟩ := hg
    obtain ⟨its, rv, p, hz⟩ := I.tuple hq
    obtain ⟨f0, f1, f2, f3, f4, f5⟩ := hf it (by simp)
    have hl := rv.length
    have nia : a ≠ it := by
      rintro rfl
      obtain ⟨o, ho, hcl, _⟩ := p
      obtain ⟨o2, ho2, hcl2, _⟩ := hit
      rw [ho] at ho2
      cases ho2
      rw [hcl] at hcl2
      injection hcl2 with hcl2
      exact absurd hcl2 (by decide)
    have hi : i = its.toArray.size := by rw [List.size_toArray]; omega
    refine wpAny_pyNext_enum_endD (Draws.tuple (A := X.A.in1) (I.ok.hd hc) it a nia its.toArray) he (by rw [← hi]; exact ⟨hit, p⟩) fun h' eb => ⟨rfl, I.turned (t' := s.toks) (fun b o hb q => eb b o hb q) f0 f1 f3 f4 f5⟩
  self := by
    rintro A i s Q E ⟨⟨_, he⟩, _⟩ h
    exact wpAny_pyIter_enum he h
def iEnumT (K : PySem.W.Frag) (ta : TA) : TI := fun σ H R => ta σ H fun vs H1 => ∃ a xs, vs = [.ref a] ∧ SqT K H1 a xs ∧ R (IteT K a) H1
theorem pi_enumT {X : Cx} {e : Expr} {ta : TA} {p pos tpos : Pos} {elts : List Expr} {kk : Nat} (hg : Gl X "enumerate") (hm : X.mg "enumerate" = none) (ha : PA X [e] ta)
    (hs : starEach [e] X.env = [(false, eval e X.env)] := by rfl) : PI X (.Tuple elts kk tpos) (.Call (.Name "enumerate" p) [e] [] pos) (iEnumT X.K ta) := by
  constructor
  intro pins s σ H R I h
  refine Call_ (ld_blt I hg hm boot_enumerate (PyProof.Rows.callWith_type1 (thn (ha.run pos pins s σ H _ I h) ?_) hs rfl))
  rintro us s1 ⟨vs, H1, I1, r1, a, xs, rfl, hq, q⟩
  obtain ⟨u, rfl, rfl⟩ := vals1 r1
  obtain ⟨its, rv, p', hz⟩ := I1.tuple hq
  refine call_enumT (show s1.heap.IsTuple a its.toArray from p') fun h' he hit hk => wpAny_pyIter_enum he ?_
  have I2 : Inv X pins σ H1 { s1 with heap := h' } := I1.kept (t' := s1.toks) hk
  refine ⟨s1.heap.objs.size + 1, [s1.heap.objs.size + 1, s1.heap.objs.size], _, _, H1, rfl, I2, turn_enumT a (s1.heap.objs.size + 1) s1.heap.objs.size, ⟨⟨.none, he⟩, hit, Nat.succ_ne_self _⟩, ?_, q⟩
  intro b hb
  have hle : s1.heap.objs.size ≤ b := by
    simp only [List.mem_cons, List.not_mem_nil, or_false] at hb
    rcases hb with rfl | rfl <;> omega
  exact I1.fpOk hle (I1.hok.fresh hle)
theorem walk_enumT {K : PySem.W.Frag} {a : Addr} {xs : List V} : Walk (IteT K a) xs.length (fun H => SqT K H a xs) (YPair (fun i => some (.int (i : Nat))) (fun i => xs[i]?)) := by
  constructor
  · intro i H hi q
    exact ⟨xs, xs[i], q, by simp [hi]⟩
  · intro H q
    exact ⟨xs, q, rfl⟩
  · rintro i H v H' _ q ⟨T, x, h1, h2, h3, h4⟩
    exact ⟨T, _, x, h1, h2, h3, rfl, h4 xs q⟩
/-! zip of a list and a tuple -/
abbrev zm1 (h : Heap) (l1 : Addr) : Heap := h.push { cls := .type "list_iterator", data := .fields #[.ref l1, .int 0 0] }
abbrev zm2 (h : Heap) (l1 l2 : Addr) : Heap := (zm1 h l1).push { cls := .type "tuple_iterator", data := .fields #[.ref l2, .int 0 0] }
abbrev zm3 (h : Heap) (l1 l2 : Addr) : Heap := (zm2 h l1 l2).push { cls := .type "tuple", data := .seq #[.ref h.objs.size, .ref (zm1 h l1).objs.size] }
abbrev zm4 (h : Heap) (l1 l2 : Addr) : Heap := (zm3 h l1 l2).push { cls := .type "tuple", data := .seq #[.none, .none] }
abbrev zm5 (h : Heap) (l1 l2 : Addr) : Heap := (zm4 h l1 l2).push { cls := .type "zip", data := .fields #[.none, .bool false, .bool false, .ref (zm2 h l1 l2).objs.size, .ref (zm3 h l1 l2).objs.size] }
theorem zipM_new (l1 l2 : Addr) (xs ys : Array Value) :
    Meets (Builtin.«zip.__new__» ⟨[.type "zip", .ref l1, .ref l2], []⟩) (fun _ R s => s.heap.IsList l1 xs ∧ s.heap.IsTuple l2 ys ∧
      R (.ok (.ret (.ref (zm4 s.heap l1 l2).objs.size))) { s with heap := zm5 s.heap l1 l2 }) :=
  .of_wp fun prog w A R s h => by
    obtain ⟨hp, g, d, tk, os⟩ := s
    obtain ⟨hl1, hl2, h⟩ := h
    have hsub := sub_zip
    have hL1 : Heap.IsList (Shared.heap ⟨hp, g, d, tk, os⟩) l1 xs := hl1
    have hL2 : Heap.IsTuple (Shared.heap ⟨zm1 hp l1, g, d, tk, os⟩) l2 ys := Heap.IsTuple.push hl2 _
    wp_walk using wpAny_pyIter_list hL1, wpAny_pyIter_tuple hL2
    exact ⟨_, rfl, h⟩
theorem call_zipM {prog : Program} {w : World} {A : Around} {E : Value → Shared → Prop} {s : Shared} {l1 l2 : Addr} {xs ys : Array Value} {Q : Value → Shared → Prop} (hl1 : s.heap.IsList l1 xs) (hl2 : s.heap.IsTuple l2 ys)
    (h : ∀ h', IsZip h' (s.heap.objs.size + 4) (s.heap.objs.size + 2) (s.heap.objs.size + 3) .none → IsPair h' (s.heap.objs.size + 2) (.ref s.heap.objs.size) (.ref (s.heap.objs.size + 1)) →
      IsPair h' (s.heap.objs.size + 3) .none .none → h'.IsListIter s.heap.objs.size l1 0 → h'.IsTupleIter (s.heap.objs.size + 1) l2 0 →
      (∀ c o, s.heap.get? c = some o → h'.get? c = some o) → Q (.ref (s.heap.objs.size + 4)) { s with heap := h' }) :
    wpAny (model prog w) A (call (.type "zip") [.ref l1, .ref l2]) Q E s := by
  refine callType_new F.called_zip (by decide) (F.typeCall_zip_2 _ _) (F.newCall_zip_2 _ _) (fun obj => F.args_object_init_3 obj _ _) F.entry_zip_new (zipM_new l1 l2 xs ys) ⟨hl1, hl2, ?_⟩
  have z1 : (zm1 s.heap l1).objs.size = s.heap.objs.size + 1 := Heap.size_push ..
  have z2 : (zm2 s.heap l1 l2).objs.size = s.heap.objs.size + 2 := by rw [Heap.size_push, z1]
  have z3 : (zm3 s.heap l1 l2).objs.size = s.heap.objs.size + 3 := by rw [Heap.size_push, z2]
  have z4 : (zm4 s.heap l1 l2).objs.size = s.heap.objs.size + 4 := by rw [Heap.size_push, z3]
  have g5 : (zm5 s.heap l1 l2).get? (zm4 s.heap l1 l2).objs.size = some _ := Heap.get?_push_size _ rfl
  have g4 : (zm5 s.heap l1 l2).get? (zm3 s.heap l1 l2).objs.size = some _ := Heap.get?_push_of_some _ (Heap.get?_push_size _ rfl)
  have g3 : (zm5 s.heap l1 l2).get? (zm2 s.heap l1 l2).objs.size = some _ := Heap.get?_push_of_some _ (Heap.get?_push_of_some _ (Heap.get?_push_size _ rfl))
  have g2 : (zm5 s.heap l1 l2).get? (zm1 s.heap l1).objs.size = some _ := Heap.get?_push_of_some _ (Heap.get?_push_of_some _ (Heap.get?_push_of_some _ (Heap.get?_push_size _ rfl)))
  have g1 : (zm5 s.heap l1 l2).get? s.heap.objs.size = some _ := Heap.get?_push_of_some _ (Heap.get?_push_of_some _ (Heap.get?_push_of_some _ (Heap.get?_push_of_some _ (Heap.get?_push_size _ rfl))))
  show _ ∧ _
  rw [z2, z3, z4] at g5
  rw [z1, z2] at g3
  rw [z3] at g4
  rw [z1] at g2
  rw [z4]
  refine ⟨⟨_, g5, rfl⟩, h _ g5 g3 g4 ⟨_, g1, rfl, rfl⟩ ⟨_, g2, rfl, rfl⟩ ?_⟩
  intro c o x
  exact Heap.get?_push_of_some _ (Heap.get?_push_of_some _ (Heap.get?_push_of_some _ (Heap.get?_push_of_some _ (Heap.get?_push_of_some _ x))))
def ItzM (K : PySem.W.Frag) (a b : Addr) : It :=
  ⟨fun i H => ∃ (xs ys : List V) (x y : V), SqL K H a xs ∧ SqT K H b ys ∧ xs[i]? = some x ∧ ys[i]? = some y,
   fun i H v H' => ∃ T x y, v = .ref T ∧ H T = none ∧ H' = upd H T (.tup [x, y]) ∧ (∀ xs, SqL K H a xs → xs[i]? = some x) ∧ ∀ ys, SqT K H b ys → ys[i]? = some y,
   fun i H => ∃ xs ys : List V, SqL K H a xs ∧ SqT K H b ys ∧ min xs.length ys.length = i⟩
theorem sepM {z TI TO i1 i2 a b : Addr} (D : ZipApart z TI TO i1 i2 a b) : ZipSep2 z TI TO i1 i2 [i1, a] [i2, b] := by
  refine ⟨D.TIz, D.TOz, D.TITO, D.TIi1, by simp, ?_, ?_, D.TIi2, by simp, ?_, ?_, ?_, ?_⟩ <;>
    simp only [List.mem_cons, List.not_mem_nil, or_false, not_or]
  · exact ⟨D.i1z.symm, D.l1z.symm⟩
  · exact ⟨D.TOi1, D.l1TO.symm⟩
  · exact ⟨D.i2z.symm, D.l2z.symm⟩
  · exact ⟨D.TOi2, D.l2TO.symm⟩
  · exact ⟨D.i12, D.l2i1.symm⟩
  · exact ⟨D.i12.symm, D.l1i2.symm⟩
theorem turn_zipM {P : Program} {w : World} {K : PySem.W.Frag} {elts : List Expr} {kk : Nat} {tpos : Pos} {a b z TI TO i1 i2 : Addr} (D : ZipApart z TI TO i1 i2 a b) :
    Turn P w K (.Tuple elts kk tpos) (ItzM K a b) [z, TI, TO, i1, i2] z
      (fun i h => IsZip h z TI TO .none ∧ IsPair h TI (.ref i1) (.ref i2) ∧ (∃ x y, IsPair h TO x y) ∧ h.IsListIter i1 a i ∧ h.IsTupleIter i2 b i) where
  mem := by simp
  obj := by
    rintro i h ⟨hz, hTI, ⟨x, y, hTO⟩, ⟨o1, e1, _, d1⟩, ⟨o2, e2, _, d2⟩⟩ c hc
    simp only [List.mem_cons, List.not_mem_nil, or_false] at hc
    rcases hc with rfl | rfl | rfl | rfl | rfl
    · exact ⟨_, hz, fun v q => nomatch q⟩
    · exact ⟨_, hTI, fun v q => nomatch q⟩
    · exact ⟨_, hTO, fun v q => nomatch q⟩
    · exact ⟨o1, e1, fun v q => by rw [d1] at q; cases q⟩
    · exact ⟨o2, e2, fun v q => by rw [d2] at q; cases q⟩
  keep := by
    rintro i h h' ⟨hz, hTI, ⟨x, y, hTO⟩, h1, h2⟩ k
    exact ⟨k z (by simp) _ hz, k TI (by simp) _ hTI, ⟨x, y, k TO (by simp) _ hTO⟩, h1.at fun o q => k i1 (by simp) o q, h2.at fun o q => k i2 (by simp) o q⟩
  item := by
    intro X hP hw hK hc i pins s σ H E I hf st hg
    subst hP hw hK
    obtain ⟨hz, hTI, ⟨x0, y0, hTO⟩, h1, h2⟩ := st
    obtain ⟨xs, ys, x, y, hqx, hqy, hx, hy⟩ := hg
    obtain ⟨its, rv, p, _⟩ := I.list hqx
    obtain ⟨its2, rv2, p2, _⟩ := I.tuple hqy
    obtain ⟨u, hu, ru⟩ := rv.get hx
    obtain ⟨u2, hu2, ru2⟩ := rv2.get hy
    have hzl : z < s.heap.objs.size := Heap.lt_size hz
    have hl1 : i < its.toArray.size := by have := (List.getElem?_eq_some_iff.mp hu).1; simpa using this
    have hl2 : i < its2.toArray.size := by have := (List.getElem?_eq_some_iff.mp hu2).1; simpa using this
    refine wpAny_pyNext_zipD2_item (sepM D) (Draws.list (A := X.A.in1) (I.ok.hd hc) i1 a D.l1i1 its.toArray) (Draws.tuple (A := X.A.in1) (I.ok.hd hc) i2 b D.l2i2 its2.toArray) hz hTI hTO ⟨h1, p.isList⟩ ⟨h2, p2⟩ hl1 hl2 ?_
    intro v1 v2 h' tk hv1 hv2 z' TO' st1 st2 hT hsz hk
    have e1 : v1 = u := by
      have h3 : its.toArray[i]? = some u := by simpa using hu
      rw [show its.toArray[i]? = some v1 from hv1] at h3
      exact Option.some.inj h3
    have e2 : v2 = u2 := by
      have h3 : its2.toArray[i]? = some u2 := by simpa using hu2
      rw [show its2.toArray[i]? = some v2 from hv2] at h3
      exact Option.some.inj h3
    subst e1 e2
    refine ⟨_, rfl, wpAny_letOwnedTupleGo_zip (s := { s with heap := h', toks := tk }) z' fun h'' z'' sb => ?_⟩
    have hT2 : h''.get? s.heap.objs.size = some { cls := .type "tuple", data := .seq #[v1, v2] } := (sb.2 _ (Nat.ne_of_gt hzl)).trans hT
    have new : ObjOk X.prog X.w (upd H s.heap.objs.size (.tup [x, y])) h'' s.heap.objs.size (.tup [x, y]) :=
      ⟨by show 2 ≤ sizeLine; decide, [v1, v2], .cons ru (.cons ru2 .nil), ⟨_, hT2, rfl, _, rfl⟩⟩
    have kk : ∀ c o, c ∉ [z, TI, TO, i1, i2] → s.heap.get? c = some o → h''.get? c = some o := by
      intro c o hb q
      simp only [List.mem_cons, List.not_mem_nil, or_false, not_or] at hb
      exact (sb.2 c hb.1).trans (hk c o hb.1 hb.2.2.1 hb.2.2.2.1 hb.2.2.2.2 q)
    have I1 : Inv X pins σ (upd H s.heap.objs.size (.tup [x, y])) { s with heap := h'', toks := tk } :=
      I.turnedNew (t' := tk) (ch := [z, TI, TO, i1, i2]) kk hf (Nat.le_refl _) new
    refine ⟨.ref s.heap.objs.size, _, I1, rfl, ⟨_, x, y, rfl, I.hok.fresh (Nat.le_refl _), rfl, fun l hl => by rw [I.list_inj hl hqx]; exact hx, fun l hl => by rw [I.tuple_inj hl hqy]; exact hy⟩, ⟨z'', ?_, ⟨v1, v2, ?_⟩, ?_, ?_⟩, ?_⟩
    · exact (sb.2 _ D.TIz).trans (hk _ _ D.TIz D.TITO D.TIi1 D.TIi2 hTI)
    · exact (sb.2 _ D.TOz).trans TO'
    · exact st1.1.at fun o q => (sb.2 _ D.i1z).trans q
    · exact st2.1.at fun o q => (sb.2 _ D.i2z).trans q
    · intro c hcm
      have hlt : c < s.heap.objs.size := by
        simp only [List.mem_cons, List.not_mem_nil, or_false] at hcm
        rcases hcm with rfl | rfl | rfl | rfl | rfl
        · exact hzl
        · exact Heap.lt_size hTI
        · exact Heap.lt_size hTO
        · obtain ⟨_, e1, _⟩ := h1; exact Heap.lt_size e1
        · obtain ⟨_, e2, _⟩ := h2; exact Heap.lt_size e2
      rw [upd_ne (Nat.ne_of_lt hlt)]
      exact (hf c hcm).1
  done := by
    intro X hP hw hK hc i pins s σ H E I hf st hg
    subst hP hw hK
    obtain ⟨hz, hTI, ⟨x0, y0, hTO⟩, h1, h2⟩ := st
    obtain ⟨xs, ys, hqx, hqy, hend⟩ := hg
    obtain ⟨its, rv, p, _⟩ := I.list hqx
    obtain ⟨its2, rv2, p2, _⟩ := I.tuple hqy
    have l1 := rv.length
    have l2 := rv2.length
    refine wpAny_pyNext_zipD2_end (i := i) (sepM D) (Draws.list (A := X.A.in1) (I.ok.hd hc) i1 a D.l1i1 its.toArray) (Draws.tuple (A := X.A.in1) (I.ok.hd hc) i2 b D.l2i2 its2.toArray) hz hTI hTO ⟨h1, p.isList⟩ ⟨h2, p2⟩ (by simp; omega) (by simp; omega) (by simp; omega) ?_
    intro h' tk hk
    refine ⟨rfl, I.turnedL (t' := tk) (ch := [z, TI, TO, i1, i2]) ?_ hf⟩
    intro c o hb q
    simp only [List.mem_cons, List.not_mem_nil, or_false, not_or] at hb
    exact hk c o hb.1 hb.2.2.1 hb.2.2.2.1 hb.2.2.2.2 q
  self := fun A i s Q E st h => wpAny_pyIter_zip st.1 h
def iZipM (K : PySem.W.Frag) (ta : TA) : TI := fun σ H R => ta σ H fun vs H1 => ∃ a b xs ys, vs = [.ref a, .ref b] ∧ SqL K H1 a xs ∧ SqT K H1 b ys ∧ R (ItzM K a b) H1
theorem pi_zipM {X : Cx} {e e2 : Expr} {ta : TA} {p pos tpos : Pos} {elts : List Expr} {kk : Nat} (hg : Gl X "zip") (hm : X.mg "zip" = none) (ha : PA X [e, e2] ta)
    (hs : starEach [e, e2] X.env = (false, eval e X.env) :: starEach [e2] X.env := by rfl) (hpl : (backTo pos (starEach [e2] X.env)).any (·.1) = false := by rfl) :
    PI X (.Tuple elts kk tpos) (.Call (.Name "zip" p) [e, e2] [] pos) (iZipM X.K ta) := by
  constructor
  intro pins s σ H R I h
  refine Call_ (ld_blt I hg hm PyProof.Rows.boot_zip (PyProof.Rows.callWith_type1 (thn (ha.run pos pins s σ H _ I h) ?_) hs hpl))
  rintro us s1 ⟨vs, H1, I1, r1, a, b, xs, ys, rfl, hqx, hqy, q⟩
  obtain ⟨u, v, rfl, rfl, rfl⟩ := vals2 r1
  obtain ⟨its, rv, p1, _⟩ := I1.list hqx
  obtain ⟨its2, rv2, p2, _⟩ := I1.tuple hqy
  refine call_zipM p1.isList (show s1.heap.IsTuple b its2.toArray from p2) fun h' hz hTI hTO h1 h2 hk => wpAny_pyIter_zip hz ?_
  have I2 : Inv X pins σ H1 { s1 with heap := h' } := I1.kept (t' := s1.toks) hk
  refine ⟨s1.heap.objs.size + 4, [s1.heap.objs.size + 4, s1.heap.objs.size + 2, s1.heap.objs.size + 3, s1.heap.objs.size, s1.heap.objs.size + 1], _, _, H1, rfl, I2,
    turn_zipM (PySem.W.ktu_apart s1.heap.objs.size a b p1.lt (tupLt p2)), ⟨hz, hTI, ⟨_, _, hTO⟩, h1, h2⟩, ?_, q⟩
  intro c hcm
  have hle : s1.heap.objs.size ≤ c := by
    simp only [List.mem_cons, List.not_mem_nil, or_false] at hcm
    rcases hcm with rfl | rfl | rfl | rfl | rfl <;> omega
  exact I1.fpOk hle (I1.hok.fresh hle)
theorem walk_zipM {K : PySem.W.Frag} {a b : Addr} {xs ys : List V} {n : Nat} (hn : n = min xs.length ys.length) :
    Walk (ItzM K a b) n (fun H => SqL K H a xs ∧ SqT K H b ys) (YPair (fun i => xs[i]?) (fun i => ys[i]?)) := by
  subst hn
  constructor
  · rintro i H hi ⟨q1, q2⟩
    have h1 : i < xs.length := by omega
    have h2 : i < ys.length := by omega
    exact ⟨xs, ys, xs[i], ys[i], q1, q2, by simp [h1], by simp [h2]⟩
  · rintro H ⟨q1, q2⟩
    exact ⟨xs, ys, q1, q2, rfl⟩
  · rintro i H v H' _ ⟨q1, q2⟩ ⟨T, x, z, h1, h2, h3, h4, h5⟩
    exact ⟨T, x, z, h1, h2, h3, h4 xs q1, h5 ys q2⟩
end Pv

namespace Pv
open PySem PySem.Spec PyProof.Rows L2
theorem samePut {H H1 : Hp} {D : Addr} {o : HO} (s : Same H H1) (nD : H D = none) : Same H (upd H1 D o) := fun b z e => by rw [upd_ne (ne_of_none e nD)]; exact s b z e
theorem ty_sq {K : PySem.W.Frag} {H : Hp} {a : Addr} {xs : List V} (h : SqT K H a xs) : TyX K H (.ref a) (.type "tuple") := by
  rcases h with (h | ⟨o, h⟩) | ⟨o, its, n, h, hc, _⟩
  · exact .base (.tup h)
  · exact .fTuple h
  · exact .kTuple h hc
theorem small {n : Nat} (h : n ≤ 1000000) : n < sizeLine := Nat.lt_of_le_of_lt h (by decide)
def addAt (ls : List Int) (p x : Int) : List Int := ls.set p.toNat (ls.getD p.toNat 0 + x)
theorem addAt_len (ls : List Int) (p x : Int) : (addAt ls p x).length = ls.length := by simp [addAt]
theorem freeOf {H : Hp} {p b : Addr} {o : HO} (h : upd H p o b = none) : H b = none := by
  by_cases e : b = p
  · subst e; rw [upd_same] at h; cases h
  · rw [upd_ne e] at h; exact h
theorem ixN_nat {n j : Nat} (h : j < n) : ixN n (j : Int) = some j := by
  unfold ixN
  rw [if_pos (by omega), if_pos (by omega)]
  simp
theorem zip_take {α β : Type} : ∀ (n : Nat) (a : List α) (b : List β), (a.take n).zip (b.take n) = (a.zip b).take n
  | 0, _, _ => by simp
  | _ + 1, [], _ => by simp
  | _ + 1, _ :: _, [] => by simp
  | n + 1, x :: a, y :: b => by simp [zip_take n a b]
def zeros (n : Nat) : List Int := List.replicate n 0
theorem zeros_V (n : Nat) : (List.replicate n [V.int 0]).flatten = (zeros n).map V.int := by
  unfold zeros
  induction n with
  | zero => rfl
  | succ n ih => rw [List.replicate_succ, List.flatten_cons, ih]; rfl
theorem zip_snoc {α β : Type} {a : List α} {b : List β} {i : Nat} {x : α} {y : β} (hx : a[i]? = some x) (hy : b[i]? = some y) : (a.take (i + 1)).zip (b.take (i + 1)) = (a.take i).zip (b.take i) ++ [(x, y)] := by
  rw [zip_take, zip_take, List.take_add_one]
  have : (a.zip b)[i]? = some (x, y) := by
    rw [List.getElem?_zip_eq_some]; exact ⟨hx, hy⟩
  rw [this]; rfl
theorem take_snoc {α : Type} {l : List α} {i : Nat} {x : α} (h : l[i]? = some x) : l.take (i + 1) = l.take i ++ [x] := by rw [List.take_add_one, h]; rfl
theorem cut_to (xs : List V) (n : Nat) : cutV xs none (some (n : Int)) = xs.take n := by
  unfold cutV
  rw [HT.sIx_none, HT.sIx_nat, List.drop_zero, Nat.sub_zero]
  by_cases h : n ≤ xs.length
  · rw [Nat.min_eq_left h]
  · rw [Nat.min_eq_right (by omega), List.take_length, List.take_of_length_le (by omega)]
def absI (i : Int) : Int := if i < 0 then -i else i
theorem absI_nn (i : Int) : 0 ≤ absI i := by unfold absI; split <;> omega
def restI (c : Int) : Int := c * (if decide ((10 : Int) ^ (18 : Int).toNat ≤ c) = true then 1 else 0)
theorem restI_nn {c : Int} (h : 0 ≤ c) : 0 ≤ restI c := by unfold restI; split <;> omega
structure InsOk (cs : List Int) (gs : List Gp) : Prop where
  c1 : 1 ≤ cs.length
  c6 : cs.length ≤ 6
  cb : ∀ c ∈ cs, 1 ≤ c ∧ c ≤ 10 ^ 12
  g1 : 1 ≤ gs.length
  g10 : gs.length ≤ 10
  gp : ∀ g ∈ gs, g.1.length ≤ 6 ∧ (∀ p ∈ g.1, 0 ≤ p ∧ p < (cs.length : Int)) ∧ 1 ≤ g.2 ∧ g.2 ≤ 10 ^ 12
theorem ExtPut {st r p : Addr} {H H1 : Hp} {o : HO} (x : Ext st r H H1) (np : H p = none) : Ext st r H (upd H1 p o) := fun b z e n1 n2 => by rw [upd_ne (ne_of_none e np)]; exact x b z e n1 n2
theorem Ext.nil {st c r p : Addr} {t : Nat} {H H1 : Hp} (x : Ext st r H H1) (d : DS H1 st c r t) (np : H1 p = none) : H p = none := by
  have o := d.off np
  cases e : H p with
  | none => rfl
  | some z => rw [x _ _ e o.1 o.2.2] at np; cases np
def upTo (n : Nat) : List Int := (List.range n).map fun (i : Nat) => (i : Int)
theorem rgV_upTo (n : Nat) : rgV 0 (n : Int) = (upTo n).map V.int := by
  unfold rgV upTo
  rw [List.map_map]
  simp
theorem upTo_len (n : Nat) : (upTo n).length = n := by simp [upTo]
theorem upTo_mem {n : Nat} {x : Int} (h : x ∈ upTo n) : 0 ≤ x ∧ x < n := by
  unfold upTo at h
  obtain ⟨i, hi, rfl⟩ := List.mem_map.mp h
  have := List.mem_range.mp hi
  omega
theorem erase_map {α β : Type} (f : α → β) : ∀ (l : List α) (k : Nat), (l.map f).eraseIdx k = (l.eraseIdx k).map f
  | [], _ => rfl
  | _ :: _, 0 => rfl
  | x :: l, k + 1 => by simp [erase_map f l k]
theorem fine_grp {cs : List Int} {gs : List Gp} (ok : InsOk cs gs) {g : Gp} (hg : g ∈ gs) : Fine 2 500 (dGrp g) := by
  obtain ⟨h1, h2, h3, h4⟩ := ok.gp g hg
  refine (fine_tup (k := 1) (B := 200) (n := 2) (xs := [dI g.1, .int g.2]) ?_ (by simp)).mono (by omega) (by omega)
  intro x hx
  simp at hx
  rcases hx with rfl | rfl
  · exact (fine_dI (n := 6) (fun p hp => by have := h2 p hp; have := ok.c6; omega) h1).mono (by omega) (by omega)
  · exact (fine_int (by omega)).mono (by omega) (by omega)
theorem fine_inst {cs : List Int} {gs : List Gp} (ok : InsOk cs gs) : Fine 4 20000 (dInst cs gs) := by
  refine (fine_tup (k := 3) (B := 8000) (n := 2) (xs := [dI cs, .tuple (gs.map dGrp)]) ?_ (by simp)).mono (by omega) (by omega)
  intro x hx
  simp at hx
  rcases hx with rfl | rfl
  · exact (fine_dI (n := 6) (fun p hp => by have := ok.cb p hp; omega) ok.c6).mono (by omega) (by omega)
  · refine (fine_tup (k := 2) (B := 500) (n := 10) ?_ (by rw [List.length_map]; exact ok.g10)).mono (by omega) (by omega)
    intro d hd
    obtain ⟨g, hg, rfl⟩ := List.mem_map.mp hd
    exact fine_grp ok hg
theorem hu70 {k : Nat} {A : Around} (hr : Room k A) : A.units + 70 < cLine := by have := hr.un; omega
theorem ty_sqL {K : PySem.W.Frag} {H : Hp} {a : Addr} {xs : List V} (h : SqL K H a xs) : TyX K H (.ref a) (.type "list") := by
  rcases h with (h | ⟨o, h⟩) | ⟨o, its, n, h, hc, _⟩
  · exact .base (.lst h)
  · exact .base (.frz h)
  · exact .kList h hc
theorem FnOk.none {P : Program} {w : World} {K : PySem.W.Frag} {mg : Str → Option Value} {base : Heap} {k : Nat} {f : Addr} {fd : FuncData} {ps : List Str} : FnOk P w K mg base CX0 k f fd ps (fun _ _ _ _ => False) :=
  ⟨fun _ _ _ _ h => h.elim, fun _ _ _ _ _ _ _ _ _ _ _ _ _ h => h.elim⟩
end Pv

namespace Pv
open PySem PySem.Spec PyProof.Rows L2

/-! data of any kind: lists stand off the drawing state, dicts have leaves alone -/
def kD : Key → PyData
  | .inl i => .int i
  | .inr x => .str x
mutual
inductive Dq (K : PySem.W.Frag) (st r : Addr) (H : Hp) : V → PyData → Prop
  | non : Dq K st r H .non .none
  | bl (b : Bool) : Dq K st r H (.bl b) (.bool b)
  | int (i : Int) : Dq K st r H (.int i) (.int i)
  | str (x : Str) : Dq K st r H (.str x) (.str x)
  | lst {a : Addr} {xs : List V} {ds : List PyData} : H a = some (.lst xs) → a ≠ st → a ≠ r → a ≠ sysModules → DqAll K st r H xs ds → Dq K st r H (.ref a) (.list ds)
  | tup {a : Addr} {xs : List V} {ds : List PyData} : SqT K H a xs → DqAll K st r H xs ds → Dq K st r H (.ref a) (.tuple ds)
  | dct {a : Addr} {kvs : List (Key × Int)} : H a = some (.dK (kvs.map fun p => (p.1, V.int p.2))) → Dq K st r H (.ref a) (.dict (kvs.map fun p => (kD p.1, .int p.2)))
inductive DqAll (K : PySem.W.Frag) (st r : Addr) (H : Hp) : List V → List PyData → Prop
  | nil : DqAll K st r H [] []
  | cons {v : V} {vs : List V} {d : PyData} {ds : List PyData} : Dq K st r H v d → DqAll K st r H vs ds → DqAll K st r H (v :: vs) (d :: ds)
end
theorem keys_reads {P : Program} {w : World} {h : Heap} : ∀ {kvs : List (Key × Int)} {vs : List (Key × Value)} {es : List DictEntry}, KV (kvs.map fun p => (p.1, V.int p.2)) vs → Pairs (mixKind P w) es vs →
    ReadsAll h (es.map (·.key)) ((kvs.map fun p => (kD p.1, PyData.int p.2)).map (·.1)) [] ∧ ReadsAll h (es.map (·.val)) ((kvs.map fun p => (kD p.1, PyData.int p.2)).map (·.2)) []
  | [], _, _, rk, rp => by
    cases rk
    cases rp
    exact ⟨.nil, .nil⟩
  | p :: kvs, _, _, rk, rp => by
    obtain ⟨pk, pi⟩ := p
    rw [List.map_cons] at rk
    cases rk with
    | @cons _ q _ qs hq tq =>
      obtain ⟨qk, qv⟩ := q
      obtain ⟨h1, h2⟩ := hq
      simp only at h1 h2
      subst h1
      cases rp with
      | @cons e _ es _ he hv tp =>
        obtain ⟨r1, r2⟩ := keys_reads (h := h) tq tp
        simp only at he hv
        obtain ⟨t, ht⟩ := h2
        subst ht
        refine ⟨?_, ?_⟩
        · have k1 : Reads h e.key (kD pk) [] := by
            rcases keyIs_shape (show keyIs pk e.key = true from he) with ⟨i, t, e1, e2⟩ | ⟨x, t, e1, e2⟩
            · rw [e1, e2]; exact .int i t
            · rw [e1, e2]; exact .str x t
          exact ReadsAll.cons k1 r1
        · have k2 : Reads h e.val (.int pi) [] := by rw [hv]; exact .int pi t
          exact ReadsAll.cons k2 r2
section
variable {X : Cx} {pins : List (Addr × Obj)} {σ : L2.St} {H : Hp} {s : Shared} {st r : Addr}
mutual
theorem Dq.reads (I : Inv X pins σ H s) : ∀ (d : PyData) (v : V) (u : Value), Dq X.K st r H v d → RelV v u → ∃ as, Reads s.heap u d as ∧ sysModules ∉ as
  | .none, _, _, h, q => by
    cases h; cases q; exact ⟨[], .none, by simp⟩
  | .bool b, _, _, h, q => by
    cases h; cases q; exact ⟨[], .bool b, by simp⟩
  | .int i, _, _, h, q => by
    cases h; obtain ⟨t, e⟩ := q; subst e; exact ⟨[], .int i t, by simp⟩
  | .str x, _, _, h, q => by
    cases h; obtain ⟨t, e⟩ := q; subst e; exact ⟨[], .str x t, by simp⟩
  | .list ds, _, _, h, q => by
    cases h with
    | lst e _ _ n hd =>
      cases q
      obtain ⟨its, rel, ⟨o, m, ho, hc, _, hm⟩, _⟩ := I.list (SqL.of e)
      obtain ⟨as, h1, h2⟩ := DqAll.reads I ds _ its hd rel
      exact ⟨_, .list ho hc hm h1, by simp only [List.mem_cons, not_or]; exact ⟨fun z => n z.symm, h2⟩⟩
  | .tuple ds, _, _, h, q => by
    cases h with
    | tup e hd =>
      cases q
      obtain ⟨its, rel, ⟨o, ho, hc, m, hm⟩, _⟩ := I.tuple e
      obtain ⟨as, h1, h2⟩ := DqAll.reads I ds _ its hd rel
      exact ⟨_, .tuple ho hc hm h1, h2⟩
  | .dict _, _, _, h, q => by
    cases h with
    | dct e =>
      cases q
      obtain ⟨_, nb, vs, rk, o, es, ep, ho, hx, hm, _, rp, _⟩ := dk_of I.hok e
      obtain ⟨h1, h2⟩ := keys_reads (h := s.heap) rk rp
      exact ⟨_, .dict ho hx.1 hm h1 h2, by simp only [List.nil_append, List.append_nil, List.mem_singleton, List.mem_cons, List.not_mem_nil, or_false]; exact fun z => absurd z.symm (by simpa using nb)⟩
theorem DqAll.reads (I : Inv X pins σ H s) : ∀ (ds : List PyData) (vs : List V) (us : List Value), DqAll X.K st r H vs ds → Vals vs us → ∃ as, ReadsAll s.heap us ds as ∧ sysModules ∉ as
  | [], _, _, h, q => by
    cases h; cases q; exact ⟨[], .nil, by simp⟩
  | d :: ds, _, _, h, q => by
    cases h with
    | cons h1 h2 =>
      cases q with
      | cons q1 q2 =>
        obtain ⟨as, e1, n1⟩ := Dq.reads I d _ _ h1 q1
        obtain ⟨bs, e2, n2⟩ := DqAll.reads I ds _ _ h2 q2
        exact ⟨_, .cons e1 e2, by simp only [List.mem_append, not_or]; exact ⟨n1, n2⟩⟩
end
end
/-- repr of such data -/
theorem call_reprQ {X : Cx} (hg : X.A.guards = some []) (hu : X.A.units + 70 < cLine) : CallR X (.builtin "repr")
    (fun xs H Q => ∃ a d st r, xs = [.ref a] ∧ Dq X.K st r H (.ref a) d ∧ d.showable = true ∧ d.depth ≤ 60 ∧ d.shown.length ≤ sizeLine ∧ Q (.str d.shown) H) := by
  intro pins s σ H xs us Q I rv h
  obtain ⟨a, d, st, r, rfl, hd, h1, h3, h4, q⟩ := h
  obtain ⟨u, rfl, rfl⟩ := vals1 rv
  obtain ⟨as, rd, nm⟩ := Dq.reads I d _ _ hd rfl
  exact repr_of_reads' rd h1 (fun _ => nm) hg (by omega) (fun _ _ e => e) (fun h' u tk hk => ⟨.str _, H, I.kept hk, ⟨_, rfl⟩, q⟩) h4

/-! how it lasts -/
section
variable {K : PySem.W.Frag} {st r c : Addr} {H H' : Hp}
structure Lasts (st r : Addr) (H H' : Hp) : Prop where
  tk : TupK H H'
  ls : ∀ a xs, H a = some (.lst xs) → a ≠ st → a ≠ r → H' a = some (.lst xs)
  dk : ∀ a kvs, H a = some (.dK kvs) → H' a = some (.dK kvs)
theorem Lasts.refl : Lasts st r H H := ⟨.refl _, fun _ _ e _ _ => e, fun _ _ e => e⟩
theorem Lasts.of (s : Same H H') : Lasts st r H H' := ⟨.of s, fun a xs e _ _ => s _ _ e, fun a kvs e => s _ _ e⟩
theorem Lasts.ext {t : Nat} (d : DS H st c r t) (x : Ext st r H H') : Lasts st r H H' := by
  refine ⟨x.tup d, fun a xs e n1 n2 => x _ _ e n1 n2, fun a kvs e => ?_⟩
  obtain ⟨cells, rests, hc, hr, _⟩ := d.ex
  exact x _ _ e (ne_of e d.hs (by intro z; cases z)) (ne_of e hr (by intro z; cases z))
theorem Lasts.trans {H2 : Hp} (a : Lasts st r H H') (b : Lasts st r H' H2) : Lasts st r H H2 :=
  ⟨a.tk.trans b.tk, fun p xs e n1 n2 => b.ls _ _ (a.ls _ _ e n1 n2) n1 n2, fun p kvs e => b.dk _ _ (a.dk _ _ e)⟩
theorem Lasts.new {p : Addr} {o : HO} (np : H p = none) : Lasts st r H (upd H p o) := .of (sameNew np)
mutual
theorem Dq.lasts (l : Lasts st r H H') : ∀ {d : PyData} {v : V}, Dq K st r H v d → Dq K st r H' v d
  | .none, _, h => by cases h; exact .non
  | .bool _, _, h => by cases h; exact .bl _
  | .int _, _, h => by cases h; exact .int _
  | .str _, _, h => by cases h; exact .str _
  | .list _, _, h => by
    cases h with
    | lst e n1 n2 n3 hd => exact .lst (l.ls _ _ e n1 n2) n1 n2 n3 (DqAll.lasts l hd)
  | .tuple _, _, h => by
    cases h with
    | tup e hd => exact .tup (l.tk.sq e) (DqAll.lasts l hd)
  | .dict _, _, h => by
    cases h with
    | dct e => exact .dct (l.dk _ _ e)
theorem DqAll.lasts (l : Lasts st r H H') : ∀ {ds : List PyData} {vs : List V}, DqAll K st r H vs ds → DqAll K st r H' vs ds
  | [], _, h => by cases h; exact .nil
  | _ :: _, _, h => by
    cases h with
    | cons h1 h2 => exact .cons (Dq.lasts l h1) (DqAll.lasts l h2)
end
mutual
theorem Dq.of_dp : ∀ {d : PyData} {v : V}, tupOnly d = true → Dp K H v d → Dq K st r H v d
  | .none, _, _, h => by cases h; exact .non
  | .bool _, _, _, h => by cases h; exact .bl _
  | .int _, _, _, h => by cases h; exact .int _
  | .str _, _, _, h => by cases h; exact .str _
  | .list _, _, t, _ => by simp [tupOnly] at t
  | .tuple _, _, t, h => by
    cases h with
    | tup e hd => exact .tup e (DqAll.of_dp (by simpa [tupOnly] using t) hd)
  | .dict _, _, t, _ => by simp [tupOnly] at t
theorem DqAll.of_dp : ∀ {ds : List PyData} {vs : List V}, tupOnlyAll ds = true → DpAll K H vs ds → DqAll K st r H vs ds
  | [], _, _, h => by cases h; exact .nil
  | d :: ds, _, t, h => by
    have t' : tupOnly d = true ∧ tupOnlyAll ds = true := by simpa [tupOnlyAll] using t
    cases h with
    | cons h1 h2 => exact .cons (Dq.of_dp t'.1 h1) (DqAll.of_dp t'.2 h2)
theorem Dq.to_dp : ∀ {d : PyData} {v : V}, tupOnly d = true → Dq K st r H v d → Dp K H v d
  | .none, _, _, h => by cases h; exact .non
  | .bool _, _, _, h => by cases h; exact .bl _
  | .int _, _, _, h => by cases h; exact .int _
  | .str _, _, _, h => by cases h; exact .str _
  | .list _, _, t, _ => by simp [tupOnly] at t
  | .tuple _, _, t, h => by
    cases h with
    | tup e hd => exact .tup e (DqAll.to_dp (by simpa [tupOnly] using t) hd)
  | .dict _, _, t, _ => by simp [tupOnly] at t
theorem DqAll.to_dp : ∀ {ds : List PyData} {vs : List V}, tupOnlyAll ds = true → DqAll K st r H vs ds → DpAll K H vs ds
  | [], _, _, h => by cases h; exact .nil
  | d :: ds, _, t, h => by
    have t' : tupOnly d = true ∧ tupOnlyAll ds = true := by simpa [tupOnlyAll] using t
    cases h with
    | cons h1 h2 => exact .cons (Dq.to_dp t'.1 h1) (DqAll.to_dp t'.2 h2)
end
theorem DqAll.len : ∀ {vs : List V} {ds : List PyData}, DqAll K st r H vs ds → vs.length = ds.length
  | _, _, .nil => rfl
  | _, _, .cons _ t => by simp [DqAll.len t]
theorem DqAll.at : ∀ {vs : List V} {ds : List PyData} {i : Nat} {v : V}, DqAll K st r H vs ds → vs[i]? = some v → ∃ d, ds[i]? = some d ∧ Dq K st r H v d
  | _, _, _, _, .nil, e => by simp at e
  | _, _, 0, _, .cons h _, e => by simp at e; subst e; exact ⟨_, rfl, h⟩
  | _, _, i + 1, v, .cons _ t, e => by
    obtain ⟨d, h1, h2⟩ := DqAll.at (i := i) t (by simpa using e)
    exact ⟨d, by simpa using h1, h2⟩
theorem DqAll.app : ∀ {vs ws : List V} {ds es : List PyData}, DqAll K st r H vs ds → DqAll K st r H ws es → DqAll K st r H (vs ++ ws) (ds ++ es)
  | _, _, _, _, .nil, h => h
  | _, _, _, _, .cons h t, h' => .cons h (DqAll.app t h')
theorem DqAll.snoc {vs : List V} {ds : List PyData} {v : V} {d : PyData} (h : DqAll K st r H vs ds) (h' : Dq K st r H v d) : DqAll K st r H (vs ++ [v]) (ds ++ [d]) := h.app (.cons h' .nil)
theorem DqAll.rev : ∀ {vs : List V} {ds : List PyData}, DqAll K st r H vs ds → DqAll K st r H vs.reverse ds.reverse
  | _, _, .nil => .nil
  | _, _, .cons h t => by rw [List.reverse_cons, List.reverse_cons]; exact (DqAll.rev t).snoc h
theorem DqAll.take : ∀ {vs : List V} {ds : List PyData} (n : Nat), DqAll K st r H vs ds → DqAll K st r H (vs.take n) (ds.take n)
  | _, _, 0, _ => .nil
  | _, _, _ + 1, .nil => .nil
  | _, _, n + 1, .cons h t => .cons h (DqAll.take n t)
theorem DqAll.drop : ∀ {vs : List V} {ds : List PyData} (n : Nat), DqAll K st r H vs ds → DqAll K st r H (vs.drop n) (ds.drop n)
  | _, _, 0, h => h
  | _, _, _ + 1, .nil => .nil
  | _, _, n + 1, .cons _ t => DqAll.drop n t
/-- its type -/
def tyN : PyData → String
  | .none => "NoneType"
  | .bool _ => "bool"
  | .int _ => "int"
  | .str _ => "str"
  | .list _ => "list"
  | .tuple _ => "tuple"
  | .dict _ => "dict"
theorem Dq.ty {d : PyData} {v : V} (h : Dq K st r H v d) : TyX K H v (.type (tyN d)) := by
  cases h with
  | non => exact .base .non
  | bl b => exact .base (.bl b)
  | int i => exact .base (.int i)
  | str x => exact .base (.str x)
  | lst e => exact .base (.lst e)
  | tup e _ =>
    rcases e with (e | ⟨o, e⟩) | ⟨o, its, n, e, hc, _⟩
    · exact .base (.tup e)
    · exact .fTuple e
    · exact .kTuple e hc
  | dct e => exact .base (.dK e)
def isTup : PyData → Bool
  | .tuple _ => true
  | _ => false
def isInt : PyData → Bool
  | .int _ => true
  | .bool _ => true
  | _ => false
def isBool : PyData → Bool
  | .bool _ => true
  | _ => false
theorem kit_tup (d : PyData) : PySem.W.kitOne K (.type (tyN d)) (.type "tuple") = some (isTup d) := by
  have key : ∀ a b : String, ∀ x : Bool, kitB a b = some x → PySem.W.kitOne K (.type a) (.type b) = some x := fun _ _ _ h => kit_ty h
  cases d
  · exact key "NoneType" "tuple" false (by decide +kernel)
  · exact key "bool" "tuple" false (by decide +kernel)
  · exact key "int" "tuple" false (by decide +kernel)
  · exact key "str" "tuple" false (by decide +kernel)
  · exact key "list" "tuple" false (by decide +kernel)
  · exact key "tuple" "tuple" true (by decide +kernel)
  · exact key "dict" "tuple" false (by decide +kernel)
theorem kit_int (d : PyData) : PySem.W.kitOne K (.type (tyN d)) (.type "int") = some (isInt d) := by
  have key : ∀ a b : String, ∀ x : Bool, kitB a b = some x → PySem.W.kitOne K (.type a) (.type b) = some x := fun _ _ _ h => kit_ty h
  cases d
  · exact key "NoneType" "int" false (by decide +kernel)
  · exact key "bool" "int" true (by decide +kernel)
  · exact key "int" "int" true (by decide +kernel)
  · exact key "str" "int" false (by decide +kernel)
  · exact key "list" "int" false (by decide +kernel)
  · exact key "tuple" "int" false (by decide +kernel)
  · exact key "dict" "int" false (by decide +kernel)
theorem kit_bool (d : PyData) : PySem.W.kitOne K (.type (tyN d)) (.type "bool") = some (isBool d) := by
  have key : ∀ a b : String, ∀ x : Bool, kitB a b = some x → PySem.W.kitOne K (.type a) (.type b) = some x := fun _ _ _ h => kit_ty h
  cases d
  · exact key "NoneType" "bool" false (by decide +kernel)
  · exact key "bool" "bool" true (by decide +kernel)
  · exact key "int" "bool" false (by decide +kernel)
  · exact key "str" "bool" false (by decide +kernel)
  · exact key "list" "bool" false (by decide +kernel)
  · exact key "tuple" "bool" false (by decide +kernel)
  · exact key "dict" "bool" false (by decide +kernel)
end
/-! a new list, whose address is none of the machine's own -/
def tLstS (t : TA) : TE := fun σ H Q => t σ H fun xs H1 => xs.length ≤ sizeLine ∧ ∀ p, H1 p = none → p ≠ sysModules → Q (.ref p) (upd H1 p (.lst xs))
section
variable {X : Cx} {es : List Expr} {pos : Pos} {t : TA}
theorem pe_lstS (h : PA X es t) : PE X (.List es pos) (tLstS t) := by
  constructor
  intro pins s σ H Q I hq
  refine wpAny_List_spliced (thn (h.run pos pins s σ H _ I hq) ?_)
  rintro us s1 ⟨xs, H1, I1, rel, z, q⟩
  refine ⟨by rw [← rel.length]; exact z, .ref s1.heap.objs.size, _, ?_, rfl, q _ (I1.hok.fresh (Nat.le_refl _)) (Nat.ne_of_gt I1.big)⟩
  exact I1.laid (t' := s1.toks) (fun b u e => Heap.get?_push_of_some _ e) (Nat.le_refl _) ⟨z, us, 0, rel, Heap.get?_push_size _ rfl⟩
def rListS (K : PySem.W.Frag) : RC := fun xs H Q => ∃ (p : Addr) (ys : List V), xs = [.ref p] ∧ SqT K H p ys ∧ ∀ l, H l = none → l ≠ sysModules → Q (.ref l) (upd H l (.lst ys))
theorem call_listS : CallR X (.type "list") (rListS X.K) := by
  intro pins s σ H xs us Q I rel h
  obtain ⟨p, ys, e, hq, q⟩ := h
  subst e
  obtain ⟨u, e, rx⟩ := vals1 rel
  subst e
  cases rx
  obtain ⟨its, r', ⟨o, ho, hc, n, hd⟩, hz⟩ := I.tuple hq
  have hlen := r'.length
  refine call_list_seq p (.inr rfl) ho hc hd (fun h' c' kp e => ?_) (by simp only [List.size_toArray]; omega)
  exact ⟨.ref s.heap.objs.size, _, I.laid (t' := s.toks) (o := .lst ys) kp (Nat.le_refl _) ⟨hz, its, c', r', e⟩, rfl, q _ (I.hok.fresh (Nat.le_refl _)) (Nat.ne_of_gt I.big)⟩
end
end Pv

/-! t[::-1] of a tuple -/
namespace HT
open PySem PyProof.Rows
section
variable {prog : Program} {w : World} {A : Around} {E : Value → Shared → Prop} {s : Shared}
theorem pv_pickBack (xs : Array Value) : ((List.range xs.size).filterMap fun (k : Nat) => xs[(((xs.size : Int) - 1) + (k : Int) * (-1)).toNat]?) = xs.toList.reverse := by
  apply List.ext_getElem?
  intro i
  have e : ∀ n, n ≤ xs.size → ((List.range n).filterMap fun (k : Nat) => xs[(((xs.size : Int) - 1) + (k : Int) * (-1)).toNat]?) = xs.toList.reverse.take n := by
    intro n
    induction n with
    | zero => intro _; rfl
    | succ n ih =>
      intro hn
      rw [List.range_succ, List.filterMap_append, ih (by omega), List.take_add_one]
      congr 1
      have h1 : (((xs.size : Int) - 1) + (n : Int) * (-1)).toNat = xs.size - 1 - n := by omega
      rw [List.filterMap_cons, List.filterMap_nil, h1, List.getElem?_reverse (by rw [Array.length_toList]; omega), Array.length_toList, Array.getElem?_toList]
      cases xs[xs.size - 1 - n]? <;> rfl
  rw [e xs.size (Nat.le_refl _), List.take_of_length_le (by simp)]
theorem pv_appliedBack {sl : Addr} {n : Nat} {t : Tok} {Q : Int × Int × Nat → Shared → Prop} (hs : s.heap.IsSliceOf sl .none .none (.int (-1) t)) (h : Q ((n : Int) - 1, -1, n) s) :
    wpAny (model prog w) A (Builtin.Slice.sliceApplied (.ref sl) (pure (n : Int))) Q E s := by
  obtain ⟨os, hos, hcs, hds⟩ := id hs
  unfold Builtin.Slice.sliceApplied Builtin.Slice.sliceFields
  refine wpAny_bind (wpAny_bind (wpAny_field hos hds (x := .none) rfl (wpAny_bind (wpAny_field hos hds (x := .none) rfl (wpAny_bind (wpAny_field hos hds (x := .int (-1) t) rfl (wpAny_pure ?_)))))))
  refine wpAny_bind (slicePart_ (IsPart.int (-1) t) ?_)
  show wpAny _ _ (if ((-1 : Int) == 0) = true then _ else _) _ _ s
  rw [if_neg (by decide)]
  refine wpAny_bind (slicePart_ IsPart.none (wpAny_bind (slicePart_ IsPart.none (wpAny_bind (wpAny_pure ?_)))))
  show wpAny _ _ (match Builtin.Slice.sliceAdjust none none (-1) (n : Int) with | (a, b) => pure (a, (-1 : Int), Builtin.Slice.slicePlaces a b (-1))) _ _ s
  have e1 : Builtin.Slice.sliceAdjust none none (-1) (n : Int) = ((n : Int) - 1, -1) := rfl
  rw [e1]
  show wpAny _ _ (pure ((n : Int) - 1, (-1 : Int), Builtin.Slice.slicePlaces ((n : Int) - 1) (-1) (-1))) _ _ s
  have e2 : Builtin.Slice.slicePlaces ((n : Int) - 1) (-1) (-1) = n := by
    unfold Builtin.Slice.slicePlaces
    have h1 : ¬ ((-1 : Int) > 0) := by omega
    simp only [h1, if_false]
    by_cases h2 : (n : Int) - 1 > -1
    · rw [if_pos h2]
      have h3 : -(-1 : Int) = 1 := rfl
      rw [h3, Int.ediv_one]
      omega
    · rw [if_neg h2]; omega
  rw [e2]
  exact wpAny_pure h
theorem pv_getItemBack {p sl : Addr} {items : Array Value} {t : Tok} {Q : Value → Shared → Prop} (ht : IsTup s.heap p items) (hs : s.heap.IsSliceOf sl .none .none (.int (-1) t))
    (h : Q (.ref s.heap.objs.size) { s with heap := s.heap.push { cls := .type "tuple", data := .seq items.toList.reverse.toArray } }) (hsz : items.size ≤ sizeLine) : wpAny (model prog w) A (getItem (.ref p) (.ref sl)) Q E s := by
  have hfit : sizeOk (.seq items.toList.reverse.toArray) := by
    show items.toList.reverse.toArray.size ≤ sizeLine
    rw [List.size_toArray, List.length_reverse]; simpa using hsz
  obtain ⟨os, hos, hcs, hds⟩ := id hs
  have hT : s.TypeIs (.ref sl) "slice" := ⟨os, hos, hcs⟩
  unfold getItem; try with_reducible refine wpAny_holding ?_
  first | refine wpAny_bind (wpAny_pure ?_) | skip
  refine wpAny_bind (wpAny_sequenceKey ht.typeIs (by decide) (wpAny_bind (wpAny_callSpecial?_slot (name := Str.ofString "__getitem__") ht.typeIs PyProof.Rows.slot_tuple_getitem
    (wpAny_call_entry PyProof.Rows.slot_tuple_getitem ht.typeIs entry_tuple_getitem ?_ (args_tuple_getitem _ _)))))
  show wpAny _ _ (Builtin.Tuple.tupleItemsOf (.ref p) >>= _) _ _ s
  refine wpAny_bind (tupleItemsOf_ ht (wpAny_bind (wpAny_typeOf hT ?_)))
  rw [if_pos (by decide)]
  refine wpAny_bind (pv_appliedBack hs ?_)
  show wpAny _ _ (if (((items.size : Int) - 1) == 0 && (-1 : Int) == 1 && items.size == items.size) = true then _ else _) _ _ s
  rw [if_neg (by simp)]
  show wpAny _ _ (Builtin.Tuple.tupleExact ((List.range items.size).filterMap fun (k : Nat) => items[(((items.size : Int) - 1) + (k : Int) * (-1)).toNat]?).toArray >>= _) _ _ s
  rw [pv_pickBack]
  first
    | exact wpAny_bind (m := Builtin.Tuple.tupleExact _) (wpAny_newObj_type (wpAny_pure ⟨_, rfl, wpAny_pure h⟩) hfit)
    | exact wpAny_bind (m := Builtin.Tuple.tupleExact _) (wpAny_newObj_type (wpAny_bind (wpAny_pure (wpAny_pure ⟨_, rfl, wpAny_pure h⟩))) hfit)
    | exact wpAny_bind (wpAny_bind (m := Builtin.Tuple.tupleExact _) (wpAny_newObj_type (wpAny_pure (wpAny_pure ⟨_, rfl, wpAny_pure h⟩)) hfit))
    | exact wpAny_bind (wpAny_bind (m := Builtin.Tuple.tupleExact _) (wpAny_newObj_type (wpAny_pure ⟨_, rfl, wpAny_pure h⟩) hfit))
end
end HT
namespace Pv
open PySem PySem.Spec PyProof.Rows L2
def tRevT (K : PySem.W.Frag) (te : TE) : TE := fun σ H Q => te σ H fun x H1 => ∃ (a : Addr) (xs : List V), x = .ref a ∧ SqT K H1 a xs ∧ ∀ p, H1 p = none → Q (.ref p) (upd H1 p (.tup xs.reverse))
section
variable {X : Cx}
theorem pe_revT {e : Expr} {te : TE} {k : Nat} {p1 p2 p3 pos : Pos} (he : PE X e te) : PE X (.Subscript e (.Slice none none (some (.UnaryOp .USub (.Constant (.int 1) k p1) p2)) p3) pos) (tRevT X.K te) := by
  constructor
  intro pins s σ H Q I h
  refine Subscript_ (thn (he.run pins s σ H _ I h) ?_)
  rintro v s1 ⟨x, H1, I1, r1, a, xs, rfl, hx, q⟩
  cases r1
  have hst : PO X (some (.UnaryOp .USub (.Constant (.int 1) k p1) p2)) (tPart (tUn (rU fun i => .int (-i)) (tC (.int 1)))) := po_some (pe_un un_neg pe_int)
  refine wpAny_Slice (thn (po_none.run pins s1 σ H1 (fun o H2 => o = none ∧ H2 = H1) I1 ⟨rfl, rfl⟩) ?_)
  rintro vl s2 ⟨l, H2, I2, pl, rfl, rfl⟩
  refine thn (po_none.run pins s2 σ H2 (fun o H3 => o = none ∧ H3 = H2) I2 ⟨rfl, rfl⟩) ?_
  rintro vu s3 ⟨u, H3, I3, pu, rfl, rfl⟩
  refine thn (hst.run pins s3 σ H3 (fun o H4 => o = some (-1) ∧ H4 = H3) I3 ⟨1, rfl, -1, rfl, rfl, rfl⟩) ?_
  rintro vs s4 ⟨o, H4, I4, ps, rfl, rfl⟩
  have I5 : Inv X pins σ H4 { s4 with heap := s4.heap.push { cls := .type "slice", data := .fields #[vl, vu, vs] } } := I4.kept (t' := s4.toks) fun b ob q => Heap.get?_push_of_some _ q
  obtain ⟨its, r, ht, hz⟩ := I5.tuple hx
  have hlen := r.length
  cases pl
  cases pu
  cases ps
  show wpAny (model X.prog X.w) X.A (subscriptTail e (.Slice none none (some (.UnaryOp .USub (.Constant (.int 1) k p1) p2)) p3) (.ref a) (.ref s4.heap.objs.size)) (EP X pins σ Q) X.xe _
  refine tail_any (ops := [.ref a, .ref s4.heap.objs.size]) ht.typeIs (PyProof.Rows.slot_tuple_getitem.lookup) ?_ (by with_unfolding_all rfl)
  refine HT.pv_getItemBack ht (Heap.IsSliceOf.new _ _ _ _) ?_ (by rw [List.size_toArray]; omega)
  refine ⟨.ref _, _, I5.laid (t' := s4.toks) (o := .tup xs.reverse) (fun b ob q => Heap.get?_push_of_some _ q) (Nat.le_refl _) ?_, rfl, q _ (I5.hok.fresh (Nat.le_refl _))⟩
  exact ⟨by rw [List.length_reverse]; exact hz, _, r.reverse, IsTup.new _ _⟩
/-! list == [], tuple != () whatever the items are -/
def rEqNil (K : PySem.W.Frag) : R2 := fun x y H Q => ∃ (a b : Addr) (xs : List V), x = .ref a ∧ y = .ref b ∧ SqL K H a xs ∧ SqL K H b [] ∧ Q (.bl xs.isEmpty) H
theorem op_eqNil (hu : X.A.units < cLine) : OpR X (compareOp .Eq) (rEqNil X.K) := by
  intro pins s σ H x y v u Q I rx ry h
  obtain ⟨a, b, xs, rfl, rfl, ha, hb, q⟩ := h
  cases rx
  cases ry
  obtain ⟨its, r1, p1, z1⟩ := I.list ha
  obtain ⟨its2, r2, p2, z2⟩ := I.list hb
  cases r2
  cases xs with
  | nil =>
    cases r1
    exact SeqAt.RcAt.lists (e := fun _ => true) p1.isList p2.isList rfl hu (fun j h1 _ => absurd h1 (Nat.not_lt_zero _)) X.prog X.w _ _ ⟨.bl true, H, I, rfl, q⟩
  | cons x xs =>
    have hl := r1.length
    exact SeqAt.RcAt.lists_lengths p1.isList p2.isList (by rw [List.size_toArray, ← hl]; rfl) hu X.prog X.w _ _ ⟨.bl false, H, I, rfl, q⟩
def rNeNilT (K : PySem.W.Frag) : R2 := fun x y H Q => ∃ (a b : Addr) (xs : List V), x = .ref a ∧ y = .ref b ∧ SqT K H a xs ∧ SqT K H b [] ∧ Q (.bl (!xs.isEmpty)) H
theorem op_neNilT (hu : X.A.units < cLine) : OpR X (compareOp .NotEq) (rNeNilT X.K) := by
  intro pins s σ H x y v u Q I rx ry h
  obtain ⟨a, b, xs, rfl, rfl, ha, hb, q⟩ := h
  cases rx
  cases ry
  obtain ⟨its, r1, p1, z1⟩ := I.tuple ha
  obtain ⟨its2, r2, p2, z2⟩ := I.tuple hb
  cases r2
  have hl := r1.length
  have key := SeqAt.RcNeAt.tuples (A := X.A) (e := fun _ => true) (show s.heap.IsTuple a its.toArray from p1) (show s.heap.IsTuple b ([] : List Value).toArray from p2) hu (fun j _ h2 => absurd h2 (Nat.not_lt_zero _)) X.prog X.w
  have e : (!((List.range (min its.toArray.size ([] : List Value).toArray.size)).all (fun _ => true) && its.toArray.size == ([] : List Value).toArray.size)) = !xs.isEmpty := by
    rw [List.size_toArray, ← hl]
    cases xs <;> simp
  rw [e] at key
  exact key _ _ ⟨.bl _, H, I, rfl, q⟩
end
end Pv

/-! sorted(t), set(t), len(set(t)) of a tuple of ints -/
namespace PyProof.Rows
open PySem
section
variable {prog : Program} {w : World} {A : Around} {E : Value → Shared → Prop} {s : Shared}
theorem pv_collectTup {l : Addr} {vs : List Value} {Q : List Value → Shared → Prop} (hl : s.heap.IsTuple l vs.toArray) (hsz : vs.length ≤ sizeLine)
    (h : Q vs { s with heap := (s.heap.push (seqObj "list" #[] 0)).update s.heap.objs.size (Obj.mapSeq (· ++ vs.toArray)) }) : wpAny (model prog w) A (collect (.ref l)) Q E s := by
  obtain ⟨o, ho, hc, n, hd⟩ := id hl
  have ho1 : (s.heap.push (seqObj "list" #[] 0)).get? l = some o := Heap.get?_push_of_some _ ho
  have htt : (Value.type "tuple" == Value.type "tuple") = true := by rfl
  unfold collect; refine wpAny_bind (wpAny_runValue (codeAny_builtin entry_proto_collect' ?_))
  show wpAny _ _ (do again (.builtin "list.__iadd__" ⟨[← newList [], .ref l], []⟩)) _ _ _
  refine wpAny_bind (wpAny_newList (wpAny_pure ⟨Code.quiet_builtin _ (by decide +kernel), codeAny_builtin entry_list_iadd' ?body⟩))
  case body =>
    show wpAny _ _ (Builtin.List.listExtendWith (.ref s.heap.objs.size) (.ref l) (.ref s.heap.objs.size)) _ _ { s with heap := s.heap.push (seqObj "list" #[] 0), toks := s.toks }
    unfold Builtin.List.listExtendWith; refine wpAny_bind (wpAny_typeOf (T := "tuple") ⟨o, ho1, hc⟩ ?_)
    rw [if_pos (by rw [htt]; simp)]; refine wpAny_bind (listItems_at ho1 hd (wpAny_bind (listItems_at (xs := #[]) (n := 0) (Heap.get?_push_size _ rfl) rfl ?_)))
    rw [if_neg (by simp)]; refine wpAny_bind (listUpdate_at (xs := #[]) (n := 0) (Heap.get?_push_size _ rfl) rfl (wpAny_pure ?_) (Nat.zero_le _) (by show (#[] ++ vs.toArray).size ≤ sizeLine + 1; simp only [Array.size_append, List.size_toArray, List.length_nil]; omega))
    show wpAny (model prog w) A (do match (← load s.heap.objs.size).data with | .seq xs _ => pure xs.toList | _ => unsupported "internal:collect") Q E { s with heap := (s.heap.push (seqObj "list" #[] 0)).update s.heap.objs.size (Obj.mapSeq (· ++ vs.toArray)), toks := s.toks }
    refine wpAny_bind (wpAny_load (get?_update_seq (Heap.get?_push_size _ rfl) _) ?_)
    show wpAny _ _ (pure ((#[] : Array Value) ++ vs.toArray).toList) Q E { s with heap := _ }
    rw [show ((#[] : Array Value) ++ vs.toArray).toList = vs by simp]; exact wpAny_pure h
theorem pv_sortedTup {l : Addr} {vs : List Value} {ns : List Int} {Q : Value → Shared → Prop} (hl : s.heap.IsTuple l vs.toArray) (hI : IntsAre vs ns) (h64 : vs.length < 64)
    (h : ∀ (out : Array Value) (ns' : List Int), IntsAre out.toList ns' → ns'.Perm ns → ns'.Pairwise (· ≤ ·) → Q (.ref (s.heap.objs.size + 1)) { s with heap := sortedAll s.heap vs out }) :
    wpAny (model prog w) A (call (.builtin "sorted") [.ref l]) Q E s := by
  refine Calls.call_function_entry kind_sorted plain_sorted entry_sorted (args_sorted1 _) ?tree
  case tree =>
    unfold Builtin.«sorted»; refine wpAny_bind (m := checkCount "sorted" 1 1 _) (wpAny_pure (wpAny_bind (pv_collectTup hl (by rw [sizeLine_eq]; omega) (wpAny_bind (wpAny_newList ?new (by rw [sizeLine_eq]; omega))))))
    case new =>
      have e1 : ((s.heap.push (seqObj "list" #[] 0)).update s.heap.objs.size (Obj.mapSeq (· ++ vs.toArray))).objs.size = s.heap.objs.size + 1 := by rw [Heap.size_update, size_push']
      have e2 : (((s.heap.push (seqObj "list" #[] 0)).update s.heap.objs.size (Obj.mapSeq (· ++ vs.toArray))).push (seqObj "list" vs.toArray 0)).get? (s.heap.objs.size + 1) = some (seqObj "list" vs.toArray 0) := by rw [← e1]; exact Heap.get?_push_size _ rfl
      show wpAny _ _ _ _ _ { s with heap := ((s.heap.push (seqObj "list" #[] 0)).update s.heap.objs.size (Obj.mapSeq (· ++ vs.toArray))).push (seqObj "list" vs.toArray 0), toks := s.toks }
      rw [e1]; exact wpAny_bind (wpAny_holding (wpAny_call_entry slot_list_sort ⟨_, e2, rfl⟩ entry_list_sort (list_sort_tree e2 hI h64 fun out ns' a1 a2 a3 => ⟨_, rfl, wpAny_pure ⟨_, rfl, h out ns' a1 a2 a3⟩⟩) (args_list_sort _)))
end
end PyProof.Rows
namespace Pv
open PySem PySem.Spec PyProof.Rows L2
section
variable {X : Cx}
def rSortedT (K : PySem.W.Frag) : RC := fun vs H Q => ∃ (a : Addr) (ns : List Int), vs = [V.ref a] ∧ SqT K H a (ns.map V.int) ∧ ns.length < 64 ∧
  ∀ (ns' : List Int) (p : Addr), ns'.Perm ns → ns'.Pairwise (· ≤ ·) → H p = none → Q (.ref p) (upd H p (.lst (ns'.map V.int)))
theorem cr_sortedT : CallR X (.builtin "sorted") (rSortedT X.K) := by
  intro pins s σ H vs us Q I rel h
  obtain ⟨a, ns, e, hs, h64, q⟩ := h
  subst e
  obtain ⟨its, rv, ht, hz⟩ := I.tuple hs
  rw [Vals.ref1 rel]
  have hi := rv.ints
  refine pv_sortedTup (show s.heap.IsTuple a its.toArray from ht) hi (by rw [hi.length]; exact h64) ?_
  intro out ns' h1 h2 h3
  obtain ⟨ep, he⟩ := PyProof.Rows.sortedAll_at s.heap its out
  have hlen : (ns'.map V.int).length ≤ sizeLine := by rw [List.length_map, h2.length_eq, sizeLine_eq]; omega
  exact ⟨.ref _, _, I.laid (a := s.heap.objs.size + 1) (o := .lst (ns'.map V.int)) (t' := s.toks) (fun _ _ => PyProof.Rows.sortedAll_old) (Nat.le_succ _) ⟨hlen, out.toList, ep, vals_of_ints h1, he⟩, rfl, q ns' _ h2 h3 (I.hok.fresh (Nat.le_succ _))⟩
def rSetT (w : World) (K : PySem.W.Frag) : RC := fun vs H Q => ∃ (a : Addr) (ns : List Int), vs = [V.ref a] ∧ SqT K H a (ns.map V.int) ∧ ns.length < 60 ∧
  ∀ (p : Addr) (c : Nat), H p = none → (∃ ks : List Int, ks.Nodup ∧ (∀ k, k ∈ ks ↔ k ∈ ns) ∧ ks.length = c) → c ≤ ns.length → Q (.ref p) (upd H p (SetO w p (fun j => decide (j ∈ ns)) c))
theorem cr_setT (hc : X.calm = true) : CallR X (.type "set") (rSetT X.w X.K) := by
  intro pins s σ H vs us Q I rel h
  obtain ⟨a, ns, e, hs, h60, q⟩ := h
  subst e
  obtain ⟨its, rv, ht, hz⟩ := I.tuple hs
  rw [Vals.ref1 rel]
  have hi := rv.ints
  have hsb : scanBound > 61 := by decide
  refine call_set_tupI ns (I.ok.hd hc) (show s.heap.IsTuple a its.toArray from ht) (by simpa using hi) (by omega) ?_
  intro h' tk c R hcn kp
  refine ⟨.ref s.heap.objs.size, _, I.laid (a := s.heap.objs.size) (o := SetO X.w s.heap.objs.size (fun j => decide (j ∈ ns)) c) (t' := tk) kp (Nat.le_refl _) (setO_new R), rfl, q _ c (I.hok.fresh (Nat.le_refl _)) ?_ hcn⟩
  obtain ⟨o, es, ep, t, _, _, _, _, nd, hm, _, _, hn, _⟩ := R
  exact ⟨es.toList.map keyOf, nd, fun k => by rw [← hm k]; simp, by rw [List.length_map, Array.length_toList]; exact hn⟩
def rLenS' (w : World) : RC := fun vs H Q => ∃ (a : Addr) (S : Int → Bool) (n : Nat), vs = [V.ref a] ∧ H a = some (SetO w a S n) ∧ Q (.int n) H
theorem cr_lenSet : CallR X (.builtin "len") (rLenS' X.w) := by
  intro pins s σ H vs us Q I rel h
  obtain ⟨a, S, n, e, ha, q⟩ := h
  subst e
  rw [Vals.ref1 rel]
  obtain ⟨o, es, ep, t, ho, hx, hd, _, _, _, hb, hf, hn, _⟩ := setO_get I ha
  subst hn
  have hsb : scanBound < 2 ^ 62 := by decide
  exact call_len_set ho hx hd hf (by omega) ⟨.int _, H, I.tok _, ⟨_, rfl⟩, q⟩
end
/-! what the size of the set tells -/
theorem len_sub : ∀ {ks ns : List Int}, ks.Nodup → (∀ k ∈ ks, k ∈ ns) → ks.length ≤ ns.length
  | [], _, _, _ => Nat.zero_le _
  | k :: ks, ns, nd, h => by
    obtain ⟨n1, n2⟩ := List.nodup_cons.mp nd
    have hk := h k (by simp)
    have h1 := len_sub (ks := ks) (ns := ns.erase k) n2 (fun x hx => by
      have hne : x ≠ k := fun z => n1 (by rw [← z]; exact hx)
      exact (List.mem_erase_of_ne hne).mpr (h x (by simp [hx])))
    rw [List.length_erase_of_mem hk] at h1
    have := List.length_pos_of_mem hk
    rw [List.length_cons]; omega
theorem len_nodup : ∀ {ns ks : List Int}, ks.Nodup → (∀ k, k ∈ ks ↔ k ∈ ns) → (ks.length = ns.length ↔ ns.Nodup) := by
  intro ns ks nd hm
  constructor
  · intro hl
    induction ns generalizing ks with
    | nil => exact List.nodup_nil
    | cons n ns ih =>
      have hn : n ∈ ks := (hm n).mpr (by simp)
      have hnot : n ∉ ns := by
        intro hin
        have := len_sub nd (ns := ns) (fun k hk => by
          rcases List.mem_cons.mp ((hm k).mp hk) with rfl | h
          · exact hin
          · exact h)
        rw [List.length_cons] at hl; omega
      refine List.nodup_cons.mpr ⟨hnot, ih (ks := ks.erase n) (nd.erase n) (fun k => ?_) ?_⟩
      · rw [nd.mem_erase_iff, hm k, List.mem_cons]
        constructor
        · rintro ⟨h1, h2 | h2⟩
          · exact absurd h2 h1
          · exact h2
        · intro h
          exact ⟨fun z => hnot (z ▸ h), .inr h⟩
      · rw [List.length_erase_of_mem hn, hl, List.length_cons]; rfl
  · intro hn
    exact Nat.le_antisymm (len_sub nd fun k hk => (hm k).mp hk) (len_sub hn fun k hk => (hm k).mpr hk)
theorem lt_unique : ∀ {as bs : List Int}, as.Pairwise (· < ·) → bs.Pairwise (· < ·) → (∀ k, k ∈ as ↔ k ∈ bs) → as = bs
  | [], [], _, _, _ => rfl
  | [], b :: bs, _, _, h => by have := (h b).mpr (by simp); cases this
  | a :: as, [], _, _, h => by have := (h a).mp (by simp); cases this
  | a :: as, b :: bs, ha, hb, h => by
    obtain ⟨a1, a2⟩ := List.pairwise_cons.mp ha
    obtain ⟨b1, b2⟩ := List.pairwise_cons.mp hb
    have e : a = b := by
      rcases List.mem_cons.mp ((h a).mp (by simp)) with h1 | h1
      · exact h1
      · rcases List.mem_cons.mp ((h b).mpr (by simp)) with h2 | h2
        · exact h2.symm
        · have := b1 a h1; have := a1 b h2; omega
    subst e
    rw [lt_unique a2 b2 (fun k => ?_)]
    constructor
    · intro hk
      rcases List.mem_cons.mp ((h k).mp (List.mem_cons_of_mem _ hk)) with h1 | h1
      · have := a1 k hk; omega
      · exact h1
    · intro hk
      rcases List.mem_cons.mp ((h k).mpr (List.mem_cons_of_mem _ hk)) with h1 | h1
      · have := b1 k hk; omega
      · exact h1
theorem sort_nodup {ns ns' ms : List Int} (hp : ns'.Perm ns) (hs : ns'.Pairwise (· ≤ ·)) (hm : ms.Pairwise (· < ·)) (h : ∀ k, k ∈ ms ↔ k ∈ ns) : ns' = ms ↔ ns.Nodup := by
  constructor
  · intro e
    subst e
    exact hp.nodup_iff.mp (hm.imp fun {a b} h => by omega)
  · intro hn
    have hn' : ns'.Nodup := hp.nodup_iff.mpr hn
    refine lt_unique ?_ hm (fun k => by rw [hp.mem_iff, h k])
    exact (hs.and hn').imp fun {a b} h => by have := h.1; have := h.2; omega
end Pv

namespace Pv
open PySem PySem.Spec PyProof.Rows L2
/-! how large data is -/
mutual
def fit (M : Nat) : PyData → Prop
  | .none => True
  | .bool _ => True
  | .int i => i.natAbs ≤ M
  | .str x => (reprText x).length ≤ 400
  | .list xs => fitAll M xs
  | .tuple xs => fitAll M xs
  | .dict kvs => (PyData.shown (.dict kvs)).length ≤ 40 ∧ PyData.showable (.dict kvs) = true
def fitAll (M : Nat) : List PyData → Prop
  | [] => True
  | x :: xs => fit M x ∧ fitAll M xs
end
mutual
def wt : PyData → Nat
  | .none => 40
  | .bool _ => 40
  | .int _ => 40
  | .str _ => 400
  | .list xs => wtAll xs + 3
  | .tuple xs => wtAll xs + 3
  | .dict _ => 40
def wtAll : List PyData → Nat
  | [] => 0
  | x :: xs => wt x + 2 + wtAll xs
end
theorem int_text {i : Int} {M : Nat} (h : i.natAbs ≤ M) (hM : M < 10 ^ 35) : (PyData.int i).showable = true ∧ (PyData.int i).shown.length ≤ 40 := by
  have h' : i.natAbs < 10 ^ 35 := by omega
  refine ⟨?_, ?_⟩
  · simp only [PyData.showable, decide_eq_true_eq]
    have : i.natAbs.log2 < 200 := by
      by_cases h0 : i.natAbs = 0
      · rw [h0]; decide
      · exact (Nat.log2_lt h0).mpr (Nat.lt_trans h' (by decide))
    omega
  · have e := int_text_length_le10 (k := 35) (by decide) h'
    show (Str.ofString (toString i)).length ≤ 40
    rw [PySem.ofString_length]
    omega
mutual
theorem fit_ok {M : Nat} (hM : M < 10 ^ 35) : ∀ {d : PyData}, fit M d → d.showable = true ∧ d.shown.length ≤ wt d
  | .none, _ => by simp only [PyData.showable, PyData.shown, wt]; decide
  | .bool b, _ => by cases b <;> (simp only [PyData.showable, PyData.shown, wt]; decide)
  | .int i, h => by
    have := int_text (i := i) (M := M) (by simpa only [fit] using h) hM
    simp only [wt]; exact this
  | .str x, h => by simp only [fit] at h; simp only [PyData.showable, PyData.shown, wt]; exact ⟨trivial, h⟩
  | .list xs, h => by
    obtain ⟨h1, h2⟩ := fitAll_ok hM (xs := xs) (by simpa only [fit] using h)
    simp only [PyData.showable, PyData.shown, wt]
    refine ⟨h1, ?_⟩
    have e := listText_len_le (PyData.shownAll xs)
    omega
  | .tuple xs, h => by
    obtain ⟨h1, h2⟩ := fitAll_ok hM (xs := xs) (by simpa only [fit] using h)
    simp only [PyData.showable, PyData.shown, wt]
    refine ⟨h1, ?_⟩
    have e := tupleText_len_le (PyData.shownAll xs)
    omega
  | .dict kvs, h => by simp only [fit] at h; simp only [wt]; exact ⟨h.2, h.1⟩
theorem fitAll_ok {M : Nat} (hM : M < 10 ^ 35) : ∀ {xs : List PyData}, fitAll M xs → PyData.showableAll xs = true ∧ ((PyData.shownAll xs).map (·.length)).sum + 2 * (PyData.shownAll xs).length ≤ wtAll xs
  | [], _ => by simp [PyData.showableAll, PyData.shownAll, wtAll]
  | x :: xs, h => by
    have h' : fit M x ∧ fitAll M xs := by simpa only [fitAll] using h
    obtain ⟨a1, a2⟩ := fit_ok hM h'.1
    obtain ⟨b1, b2⟩ := fitAll_ok hM h'.2
    refine ⟨by simp [PyData.showableAll, a1, b1], ?_⟩
    simp only [PyData.shownAll, List.map_cons, List.sum_cons, List.length_cons, wtAll]
    omega
end
mutual
theorem fit_mono {M M' : Nat} (h : M ≤ M') : ∀ {d : PyData}, fit M d → fit M' d
  | .none, _ => by simp [fit]
  | .bool _, _ => by simp [fit]
  | .int i, q => by simp only [fit] at *; omega
  | .str x, q => by simpa only [fit] using q
  | .list xs, q => by simp only [fit] at *; exact fitAll_mono h q
  | .tuple xs, q => by simp only [fit] at *; exact fitAll_mono h q
  | .dict _, q => by simpa only [fit] using q
theorem fitAll_mono {M M' : Nat} (h : M ≤ M') : ∀ {xs : List PyData}, fitAll M xs → fitAll M' xs
  | [], _ => by simp [fitAll]
  | x :: xs, q => by
    have q' : fit M x ∧ fitAll M xs := by simpa only [fitAll] using q
    simp only [fitAll]
    exact ⟨fit_mono h q'.1, fitAll_mono h q'.2⟩
end
theorem fitAll_iff {M : Nat} : ∀ {xs : List PyData}, fitAll M xs ↔ ∀ x ∈ xs, fit M x
  | [] => by simp [fitAll]
  | x :: xs => by simp [fitAll, fitAll_iff (xs := xs)]
theorem wtAll_app : ∀ (xs ys : List PyData), wtAll (xs ++ ys) = wtAll xs + wtAll ys
  | [], ys => by simp [wtAll]
  | x :: xs, ys => by simp only [List.cons_append, wtAll, wtAll_app xs ys]; omega
theorem wtAll_rev : ∀ xs : List PyData, wtAll xs.reverse = wtAll xs
  | [] => rfl
  | x :: xs => by rw [List.reverse_cons, wtAll_app, wtAll_rev xs]; simp only [wtAll]; omega
theorem wtAll_split (xs : List PyData) (n : Nat) : wtAll xs = wtAll (xs.take n) + wtAll (xs.drop n) := by rw [← wtAll_app, List.take_append_drop]
theorem wtAll_len : ∀ xs : List PyData, 2 * xs.length ≤ wtAll xs
  | [] => by simp [wtAll]
  | x :: xs => by have := wtAll_len xs; simp only [wtAll, List.length_cons]; omega
theorem depthAll_le {k : Nat} : ∀ {xs : List PyData}, PyData.depthAll xs ≤ k ↔ ∀ x ∈ xs, x.depth ≤ k
  | [] => by simp [PyData.depthAll]
  | x :: xs => by
    have := depthAll_le (k := k) (xs := xs)
    simp only [PyData.depthAll, List.mem_cons, forall_eq_or_imp, ← this]
    omega
structure Fit (M k W : Nat) (d : PyData) : Prop where
  ok : fit M d
  dp : d.depth ≤ k
  wt : wt d ≤ W
theorem Fit.mono {M M' k k' W W' : Nat} {d : PyData} (h : Fit M k W d) (h1 : M ≤ M') (h2 : k ≤ k') (h3 : W ≤ W') : Fit M' k' W' d := ⟨fit_mono h1 h.ok, Nat.le_trans h.dp h2, Nat.le_trans h.wt h3⟩
theorem Fit.at {M k W : Nat} {ds : List PyData} {d : PyData} (h : Fit M k W (.tuple ds)) (hm : d ∈ ds) : Fit M (k - 1) W d ∧ d.depth + 1 ≤ (PyData.tuple ds).depth ∧ 1 ≤ k := by
  have h1 : fitAll M ds := by have := h.ok; simpa only [fit] using this
  have h2 := h.dp
  simp only [PyData.depth] at h2
  have h3 : ∀ x ∈ ds, x.depth ≤ PyData.depthAll ds := depthAll_le.mp (Nat.le_refl _)
  have h4 := h3 d hm
  refine ⟨⟨fitAll_iff.mp h1 d hm, by omega, ?_⟩, by simp only [PyData.depth]; omega, by omega⟩
  obtain ⟨a, b, rfl⟩ := List.append_of_mem hm
  have h5 := h.wt
  simp only [Pv.wt, wtAll_app, wtAll] at h5
  omega
/-- a tuple made of parts -/
theorem Fit.tup {M k W : Nat} {ds : List PyData} (h1 : ∀ d ∈ ds, fit M d ∧ d.depth + 1 ≤ k) (h0 : 1 ≤ k) (h2 : wtAll ds + 3 ≤ W) : Fit M k W (.tuple ds) := by
  refine ⟨by simp only [fit]; exact fitAll_iff.mpr fun d hd => (h1 d hd).1, ?_, by simpa only [Pv.wt] using h2⟩
  simp only [PyData.depth]
  have : PyData.depthAll ds ≤ k - 1 := depthAll_le.mpr fun d hd => by have := (h1 d hd).2; omega
  omega
theorem Fit.lst {M k W : Nat} {ds : List PyData} (h1 : ∀ d ∈ ds, fit M d ∧ d.depth + 1 ≤ k) (h0 : 1 ≤ k) (h2 : wtAll ds + 3 ≤ W) : Fit M k W (.list ds) := by
  refine ⟨by simp only [fit]; exact fitAll_iff.mpr fun d hd => (h1 d hd).1, ?_, by simpa only [Pv.wt] using h2⟩
  simp only [PyData.depth]
  have : PyData.depthAll ds ≤ k - 1 := depthAll_le.mpr fun d hd => by have := (h1 d hd).2; omega
  omega
theorem Fit.parts {M k W : Nat} {ds : List PyData} (h : Fit M k W (.tuple ds)) : (∀ d ∈ ds, fit M d ∧ d.depth + 1 ≤ k) ∧ 1 ≤ k ∧ wtAll ds + 3 ≤ W := by
  have h0 : 1 ≤ k := by have := h.dp; simp only [PyData.depth] at this; omega
  refine ⟨fun d hd => ⟨(h.at hd).1.ok, ?_⟩, h0, by have := h.wt; simpa only [Pv.wt] using this⟩
  have := (h.at hd).1.dp
  omega
theorem Fit.int {M k W : Nat} {i : Int} (h : i.natAbs ≤ M) (hW : 40 ≤ W) : Fit M k W (.int i) := ⟨by simpa only [fit] using h, by simp [PyData.depth], by simpa only [Pv.wt] using hW⟩
/-- what is shown together -/
theorem fit_pair {M : Nat} (hM : M < 10 ^ 35) {k W : Nat} {a b : PyData} (ha : Fit M k W a) (hb : Fit M k W b) (hk : k ≤ 50) (hW : W ≤ 1000000) :
    (PyData.list [a, b]).showable = true ∧ (PyData.list [a, b]).depth ≤ 60 ∧ (PyData.list [a, b]).shown.length ≤ sizeLine := by
  have h : Fit M (k + 1) (2 * W + 10) (.list [a, b]) := by
    refine Fit.lst ?_ (by omega) ?_
    · intro d hd
      rcases List.mem_cons.mp hd with rfl | hd
      · exact ⟨ha.ok, by have := ha.dp; omega⟩
      · rcases List.mem_cons.mp hd with rfl | hd
        · exact ⟨hb.ok, by have := hb.dp; omega⟩
        · cases hd
    · have h1 := ha.wt
      have h2 := hb.wt
      simp only [wtAll]; omega
  obtain ⟨s1, s2⟩ := fit_ok hM h.ok
  refine ⟨s1, Nat.le_trans h.dp (by omega), Nat.le_trans s2 (Nat.le_trans h.wt ?_)⟩
  rw [sizeLine_eq]; omega
/-! the data of instances and assignments -/
theorem fit_dI {M : Nat} {ns : List Int} (h : ∀ i ∈ ns, i.natAbs ≤ M) : Fit M 1 (ns.length * 42 + 3) (dI ns) := by
  have hw : wtAll (ns.map PyData.int) = ns.length * 42 := by
    clear h
    induction ns with
    | nil => rfl
    | cons a ns ih => simp only [List.map_cons, wtAll, wt, ih, List.length_cons]; omega
  refine Fit.tup ?_ (by decide) (by rw [hw]; exact Nat.le_refl _)
  intro d hd
  obtain ⟨i, hi, rfl⟩ := List.mem_map.mp hd
  exact ⟨by simpa only [fit] using h i hi, by simp [PyData.depth]⟩
theorem wtAll_le {W : Nat} : ∀ {ds : List PyData}, (∀ d ∈ ds, wt d ≤ W) → wtAll ds ≤ ds.length * (W + 2)
  | [], _ => by simp [wtAll]
  | d :: ds, h => by
    have h1 := h d (by simp)
    have h2 := wtAll_le (W := W) (ds := ds) (fun x hx => h x (by simp [hx]))
    simp only [wtAll, List.length_cons, Nat.succ_mul]; omega
theorem fit_dAsg {M : Nat} {rows : List (List Int)} (h : ∀ row ∈ rows, row.length ≤ 10 ∧ ∀ i ∈ row, i.natAbs ≤ M) (hr : rows.length ≤ 20) : Fit M 2 10000 (dAsg rows) := by
  unfold dAsg
  refine Fit.tup ?_ (by decide) ?_
  · intro d hd
    obtain ⟨row, hrow, rfl⟩ := List.mem_map.mp hd
    have := fit_dI (M := M) (h row hrow).2
    exact ⟨this.ok, by have := this.dp; omega⟩
  · have := wtAll_le (W := 430) (ds := rows.map dI) (by
      intro d hd
      obtain ⟨row, hrow, rfl⟩ := List.mem_map.mp hd
      have := (fit_dI (M := M) (h row hrow).2).wt
      have := (h row hrow).1
      omega)
    rw [List.length_map] at this
    omega
theorem fit_dInst {M : Nat} {cs : List Int} {gs : List Gp} (hc : cs.length ≤ 10 ∧ ∀ i ∈ cs, i.natAbs ≤ M) (hg : gs.length ≤ 20) (h : ∀ g ∈ gs, g.1.length ≤ 10 ∧ (∀ i ∈ g.1, i.natAbs ≤ M) ∧ g.2.natAbs ≤ M) : Fit M 5 20000 (dInst cs gs) := by
  have f1 := fit_dI hc.2
  have f2 : ∀ g ∈ gs, Fit M 2 600 (dGrp g) := by
    intro g hgm
    have f3 := fit_dI (M := M) (h g hgm).2.1
    have hl := (h g hgm).1
    unfold dGrp
    refine Fit.tup ?_ (by decide) ?_
    · intro d hd
      rcases List.mem_cons.mp hd with rfl | hd
      · exact ⟨f3.ok, by have := f3.dp; omega⟩
      · rcases List.mem_cons.mp hd with rfl | hd
        · exact ⟨by simpa only [fit] using (h g hgm).2.2, by simp [PyData.depth]⟩
        · cases hd
    · have := f3.wt
      simp only [wtAll, Pv.wt]; omega
  have f4 : Fit M 3 13000 (.tuple (gs.map dGrp)) := by
    refine Fit.tup ?_ (by decide) ?_
    · intro d hd
      obtain ⟨g, hgm, rfl⟩ := List.mem_map.mp hd
      exact ⟨(f2 g hgm).ok, by have := (f2 g hgm).dp; omega⟩
    · have := wtAll_le (W := 600) (ds := gs.map dGrp) (by
        intro d hd
        obtain ⟨g, hgm, rfl⟩ := List.mem_map.mp hd
        exact (f2 g hgm).wt)
      rw [List.length_map] at this
      omega
  unfold dInst
  refine Fit.tup ?_ (by decide) ?_
  · intro d hd
    rcases List.mem_cons.mp hd with rfl | hd
    · exact ⟨f1.ok, by have := f1.dp; omega⟩
    · rcases List.mem_cons.mp hd with rfl | hd
      · exact ⟨f4.ok, by have := f4.dp; omega⟩
      · cases hd
  · have h1 := f1.wt
    have h2 := f4.wt
    have := hc.1
    simp only [wtAll]; omega
end Pv

namespace Pv
open PySem PySem.Spec PyProof.Rows L2
/-! repr of any such value -/
theorem call_reprA {X : Cx} (hg : X.A.guards = some []) (hu : X.A.units + 70 < cLine) : CallR X (.builtin "repr")
    (fun xs H Q => ∃ v d st r, xs = [v] ∧ Dq X.K st r H v d ∧ d.showable = true ∧ d.depth ≤ 60 ∧ d.shown.length ≤ sizeLine ∧ Q (.str d.shown) H) := by
  intro pins s σ H xs us Q I rv h
  obtain ⟨v, d, st, r, rfl, hd, h1, h3, h4, q⟩ := h
  by_cases hv : ∃ a, v = .ref a
  · obtain ⟨a, rfl⟩ := hv
    exact call_reprQ hg hu pins s σ H _ us Q I rv ⟨a, d, st, r, rfl, hd, h1, h3, h4, q⟩
  · obtain ⟨u, rfl, ru⟩ := vals1 rv
    cases hd with
    | non => cases ru; exact PySem.P.repr_of_none ⟨.str _, H, I.tok _, ⟨_, rfl⟩, q⟩
    | bl b => cases ru; cases b <;> exact PySem.P.repr_of_bool ⟨.str _, H, I.tok _, ⟨_, rfl⟩, q⟩
    | int i =>
      obtain ⟨t, rfl⟩ := ru
      exact PySem.P.repr_of_int (by simpa [PyData.showable] using h1) ⟨.str _, H, I.tok _, ⟨_, rfl⟩, q⟩
    | str x =>
      obtain ⟨t, rfl⟩ := ru
      exact PySem.P.repr_of_str ⟨.str _, H, I.tok _, ⟨_, rfl⟩, q⟩ h4
    | lst _ => exact absurd ⟨_, rfl⟩ hv
    | tup _ => exact absurd ⟨_, rfl⟩ hv
    | dct _ => exact absurd ⟨_, rfl⟩ hv
/-! written values -/
def tLit (K : PySem.W.Frag) (d : PyData) : TE := fun _ H Q => ∃ st r, (H st ≠ none ∧ H r ≠ none) ∧ ∀ H' v, Same H H' → Dq K st r H' v d → Q v H'
def tLits (K : PySem.W.Frag) (ds : List PyData) : TA := fun _ H Q => ∃ st r, (H st ≠ none ∧ H r ≠ none) ∧ ∀ H' vs, Same H H' → DqAll K st r H' vs ds → Q vs H'
theorem occ {H H' : Hp} {st r : Addr} (h : H st ≠ none ∧ H r ≠ none) (s : Same H H') : H' st ≠ none ∧ H' r ≠ none := by
  obtain ⟨h1, h2⟩ := h
  constructor
  · cases e : H st with
    | none => exact absurd e h1
    | some o => rw [s _ _ e]; simp
  · cases e : H r with
    | none => exact absurd e h2
    | some o => rw [s _ _ e]; simp
theorem occ_ne {H : Hp} {st r p : Addr} (h : H st ≠ none ∧ H r ≠ none) (np : H p = none) : p ≠ st ∧ p ≠ r := ⟨fun e => h.1 (e ▸ np), fun e => h.2 (e ▸ np)⟩
theorem DqAll.rep {K : PySem.W.Frag} {st r : Addr} {H : Hp} {vs : List V} {ds : List PyData} (h : DqAll K st r H vs ds) : ∀ k : Nat, DqAll K st r H (List.replicate k vs).flatten (List.replicate k ds).flatten
  | 0 => .nil
  | k + 1 => by
    rw [List.replicate_succ, List.replicate_succ, List.flatten_cons, List.flatten_cons]
    exact h.app (DqAll.rep h k)
section
variable {X : Cx} {e : Expr} {es : List Expr} {pos p1 p2 : Pos} {d : PyData} {ds : List PyData}
theorem pe_mono {t t' : TE} (h : PE X e t) (m : ∀ σ H Q, t' σ H Q → t σ H Q) : PE X e t' := ⟨fun pins s σ H Q I q => h.run pins s σ H Q I (m _ _ _ q)⟩
theorem pa_mono {t t' : TA} (h : PA X es t) (m : ∀ σ H Q, t' σ H Q → t σ H Q) : PA X es t' := ⟨fun pos pins s σ H Q I q => h.run pos pins s σ H Q I (m _ _ _ q)⟩
theorem lit_c {v : V} (h : PE X e (tC v)) (hd : ∀ st r H, Dq X.K st r H v d) : PE X e (tLit X.K d) := pe_mono h fun σ H Q ⟨st, r, _, q⟩ => q H v (Same.refl H) (hd st r H)
theorem lit_int {n : Int} (h : PE X e (tC (.int n))) : PE X e (tLit X.K (.int n)) := lit_c h fun _ _ _ => .int n
theorem lit_bl {b : Bool} (h : PE X e (tC (.bl b))) : PE X e (tLit X.K (.bool b)) := lit_c h fun _ _ _ => .bl b
theorem lit_str {x : Str} (h : PE X e (tC (.str x))) : PE X e (tLit X.K (.str x)) := lit_c h fun _ _ _ => .str x
theorem lit_non (h : PE X e (tC .non)) : PE X e (tLit X.K .none) := lit_c h fun _ _ _ => .non
theorem lit_pow {a b : Int} (h : PE X e (tOp (rI CPow fun i j => .int (i ^ j.toNat)) (tC (.int a)) (tC (.int b)))) (hc : CPow a b) : PE X e (tLit X.K (.int (a ^ b.toNat))) :=
  pe_mono h fun σ H Q ⟨st, r, _, q⟩ => ⟨a, b, rfl, rfl, hc, q H _ (Same.refl H) (.int _)⟩
theorem lit_add {e1 e2 : Expr} {a b : Int} (h1 : PE X e1 (tLit X.K (.int a))) (h2 : PE X e2 (tLit X.K (.int b))) : PE X (.BinOp e1 .Add e2 pos) (tLit X.K (.int (a + b))) :=
  pe_mono (pe_op op_add h1 h2) fun σ H Q ⟨st, r, oc, q⟩ => ⟨st, r, oc, fun H1 v1 s1 d1 => ⟨st, r, occ oc s1, fun H2 v2 s2 d2 => by
    cases d1; cases d2
    exact ⟨a, b, rfl, rfl, q H2 _ (s1.trans s2) (.int _)⟩⟩⟩
theorem lits_nil : PA X [] (tLits X.K []) := pa_mono pa_nil fun σ H Q ⟨st, r, _, q⟩ => q H [] (Same.refl H) .nil
theorem lits_cons (h : PE X e (tLit X.K d)) (hs : PA X es (tLits X.K ds)) (hq : starEach (e :: es) X.env = (false, eval e X.env) :: starEach es X.env := by rfl) : PA X (e :: es) (tLits X.K (d :: ds)) :=
  pa_mono (pa_cons h hs hq) fun σ H Q ⟨st, r, oc, q⟩ => ⟨st, r, oc, fun H1 v s1 d1 => ⟨st, r, occ oc s1, fun H2 vs s2 d2 => q H2 _ (s1.trans s2) (.cons (d1.lasts (.of s2)) d2)⟩⟩
theorem small6 {n : Nat} (h : n ≤ 1000000) : n ≤ sizeLine := Nat.le_of_lt (Nat.lt_of_le_of_lt h (by decide))
theorem lit_tup {k : Nat} (h : PA X es (tLits X.K ds)) (hl : ds.length ≤ 1000000) : PE X (.Tuple es k pos) (tLit X.K (.tuple ds)) :=
  pe_mono (pe_tup h) fun σ H Q ⟨st, r, oc, q⟩ => ⟨st, r, oc, fun H1 vs s1 d1 => ⟨by rw [DqAll.len d1]; exact small6 hl, fun p np => q _ _ (s1.trans (sameNew np)) (.tup (SqT.of upd_same) (d1.lasts (.of (sameNew np))))⟩⟩
theorem lit_lst (h : PA X es (tLits X.K ds)) (hl : ds.length ≤ 1000000) : PE X (.List es pos) (tLit X.K (.list ds)) :=
  pe_mono (pe_lstS h) fun σ H Q ⟨st, r, oc, q⟩ => ⟨st, r, oc, fun H1 vs s1 d1 => ⟨by rw [DqAll.len d1]; exact small6 hl, fun p np ns => q _ _ (s1.trans (sameNew np)) (.lst upd_same (occ_ne (occ oc s1) np).1 (occ_ne (occ oc s1) np).2 ns (d1.lasts (.of (sameNew np))))⟩⟩
theorem lit_dict : PE X (.Dict [] [] pos) (tLit X.K (.dict [])) :=
  pe_mono pe_dnewK fun σ H Q ⟨st, r, oc, q⟩ => fun p np => q _ _ (sameNew np) (.dct (kvs := []) upd_same)
theorem lit_rep {e2 : Expr} {n : Int} (k : Nat) (h : PE X e (tLit X.K (.tuple ds))) (h2 : PE X e2 (tC (.int n))) (hk : n = (k : Nat)) (h1 : k ≠ 1) (hne : ds ≠ []) (hk2 : k ≤ 1000) (hl : ds.length ≤ 1000) :
    PE X (.BinOp e .Mult e2 pos) (tLit X.K (.tuple (List.replicate k ds).flatten)) :=
  pe_mono (pe_op op_repA h h2) fun σ H Q ⟨st, r, oc, q⟩ => ⟨st, r, oc, fun H1 v s1 d1 => by
    cases d1 with
    | @tup a xs _ hT ha =>
      have hx := DqAll.len ha
      refine ⟨a, k, xs, rfl, by rw [hk], hT, ?_, hk2, by omega, fun z => absurd z h1, fun _ p np => q _ _ (s1.trans (sameNew np)) (.tup (SqT.of upd_same) ((ha.rep k).lasts (.of (sameNew np))))⟩
      intro z
      subst z
      exact hne (List.eq_nil_of_length_eq_zero (by simpa using hx.symm))⟩
end
/-- a list and a written list behind it -/
theorem cat_lits {K : PySem.W.Frag} {st r L : Addr} {σ : L2.St} {H1 : Hp} {ds es : List PyData} {Q : VK} {vs : List V} (e1 : H1 L = some (.lst vs)) (h1 : DqAll K st r H1 vs ds) (hoc : H1 st ≠ none ∧ H1 r ≠ none) (hlen : ds.length + es.length ≤ 1000000)
    (hq : ∀ H' L' vs', Same H1 H' → H' L' = some (.lst vs') → L' ≠ st → L' ≠ r → DqAll K st r H' vs' (ds ++ es) → Q (.ref L') H') : tLst (tLits K es) σ H1 (fun y H2 => rCat (.ref L) y H2 Q) := by
  refine ⟨st, r, hoc, fun H2 v2 s2 h2 => ⟨by rw [DqAll.len h2]; exact small6 (by omega), fun M nM => ?_⟩⟩
  refine ⟨L, M, vs, v2, rfl, rfl, upNew nM (s2 _ _ e1), upd_same, by rw [DqAll.len h1, DqAll.len h2]; exact small6 (by omega), fun N nN => ?_⟩
  have sM := sameNew (o := .lst v2) nM
  have sN := sameNew (o := .lst (vs ++ v2)) nN
  have s1N := (s2.trans sM).trans sN
  have hN := occ_ne (occ (occ hoc s2) sM) nN
  exact hq _ N _ s1N upd_same hN.1 hN.2 ((h1.lasts (.of s1N)).app (h2.lasts (.of (sM.trans sN))))
/-! how large, by looking -/
mutual
def fitB (M L : Nat) : PyData → Bool
  | .none => true
  | .bool _ => true
  | .int i => decide (i.natAbs ≤ M)
  | .str x => decide ((reprText x).length ≤ L)
  | .list xs => fitAllB M L xs
  | .tuple xs => fitAllB M L xs
  | .dict kvs => decide ((PyData.shown (.dict kvs)).length ≤ 40) && PyData.showable (.dict kvs)
def fitAllB (M L : Nat) : List PyData → Bool
  | [] => true
  | x :: xs => fitB M L x && fitAllB M L xs
end
end Pv

namespace Pv
open PySem PySem.Spec PyProof.Rows L2
def topS (i : Nat) : Stmt := PySem.Challenge.pw_postvote_k10_price_limit.main.body.getD i (.Pass ⟨0, 0, 0, 0⟩)
abbrev sDraw : Stmt := topS 7
abbrev sStart : Stmt := topS 6
abbrev sOne : Stmt := topS 8
theorem scDraw : FnScope ["_law_stream_here", "_law_bound", "_law_cells", "_law_rests", "_law_count", "_law_place", "_law_digit", "_law_mixed"] ["_law_stream_here", "_law_bound"] (defScope sDraw) :=
  ⟨rfl, rfl, rfl, by decide +kernel, rfl, by decide +kernel, by decide +kernel⟩
theorem scStart : FnScope ["_law_script", "_law_cells", "_law_cell"] ["_law_script"] (defScope sStart) := ⟨rfl, rfl, rfl, by decide +kernel, rfl, by decide +kernel, by decide +kernel⟩
theorem scOne : FnScope ["_law_stream_here", "_law_items"] ["_law_stream_here", "_law_items"] (defScope sOne) := ⟨rfl, rfl, rfl, by decide +kernel, rfl, by decide +kernel, by decide +kernel⟩
section
variable {P : Program} {w : World} {K : PySem.W.Frag} {mg : Str → Option Value} {base : Heap}
def spDraw : Sp := fun vs H Q _ => ∃ (st c r : Addr) (t : Nat) (m : Int), vs = [.ref st, .int m] ∧ DS H st c r t ∧ t < 1000000 ∧ 0 < m ∧ m ≤ 2 ^ 60 ∧
  ∀ (H' : Hp) (d : Int), 0 ≤ d → d < m → DS H' st c r (t + 1) → Ext st r H H' → Q (.int d) H'
set_option maxHeartbeats 1000000 in
theorem ok_draw {f : Addr} {fd : FuncData} {k : Nat} (F : Fun K "_law_draw" "_law_draw" sDraw f fd) (ml : mg "len" = none) : FnOk P w K mg base CX0 (k + 1) f fd ["_law_stream_here", "_law_bound"] spDraw := by
  refine F.ok scDraw (fun vs H Q E h => ?_) (fun cdv A outer s H vs Q E hr h => ?_)
  · obtain ⟨st, c, r, t, m, rfl, _⟩ := h
    rfl
  · obtain ⟨st, c, r, t, m, rfl, hd, ht, hm, hm2, q⟩ := h
    obtain ⟨cells, rests, hc, hrr, hl, hl0, hl1, hnn⟩ := hd.ex
    refine ⟨_, pss_cons (ps_asg (pv 0) (pg_unl rfl (pgs_cons (pg_name (i := 2) scDraw.nd rfl (.inl rfl)) (pgs_cons (pg_name (i := 3) scDraw.nd rfl (.inl rfl)) (pgs_cons (pg_name (i := 4) scDraw.nd rfl (.inl rfl)) pgs_nil)))))
      (pss_cons (ps_set (i := 5) scDraw.nd rfl (.inl rfl) (pe_op op_mod (pv 4) (pe_callB call_len_seq (by rfl) ml PySem.boot_len (pa_cons (pv 2) pa_nil))))
      (pss_cons (ps_asg (pe_op op_add (pv 4) pe_int) (pg_sub (pv 0) pe_int set_list))
      (pss_cons (ps_if (pt_cmpR op_gt (pe_ix ix_list (pv 3) (pv 5) (fun _ _ => rfl)) pe_int (nomark _))
        (pss_cons (ps_set (i := 6) scDraw.nd rfl (.inl rfl) (pe_op op_mod (pe_ix ix_list (pv 3) (pv 5) (fun _ _ => rfl)) (pv 1)))
        (pss_cons (ps_asg (pe_op op_fdivW (pe_ix ix_list (pv 3) (pv 5) (fun _ _ => rfl)) (pv 1)) (pg_sub (pv 3) (pv 5) set_list))
        (pss_one (ps_ret (pv 6))))) pss_nil)
      (pss_cons (ps_set (i := 7) scDraw.nd rfl (.inl rfl) (pe_op op_mod (pe_op op_pow (pe_op op_add (pe_op op_add (pe_op op_mod (pe_ix ix_list (pv 2) (pv 5) (fun _ _ => rfl)) pe_int) (pe_op op_mul pe_int (pv 4))) pe_int) pe_int) pe_int))
      (pss_cons (ps_set (i := 7) scDraw.nd rfl (.inl rfl) (pe_op op_mod (pe_op op_pow (pe_op op_add (pe_op op_add (pv 7) (pe_op op_mul pe_int (pe_op op_mod (pv 4) pe_int))) pe_int) pe_int) pe_int))
      (pss_one (ps_ret (pe_op op_mod (pe_op op_fdiv (pv 7) pe_int) (pv 1))))))))), ?_⟩
    -- the unpacking
    refine ⟨.ref st, rfl, st, _, rfl, SqL.of hd.hs, rfl, .ref c, _, rfl, .ref r, _, rfl, .int t, _, rfl, rfl, ?_⟩
    -- spot
    refine ⟨.int t, rfl, .ref c, rfl, c, _, rfl, .inl (SqL.of hc), _, _, rfl, rfl, by rw [List.length_map]; omega, ?_⟩
    have hn : (List.map V.int cells).length = cells.length := List.length_map ..
    have hsp : ((t : Int) % (((List.map V.int cells).length : Nat) : Int)) = ((t % cells.length : Nat) : Int) := by rw [hn]; norm_cast
    have hlt : t % cells.length < cells.length := Nat.mod_lt _ hl0
    generalize hj : t % cells.length = j at hsp hlt
    obtain ⟨x, hx⟩ : ∃ x, rests[j]? = some x := ⟨rests[j], List.getElem?_eq_getElem (by omega)⟩
    obtain ⟨y, hy⟩ : ∃ y, cells[j]? = some y := ⟨cells[j], List.getElem?_eq_getElem (by omega)⟩
    have hx0 : 0 ≤ x := hnn x (List.mem_of_getElem? hx)
    have hxv : (rests.map V.int)[j]? = some (.int x) := by rw [List.getElem?_map, hx]; rfl
    have hyv : (cells.map V.int)[j]? = some (.int y) := by rw [List.getElem?_map, hy]; rfl
    dsimp only
    rw [hsp]
    -- state[2] = turn + 1
    refine ⟨.int t, rfl, _, _, rfl, rfl, .ref st, rfl, st, _, 2, 2, rfl, rfl, hd.hs, rfl, ?_⟩
    have e1 : (upd H st (.lst [.ref c, .ref r, .int ((t : Int) + 1)])) r = some (.lst (rests.map V.int)) := by rw [upd_ne hd.n3.symm]; exact hrr
    have e2 : (upd H st (.lst [.ref c, .ref r, .int ((t : Int) + 1)])) c = some (.lst (cells.map V.int)) := by rw [upd_ne hd.n2.symm]; exact hc
    have ex0 : Ext st r H (upd H st (.lst [.ref c, .ref r, .int ((t : Int) + 1)])) := fun b o h n1 _ => by rw [upd_ne n1]; exact h
    have d0 : DS (upd H st (.lst [.ref c, .ref r, .int ((t : Int) + 1)])) st c r (t + 1) := ⟨upd_same, ⟨cells, rests, e2, e1, hl, hl0, hl1, hnn⟩, hd.n1, hd.n2, hd.n3⟩
    -- if rests[spot] > 0
    refine ⟨.ref r, rfl, .int j, rfl, r, _, _, .int x, rfl, rfl, SqL.of e1, atI_nat hxv, _, _, rfl, rfl, _, rfl, ite2 (fun hgt => ?_) (fun hle => ?_)⟩
    · refine ⟨.ref r, rfl, .int j, rfl, r, _, _, .int x, rfl, rfl, SqL.of e1, atI_nat hxv, .int m, rfl, _, _, rfl, rfl, hm, ?_⟩
      refine ⟨.ref r, rfl, .int j, rfl, r, _, _, .int x, rfl, rfl, SqL.of e1, atI_nat hxv, .int m, rfl, _, _, rfl, rfl, wide_div (b := 61) hm (by omega) (by decide) (by decide), ?_⟩
      refine ⟨.ref r, rfl, .int j, rfl, r, _, _, j, rfl, rfl, e1, ?_, ?_⟩
      · unfold ixN
        rw [if_pos (by omega), if_pos (by rw [List.length_map]; omega)]
        simp
      · refine ⟨_, rfl, q _ _ (Int.emod_nonneg _ (by omega)) (Int.emod_lt_of_pos _ hm) ?_ ?_⟩
        · refine ⟨by rw [upd_ne hd.n3]; exact upd_same, ⟨cells, rests.set j (x / m), by rw [upd_ne hd.n1]; exact e2, by rw [upd_same, List.map_set], by rw [List.length_set]; exact hl, hl0, hl1, ?_⟩, hd.n1, hd.n2, hd.n3⟩
          intro z hz
          rcases List.mem_or_eq_of_mem_set hz with h | h
          · exact hnn z h
          · rw [h]; exact Int.ediv_nonneg hx0 (by omega)
        · exact fun b o h n1 n2 => by rw [upd_ne n2]; exact ex0 b o h n1 n2
    · -- mixed
      have hy1 : 0 ≤ y % 2147483579 := Int.emod_nonneg _ (by decide)
      have hy2 : y % 2147483579 < 2147483579 := Int.emod_lt_of_pos _ (by decide)
      refine ⟨.ref c, rfl, .int j, rfl, c, _, _, .int y, rfl, rfl, SqL.of e2, atI_nat hyv, _, _, rfl, rfl, (by show (0 : Int) < 2147483579; decide), .int t, rfl, _, _, rfl, rfl, .inl ⟨by decide, by decide⟩, _, _, rfl, rfl, _, _, rfl, rfl, _, _, rfl, rfl, ⟨by decide, by decide, by omega⟩, _, _, rfl, rfl, (by show (0 : Int) < 2147483587; decide), ?_⟩
      dsimp only
      generalize hu : (y % 2147483579 + 60101 * (t : Int) + 271) ^ (3 : Int).toNat % 2147483587 = u
      have hu1 : 0 ≤ u := by rw [← hu]; exact Int.emod_nonneg _ (by decide)
      have hu2 : u < 2147483587 := by rw [← hu]; exact Int.emod_lt_of_pos _ (by decide)
      have hc1 : 0 ≤ (t : Int) % 983 := Int.emod_nonneg _ (by decide)
      have hc2 : (t : Int) % 983 < 983 := Int.emod_lt_of_pos _ (by decide)
      refine ⟨.int u, rfl, .int t, rfl, _, _, rfl, rfl, (by show (0 : Int) < 983; decide), _, _, rfl, rfl, .inl ⟨by decide, by decide⟩, _, _, rfl, rfl, _, _, rfl, rfl, _, _, rfl, rfl, ⟨by decide, by decide, by omega⟩, _, _, rfl, rfl, (by show (0 : Int) < 2305843009213693951; decide), ?_⟩
      refine ⟨_, rfl, _, _, rfl, rfl, ⟨by decide, by decide⟩, .int m, rfl, _, _, rfl, rfl, hm, ?_⟩
      exact q _ _ (Int.emod_nonneg _ (by omega)) (Int.emod_lt_of_pos _ hm) d0 ex0
def spStart (K : PySem.W.Frag) : Sp := fun vs H Q _ => ∃ (a : Addr) (ns : List Int), vs = [.ref a] ∧ SqL K H a (ns.map V.int) ∧ ns.length ≤ 63 ∧
  ∀ H' st c r, Same H H' → DS H' st c r 0 → Q (.ref st) H'
set_option maxHeartbeats 2000000 in
theorem ok_start {f : Addr} {fd : FuncData} {k : Nat} (F : Fun K "_law_stream" "_law_stream" sStart f fd) (ma : mg "abs" = none) (mi : mg "int" = none) (ml : mg "len" = none) :
    FnOk P w K mg base CX0 (k + 1) f fd ["_law_script"] (spStart K) := by
  refine F.ok scStart (fun vs H Q E h => ?_) (fun cdv A outer s H vs Q E hr h => ?_)
  · obtain ⟨a, ns, rfl, _⟩ := h; rfl
  · obtain ⟨a, ns, rfl, hS, hn, q⟩ := h
    refine ⟨_, pss_cons (ps_set (i := 1) scStart.nd rfl (.inl rfl) (pe_op op_cat
        (pe_lc (own := [("_law_cell", 2)]) (g := gName 2) (tt := tYes) rfl scStart.nd (pi_list (pe_slice sl_list (pv 0) po_none (po_some pe_int))) (blkOk_by (N := ["_law_script", "_law_cells", "_law_cell"]) (sc := defScope sStart) (by decide +kernel))
            (fun _ _ _ _ _ => pg_name (i := 2) scStart.nd rfl (.inl rfl)) (fun _ _ _ _ _ => pts_nil)
            (fun _ _ _ _ _ => pe_callB call_abs (by rfl) ma (by decide +kernel) (pa_cons (pv 2) pa_nil)))
        (pe_op op_rep (pe_lst (pa_cons pe_int pa_nil)) (pe_callTy call_int1 (by rfl) mi (by decide +kernel) (pa_cons (pe_cmpR op_eq (pe_callB call_len_seq (by rfl) ml PySem.boot_len (pa_cons (pv 0) pa_nil)) pe_int (nomark _)) pa_nil)))))
      (pss_one (ps_ret (pe_lst (pa_cons (pv 1) (pa_cons
        (pe_lc (own := [("_law_cell", 2)]) (g := gName 2) (tt := tYes) rfl scStart.nd (pi_list (pv 1)) (blkOk_by (N := ["_law_script", "_law_cells", "_law_cell"]) (sc := defScope sStart) (by decide +kernel))
            (fun _ _ _ _ _ => pg_name (i := 2) scStart.nd rfl (.inl rfl)) (fun _ _ _ _ _ => pts_nil)
            (fun _ _ _ _ _ => pe_op op_mul (pv 2) (pe_callTy call_int1 (by rfl) mi (by decide +kernel) (pa_cons (pe_cmpR op_ge (pv 2) (pe_op op_pow pe_int pe_int) (nomark _)) pa_nil))))
        (pa_cons pe_int pa_nil)))))), ?_⟩
    have hcut : cutV (ns.map V.int) none (some 60) = (ns.take 60).map V.int := by rw [List.map_take]; exact cut_to _ 60
    refine ⟨.ref a, rfl, 60, rfl, a, _, rfl, hS, fun p np => ⟨p, rfl, ⟨_, SqL.of upd_same⟩, fun D nD => lc_list (xs := cutV (ns.map V.int) none (some 60))
      (fun j H2 => Same (upd H p (.lst (cutV (ns.map V.int) none (some 60)))) H2 ∧ H2 D = some (.lst ((((ns.take 60).map absI).take j).map V.int)))
      ⟨sameNew nD, upd_same⟩ (fun j H2 _ h2 => SqL.of (h2.1 _ _ upd_same)) ?_ ?_⟩⟩
    · rintro j x H2 hx ⟨s2, e2⟩
      rw [hcut, List.getElem?_map] at hx
      obtain ⟨z, hz, rfl⟩ := Option.map_eq_some_iff.mp hx
      refine ⟨rfl, .int z, rfl, z, rfl, _, e2, ?_, samePut s2 nD, ?_⟩
      · rw [List.length_map, List.length_take]; simp; exact small (by omega)
      · rw [upd_same, take_snoc (show ((ns.take 60).map absI)[j]? = some (absI z) by rw [List.getElem?_map, hz]; rfl), List.map_append]; rfl
    · rintro H2 ⟨s2, e2⟩
      rw [hcut, List.length_map, List.take_of_length_le (by simp)] at e2
      have s02 : Same H H2 := (sameNew np).trans s2
      -- [0] * int(len(script) == 0)
      refine ⟨by decide, fun p1 n1 => ⟨.ref a, rfl, a, _, rfl, .inl (((s02.trans (sameNew n1))).seq hS), rfl, .inr ⟨_, rfl, p1, _, _, rfl, rfl, upd_same, by split <;> decide, by split <;> decide, by split <;> decide, fun p2 n2 => ?_⟩⟩⟩
      generalize hb : decide (V.int ((List.map V.int ns).length : Int) = V.int 0) = b at n2 ⊢
      have e2' := upNew n2 (o := .lst (List.replicate (if b = true then (1 : Int) else 0).toNat [V.int 0]).flatten) (upNew n1 (o := .lst [.int 0]) e2)
      have hl0 : ns.length = 0 ↔ b = true := by
        rw [← hb, decide_eq_true_eq, List.length_map]
        constructor
        · intro h; rw [h]; rfl
        · intro h; have := V.int.inj h; omega
      have hrep : (List.replicate (if b = true then (1 : Int) else 0).toNat [V.int 0]).flatten = ((if b = true then [0] else []) : List Int).map V.int := by
        cases b <;> rfl
      refine ⟨D, p2, _, _, rfl, rfl, e2', upd_same, ?_, fun C nC => ?_⟩
      · rw [hrep, List.length_map, List.length_map, List.length_map, List.length_take]; have : (if b = true then [0] else [] : List Int).length ≤ 1 := by split <;> simp
        have h5 := small (n := 100) (by omega); omega
      rw [hrep, ← List.map_append] at *
      generalize hcl : (List.take 60 ns).map absI ++ (if b = true then [0] else []) = cells
      have hnn : ∀ c ∈ cells, 0 ≤ c := by
        intro c hc
        rw [← hcl, List.mem_append] at hc
        rcases hc with h | h
        · obtain ⟨i, _, rfl⟩ := List.mem_map.mp h; exact absI_nn i
        · split at h
          · simp at h; omega
          · simp at h
      have hcl0 : 0 < cells.length ∧ cells.length ≤ 61 := by
        rw [← hcl, List.length_append, List.length_map, List.length_take]
        by_cases hb1 : b = true
        · rw [if_pos hb1]; simp; omega
        · rw [if_neg hb1]
          have : ns.length ≠ 0 := fun z => hb1 (hl0.mp z)
          simp; omega
      generalize hHC : upd (upd (upd H2 p1 (.lst [.int 0])) p2 (.lst (((if b = true then [0] else []) : List Int).map V.int))) C (.lst (cells.map V.int)) = HC
      have eC : HC C = some (.lst (cells.map V.int)) := by rw [← hHC]; exact upd_same
      have s0C : Same H HC := by rw [← hHC]; exact ((s02.trans (sameNew n1)).trans (sameNew n2)).trans (sameNew nC)
      refine ⟨.ref C, rfl, .ref C, rfl, C, rfl, ⟨_, SqL.of eC⟩, fun R nR => lc_list (xs := cells.map V.int)
        (fun j H3 => Same HC H3 ∧ H3 R = some (.lst (((cells.map restI).take j).map V.int))) ⟨sameNew nR, upd_same⟩ (fun j H3 _ h3 => SqL.of (h3.1 _ _ eC)) ?_ ?_⟩
      · rintro j x H3 hx ⟨s3, e3⟩
        rw [List.getElem?_map] at hx
        obtain ⟨z, hz, rfl⟩ := Option.map_eq_some_iff.mp hx
        refine ⟨rfl, .int z, rfl, .int z, rfl, _, _, rfl, rfl, ⟨by decide, by decide, by decide⟩, _, _, rfl, rfl, .inr ⟨_, rfl, _, _, rfl, rfl, .inr ⟨by split <;> decide, by split <;> decide⟩, _, e3, ?_, samePut s3 nR, ?_⟩⟩
        · rw [List.length_map, List.length_take, List.length_map]; exact small (by omega)
        · rw [upd_same, List.take_add_one, List.getElem?_map, hz]; simp [restI]
      · rintro H3 ⟨s3, e3⟩
        rw [List.length_map, List.take_of_length_le (by rw [List.length_map]; exact Nat.le_refl _)] at e3
        refine ⟨(show (3 : Nat) ≤ sizeLine by decide), fun st nst => q _ st C R ((s0C.trans s3).trans (sameNew nst)) ⟨upd_same, ⟨cells, cells.map restI, upNew nst (s3 _ _ eC), upNew nst e3, by rw [List.length_map], hcl0.1, by omega, ?_⟩, ne_of_none eC nR, ?_, ?_⟩⟩
        · intro x hx
          obtain ⟨c, hc, rfl⟩ := List.mem_map.mp hx
          exact restI_nn (hnn c hc)
        · exact (ne_of_none (s3 _ _ eC) nst).symm
        · exact (ne_of_none e3 nst).symm
def spOne (K : PySem.W.Frag) : Sp := fun vs H Q _ => ∃ (st c r l : Addr) (t : Nat) (xs : List V), vs = [.ref st, .ref l] ∧ DS H st c r t ∧ t < 1000000 ∧ H l = some (.lst xs) ∧ l ≠ st ∧ l ≠ r ∧ 0 < xs.length ∧ xs.length ≤ 1000 ∧
  ∀ (H' : Hp) (j : Nat) (x : V), xs[j]? = some x → DS H' st c r (t + 1) → Ext st r H H' → Q x H'
theorem ok_one {f fD : Addr} {fd fdD : FuncData} {k : Nat} (F : Fun K "_law_one" "_law_one" sOne f fd)
    (FD : Fun K "_law_draw" "_law_draw" sDraw fD fdD) (bD : Binds K fdD ["_law_stream_here", "_law_bound"] []) (gD : mg "_law_draw" = some (.ref fD)) (GD : FnOk P w K mg base CX0 1 fD fdD ["_law_stream_here", "_law_bound"] spDraw)
    (ml : mg "len" = none) : FnOk P w K mg base CX0 (1 + k + 1) f fd ["_law_stream_here", "_law_items"] (spOne K) := by
  refine F.ok scOne (fun vs H Q E h => ?_) (fun cdv A outer s H vs Q E hr h => ?_)
  · obtain ⟨st, c, r, l, t, xs, rfl, _⟩ := h; rfl
  · obtain ⟨st, c, r, l, t, xs, rfl, hd, ht, hl, n1, n2, hp, hz, q⟩ := h
    refine ⟨_, pss_one (ps_ret (pe_ix ix_list (pv 1) (pe_call GD (hr.mono (by omega)) (by rfl) gD FD.kp bD .nil pass0 (pa_cons (pv 0) (pa_cons (pe_callB call_len_seq (by rfl) ml PySem.boot_len (pa_cons (pv 1) pa_nil)) pa_nil))) (fun _ _ => rfl))), ?_⟩
    refine ⟨.ref l, rfl, .ref st, rfl, .ref l, rfl, l, _, rfl, .inl (SqL.of hl), st, c, r, t, _, rfl, hd, ht, by omega, by omega, fun H1 d h0 h1 D1 X1 => ?_⟩
    have hj : d.toNat < xs.length := by omega
    have e : xs[d.toNat]? = some xs[d.toNat] := List.getElem?_eq_getElem hj
    refine ⟨l, xs, d, xs[d.toNat], rfl, rfl, SqL.of (X1 _ _ hl n1 n2), ?_, q _ _ _ e D1 X1⟩
    have := atI_nat e
    rwa [Int.toNat_of_nonneg h0] at this
end
end Pv

namespace Pv
open PySem PySem.Spec PyProof.Rows L2
abbrev sSame : Stmt := topS 9
theorem scSame : FnScope ["_law_found", "_law_due", "_law_one_here", "_law_other"] ["_law_found", "_law_due"] (defScope sSame) := ⟨rfl, rfl, rfl, by decide +kernel, rfl, by decide +kernel, by decide +kernel⟩
theorem ps_never {X : Cx} {st : Stmt} : PS X st (fun _ _ _ => False) := ⟨fun _ _ _ _ _ _ h => h.elim⟩
theorem walk_zipL {K : PySem.W.Frag} {a b : Addr} {xs ys : List V} {n : Nat} (hn : n = min xs.length ys.length) :
    Walk (Itz K a b) n (fun H => SqL K H a xs ∧ SqL K H b ys) (YPair (fun i => xs[i]?) (fun i => ys[i]?)) := by
  subst hn
  constructor
  · rintro i H hi ⟨q1, q2⟩
    have h1 : i < xs.length := by omega
    have h2 : i < ys.length := by omega
    exact ⟨xs, ys, xs[i], ys[i], q1, q2, by simp [h1], by simp [h2]⟩
  · rintro H ⟨q1, q2⟩
    exact ⟨xs, ys, q1, q2, by omega⟩
  · rintro i H v H' _ ⟨q1, q2⟩ ⟨T, x, z, h1, h2, h3, h4, h5⟩
    exact ⟨T, x, z, h1, h2, h3, h4 xs q1, h5 ys q2⟩
mutual
def plain : PyData → Bool
  | .none | .int _ | .bool _ | .str _ => true
  | .list xs | .tuple xs => decide (xs.length ≤ 1000) && plainAll xs
  | _ => false
def plainAll : List PyData → Bool
  | [] => true
  | x :: xs => plain x && plainAll xs
end
theorem plainAll_at : ∀ {xs : List PyData} {i : Nat} {d : PyData}, plainAll xs = true → xs[i]? = some d → plain d = true
  | [], _, _, _, e => by simp at e
  | x :: xs, 0, d, h, e => by simp [plainAll] at h e; subst e; exact h.1
  | x :: xs, i + 1, d, h, e => by simp [plainAll] at h e; exact plainAll_at h.2 e
theorem depthAll_at : ∀ {xs : List PyData} {i : Nat} {d : PyData}, xs[i]? = some d → d.depth ≤ PyData.depthAll xs
  | [], _, _, e => by simp at e
  | x :: xs, 0, d, e => by simp at e; subst e; simp only [PyData.depthAll]; omega
  | x :: xs, i + 1, d, e => by
    have := depthAll_at (xs := xs) (i := i) (d := d) (by simpa using e)
    simp only [PyData.depthAll]; omega
inductive SeqAs (K : PySem.W.Frag) (H : Hp) (a : Addr) (xs : List V) : String → Prop
  | l : SqL K H a xs → SeqAs K H a xs "list"
  | t : SqT K H a xs → SeqAs K H a xs "tuple"
section
variable {K : PySem.W.Frag} {H H' : Hp} {a : Addr} {xs : List V} {T : String}
theorem SeqAs.same (h : SeqAs K H a xs T) (s : Same H H') : SeqAs K H' a xs T := by
  cases h with
  | l h => exact .l (s.seq h)
  | t h => exact .t ((TupK.of s).sq h)
theorem SeqAs.ty (h : SeqAs K H a xs T) : TyX K H (.ref a) (.type T) := by
  cases h with
  | l h => exact ty_sqL h
  | t h => exact ty_sq h
theorem SeqAs.or (h : SeqAs K H a xs T) : SqL K H a xs ∨ SqT K H a xs := by
  cases h with
  | l h => exact .inl h
  | t h => exact .inr h
theorem SeqAs.ix (h : SeqAs K H a xs T) {j : Nat} {v : V} {Q : VK} (e : xs[j]? = some v) (q : Q v H) : rIx K (.ref a) (.int j) H Q := by
  cases h with
  | l h => exact .inl ⟨a, xs, _, v, rfl, rfl, h, atI_nat e, q⟩
  | t h => exact .inr (.inl ⟨a, xs, _, v, rfl, rfl, h, atI_nat e, q⟩)
theorem SeqAs.kit (h : SeqAs K H a xs T) (S : String) (hS : S = "list" ∨ S = "tuple") : PySem.W.kitOne K (.type T) (.type S) = some (T == S) := by
  cases h <;> rcases hS with rfl | rfl <;> exact kit_ty (by decide +kernel)
theorem SeqAs.kits (h : SeqAs K H a xs T) : PySem.W.kitAny K (.type T) [.type "tuple", .type "list"] = some true := by
  cases h with
  | l h => exact kitAny_cons (kit_ty (b := "tuple") (r := false) (by decide +kernel)) (fun _ => kitAny_cons (kit_ty (b := "list") (r := true) (by decide +kernel)) (fun z => by cases z) (fun _ => rfl)) (fun z => by cases z)
  | t h => exact kitAny_cons (kit_ty (b := "tuple") (r := true) (by decide +kernel)) (fun z => by cases z) (fun _ => rfl)
end
section
variable {P : Program} {w : World} {K : PySem.W.Frag} {mg : Str → Option Value} {base : Heap}
def spS (K : PySem.W.Frag) : Nat → Sp
  | 0 => fun _ _ _ _ => False
  | n + 1 => fun vs H Q _ => ∃ (x y : V) (d : PyData), vs = [x, y] ∧ Dp K H x d ∧ Dp K H y d ∧ plain d = true ∧ d.depth ≤ n ∧ ∀ H', Same H H' → Q (.bl true) H'
mutual
theorem same_dp {H H' : Hp} (s : Same H H') : ∀ {d : PyData} {v : V}, plain d = true → Dp K H v d → Dp K H' v d
  | .none, _, _, h => by cases h; exact .non
  | .int _, _, _, h => by cases h; exact .int _
  | .list xs, _, t, h => by
    simp only [plain, Bool.and_eq_true] at t
    cases h with
    | lst h1 h2 => exact .lst (s.seq h1) (same_dpAll s t.2 h2)
  | .tuple xs, _, t, h => by
    simp only [plain, Bool.and_eq_true] at t
    cases h with
    | tup h1 h2 => exact .tup ((TupK.of s).sq h1) (same_dpAll s t.2 h2)
  | .bool _, _, _, h => by cases h; exact .bl _
  | .str _, _, _, h => by cases h; exact .str _
  | .dict _, _, t, _ => by simp [plain] at t
theorem same_dpAll {H H' : Hp} (s : Same H H') : ∀ {ds : List PyData} {vs : List V}, plainAll ds = true → DpAll K H vs ds → DpAll K H' vs ds
  | [], _, _, h => by cases h; exact .nil
  | d :: ds, _, t, h => by
    simp only [plainAll, Bool.and_eq_true] at t
    cases h with
    | cons h1 h2 => exact .cons (same_dp s t.1 h1) (same_dpAll s t.2 h2)
end
theorem SeqAs.is {H : Hp} {a : Addr} {xs : List V} {T : String} (h : SeqAs K H a xs T) : T = "list" ∨ T = "tuple" := by
  cases h with
  | l h => exact .inl rfl
  | t h => exact .inr rfl
theorem SeqAs.list {H : Hp} {a : Addr} {xs : List V} {T : String} (h : SeqAs K H a xs T) (e : T = "list") : SqL K H a xs := by
  cases h with
  | l h => exact h
  | t h => exact absurd e (by decide)
theorem SeqAs.tuple {H : Hp} {a : Addr} {xs : List V} {T : String} (h : SeqAs K H a xs T) (e : T = "tuple") : SqT K H a xs := by
  cases h with
  | l h => exact absurd e (by decide)
  | t h => exact h
set_option maxHeartbeats 4000000 in
theorem ok_same {f : Addr} {fd : FuncData} (F : Fun K "_law_same" "_law_same" sSame f fd) (b : Binds K fd ["_law_found", "_law_due"] []) (g : mg "_law_same" = some (.ref f))
    (m_tuple : mg "tuple" = none) (m_list : mg "list" = none) (m_isinstance : mg "isinstance" = none) (m_len : mg "len" = none) (m_zip : mg "zip" = none) (m_all : mg "all" = none) (m_bool : mg "bool" = none) (m_int : mg "int" = none) (m_str : mg "str" = none) (m_repr : mg "repr" = none) :
    ∀ n, FnOk P w K mg base CX0 n f fd ["_law_found", "_law_due"] (spS K n)
  | 0 => FnOk.none
  | n + 1 => by
    have G := ok_same F b g m_tuple m_list m_isinstance m_len m_zip m_all m_bool m_int m_str m_repr n
    refine F.ok scSame (fun vs H Q E h => ?_) (fun cdv A outer s H vs Q E hr h => ?_)
    · obtain ⟨x, y, d, rfl, _⟩ := h; rfl
    · obtain ⟨x, y, d, rfl, hx, hy, hpl, hdp, q⟩ := h
      refine ⟨_, pss_cons (ps_if (pt_val (pe_callB call_isiT (by rfl) m_isinstance (by decide +kernel) (pa_cons (pv 1) (pa_cons (pe_tup (pa_cons (pe_bltn (v := .ty "tuple") (by rfl) m_tuple (by decide +kernel) rfl) (pa_cons (pe_bltn (v := .ty "list") (by rfl) m_list (by decide +kernel) rfl) pa_nil))) pa_nil))))
          (pss_cons (ps_if (PW.pt (pw_or (pt_cmpR op_ne (pe_callB call_isi (by rfl) m_isinstance (by decide +kernel) (pa_cons (pv 0) (pa_cons (pe_bltn (v := .ty "tuple") (by rfl) m_tuple (by decide +kernel) rfl) pa_nil))) (pe_callB call_isi (by rfl) m_isinstance (by decide +kernel) (pa_cons (pv 1) (pa_cons (pe_bltn (v := .ty "tuple") (by rfl) m_tuple (by decide +kernel) rfl) pa_nil))) (nomark _)) (pw_or1 (pt_not (pt_val (pe_callB call_isiT (by rfl) m_isinstance (by decide +kernel) (pa_cons (pv 0) (pa_cons (pe_tup (pa_cons (pe_bltn (v := .ty "tuple") (by rfl) m_tuple (by decide +kernel) rfl) (pa_cons (pe_bltn (v := .ty "list") (by rfl) m_list (by decide +kernel) rfl) pa_nil))) pa_nil))))))))
            (pss_one (ps_ret (pe_bl))) pss_nil)
          (pss_cons (ps_if (pt_cmpR op_ne (pe_callB call_lenQ (by rfl) m_len PySem.boot_len (pa_cons (pv 0) pa_nil)) (pe_callB call_lenQ (by rfl) m_len PySem.boot_len (pa_cons (pv 1) pa_nil)) (nomark _))
            (pss_one (ps_ret (pe_bl))) pss_nil)
          (pss_one (ps_ret (pe_callB (cr_all rfl) (by rfl) m_all (by decide +kernel) (pa_cons (pe_lc (own := [("_law_one_here", 2), ("_law_other", 3)]) (g := gTup K 2 (gCons (gName 2) (gCons (gName 3) gNil))) (tt := tYes) (te := tCall (spS K n) [] E0 (tCons (tVar 2) (tCons (tVar 3) tNil))) rfl scSame.nd (RZ.pi_zipA (by rfl) m_zip (pa_cons (pv 0) (pa_cons (pv 1) pa_nil))) (blkOk_by (N := ["_law_found", "_law_due", "_law_one_here", "_law_other"]) (sc := defScope sSame) (by decide +kernel)) (fun _ _ _ _ _ => pg_tup rfl (pgs_cons (pg_name (i := 2) scSame.nd rfl (.inl rfl)) (pgs_cons (pg_name (i := 3) scSame.nd rfl (.inl rfl)) pgs_nil))) (fun _ _ _ _ _ => pts_nil) (fun _ _ _ _ _ => pe_call G hr (by rfl) g F.kp b .nil pass0 (pa_cons (pv 2) (pa_cons (pv 3) pa_nil)))) pa_nil)))))) pss_nil)
        (pss_cons (ps_if (PW.pt (pw_or (pt_cmp (pc_isN (pv 1))) (pw_or1 (pt_cmp (pc_isN (pv 0))))))
          (pss_one (ps_ret (pe_and (pe_cmp (pc_isN (pv 1))) (pe_one (pe_cmp (pc_isN (pv 0))))))) pss_nil)
        (pss_cons (ps_if (PW.pt (pw_or (pt_val (pe_callB call_isi (by rfl) m_isinstance (by decide +kernel) (pa_cons (pv 1) (pa_cons (pe_bltn (v := .ty "bool") (by rfl) m_bool (by decide +kernel) rfl) pa_nil)))) (pw_or1 (pt_val (pe_callB call_isi (by rfl) m_isinstance (by decide +kernel) (pa_cons (pv 0) (pa_cons (pe_bltn (v := .ty "bool") (by rfl) m_bool (by decide +kernel) rfl) pa_nil)))))))
          (pss_one (ps_ret (pe_and (pe_callB call_isi (by rfl) m_isinstance (by decide +kernel) (pa_cons (pv 1) (pa_cons (pe_bltn (v := .ty "bool") (by rfl) m_bool (by decide +kernel) rfl) pa_nil))) (pe_and (pe_callB call_isi (by rfl) m_isinstance (by decide +kernel) (pa_cons (pv 0) (pa_cons (pe_bltn (v := .ty "bool") (by rfl) m_bool (by decide +kernel) rfl) pa_nil))) (pe_one (pe_cmpR op_eq (pv 0) (pv 1) (nomark _))))))) pss_nil)
        (pss_cons (ps_if (pt_val (pe_callB call_isi (by rfl) m_isinstance (by decide +kernel) (pa_cons (pv 1) (pa_cons (pe_bltn (v := .ty "int") (by rfl) m_int (by decide +kernel) rfl) pa_nil))))
          (pss_one (ps_ret (pe_and (pe_callB call_isi (by rfl) m_isinstance (by decide +kernel) (pa_cons (pv 0) (pa_cons (pe_bltn (v := .ty "int") (by rfl) m_int (by decide +kernel) rfl) pa_nil))) (pe_one (pe_cmpR op_eq (pv 0) (pv 1) (nomark _)))))) pss_nil)
        (pss_cons (ps_if (pt_val (pe_callB call_isi (by rfl) m_isinstance (by decide +kernel) (pa_cons (pv 1) (pa_cons (pe_bltn (v := .ty "str") (by rfl) m_str (by decide +kernel) rfl) pa_nil))))
          (pss_one (ps_ret (pe_and (pe_callB call_isi (by rfl) m_isinstance (by decide +kernel) (pa_cons (pv 0) (pa_cons (pe_bltn (v := .ty "str") (by rfl) m_str (by decide +kernel) rfl) pa_nil))) (pe_one (pe_cmpR op_eq (pv 0) (pv 1) (nomark _)))))) pss_nil)
        (pss_one ps_never))))), ?_⟩
      refine ⟨y, rfl, (show (2 : Nat) ≤ sizeLine by decide), fun tp ntp => ?_⟩
      have s1 : Same H (upd H tp (.tup [.ty "tuple", .ty "list"])) := sameNew ntp
      have cls : (∃ (T : String) (a b' : Addr) (xs ys : List V) (ds : List PyData), x = .ref a ∧ y = .ref b' ∧ SeqAs K H a xs T ∧ SeqAs K H b' ys T ∧ DpAll K H xs ds ∧ DpAll K H ys ds ∧ ds.length ≤ 1000 ∧ plainAll ds = true ∧ PyData.depthAll ds + 1 ≤ n) ∨
          (x = .non ∧ y = .non) ∨ (∃ i, x = .int i ∧ y = .int i) ∨ (∃ b, x = .bl b ∧ y = .bl b) ∨ ∃ z, x = .str z ∧ y = .str z := by
        cases d with
        | none => cases hx; cases hy; exact .inr (.inl ⟨rfl, rfl⟩)
        | int i => cases hx; cases hy; exact .inr (.inr (.inl ⟨i, rfl, rfl⟩))
        | list ds =>
          simp only [plain, Bool.and_eq_true, decide_eq_true_eq] at hpl
          simp only [PyData.depth] at hdp
          cases hx with
          | lst h1 h2 => cases hy with
            | lst h3 h4 => exact .inl ⟨"list", _, _, _, _, ds, rfl, rfl, .l h1, .l h3, h2, h4, hpl.1, hpl.2, hdp⟩
        | tuple ds =>
          simp only [plain, Bool.and_eq_true, decide_eq_true_eq] at hpl
          simp only [PyData.depth] at hdp
          cases hx with
          | tup h1 h2 => cases hy with
            | tup h3 h4 => exact .inl ⟨"tuple", _, _, _, _, ds, rfl, rfl, .t h1, .t h3, h2, h4, hpl.1, hpl.2, hdp⟩
        | bool bb => cases hx; cases hy; exact .inr (.inr (.inr (.inl ⟨bb, rfl, rfl⟩)))
        | str z => cases hx; cases hy; exact .inr (.inr (.inr (.inr ⟨z, rfl, rfl⟩)))
        | dict _ => simp [plain] at hpl
      rcases cls with ⟨T, a, b', xs, ys, ds, rfl, rfl, hX, hY, dx, dy, hds, hpa, hda⟩ | ⟨rfl, rfl⟩ | ⟨i, rfl, rfl⟩ | ⟨bb, rfl, rfl⟩ | ⟨z, rfl, rfl⟩
      · have hX1 := hX.same s1
        have hY1 := hY.same s1
        refine ⟨.ref b', tp, _, _, _, true, rfl, upd_same, .cons (.ty _) (.cons (.ty _) .nil), hY1.ty, hY1.kits, true, rfl, iteT ?_⟩
        refine ⟨.ref a, rfl, .ref a, .ty "tuple", _, _, _, rfl, .ty _, hX1.ty, hX1.kit "tuple" (.inr rfl), .ref b', rfl, .ref b', .ty "tuple", _, _, _, rfl, .ty _, hY1.ty, hY1.kit "tuple" (.inr rfl), rfl, _, rfl, iteNS rfl ?_⟩
        refine ⟨.ref a, rfl, (show (2 : Nat) ≤ sizeLine by decide), fun tq ntq => ?_⟩
        have s12 := s1.trans (sameNew (o := .tup [.ty "tuple", .ty "list"]) ntq)
        have hX2 := hX.same s12
        have hY2 := hY.same s12
        refine ⟨.ref a, tq, _, _, _, true, rfl, upd_same, .cons (.ty _) (.cons (.ty _) .nil), hX2.ty, hX2.kits, true, rfl, iteF ?_⟩
        have lx := DpAll.len dx
        have ly := DpAll.len dy
        refine ⟨.ref a, rfl, a, xs, rfl, hX2.or, .ref b', rfl, b', ys, rfl, hY2.or, rfl, _, rfl, iteNS (by rw [lx, ly]) ?_⟩
        have nDH : ∀ D, (upd (upd H tp (.tup [.ty "tuple", .ty "list"])) tq (.tup [.ty "tuple", .ty "list"])) D = none → H D = none := fun D nD => by
          cases e : H D with
          | none => rfl
          | some o => have := s12 _ _ e; rw [nD] at this; cases this
        refine ⟨.ref a, rfl, .ref b', rfl, ?_⟩
        have hXY : (SqL K H a xs ∧ SqL K H b' ys) ∨ (SqT K H a xs ∧ SqT K H b' ys) := by
          rcases hX.is with e | e
          · exact .inl ⟨hX.list e, hY.list e⟩
          · exact .inr ⟨hX.tuple e, hY.tuple e⟩
        rcases hXY with ⟨hXL, hYL⟩ | ⟨hXL, hYL⟩
        · have h1 := s12.seq hXL
          have h2 := s12.seq hYL
          refine ⟨a, b', xs, ys, rfl, .inl ⟨h1, h2, fun D nD => lc_it (walk_zipL (K := K) (a := a) (b := b') (xs := xs) (ys := ys) rfl)
            (fun j H2 => Same H H2 ∧ H2 D = some (.lst ((List.replicate j true).map V.bl))) ⟨s12.trans (sameNew nD), upd_same⟩ (fun j H2 _ h => ⟨h.1.seq hXL, h.1.seq hYL⟩) ?_ ?_⟩⟩
          · rintro j v H2 H3 hlt ⟨s2, e2⟩ ⟨T', x0, y0, rfl, nT', rfl, ex, ey⟩
            have hj2 : j < xs.length := by omega
            have ex : xs[j]? = some x0 := ex
            have ey : ys[j]? = some y0 := ey
            have sT := sameNew (o := .tup [x0, y0]) nT'
            obtain ⟨d1, hd1, hx1⟩ := DpAll.at dx ex
            obtain ⟨d2, hd2, hy1⟩ := DpAll.at dy ey
            rw [hd1] at hd2
            cases hd2
            have hpd := plainAll_at hpa hd1
            have hdd := depthAll_at hd1
            obtain ⟨n', rfl⟩ : ∃ n', n = n' + 1 := ⟨n - 1, by omega⟩
            have s2T := s2.trans sT
            refine ⟨T', _, rfl, SqT.of upd_same, rfl, _, _, rfl, _, _, rfl, rfl, rfl, x0, rfl, y0, rfl, x0, y0, d1, rfl, same_dp s2T hpd hx1, same_dp s2T hpd hy1, hpd, by omega, fun H4 s4 => ?_⟩
            have e4 := (sT.trans s4) _ _ e2
            refine ⟨_, e4, ?_, samePut (s2T.trans s4) (nDH D nD), ?_⟩
            · rw [List.length_map, List.length_replicate]; exact small (by omega)
            · rw [upd_same, List.replicate_succ']; simp
          · rintro H2 ⟨s2, e2⟩
            refine ⟨D, _, rfl, SqL.of e2, ?_⟩
            have : (List.replicate (min xs.length ys.length) true).all id = true := by rw [List.all_eq_true]; intro x hx; exact (List.mem_replicate.mp hx).2
            rw [this]
            exact q _ s2
        · have h1 := (TupK.of s12).sq hXL
          have h2 := (TupK.of s12).sq hYL
          refine ⟨a, b', xs, ys, rfl, .inr ⟨h1, h2, fun D nD => lc_it (walk_zipT (K := K) (a := a) (b := b') (xs := xs) (ys := ys) rfl)
            (fun j H2 => Same H H2 ∧ H2 D = some (.lst ((List.replicate j true).map V.bl))) ⟨s12.trans (sameNew nD), upd_same⟩ (fun j H2 _ h => ⟨(TupK.of h.1).sq hXL, (TupK.of h.1).sq hYL⟩) ?_ ?_⟩⟩
          · rintro j v H2 H3 hlt ⟨s2, e2⟩ ⟨T', x0, y0, rfl, nT', rfl, ex, ey⟩
            have hj2 : j < xs.length := by omega
            have ex : xs[j]? = some x0 := ex
            have ey : ys[j]? = some y0 := ey
            have sT := sameNew (o := .tup [x0, y0]) nT'
            obtain ⟨d1, hd1, hx1⟩ := DpAll.at dx ex
            obtain ⟨d2, hd2, hy1⟩ := DpAll.at dy ey
            rw [hd1] at hd2
            cases hd2
            have hpd := plainAll_at hpa hd1
            have hdd := depthAll_at hd1
            obtain ⟨n', rfl⟩ : ∃ n', n = n' + 1 := ⟨n - 1, by omega⟩
            have s2T := s2.trans sT
            refine ⟨T', _, rfl, SqT.of upd_same, rfl, _, _, rfl, _, _, rfl, rfl, rfl, x0, rfl, y0, rfl, x0, y0, d1, rfl, same_dp s2T hpd hx1, same_dp s2T hpd hy1, hpd, by omega, fun H4 s4 => ?_⟩
            have e4 := (sT.trans s4) _ _ e2
            refine ⟨_, e4, ?_, samePut (s2T.trans s4) (nDH D nD), ?_⟩
            · rw [List.length_map, List.length_replicate]; exact small (by omega)
            · rw [upd_same, List.replicate_succ']; simp
          · rintro H2 ⟨s2, e2⟩
            refine ⟨D, _, rfl, SqL.of e2, ?_⟩
            have : (List.replicate (min xs.length ys.length) true).all id = true := by rw [List.all_eq_true]; intro x hx; exact (List.mem_replicate.mp hx).2
            rw [this]
            exact q _ s2
      · have kn : PySem.W.kitAny K (.type "NoneType") [.type "tuple", .type "list"] = some false :=
          kitAny_cons (kit_ty (b := "tuple") (r := false) (by decide +kernel)) (fun _ => kitAny_cons (kit_ty (b := "list") (r := false) (by decide +kernel)) (fun _ => kitAny_nil) (fun z => by cases z)) (fun z => by cases z)
        refine ⟨.non, tp, _, _, _, false, rfl, upd_same, .cons (.ty _) (.cons (.ty _) .nil), .base .non, kn, false, rfl, iteF ?_⟩
        exact ⟨.non, rfl, _, rfl, iteT ⟨.non, rfl, _, rfl, iteT ⟨.non, rfl, q _ s1⟩⟩⟩
      · have kn : PySem.W.kitAny K (.type "int") [.type "tuple", .type "list"] = some false :=
          kitAny_cons (kit_ty (b := "tuple") (r := false) (by decide +kernel)) (fun _ => kitAny_cons (kit_ty (b := "list") (r := false) (by decide +kernel)) (fun _ => kitAny_nil) (fun z => by cases z)) (fun z => by cases z)
        refine ⟨(.int i), tp, _, _, _, false, rfl, upd_same, .cons (.ty _) (.cons (.ty _) .nil), .base (.int i), kn, false, rfl, iteF ?_⟩
        refine ⟨(.int i), rfl, _, rfl, iteF ⟨(.int i), rfl, _, rfl, iteF ?_⟩⟩
        refine ⟨(.int i), rfl, (.int i), .ty "bool", _, _, false, rfl, .ty _, .base (.int i), kit_ty (by decide +kernel), false, rfl, iteF ⟨(.int i), rfl, (.int i), .ty "bool", _, _, false, rfl, .ty _, .base (.int i), kit_ty (by decide +kernel), false, rfl, iteF ?_⟩⟩
        refine ⟨(.int i), rfl, (.int i), .ty "int", _, _, true, rfl, .ty _, .base (.int i), kit_ty (by decide +kernel), true, rfl, iteT ⟨(.int i), rfl, (.int i), .ty "int", _, _, true, rfl, .ty _, .base (.int i), kit_ty (by decide +kernel), _, rfl, iteT ?_⟩⟩
        refine ⟨(.int i), rfl, (.int i), rfl, rfl, ?_⟩
        have := q _ s1
        rw [decide_eq_true rfl]
        exact this
      · have kn : PySem.W.kitAny K (.type "bool") [.type "tuple", .type "list"] = some false :=
          kitAny_cons (kit_ty (b := "tuple") (r := false) (by decide +kernel)) (fun _ => kitAny_cons (kit_ty (b := "list") (r := false) (by decide +kernel)) (fun _ => kitAny_nil) (fun z => by cases z)) (fun z => by cases z)
        refine ⟨(.bl bb), tp, _, _, _, false, rfl, upd_same, .cons (.ty _) (.cons (.ty _) .nil), .base (.bl bb), kn, false, rfl, iteF ?_⟩
        refine ⟨(.bl bb), rfl, _, rfl, iteF ⟨(.bl bb), rfl, _, rfl, iteF ?_⟩⟩
        refine ⟨(.bl bb), rfl, (.bl bb), .ty "bool", _, _, true, rfl, .ty _, .base (.bl bb), kit_ty (by decide +kernel), true, rfl, iteT ?_⟩
        refine ⟨(.bl bb), rfl, (.bl bb), .ty "bool", _, _, true, rfl, .ty _, .base (.bl bb), kit_ty (by decide +kernel), _, rfl, iteT ⟨(.bl bb), rfl, (.bl bb), .ty "bool", _, _, true, rfl, .ty _, .base (.bl bb), kit_ty (by decide +kernel), _, rfl, iteT ?_⟩⟩
        refine ⟨(.bl bb), rfl, (.bl bb), rfl, rfl, ?_⟩
        have := q _ s1
        rw [decide_eq_true rfl]
        exact this
      · have kn : PySem.W.kitAny K (.type "str") [.type "tuple", .type "list"] = some false :=
          kitAny_cons (kit_ty (b := "tuple") (r := false) (by decide +kernel)) (fun _ => kitAny_cons (kit_ty (b := "list") (r := false) (by decide +kernel)) (fun _ => kitAny_nil) (fun z => by cases z)) (fun z => by cases z)
        refine ⟨(.str z), tp, _, _, _, false, rfl, upd_same, .cons (.ty _) (.cons (.ty _) .nil), .base (.str z), kn, false, rfl, iteF ?_⟩
        refine ⟨(.str z), rfl, _, rfl, iteF ⟨(.str z), rfl, _, rfl, iteF ?_⟩⟩
        refine ⟨(.str z), rfl, (.str z), .ty "bool", _, _, false, rfl, .ty _, .base (.str z), kit_ty (by decide +kernel), false, rfl, iteF ⟨(.str z), rfl, (.str z), .ty "bool", _, _, false, rfl, .ty _, .base (.str z), kit_ty (by decide +kernel), false, rfl, iteF ?_⟩⟩
        refine ⟨(.str z), rfl, (.str z), .ty "int", _, _, false, rfl, .ty _, .base (.str z), kit_ty (by decide +kernel), false, rfl, iteF ?_⟩
        refine ⟨(.str z), rfl, (.str z), .ty "str", _, _, true, rfl, .ty _, .base (.str z), kit_ty (by decide +kernel), true, rfl, iteT ⟨(.str z), rfl, (.str z), .ty "str", _, _, true, rfl, .ty _, .base (.str z), kit_ty (by decide +kernel), _, rfl, iteT ?_⟩⟩
        refine ⟨(.str z), rfl, (.str z), rfl, rfl, ?_⟩
        have := q _ s1
        rw [decide_eq_true rfl]
        exact this
end
end Pv

namespace Pv
open PySem PySem.Spec PyProof.Rows L2
abbrev sLi : Stmt := topS 10
theorem scLi : FnScope ["_law_stream_here", "_law_posts", "_law_left", "_law_length", "_law_k"] ["_law_stream_here", "_law_posts"] (defScope sLi) := ⟨rfl, rfl, rfl, by decide +kernel, rfl, by decide +kernel, by decide +kernel⟩
abbrev sAm : Stmt := topS 12
theorem scAm : FnScope ["_law_stream_here", "_law_near", "_law_far_here"] ["_law_stream_here"] (defScope sAm) := ⟨rfl, rfl, rfl, by decide +kernel, rfl, by decide +kernel, by decide +kernel⟩
theorem lay_ints : ∀ ns : List Int, PyData.canLayAll0 (ns.map PyData.int) = true
  | [] => by simp [PyData.canLayAll0]
  | n :: ns => by simp [PyData.canLayAll0, PyData.canLay0, lay_ints ns]
theorem dep_ints : ∀ ns : List Int, PyData.depthAll (ns.map PyData.int) = 0
  | [] => by simp [PyData.depthAll]
  | n :: ns => by simp [PyData.depthAll, PyData.depth, dep_ints ns]
theorem shaped_ints (ns : List Int) : SeqAt.shaped (.list (ns.map PyData.int)) = true := by
  show (PyData.canLay0 (.list (ns.map PyData.int)) && decide (PyData.depth (.list (ns.map PyData.int)) ≤ 64)) = true
  rw [Bool.and_eq_true]
  refine ⟨by simp only [PyData.canLay0]; exact lay_ints ns, decide_eq_true ?_⟩
  simp only [PyData.depth, dep_ints]; omega
theorem perm_erase : ∀ (l : List Int) (k : Nat) (h : k < l.length), (l[k] :: l.eraseIdx k).Perm l
  | [], _, h => by simp at h
  | a :: l, 0, _ => by simp
  | a :: l, k + 1, h => by
    have ih := perm_erase l k (by simpa using h)
    simp only [List.getElem_cons_succ, List.eraseIdx_cons_succ]
    exact (List.Perm.swap _ _ _).trans (List.Perm.cons _ ih)
theorem nodup_step {ms l : List Int} {k : Nat} (h : k < l.length) (hn : (ms ++ l).Nodup) : ((ms ++ [l[k]]) ++ l.eraseIdx k).Nodup := by
  rw [List.append_assoc]
  exact (List.Perm.append_left ms (perm_erase l k h)).symm.nodup hn
theorem upTo_nodup (n : Nat) : (upTo n).Nodup := by
  unfold upTo
  show List.Pairwise _ _
  rw [List.pairwise_map]
  exact List.Pairwise.imp (fun h hab => h (Int.ofNat.inj hab)) (List.nodup_range (n := n))
theorem shaped_dI (ns : List Int) : SeqAt.shaped (dI ns) = true := by
  show (PyData.canLay0 (dI ns) && decide (PyData.depth (dI ns) ≤ 64)) = true
  rw [Bool.and_eq_true]
  refine ⟨by simp only [dI, PyData.canLay0]; exact lay_ints ns, decide_eq_true ?_⟩
  simp only [dI, PyData.depth, dep_ints]; omega
theorem eqv_ints : ∀ a b : List Int, PyData.eqv (dI a) (dI b) = decide (a = b)
  | [], [] => by simp [dI, PyData.eqv, PyData.eqvAll]
  | [], y :: b => by simp [dI, PyData.eqv, PyData.eqvAll]
  | x :: a, [] => by simp [dI, PyData.eqv, PyData.eqvAll]
  | x :: a, y :: b => by
    have ih := eqv_ints a b
    simp only [dI, PyData.eqv] at ih
    simp only [dI, PyData.eqv, List.map_cons, PyData.eqvAll, ih]
    by_cases h1 : x = y
    · subst h1; simp
    · simp [h1]
section
variable {P : Program} {w : World} {K : PySem.W.Frag} {mg : Str → Option Value} {base : Heap}
def spLi (K : PySem.W.Frag) : Sp := fun vs H Q _ => ∃ (st c r : Addr) (t n : Nat), vs = [.ref st, .int n] ∧ DS H st c r t ∧ t + 20 ≤ 1000000 ∧ 1 ≤ n ∧ n ≤ 6 ∧
  ∀ (H' : Hp) (p : Addr) (t' : Nat) (ws : List Int), DS H' st c r t' → t' ≤ t + 10 → Ext st r H H' → H' p = some (.tup (ws.map V.int)) → ws.length ≤ n → (∀ x ∈ ws, 0 ≤ x ∧ x < (n : Int)) → ws.Nodup → Q (.ref p) H'
set_option maxHeartbeats 2000000 in
theorem ok_Li {f fDr fOn : Addr} {fd fdDr fdOn : FuncData} (F : Fun K "_law_list" "_law_list" sLi f fd)
    (FDr : Fun K "_law_draw" "_law_draw" sDraw fDr fdDr) (bDr : Binds K fdDr ["_law_stream_here", "_law_bound"] []) (gDr : mg "_law_draw" = some (.ref fDr)) (GDr : FnOk P w K mg base CX0 1 fDr fdDr ["_law_stream_here", "_law_bound"] spDraw)
    (FOn : Fun K "_law_one" "_law_one" sOne fOn fdOn) (bOn : Binds K fdOn ["_law_stream_here", "_law_items"] []) (gOn : mg "_law_one" = some (.ref fOn)) (GOn : FnOk P w K mg base CX0 2 fOn fdOn ["_law_stream_here", "_law_items"] (spOne K))
    (m_list : mg "list" = none) (m_range : mg "range" = none) (m_min : mg "min" = none) (m_len : mg "len" = none) (m_tuple : mg "tuple" = none) :
    FnOk P w K mg base CX0 3 f fd ["_law_stream_here", "_law_posts"] (spLi K) := by
  refine F.ok scLi (fun vs H Q E h => ?_) (fun cdv A outer s H vs Q E hr h => ?_)
  · obtain ⟨st, c, r, t, n, rfl, _⟩ := h; rfl
  · obtain ⟨st, c, r, t, n, rfl, hd, ht, hn1, hn6, q⟩ := h
    refine ⟨_, pss_cons (ps_set (i := 2) scLi.nd rfl (.inr rfl) (pe_listRg rfl (by rfl) m_list (prg_1 (by rfl) m_range (pv 1))))
      (pss_cons (ps_set (i := 3) scLi.nd rfl (.inl rfl) (pe_call GOn (hr.mono (by omega)) (by rfl) gOn FOn.kp bOn .nil pass0 (pa_cons (pv 0) (pa_cons (pe_lst (pa_cons (pv 1) (pa_cons (pe_call GDr (hr.mono (by omega)) (by rfl) gDr FDr.kp bDr .nil pass0 (pa_cons (pv 0) (pa_cons (pe_op op_add (pv 1) (pe_int)) pa_nil))) (pa_cons (pe_callB (call_min2 rfl) (by rfl) m_min (by decide +kernel) (pa_cons (pe_int) (pa_cons (pv 1) pa_nil))) pa_nil)))) pa_nil))))
      (pss_one (ps_ret (pe_callTy call_tupQ (by rfl) m_tuple (by decide +kernel) (pa_cons (pe_lc (own := [("_law_k", 4)]) (g := gName 4) (tt := tYes) (te := tBM K "list" rPopAt (tVar 2) (tCons (tCall spDraw [] E0 (tCons (tVar 0) (tCons (tCB (rLenQ K) (tCons (tVar 2) tNil)) tNil))) tNil)) rfl scLi.nd (pi_range1 (by rfl) m_range (pa_cons (pv 3) pa_nil)) (blkOk_by (N := ["_law_stream_here", "_law_posts", "_law_left", "_law_length", "_law_k"]) (sc := defScope sLi) (by decide +kernel)) (fun _ _ _ _ _ => pg_name (i := 4) scLi.nd rfl (.inl rfl)) (fun _ _ _ _ _ => pts_nil) (fun _ _ _ _ _ => pe_bm PySem.F.plainAttrs_list PySem.F.slot_list_pop PySem.F.type_list_pop mt_popAt (pv 2) (pa_cons (pe_call GDr (hr.mono (by omega)) (by rfl) gDr FDr.kp bDr .nil pass0 (pa_cons (pv 0) (pa_cons (pe_callB call_lenQ (by rfl) m_len PySem.boot_len (pa_cons (pv 2) pa_nil)) pa_nil))) pa_nil))) pa_nil))))), ?_⟩
    refine ⟨.int n, rfl, n, rfl, RgOk.of_le (by omega) (by omega) (by omega) (by omega), fun Nm nNm => ?_⟩
    have oNm := hd.off nNm
    have d5 := hd.new nNm (o := .lst (rgV 0 n))
    have eN5 : (upd H Nm (.lst (rgV 0 n))) Nm = some (.lst ((upTo n).map V.int)) := by rw [upd_same, rgV_upTo]
    have x5 : Ext st r H (upd H Nm (.lst (rgV 0 n))) := Ext.of (sameNew nNm)
    refine ⟨.ref st, rfl, .int n, rfl, .ref st, rfl, .int n, rfl, _, _, rfl, rfl, st, c, r, t, _, rfl, d5, by omega, by omega, by omega, fun H6 d6 h60 h61 D6 X6 => ?_⟩
    refine ⟨.int n, rfl, _, _, rfl, (show (3 : Nat) ≤ sizeLine by decide), fun L1 n1 => ?_⟩
    obtain ⟨o11, o12, o13⟩ := D6.off n1
    refine ⟨st, c, r, L1, t + 1, _, rfl, D6.new n1, by omega, upd_same, o11, o13, by simp, by simp, fun H7 j1 vl hvl D7 X7 => ?_⟩
    have xx : Ext st r (upd H Nm (.lst (rgV 0 n))) H7 := (X6.trans (Ext.of (sameNew n1))).trans X7
    obtain ⟨m, rfl, hm⟩ : ∃ m : Nat, vl = .int m ∧ m ≤ n := by
      have hmem := List.mem_of_getElem? hvl
      simp only [List.mem_cons, List.not_mem_nil, or_false] at hmem
      rcases hmem with rfl | rfl | rfl
      · exact ⟨n, rfl, Nat.le_refl _⟩
      · exact ⟨d6.toNat, by rw [show ((d6.toNat : Nat) : Int) = d6 by omega], by omega⟩
      · split
        · exact ⟨n, rfl, Nat.le_refl _⟩
        · exact ⟨2, rfl, by omega⟩
    have eN7 := xx _ _ eN5 oNm.1 oNm.2.2
    have x7 := x5.trans xx
    have D7' : DS H7 st c r (t + 2) := D7
    clear D7 hvl xx X7 X6 D6
    refine ⟨.int m, rfl, m, rfl, by omega, by omega, fun Ch nCh => lc_it (walk_range (lo := 0) (n := (m : Int).toNat))
      (fun j H8 => ∃ (ns ls : List Int), DS H8 st c r (t + 2 + j) ∧ Ext st r H H8 ∧ H8 Nm = some (.lst (ns.map V.int)) ∧ ns.length + j = n ∧ (∀ x ∈ ns, 0 ≤ x ∧ x < (n : Int)) ∧
        H8 Ch = some (.lst (ls.map V.int)) ∧ ls.length = j ∧ (∀ x ∈ ls, 0 ≤ x ∧ x < (n : Int)) ∧ (ls ++ ns).Nodup)
      ⟨upTo n, [], D7'.new nCh, x7.trans (Ext.of (sameNew nCh)), upNew nCh eN7, upTo_len n, fun x h => upTo_mem h, upd_same, rfl, (fun x h => by simp at h), by simpa using upTo_nodup n⟩ (fun _ _ _ _ => trivial) ?_ ?_⟩
    · rintro j v H8 H9 hltj ⟨ns, ls, d8, x8, eN8, lN8, bN8, eC8, lC8, bC8, hnd⟩ ⟨rfl, rfl⟩
      have hjn : j < m := by omega
      have oCh := D7'.off nCh
      have nNC : Nm ≠ Ch := ne_of_none eN7 nCh
      have fCh : H Ch = none := x7.nil D7' nCh
      refine ⟨rfl, .ref Nm, rfl, .inl ⟨rfl, _, SqL.of eN8⟩, .ref st, rfl, .ref Nm, rfl, Nm, _, rfl, .inl (SqL.of eN8), st, c, r, t + 2 + j, _, rfl, d8, by omega, by rw [List.length_map]; omega, by rw [List.length_map]; omega, fun H10 d9 h90 h91 D9 X9 => ?_⟩
      rw [List.length_map] at h91
      have eN9 := X9 _ _ eN8 oNm.1 oNm.2.2
      have eC9 := X9 _ _ eC8 oCh.1 oCh.2.2
      have hk : d9.toNat < ns.length := by omega
      have eCz : (upd H10 Nm (.lst ((ns.map V.int).eraseIdx d9.toNat))) Ch = some (.lst (ls.map V.int)) := by rw [upd_ne nNC.symm]; exact eC9
      refine ⟨Nm, _, d9, d9.toNat, .int ns[d9.toNat], rfl, rfl, eN9, by omega, by omega, seqIndex_of h90 (by rw [List.length_map]; omega), by rw [List.getElem?_map, List.getElem?_eq_getElem hk]; rfl, _, eCz, by rw [List.length_map]; exact small (by omega),
        ns.eraseIdx d9.toNat, ls ++ [ns[d9.toNat]], (D9.put oNm.1 oNm.2.1 oNm.2.2).put oCh.1 oCh.2.1 oCh.2.2, ExtPut (ExtPut (x8.trans X9) nNm) fCh, ?_, ?_, ?_, ?_, by simp [lC8], ?_, nodup_step hk hnd⟩
      · rw [upd_ne nNC, upd_same, erase_map]
      · rw [List.length_eraseIdx_of_lt hk]; omega
      · exact fun x hx => bN8 x (List.mem_of_mem_eraseIdx hx)
      · rw [upd_same, List.map_append]; rfl
      · intro x hx
        rw [List.mem_append] at hx
        rcases hx with h | h
        · exact bC8 x h
        · simp at h; subst h; exact bN8 _ (List.getElem_mem hk)
    · rintro H8 ⟨ns, ls, d8, x8, eN8, lN8, bN8, eC8, lC8, bC8, hnd⟩
      have h7 : (m : Int).toNat = m := by omega
      rw [h7] at d8 lN8 lC8
      refine ⟨Ch, _, rfl, .inl ⟨SqL.of eC8, fun T nT => ?_⟩⟩
      exact q _ T _ ls (d8.new nT) (by omega) (x8.trans (Ext.of (sameNew nT))) upd_same (by omega) bC8 (List.nodup_append.mp hnd).1
def spAm (K : PySem.W.Frag) : Sp := fun vs H Q _ => ∃ (st c r : Addr) (t : Nat), vs = [.ref st] ∧ DS H st c r t ∧ t + 10 ≤ 1000000 ∧
  ∀ (H' : Hp) (d : Int) (t' : Nat), 1 ≤ d → d ≤ 10 ^ 12 → DS H' st c r t' → t' ≤ t + 5 → Ext st r H H' → Q (.int d) H'
set_option maxHeartbeats 2000000 in
theorem ok_Am {f fDr fOn : Addr} {fd fdDr fdOn : FuncData} (F : Fun K "_law_amount" "_law_amount" sAm f fd)
    (FDr : Fun K "_law_draw" "_law_draw" sDraw fDr fdDr) (bDr : Binds K fdDr ["_law_stream_here", "_law_bound"] []) (gDr : mg "_law_draw" = some (.ref fDr)) (GDr : FnOk P w K mg base CX0 1 fDr fdDr ["_law_stream_here", "_law_bound"] spDraw)
    (FOn : Fun K "_law_one" "_law_one" sOne fOn fdOn) (bOn : Binds K fdOn ["_law_stream_here", "_law_items"] []) (gOn : mg "_law_one" = some (.ref fOn)) (GOn : FnOk P w K mg base CX0 2 fOn fdOn ["_law_stream_here", "_law_items"] (spOne K))
     :
    FnOk P w K mg base CX0 3 f fd ["_law_stream_here"] (spAm K) := by
  refine F.ok scAm (fun vs H Q E h => ?_) (fun cdv A outer s H vs Q E hr h => ?_)
  · obtain ⟨st, c, r, t, rfl, _⟩ := h; rfl
  · obtain ⟨st, c, r, t, rfl, hd, ht, q⟩ := h
    refine ⟨_, pss_cons (ps_par (i := 1) (j := 2) rfl scAm.nd rfl rfl (by decide) rfl rfl (pa_cons (pe_call GDr (hr.mono (by omega)) (by rfl) gDr FDr.kp bDr .nil pass0 (pa_cons (pv 0) (pa_cons (pe_int) pa_nil))) (pa_cons (pe_call GDr (hr.mono (by omega)) (by rfl) gDr FDr.kp bDr .nil pass0 (pa_cons (pv 0) (pa_cons (pe_op op_pow (pe_int) (pe_int)) pa_nil))) pa_nil)) rfl)
      (pss_one (ps_ret (pe_call GOn (hr.mono (by omega)) (by rfl) gOn FOn.kp bOn .nil pass0 (pa_cons (pv 0) (pa_cons (pe_lst (pa_cons (pe_op op_add (pe_int) (pv 1)) (pa_cons (pe_op op_add (pe_int) (pv 2)) (pa_cons (pe_op op_sub (pe_op op_pow (pe_int) (pe_int)) (pv 1)) pa_nil)))) pa_nil))))), ?_⟩
    refine ⟨.ref st, rfl, st, c, r, t, _, rfl, hd, by omega, by decide, by decide, fun H1 d1 h10 h11 D1 X1 => ?_⟩
    refine ⟨.ref st, rfl, _, _, rfl, rfl, ⟨by decide, by decide, by decide⟩, st, c, r, t + 1, _, rfl, D1, by omega, by decide, by decide, fun H2 d2 h20 h21 D2 X2 => ⟨_, _, rfl, ?_⟩⟩
    have h21 : d2 < 10 ^ 12 := h21
    refine ⟨.ref st, rfl, .int d1, rfl, _, _, rfl, rfl, .int d2, rfl, _, _, rfl, rfl, _, _, rfl, rfl, ⟨by decide, by decide, by decide⟩, .int d1, rfl, _, _, rfl, rfl, (show (3 : Nat) ≤ sizeLine by decide), fun L1 n1 => ?_⟩
    obtain ⟨o11, o12, o13⟩ := D2.off n1
    refine ⟨st, c, r, L1, t + 1 + 1, _, rfl, D2.new n1, by omega, upd_same, o11, o13, by simp, by simp, fun H3 j v hv D3 X3 => ?_⟩
    have hm := List.mem_of_getElem? hv
    have t12 : (10 : Int) ^ (12 : Int).toNat = 1000000000000 := by decide
    simp only [List.mem_cons, List.not_mem_nil, or_false] at hm
    have xx := ((X1.trans X2).trans (Ext.of (sameNew n1))).trans X3
    rcases hm with rfl | rfl | rfl
    · exact q _ _ _ (by omega) (by omega) D3 (by omega) xx
    · exact q _ _ _ (by omega) (by omega) D3 (by omega) xx
    · exact q _ _ _ (by rw [t12]; omega) (by rw [t12]; omega) D3 (by omega) xx
end
end Pv

namespace Pv
open PySem PySem.Spec PyProof.Rows L2
abbrev sSl : Stmt := topS 11
theorem scSl : FnScope ["_law_stream_here", "_law_posts", "_law_groups", "_law_k", "_law_post"] ["_law_stream_here"] (defScope sSl) := ⟨rfl, rfl, rfl, by decide +kernel, rfl, by decide +kernel, by decide +kernel⟩
abbrev sFa : Stmt := topS 13
theorem scFa : FnScope ["_law_stream_here", "_law_most", "_law_posts", "_law_groups", "_law_k", "_law_capacities", "_law_post", "_law_demand", "_law_near", "_law_line", "_law_count"] ["_law_stream_here", "_law_most"] (defScope sFa) := ⟨rfl, rfl, rfl, by decide +kernel, rfl, by decide +kernel, by decide +kernel⟩
section
variable {P : Program} {w : World} {K : PySem.W.Frag} {mg : Str → Option Value} {base : Heap}
theorem first_eq {H : Hp} {a : Addr} {ps : List Int} (hP : SqT K H a (ps.map V.int)) {Q : VK} (h : ∀ (H' : Hp) (b : Addr), Same H H' → SqT K H' b ((ps.take 1).map V.int) → Q (.ref b) H') : rSlA K (.ref a) none (some 1) H Q := by
  have hcut : cutV (ps.map V.int) none (some 1) = (ps.take 1).map V.int := by rw [List.map_take]; exact cut_to _ 1
  refine ⟨a, _, rfl, hP, fun hw => ?_, fun _ p np => ?_⟩
  · refine h H a (Same.refl _) ?_
    have e : (ps.take 1).map V.int = ps.map V.int := by
      rw [← hcut]
      unfold cutV
      rw [hw.1, hw.2, List.drop_zero, Nat.sub_zero, List.take_length]
    rw [e]; exact hP
  · refine h _ p (sameNew np) (SqT.of ?_)
    rw [upd_same, hcut]
def spSl (K : PySem.W.Frag) : Sp := fun vs H Q _ => ∃ (st c r : Addr) (t : Nat), vs = [.ref st] ∧ DS H st c r t ∧ t + 500 ≤ 1000000 ∧
  ∀ (H' : Hp) (p : Addr) (t' : Nat) (cs : List Int) (gs : List Gp), DS H' st c r t' → t' ≤ t + 100 → Ext st r H H' → Dp K H' (.ref p) (dInst cs gs) → InsOk cs gs → (∀ g ∈ gs, g.1.Nodup) → (cs.length ≤ 3 ∧ (∀ x ∈ cs, x ≤ 3) ∧ gs.length ≤ 3 ∧ ∀ g ∈ gs, g.2 ≤ 2) → Q (.ref p) H'
set_option maxHeartbeats 4000000 in
theorem ok_Sl {f fDr fLi : Addr} {fd fdDr fdLi : FuncData} (F : Fun K "_law_small" "_law_small" sSl f fd)
    (FDr : Fun K "_law_draw" "_law_draw" sDraw fDr fdDr) (bDr : Binds K fdDr ["_law_stream_here", "_law_bound"] []) (gDr : mg "_law_draw" = some (.ref fDr)) (GDr : FnOk P w K mg base CX0 1 fDr fdDr ["_law_stream_here", "_law_bound"] spDraw)
    (FLi : Fun K "_law_list" "_law_list" sLi fLi fdLi) (bLi : Binds K fdLi ["_law_stream_here", "_law_posts"] []) (gLi : mg "_law_list" = some (.ref fLi)) (GLi : FnOk P w K mg base CX0 3 fLi fdLi ["_law_stream_here", "_law_posts"] (spLi K))
    (m_range : mg "range" = none) (m_tuple : mg "tuple" = none) :
    FnOk P w K mg base CX0 4 f fd ["_law_stream_here"] (spSl K) := by
  refine F.ok scSl (fun vs H Q E h => ?_) (fun cdv A outer s H vs Q E hr h => ?_)
  · obtain ⟨st, c, r, t, rfl, _⟩ := h; rfl
  · obtain ⟨st, c, r, t, rfl, hd, ht, q⟩ := h
    refine ⟨_, pss_cons (ps_set (i := 1) scSl.nd rfl (.inl rfl) (pe_op op_add (pe_int) (pe_call GDr (hr.mono (by omega)) (by rfl) gDr FDr.kp bDr .nil pass0 (pa_cons (pv 0) (pa_cons (pe_int) pa_nil)))))
      (pss_cons (ps_set (i := 2) scSl.nd rfl (.inl rfl) (pe_lst (pa_nil)))
      (pss_cons (ps_for PassesOwn.never rfl (pi_range1 (by rfl) m_range (pa_cons (pe_op op_add (pe_int) (pe_call GDr (hr.mono (by omega)) (by rfl) gDr FDr.kp bDr .nil pass0 (pa_cons (pv 0) (pa_cons (pe_int) pa_nil)))) pa_nil)) (pg_name (i := 3) scSl.nd rfl (.inl rfl))
        (pss_one (ps_expr (pe_bm PySem.F.plainAttrs_list PySem.F.slot_list_append PySem.F.type_list_append mt_append (pv 2) (pa_cons (pe_tup (pa_cons (pe_call GLi (hr.mono (by omega)) (by rfl) gLi FLi.kp bLi .nil pass0 (pa_cons (pv 0) (pa_cons (pv 1) pa_nil))) (pa_cons (pe_op op_add (pe_int) (pe_call GDr (hr.mono (by omega)) (by rfl) gDr FDr.kp bDr .nil pass0 (pa_cons (pv 0) (pa_cons (pe_int) pa_nil)))) pa_nil))) pa_nil)))))
      (pss_one (ps_ret (pe_tup (pa_cons (pe_callTy call_tupQ (by rfl) m_tuple (by decide +kernel) (pa_cons (pe_lc (own := [("_law_post", 4)]) (g := gName 4) (tt := tYes) (te := tOp (rI0 fun i j => .int (i + j)) (tC (.int 1)) (tCall spDraw [] E0 (tCons (tVar 0) (tCons (tC (.int 3)) tNil)))) rfl scSl.nd (pi_range1 (by rfl) m_range (pa_cons (pv 1) pa_nil)) (blkOk_by (N := ["_law_stream_here", "_law_posts", "_law_groups", "_law_k", "_law_post"]) (sc := defScope sSl) (by decide +kernel)) (fun _ _ _ _ _ => pg_name (i := 4) scSl.nd rfl (.inl rfl)) (fun _ _ _ _ _ => pts_nil) (fun _ _ _ _ _ => pe_op op_add (pe_int) (pe_call GDr (hr.mono (by omega)) (by rfl) gDr FDr.kp bDr .nil pass0 (pa_cons (pv 0) (pa_cons (pe_int) pa_nil))))) pa_nil)) (pa_cons (pe_callTy call_tupQ (by rfl) m_tuple (by decide +kernel) (pa_cons (pv 2) pa_nil)) pa_nil))))))), ?_⟩
    refine ⟨.ref st, rfl, st, c, r, t, _, rfl, hd, by omega, by decide, by decide, fun H1 d1 h10 h11 D1 X1 => ⟨_, _, rfl, rfl, ?_⟩⟩
    obtain ⟨n, hn⟩ : ∃ n : Nat, 1 + d1 = (n : Int) := ⟨(1 + d1).toNat, by omega⟩
    have hn3 : 1 ≤ n ∧ n ≤ 3 := by omega
    dsimp only
    rw [hn]
    refine ⟨Nat.zero_le _, fun Rw nRw => ?_⟩
    have oRw := D1.off nRw
    have fRw := X1.nil D1 nRw
    have D1' := D1.new nRw (o := .lst [])
    refine ⟨.ref st, rfl, st, c, r, t + 1, _, rfl, D1', by omega, by decide, by decide, fun H2 d2 h20 h21 D2 X2 => ⟨_, _, rfl, rfl, ?_⟩⟩
    refine ⟨1 + d2, rfl, by omega, by omega, for_it (walk_range (lo := 0) (n := (1 + d2).toNat))
      (fun i σ H4 => ∃ (y3 : Option V) (t4 : Nat) (vs : List V) (gs : List Gp), σ = [some (.ref st), some (.int n), some (.ref Rw), y3, none] ∧ DS H4 st c r t4 ∧ t4 ≤ t + 2 + 20 * i ∧ Ext st r H H4 ∧
        H4 Rw = some (.lst vs) ∧ DpAll K H4 vs (gs.map dGrp) ∧ gs.length = i ∧ ∀ g ∈ gs, g.1.length ≤ n ∧ (∀ p ∈ g.1, 0 ≤ p ∧ p < (n : Int)) ∧ (1 ≤ g.2 ∧ g.2 ≤ 2) ∧ g.1.Nodup)
      ⟨none, t + 2, [], [], rfl, D2, by omega, (X1.trans (Ext.of (sameNew nRw))).trans X2, X2 _ _ upd_same oRw.1 oRw.2.2, .nil, rfl, fun g h => by simp at h⟩ (fun _ _ _ _ _ => trivial) ?_ ?_⟩
    · rintro i v σ H4 H4' hlt ⟨y3, t4, vs, gs, rfl, d4, ht4, x4, eR, hvs, lgs, bgs⟩ ⟨rfl, rfl⟩
      have hi3 : i < 3 := by omega
      have hvl : vs.length = i := by rw [DpAll.len hvs, List.length_map, lgs]
      refine ⟨.ref Rw, rfl, .inl ⟨rfl, _, SqL.of eR⟩, .ref st, rfl, .int n, rfl, st, c, r, t4, n, rfl, d4, by omega, hn3.1, by omega, fun H5 p5 t5 ws D5 ht5 X5 e5 l5 b5 nd5 => ?_⟩
      refine ⟨.ref st, rfl, st, c, r, t5, _, rfl, D5, by omega, by decide, by decide, fun H6 d6 h60 h61 D6 X6 => ⟨_, _, rfl, rfl, (show (2 : Nat) ≤ sizeLine by decide), fun Gr nGr => ?_⟩⟩
      have eF6 := X6 _ _ (X5 _ _ eR oRw.1 oRw.2.2) oRw.1 oRw.2.2
      have eF8 := upNew nGr (o := .tup [.ref p5, .int (1 + d6)]) eF6
      have tk6 := (X5.tup d4).trans (X6.tup D5)
      have tkz : TupK H6 (upd (upd H6 Gr (.tup [.ref p5, .int (1 + d6)])) Rw (.lst (vs ++ [.ref Gr]))) := (TupK.new nGr).trans (TupK.put eF8)
      refine ⟨Rw, vs, _, rfl, rfl, eF8, by rw [hvl]; exact small (by omega), _, t5 + 1, vs ++ [.ref Gr], gs ++ [(ws, 1 + d6)], rfl, (D6.new nGr).put oRw.1 oRw.2.1 oRw.2.2, by omega, ExtPut (((x4.trans X5).trans X6).trans (Ext.of (sameNew nGr))) fRw, upd_same, ?_, by simp [lgs], ?_⟩
      · rw [List.map_append]
        refine DpAll.snoc ((tk6.trans tkz).dpAll _ _ (to_grps _) hvs) (.tup (SqT.of ?_) (.cons (dI_sq (tkz.sq ((X6.tup D5).sq (SqT.of e5)))) (.cons (.int _) .nil)))
        rw [upd_ne (ne_of_none eF6 nGr).symm]
        exact upd_same
      · intro g hg
        rw [List.mem_append] at hg
        rcases hg with h | h
        · exact bgs g h
        · simp only [List.mem_singleton] at h
          subst h
          exact ⟨l5, b5, ⟨by simp only; omega, by simp only; omega⟩, nd5⟩
    · rintro σ Hr ⟨y3, t4, vs, gs, rfl, d4, ht4, x4, eR, hvs, lgs, bgs⟩
      have hvl : vs.length = gs.length := by rw [DpAll.len hvs, List.length_map]
      refine ⟨.int n, rfl, n, rfl, by omega, by omega, fun D nD => ?_⟩
      have oD := d4.off nD
      have fD := x4.nil d4 nD
      have nRD : Rw ≠ D := ne_of_none eR nD
      refine lc_it (walk_range (lo := 0) (n := (n : Int).toNat))
        (fun j H5 => ∃ (t5 : Nat) (ls : List Int), DS H5 st c r t5 ∧ t5 ≤ t4 + j ∧ Ext st r H H5 ∧ TupK Hr H5 ∧ H5 Rw = some (.lst vs) ∧ H5 D = some (.lst (ls.map V.int)) ∧ ls.length = j ∧ ∀ x ∈ ls, 1 ≤ x ∧ x ≤ 3)
        ⟨t4, [], d4.new nD, by omega, x4.trans (Ext.of (sameNew nD)), TupK.new nD, upNew nD eR, upd_same, rfl, fun x h => by simp at h⟩ (fun _ _ _ _ => trivial) ?_ ?_
      · rintro j v H5 H6 hltj ⟨t5, ls, d5, ht5, x5, tk5, eR5, eD5, lD5, bD5⟩ ⟨rfl, rfl⟩
        have hj3 : j < 3 := by omega
        refine ⟨rfl, .ref st, rfl, st, c, r, t5, _, rfl, d5, by omega, by decide, by decide, fun H7 d7 h70 h71 D7 X7 => ⟨_, _, rfl, rfl, ?_⟩⟩
        have eD7 := X7 _ _ eD5 oD.1 oD.2.2
        refine ⟨_, eD7, by rw [List.length_map]; exact small (by omega), t5 + 1, ls ++ [1 + d7], D7.put oD.1 oD.2.1 oD.2.2, by omega, ExtPut (x5.trans X7) fD, (tk5.trans (X7.tup d5)).trans (TupK.put eD7), by rw [upd_ne nRD]; exact X7 _ _ eR5 oRw.1 oRw.2.2, ?_, by simp [lD5], ?_⟩
        · rw [upd_same, List.map_append]; rfl
        · intro y hy
          rw [List.mem_append] at hy
          rcases hy with h | h
          · exact bD5 y h
          · simp only [List.mem_singleton] at h; omega
      · rintro H5 ⟨t5, ls, d5, ht5, x5, tk5, eR5, eD5, lD5, bD5⟩
        have hl5 : ls.length = n := by omega
        refine ⟨D, _, rfl, .inl ⟨SqL.of eD5, fun Ct nCt => ⟨.ref Rw, rfl, Rw, _, rfl, .inl ⟨SqL.of (upNew nCt eR5), fun Gt nGt => ⟨(show (2 : Nat) ≤ sizeLine by decide), fun In nIn => ?_⟩⟩⟩⟩⟩
        have tkz : TupK H5 (upd (upd (upd H5 Ct (.tup (ls.map V.int))) Gt (.tup vs)) In (.tup [.ref Ct, .ref Gt])) := ((TupK.new nCt).trans (TupK.new nGt)).trans (TupK.new nIn)
        refine q _ In t5 ls gs (((d5.new nCt).new nGt).new nIn) (by omega) (((x5.trans (Ext.of (sameNew nCt))).trans (Ext.of (sameNew nGt))).trans (Ext.of (sameNew nIn)))
          (.tup (SqT.of upd_same) (.cons (dI_sq (((TupK.new nGt).trans (TupK.new nIn)).sq (SqT.of upd_same))) (.cons (.tup (SqT.of (upNew nIn upd_same)) ((tk5.trans tkz).dpAll _ _ (to_grps _) hvs)) .nil)))
          ⟨by omega, by omega, fun x hx => by have := bD5 x hx; omega, by omega, by omega, ?_⟩ (fun g hg => (bgs g hg).2.2.2) ⟨by omega, fun x hx => (bD5 x hx).2, by omega, fun g hg => (bgs g hg).2.2.1.2⟩
        rw [hl5]
        exact fun g hg => ⟨by have := (bgs g hg).1; omega, (bgs g hg).2.1, (bgs g hg).2.2.1.1, by have := (bgs g hg).2.2.1.2; omega⟩
def spFa (K : PySem.W.Frag) : Sp := fun vs H Q _ => ∃ (st c r : Addr) (t mo : Nat), vs = [.ref st, .int mo] ∧ DS H st c r t ∧ t + 500 ≤ 1000000 ∧ 1 ≤ mo ∧ mo ≤ 6 ∧
  ∀ (H' : Hp) (p : Addr) (t' : Nat) (cs : List Int) (gs : List Gp), DS H' st c r t' → t' ≤ t + 500 → Ext st r H H' → Dp K H' (.ref p) (dInst cs gs) → InsOk cs gs → (∀ g ∈ gs, g.1.Nodup) → Q (.ref p) H'
set_option maxHeartbeats 8000000 in
theorem ok_Fa {f fDr fLi fAm fOn : Addr} {fd fdDr fdLi fdAm fdOn : FuncData} (F : Fun K "_law_far" "_law_far" sFa f fd)
    (FDr : Fun K "_law_draw" "_law_draw" sDraw fDr fdDr) (bDr : Binds K fdDr ["_law_stream_here", "_law_bound"] []) (gDr : mg "_law_draw" = some (.ref fDr)) (GDr : FnOk P w K mg base CX0 1 fDr fdDr ["_law_stream_here", "_law_bound"] spDraw)
    (FLi : Fun K "_law_list" "_law_list" sLi fLi fdLi) (bLi : Binds K fdLi ["_law_stream_here", "_law_posts"] []) (gLi : mg "_law_list" = some (.ref fLi)) (GLi : FnOk P w K mg base CX0 3 fLi fdLi ["_law_stream_here", "_law_posts"] (spLi K))
    (FAm : Fun K "_law_amount" "_law_amount" sAm fAm fdAm) (bAm : Binds K fdAm ["_law_stream_here"] []) (gAm : mg "_law_amount" = some (.ref fAm)) (GAm : FnOk P w K mg base CX0 3 fAm fdAm ["_law_stream_here"] (spAm K))
    (FOn : Fun K "_law_one" "_law_one" sOne fOn fdOn) (bOn : Binds K fdOn ["_law_stream_here", "_law_items"] []) (gOn : mg "_law_one" = some (.ref fOn)) (GOn : FnOk P w K mg base CX0 2 fOn fdOn ["_law_stream_here", "_law_items"] (spOne K))
    (m_range : mg "range" = none) (m_sum : mg "sum" = none) (m_min : mg "min" = none) (m_max : mg "max" = none) (m_tuple : mg "tuple" = none) :
    FnOk P w K mg base CX0 4 f fd ["_law_stream_here", "_law_most"] (spFa K) := by
  refine F.ok scFa (fun vs H Q E h => ?_) (fun cdv A outer s H vs Q E hr h => ?_)
  · obtain ⟨st, c, r, t, mo, rfl, _⟩ := h; rfl
  · obtain ⟨st, c, r, t, mo, rfl, hd, ht, hmo1, hmo6, q⟩ := h
    have hu64 : (A.deeper (envOfC "_law_far" (defScope sFa) s.heap.objs.size f cdv)).units + 64 < cLine := by have := hr.un; omega
    refine ⟨_, pss_cons (ps_set (i := 2) scFa.nd rfl (.inl rfl) (pe_op op_add (pe_int) (pe_call GDr (hr.mono (by omega)) (by rfl) gDr FDr.kp bDr .nil pass0 (pa_cons (pv 0) (pa_cons (pv 1) pa_nil)))))
      (pss_cons (ps_set (i := 3) scFa.nd rfl (.inl rfl) (pe_lst (pa_nil)))
      (pss_cons (ps_for PassesOwn.never rfl (pi_range1 (by rfl) m_range (pa_cons (pe_op op_add (pe_int) (pe_call GDr (hr.mono (by omega)) (by rfl) gDr FDr.kp bDr .nil pass0 (pa_cons (pv 0) (pa_cons (pe_int) pa_nil)))) pa_nil)) (pg_name (i := 4) scFa.nd rfl (.inl rfl))
        (pss_one (ps_expr (pe_bm PySem.F.plainAttrs_list PySem.F.slot_list_append PySem.F.type_list_append mt_append (pv 3) (pa_cons (pe_tup (pa_cons (pe_call GLi (hr.mono (by omega)) (by rfl) gLi FLi.kp bLi .nil pass0 (pa_cons (pv 0) (pa_cons (pv 2) pa_nil))) (pa_cons (pe_call GAm (hr.mono (by omega)) (by rfl) gAm FAm.kp bAm .nil pass0 (pa_cons (pv 0) pa_nil)) pa_nil))) pa_nil)))))
      (pss_cons (ps_set (i := 5) scFa.nd rfl (.inl rfl) (pe_lst (pa_nil)))
      (pss_cons (ps_for PassesOwn.never rfl (pi_range1 (by rfl) m_range (pa_cons (pv 2) pa_nil)) (pg_name (i := 6) scFa.nd rfl (.inr rfl))
        (pss_cons (ps_set (i := 7) scFa.nd rfl (.inl rfl) (pe_callB (cr_sum rfl) (by rfl) m_sum (by decide +kernel) (pa_cons (pe_lc (own := [("_law_line", 9), ("_law_count", 10)]) (g := gTup K 2 (gCons (gName 9) (gCons (gName 10) gNil))) (tt := tTest (tOp (rEqD K) (tSl (rSlA K) (tVar 9) tNoPart (tPart (tC (.int 1)))) (tTup (tCons (tVar 6) tNil)))) (te := tVar 10) rfl scFa.nd (pi_list (pv 3)) (blkOk_by (N := ["_law_stream_here", "_law_most", "_law_posts", "_law_groups", "_law_k", "_law_capacities", "_law_post", "_law_demand", "_law_near", "_law_line", "_law_count"]) (sc := defScope sFa) (by decide +kernel)) (fun _ _ _ _ _ => pg_tup rfl (pgs_cons (pg_name (i := 9) scFa.nd rfl (.inl rfl)) (pgs_cons (pg_name (i := 10) scFa.nd rfl (.inl rfl)) pgs_nil))) (fun _ _ _ _ _ => pts_one (pt_cmpR (op_eqD hu64) (pe_slice sl_tupA (pv 9) po_none (po_some (pe_int))) (pe_tup (pa_cons (pv 6) pa_nil)) (nomark _))) (fun _ _ _ _ _ => pv 10)) pa_nil)))
        (pss_cons (ps_set (i := 8) scFa.nd rfl (.inl rfl) (pe_callB (call_max2 rfl) (by rfl) m_max (by decide +kernel) (pa_cons (pe_int) (pa_cons (pe_callB (call_min2 rfl) (by rfl) m_min (by decide +kernel) (pa_cons (pe_op op_pow (pe_int) (pe_int)) (pa_cons (pe_op op_sub (pe_op op_add (pv 7) (pe_call GDr (hr.mono (by omega)) (by rfl) gDr FDr.kp bDr .nil pass0 (pa_cons (pv 0) (pa_cons (pe_int) pa_nil)))) (pe_int)) pa_nil))) pa_nil))))
        (pss_one (ps_expr (pe_bm PySem.F.plainAttrs_list PySem.F.slot_list_append PySem.F.type_list_append mt_append (pv 5) (pa_cons (pe_call GOn (hr.mono (by omega)) (by rfl) gOn FOn.kp bOn .nil pass0 (pa_cons (pv 0) (pa_cons (pe_lst (pa_cons (pv 8) (pa_cons (pv 8) (pa_cons (pe_call GAm (hr.mono (by omega)) (by rfl) gAm FAm.kp bAm .nil pass0 (pa_cons (pv 0) pa_nil)) pa_nil)))) pa_nil))) pa_nil)))))))
      (pss_one (ps_ret (pe_tup (pa_cons (pe_callTy call_tupQ (by rfl) m_tuple (by decide +kernel) (pa_cons (pv 5) pa_nil)) (pa_cons (pe_callTy call_tupQ (by rfl) m_tuple (by decide +kernel) (pa_cons (pv 3) pa_nil)) pa_nil))))))))), ?_⟩
    refine ⟨.ref st, rfl, .int mo, rfl, st, c, r, t, _, rfl, hd, by omega, by omega, by omega, fun H1 d1 h10 h11 D1 X1 => ⟨_, _, rfl, rfl, ?_⟩⟩
    obtain ⟨n, hn⟩ : ∃ n : Nat, 1 + d1 = (n : Int) := ⟨(1 + d1).toNat, by omega⟩
    have hn3 : 1 ≤ n ∧ n ≤ 6 := by omega
    dsimp only
    rw [hn]
    refine ⟨Nat.zero_le _, fun Rw nRw => ?_⟩
    have oRw := D1.off nRw
    have fRw := X1.nil D1 nRw
    have D1' := D1.new nRw (o := .lst [])
    refine ⟨.ref st, rfl, st, c, r, t + 1, _, rfl, D1', by omega, by decide, by decide, fun H2 d2 h20 h21 D2 X2 => ⟨_, _, rfl, rfl, ?_⟩⟩
    refine ⟨1 + d2, rfl, by omega, by omega, for_it (walk_range (lo := 0) (n := (1 + d2).toNat))
      (fun i σ H4 => ∃ (y4 : Option V) (t4 : Nat) (vs : List V) (gs : List Gp), σ = [some (.ref st), some (.int mo), some (.int n), some (.ref Rw), y4, none, none, none, none, none, none] ∧ DS H4 st c r t4 ∧ t4 ≤ t + 2 + 20 * i ∧ Ext st r H H4 ∧
        H4 Rw = some (.lst vs) ∧ DpAll K H4 vs (gs.map dGrp) ∧ gs.length = i ∧ ∀ g ∈ gs, g.1.length ≤ n ∧ (∀ p ∈ g.1, 0 ≤ p ∧ p < (n : Int)) ∧ (1 ≤ g.2 ∧ g.2 ≤ 10 ^ 12) ∧ g.1.Nodup)
      ⟨none, t + 2, [], [], rfl, D2, by omega, (X1.trans (Ext.of (sameNew nRw))).trans X2, X2 _ _ upd_same oRw.1 oRw.2.2, .nil, rfl, fun g h => by simp at h⟩ (fun _ _ _ _ _ => trivial) ?_ ?_⟩
    · rintro i v σ H4 H4' hlt ⟨y4, t4, vs, gs, rfl, d4, ht4, x4, eR, hvs, lgs, bgs⟩ ⟨rfl, rfl⟩
      have hi10 : i < 10 := by omega
      have hvl : vs.length = i := by rw [DpAll.len hvs, List.length_map, lgs]
      refine ⟨.ref Rw, rfl, .inl ⟨rfl, _, SqL.of eR⟩, .ref st, rfl, .int n, rfl, st, c, r, t4, n, rfl, d4, by omega, hn3.1, by omega, fun H5 p5 t5 ws D5 ht5 X5 e5 l5 b5 nd5 => ?_⟩
      refine ⟨.ref st, rfl, st, c, r, t5, rfl, D5, by omega, fun H6 am t6 ha1 ha2 D6 ht6 X6 => ⟨(show (2 : Nat) ≤ sizeLine by decide), fun Gr nGr => ?_⟩⟩
      have eF6 := X6 _ _ (X5 _ _ eR oRw.1 oRw.2.2) oRw.1 oRw.2.2
      have eF8 := upNew nGr (o := .tup [.ref p5, .int am]) eF6
      have tk6 := (X5.tup d4).trans (X6.tup D5)
      have tkz : TupK H6 (upd (upd H6 Gr (.tup [.ref p5, .int am])) Rw (.lst (vs ++ [.ref Gr]))) := (TupK.new nGr).trans (TupK.put eF8)
      refine ⟨Rw, vs, _, rfl, rfl, eF8, by rw [hvl]; exact small (by omega), _, t6, vs ++ [.ref Gr], gs ++ [(ws, am)], rfl, (D6.new nGr).put oRw.1 oRw.2.1 oRw.2.2, by omega, ExtPut (((x4.trans X5).trans X6).trans (Ext.of (sameNew nGr))) fRw, upd_same, ?_, by simp [lgs], ?_⟩
      · rw [List.map_append]
        refine DpAll.snoc ((tk6.trans tkz).dpAll _ _ (to_grps _) hvs) (.tup (SqT.of ?_) (.cons (dI_sq (tkz.sq ((X6.tup D5).sq (SqT.of e5)))) (.cons (.int _) .nil)))
        rw [upd_ne (ne_of_none eF6 nGr).symm]
        exact upd_same
      · intro g hg
        rw [List.mem_append] at hg
        rcases hg with h | h
        · exact bgs g h
        · simp only [List.mem_singleton] at h
          subst h
          exact ⟨l5, b5, ⟨ha1, ha2⟩, nd5⟩
    · rintro σ Hr ⟨y4, t4, vs, gs, rfl, d4, ht4, x4, eR, hvs, lgs, bgs⟩
      have hvl : vs.length = gs.length := by rw [DpAll.len hvs, List.length_map]
      refine ⟨Nat.zero_le _, fun Sz nSz => ?_⟩
      have oSz := d4.off nSz
      have fSz := x4.nil d4 nSz
      have nRS : Rw ≠ Sz := ne_of_none eR nSz
      refine ⟨.int n, rfl, n, rfl, by omega, by omega, for_it (walk_range (lo := 0) (n := (n : Int).toNat))
        (fun j σ H5 => ∃ (z4 z6 z7 z8 : Option V) (t5 : Nat) (ls : List Int), σ = [some (.ref st), some (.int mo), some (.int n), some (.ref Rw), z4, some (.ref Sz), z6, z7, z8, none, none] ∧ DS H5 st c r t5 ∧ t5 ≤ t4 + 10 * j ∧ Ext st r H H5 ∧ TupK Hr H5 ∧
          H5 Rw = some (.lst vs) ∧ H5 Sz = some (.lst (ls.map V.int)) ∧ ls.length = j ∧ ∀ x ∈ ls, 1 ≤ x ∧ x ≤ 10 ^ 12)
        ⟨_, none, none, none, t4, [], rfl, d4.new nSz, by omega, x4.trans (Ext.of (sameNew nSz)), TupK.new nSz, upNew nSz eR, upd_same, rfl, fun x h => by simp at h⟩ (fun _ _ _ _ _ => trivial) ?_ ?_⟩
      · rintro j v σ H5 H5' hltj ⟨z4, z6, z7, z8, t5, ls, rfl, d5, ht5, x5, tk5, eR5, eS5, lS5, bS5⟩ ⟨rfl, rfl⟩
        have hj6 : j < 6 := by omega
        refine ⟨.ref Rw, rfl, Rw, rfl, ⟨_, SqL.of eR5⟩, fun D nD => lc_it (walk_list (K := K) (a := Rw) (xs := vs))
          (fun m H6 => Same H5' H6 ∧ ∃ ks : List Int, H6 D = some (.lst (ks.map V.int)) ∧ ks.length ≤ m) ⟨sameNew nD, [], upd_same, Nat.le_refl _⟩ (fun m H6 _ h6 => SqL.of (h6.1 _ _ eR5)) ?_ ?_⟩
        · rintro m x H6 H6' hltm ⟨s6, ks, e6, l6⟩ ⟨rfl, hx⟩
          obtain ⟨dd, hdd, hxd⟩ := DpAll.at hvs hx
          rw [List.getElem?_map] at hdd
          obtain ⟨g, hgi, rfl⟩ := Option.map_eq_some_iff.mp hdd
          obtain ⟨gAd, pA, rfl, hG, hP⟩ := grp_ref ((tk5.trans (TupK.of s6)).dp _ _ (to_dGrp g) hxd)
          refine ⟨gAd, _, rfl, hG, rfl, _, _, rfl, _, _, rfl, rfl, rfl, .ref pA, rfl, 1, rfl, first_eq hP (fun H7 b s7 hb => ⟨_, rfl, (show (1 : Nat) ≤ sizeLine by decide), fun p2 n2 => ⟨dI (g.1.take 1), dI [(0 : Int) + (j : Nat)], dI_sq ((TupK.new n2).sq hb), dI_sq (SqT.of upd_same), shaped_dI _, shaped_dI _, _, rfl, ite2 (fun h1 => ?_) (fun h1 => ?_)⟩⟩)⟩
          · have e8 := upNew n2 (o := .tup [.int ((0 : Int) + (j : Nat))]) (s7 _ _ e6)
            refine ⟨_, rfl, _, e8, ?_, samePut ((s6.trans s7).trans (sameNew n2)) nD, ks ++ [g.2], ?_, by simp; omega⟩
            · rw [List.length_map]; exact small (by omega)
            · rw [upd_same, List.map_append]; rfl
          · exact ⟨(s6.trans s7).trans (sameNew n2), ks, upNew n2 (s7 _ _ e6), by omega⟩
        rintro H6 ⟨s6, ks, e6, l6⟩
        have d6 := d5.same s6
        refine ⟨D, ks, rfl, SqL.of e6, ?_⟩
        refine ⟨_, _, rfl, rfl, ⟨by decide, by decide, by decide⟩, .int ks.sum, rfl, .ref st, rfl, st, c, r, t5, _, rfl, d6, by omega, by decide, by decide, fun H7 d7 h70 h71 D7 X7 => ⟨_, _, rfl, rfl, _, _, rfl, rfl, _, _, rfl, _, _, rfl, ?_⟩⟩
        have x7 := (x5.trans (Ext.of s6)).trans X7
        have eS7 := X7 _ _ (s6 _ _ eS5) oSz.1 oSz.2.2
        have eR7 := X7 _ _ (s6 _ _ eR5) oRw.1 oRw.2.2
        have tk7 := (tk5.trans (TupK.of s6)).trans (X7.tup d6)
        have t12 : (10 : Int) ^ (12 : Int).toNat = 1000000000000 := by decide
        obtain ⟨nr, hnr, hnr1, hnr2⟩ : ∃ nr : Int, (if (if ks.sum + d7 - 2 < (10 : Int) ^ (12 : Int).toNat then ks.sum + d7 - 2 else (10 : Int) ^ (12 : Int).toNat) > 1 then (if ks.sum + d7 - 2 < (10 : Int) ^ (12 : Int).toNat then ks.sum + d7 - 2 else (10 : Int) ^ (12 : Int).toNat) else 1) = nr ∧ 1 ≤ nr ∧ nr ≤ 10 ^ 12 := by
          refine ⟨_, rfl, ?_, ?_⟩
          · split <;> omega
          · split
            · split <;> rw [t12] at * <;> omega
            · omega
        rw [hnr]
        refine ⟨.ref Sz, rfl, .inl ⟨rfl, _, SqL.of eS7⟩, .ref st, rfl, .int nr, rfl, .int nr, rfl, .ref st, rfl, st, c, r, t5 + 1, rfl, D7, by omega, fun H8 am t8 ha1 ha2 D8 ht8 X8 => ?_⟩
        refine ⟨(show (3 : Nat) ≤ sizeLine by decide), fun L nL => ?_⟩
        have oL := D8.off nL
        refine ⟨st, c, r, L, t8, _, rfl, D8.new nL, by omega, upd_same, oL.1, oL.2.2, by simp, by simp, fun H9 jj x hx D9 X9 => ?_⟩
        obtain ⟨xv, rfl, hx1, hx2⟩ : ∃ xv : Int, x = .int xv ∧ 1 ≤ xv ∧ xv ≤ 10 ^ 12 := by
          have hm := List.mem_of_getElem? hx
          simp only [List.mem_cons, List.not_mem_nil, or_false] at hm
          rcases hm with rfl | rfl | rfl
          · exact ⟨nr, rfl, hnr1, hnr2⟩
          · exact ⟨nr, rfl, hnr1, hnr2⟩
          · exact ⟨am, rfl, ha1, ha2⟩
        have eS9 := X9 _ _ (upNew nL (X8 _ _ eS7 oSz.1 oSz.2.2)) oSz.1 oSz.2.2
        have eR9 := X9 _ _ (upNew nL (X8 _ _ eR7 oRw.1 oRw.2.2)) oRw.1 oRw.2.2
        refine ⟨Sz, _, _, rfl, rfl, eS9, by rw [List.length_map]; exact small (by omega), _, _, _, _, t8 + 1, ls ++ [xv], rfl, D9.put oSz.1 oSz.2.1 oSz.2.2, by omega, ExtPut (((x7.trans X8).trans (Ext.of (sameNew nL))).trans X9) fSz, (((tk7.trans (X8.tup D7)).trans (TupK.new nL)).trans (X9.tup (D8.new nL))).trans (TupK.put eS9), by rw [upd_ne nRS]; exact eR9, ?_, by simp [lS5], ?_⟩
        · rw [upd_same, List.map_append]; rfl
        · intro y hy
          rw [List.mem_append] at hy
          rcases hy with h | h
          · exact bS5 y h
          · simp only [List.mem_singleton] at h; omega
      · rintro σ H5 ⟨z4, z6, z7, z8, t5, ls, rfl, d5, ht5, x5, tk5, eR5, eS5, lS5, bS5⟩
        refine ⟨.ref Sz, rfl, Sz, _, rfl, .inl ⟨SqL.of eS5, fun Ct nCt => ⟨.ref Rw, rfl, Rw, _, rfl, .inl ⟨SqL.of (upNew nCt eR5), fun Gt nGt => ⟨(show (2 : Nat) ≤ sizeLine by decide), fun In nIn => ?_⟩⟩⟩⟩⟩
        have tkz : TupK H5 (upd (upd (upd H5 Ct (.tup (ls.map V.int))) Gt (.tup vs)) In (.tup [.ref Ct, .ref Gt])) := ((TupK.new nCt).trans (TupK.new nGt)).trans (TupK.new nIn)
        have hl5 : ls.length = n := by omega
        refine q _ In t5 ls gs (((d5.new nCt).new nGt).new nIn) (by omega) (((x5.trans (Ext.of (sameNew nCt))).trans (Ext.of (sameNew nGt))).trans (Ext.of (sameNew nIn)))
          (.tup (SqT.of upd_same) (.cons (dI_sq (((TupK.new nGt).trans (TupK.new nIn)).sq (SqT.of upd_same))) (.cons (.tup (SqT.of (upNew nIn upd_same)) ((tk5.trans tkz).dpAll _ _ (to_grps _) hvs)) .nil))) ⟨by omega, by omega, bS5, by omega, by omega, ?_⟩ (fun g hg => (bgs g hg).2.2.2)
        rw [hl5]
        exact fun g hg => ⟨by have := (bgs g hg).1; omega, (bgs g hg).2.1, (bgs g hg).2.2.1.1, (bgs g hg).2.2.1.2⟩
end
end Pv

namespace Pv
open PySem PySem.Spec PyProof.Rows L2
abbrev sAs : Stmt := topS 14
theorem scAs : FnScope ["_law_stream_here", "_law_instance", "_law_left", "_law_found", "_law_rest_first", "_law_posts", "_law_count", "_law_rest", "_law_numbers", "_law_post", "_law_room", "_law_taken"] ["_law_stream_here", "_law_instance"] (defScope sAs) := ⟨rfl, rfl, rfl, by decide +kernel, rfl, by decide +kernel, by decide +kernel⟩
section
variable {P : Program} {w : World} {K : PySem.W.Frag} {mg : Str → Option Value} {base : Heap}
def rowLoads (ls : List Int) (ps row : List Int) : List Int := (ps.zip row).foldl (fun l q => addAt l q.1 q.2) ls
def loadsFrom (ls : List Int) (gs : List Gp) (rows : List (List Int)) : List Int := (gs.zip rows).foldl (fun l q => rowLoads l q.1.1 q.2) ls
theorem rowLoads_len (ps row : List Int) (ls : List Int) : (rowLoads ls ps row).length = ls.length := by
  unfold rowLoads
  generalize ps.zip row = z
  induction z generalizing ls with
  | nil => rfl
  | cons q z ih => rw [List.foldl_cons, ih, addAt_len]
theorem loadsFrom_len (gs : List Gp) (rows : List (List Int)) (ls : List Int) : (loadsFrom ls gs rows).length = ls.length := by
  unfold loadsFrom
  generalize gs.zip rows = z
  induction z generalizing ls with
  | nil => rfl
  | cons q z ih => rw [List.foldl_cons, ih, rowLoads_len]
def Shp (gs : List Gp) (rows : List (List Int)) : Prop := rows.length = gs.length ∧ ∀ (i : Nat) (g : Gp) (row : List Int), gs[i]? = some g → rows[i]? = some row → row.length = g.1.length + 1
def Bd (rows : List (List Int)) : Prop := ∀ row ∈ rows, ∀ x ∈ row, 0 ≤ x ∧ x ≤ 10 ^ 12
theorem Shp.snoc {gs : List Gp} {rows : List (List Int)} {i : Nat} {g : Gp} {row : List Int} (h : Shp (gs.take i) rows) (hg : gs[i]? = some g) (hr : row.length = g.1.length + 1) : Shp (gs.take (i + 1)) (rows ++ [row]) := by
  have hil : i < gs.length := (List.getElem?_eq_some_iff.mp hg).1
  have hl : rows.length = i := by rw [h.1, List.length_take]; omega
  rw [take_snoc hg]
  refine ⟨by simp [hl]; omega, ?_⟩
  intro j g' row' h1 h2
  by_cases hj : j < i
  · rw [List.getElem?_append_left (by rw [List.length_take]; omega)] at h1
    rw [List.getElem?_append_left (by omega)] at h2
    exact h.2 j g' row' h1 h2
  · rw [List.getElem?_append_right (by omega)] at h2
    rw [List.getElem?_append_right (by rw [List.length_take]; omega)] at h1
    have e : j - rows.length = 0 := by
      have := (List.getElem?_eq_some_iff.mp h2).1; simp at this; omega
    have e1 : j - (gs.take i).length = 0 := by rw [List.length_take]; omega
    rw [e] at h2; rw [e1] at h1
    simp at h1 h2
    rw [← h1, ← h2]; exact hr
theorem rowLoads_snoc {ls ps row : List Int} {j : Nat} {p x : Int} (hp : ps[j]? = some p) (hl : row.length = j) : rowLoads ls (ps.take (j + 1)) (row ++ [x]) = addAt (rowLoads ls (ps.take j) row) p x := by
  have l1 := (List.getElem?_eq_some_iff.mp hp).1
  unfold rowLoads
  rw [take_snoc hp, List.zip_append (by rw [List.length_take]; omega), List.foldl_append]
  rfl
theorem rowLoads_more {ls ps row : List Int} {x : Int} (hl : row.length = ps.length) : rowLoads ls ps (row ++ [x]) = rowLoads ls ps row := by
  unfold rowLoads
  congr 1
  have := List.zip_append (l₁ := ps) (r₁ := []) (l₂ := row) (r₂ := [x]) hl.symm
  simpa using this
theorem loadsFrom_snoc {ls : List Int} {gs : List Gp} {rows : List (List Int)} {i : Nat} {g : Gp} {row : List Int} (hg : gs[i]? = some g) (hl : rows.length = i) : loadsFrom ls (gs.take (i + 1)) (rows ++ [row]) = rowLoads (loadsFrom ls (gs.take i) rows) g.1 row := by
  have l1 := (List.getElem?_eq_some_iff.mp hg).1
  unfold loadsFrom
  rw [take_snoc hg, List.zip_append (by rw [List.length_take]; omega), List.foldl_append]
  rfl
theorem addAt_get {ls : List Int} {p : Nat} {x : Int} (hp : p < ls.length) (k : Nat) : (addAt ls (p : Int) x).getD k 0 = if k = p then ls.getD p 0 + x else ls.getD k 0 := by
  unfold addAt
  rw [Int.toNat_natCast]
  simp only [List.getD_eq_getElem?_getD, List.getElem?_set]
  by_cases h : p = k
  · subst h; simp [hp]
  · have h' : ¬ k = p := fun z => h z.symm
    simp [h, h']
/-- what a drawn assignment is -/
def Fits (cs : List Int) (gs : List Gp) (rows : List (List Int)) : Prop := ∃ pls : List Int, pls.length = cs.length ∧ (∀ x ∈ pls, 0 ≤ x) ∧ ∀ p, p < cs.length → pls.getD p 0 + (loadsFrom (zeros cs.length) gs rows).getD p 0 = cs.getD p 0
def spAs (K : PySem.W.Frag) : Sp := fun vs H Q _ => ∃ (st c r i : Addr) (t : Nat) (cs : List Int) (gs : List Gp), vs = [.ref st, .ref i] ∧ DS H st c r t ∧ t + 200 ≤ 1000000 ∧ Dp K H (.ref i) (dInst cs gs) ∧ InsOk cs gs ∧
  ∀ (H' : Hp) (p : Addr) (t' : Nat) (rows : List (List Int)), DS H' st c r t' → t' ≤ t + 200 → Ext st r H H' → Dp K H' (.ref p) (dAsg rows) → Shp gs rows → Bd rows → (∀ (k : Nat) (g : Gp) (row : List Int), gs[k]? = some g → rows[k]? = some row → row.sum = g.2) → Fits cs gs rows → Q (.ref p) H'
set_option maxHeartbeats 4000000 in
theorem ok_As {f fDr : Addr} {fd fdDr : FuncData} (F : Fun K "_law_assignment" "_law_assignment" sAs f fd)
    (FDr : Fun K "_law_draw" "_law_draw" sDraw fDr fdDr) (bDr : Binds K fdDr ["_law_stream_here", "_law_bound"] []) (gDr : mg "_law_draw" = some (.ref fDr)) (GDr : FnOk P w K mg base CX0 1 fDr fdDr ["_law_stream_here", "_law_bound"] spDraw)
    (m_list : mg "list" = none) (m_min : mg "min" = none) (m_int : mg "int" = none) (m_tuple : mg "tuple" = none) :
    FnOk P w K mg base CX0 2 f fd ["_law_stream_here", "_law_instance"] (spAs K) := by
  refine F.ok scAs (fun vs H Q E h => ?_) (fun cdv A outer s H vs Q E hr h => ?_)
  · obtain ⟨st, c, r, i, t, cs, gs, rfl, _⟩ := h; rfl
  · obtain ⟨st, c, r, i, t, cs, gs, rfl, hd, ht, hI, ok, q⟩ := h
    refine ⟨_, pss_cons (ps_set (i := 2) scAs.nd rfl (.inl rfl) (pe_callTy call_list_of (by rfl) m_list (by decide +kernel) (pa_cons (pe_ix ix_tup (pv 1) (pe_int) (fun _ _ => rfl)) pa_nil)))
      (pss_cons (ps_set (i := 3) scAs.nd rfl (.inl rfl) (pe_lst (pa_nil)))
      (pss_cons (ps_set (i := 4) scAs.nd rfl (.inl rfl) (pe_call GDr (hr.mono (by omega)) (by rfl) gDr FDr.kp bDr .nil pass0 (pa_cons (pv 0) (pa_cons (pe_int) pa_nil))))
      (pss_cons (ps_for PassesOwn.never rfl (pi_tup (pe_ix ix_tup (pv 1) (pe_int) (fun _ _ => rfl))) (pg_tup rfl (pgs_cons (pg_name (i := 5) scAs.nd rfl (.inl rfl)) (pgs_cons (pg_name (i := 6) scAs.nd rfl (.inl rfl)) pgs_nil)))
        (pss_cons (ps_par (i := 7) (j := 8) rfl scAs.nd rfl rfl (by decide) rfl rfl (pa_cons (pv 6) (pa_cons (pe_lst (pa_nil)) pa_nil)) rfl)
        (pss_cons (ps_for PassesOwn.never rfl (pi_tup (pv 5)) (pg_name (i := 9) scAs.nd rfl (.inl rfl))
          (pss_cons (ps_set (i := 10) scAs.nd rfl (.inl rfl) (pe_callB (call_min2 rfl) (by rfl) m_min (by decide +kernel) (pa_cons (pv 7) (pa_cons (pe_ix ix_list (pv 2) (pv 9) (fun _ _ => rfl)) pa_nil))))
          (pss_cons (ps_set (i := 11) scAs.nd rfl (.inl rfl) (pe_ix ix_list (pe_lst (pa_cons (pv 10) (pa_cons (pe_op op_mul (pv 10) (pe_callTy call_int1 (by rfl) m_int (by decide +kernel) (pa_cons (pe_cmpR op_eq (pv 4) (pe_int) (nomark _)) pa_nil))) (pa_cons (pe_call GDr (hr.mono (by omega)) (by rfl) gDr FDr.kp bDr .nil pass0 (pa_cons (pv 0) (pa_cons (pe_op op_add (pv 10) (pe_int)) pa_nil))) pa_nil)))) (pe_call GDr (hr.mono (by omega)) (by rfl) gDr FDr.kp bDr .nil pass0 (pa_cons (pv 0) (pa_cons (pe_int) pa_nil))) (fun _ _ => rfl)))
          (pss_cons (ps_asg (pe_op op_sub (pe_ix ix_list (pv 2) (pv 9) (fun _ _ => rfl)) (pv 11)) (pg_sub (pv 2) (pv 9) set_list))
          (pss_cons (ps_set (i := 7) scAs.nd rfl (.inl rfl) (pe_op op_sub (pv 7) (pv 11)))
          (pss_one (ps_expr (pe_bm PySem.F.plainAttrs_list PySem.F.slot_list_append PySem.F.type_list_append mt_append (pv 8) (pa_cons (pv 11) pa_nil)))))))))
        (pss_one (ps_expr (pe_bm PySem.F.plainAttrs_list PySem.F.slot_list_append PySem.F.type_list_append mt_append (pv 3) (pa_cons (pe_callTy call_tupQ (by rfl) m_tuple (by decide +kernel) (pa_cons (pe_op op_cat (pv 8) (pe_lst (pa_cons (pv 7) pa_nil))) pa_nil)) pa_nil)))))))
      (pss_one (ps_ret (pe_callTy call_tupQ (by rfl) m_tuple (by decide +kernel) (pa_cons (pv 3) pa_nil))))))), ?_⟩
    obtain ⟨_, ca, ga, xs, e, hi, hc, hg, hgs⟩ := inst_open hI
    cases e
    have lx := DpAll.len hgs
    rw [List.length_map] at lx
    refine ⟨.ref i, rfl, i, _, 0, .ref ca, rfl, rfl, hi, atI_nat (j := 0) rfl, ca, _, rfl, .inr hc, fun Pl nPl => ⟨Nat.zero_le _, fun Fo nFo => ?_⟩⟩
    have oPl := hd.off nPl
    have d1 := (hd.new nPl (o := .lst (cs.map V.int))).new nFo (o := .lst [])
    have oFo := (hd.new nPl (o := .lst (cs.map V.int))).off nFo
    have fFo : H Fo = none := freeOf nFo
    have nPF : Pl ≠ Fo := ne_of_none upd_same nFo
    have s1 : Same H (upd (upd H Pl (.lst (cs.map V.int))) Fo (.lst [])) := (sameNew nPl).trans (sameNew nFo)
    refine ⟨.ref st, rfl, st, c, r, t, _, rfl, d1, by omega, by decide, by decide, fun H1 rf hrf0 hrf1 D1 X1 => ?_⟩
    have x1 := (Ext.of s1).trans X1
    have tk1 := x1.tup hd
    refine ⟨.ref i, rfl, i, _, 1, .ref ga, rfl, rfl, tk1.sq hi, atI_nat (j := 1) rfl, ga, rfl, ⟨_, tk1.sq hg⟩, for_it (walk_tup (K := K) (a := ga) (xs := xs))
      (fun i' σ H2 => ∃ y5 y6 y7 y8 y9 y10 y11 t' pls vs rows, σ = [some (.ref st), some (.ref i), some (.ref Pl), some (.ref Fo), some (.int rf), y5, y6, y7, y8, y9, y10, y11] ∧ DS H2 st c r t' ∧ t' ≤ t + 1 + 18 * i' ∧ Ext st r H H2 ∧
        H2 Pl = some (.lst (List.map V.int pls)) ∧ pls.length = cs.length ∧ (∀ x ∈ pls, 0 ≤ x ∧ x ≤ 10 ^ 12) ∧ H2 Fo = some (.lst vs) ∧ DpAll K H2 vs (List.map dI rows) ∧ Shp (gs.take i') rows ∧ Bd rows ∧ (∀ p, p < cs.length → pls.getD p 0 + (loadsFrom (zeros cs.length) (gs.take i') rows).getD p 0 = cs.getD p 0) ∧ ∀ (k : Nat) (g : Gp) (row : List Int), (gs.take i')[k]? = some g → rows[k]? = some row → row.sum = g.2)
      ⟨none, none, none, none, none, none, none, t + 1, cs, [], [], rfl, D1, by omega, x1, X1 _ _ (upNew nFo upd_same) oPl.1 oPl.2.2, rfl, fun x hx => ⟨by have := (ok.cb x hx).1; omega, (ok.cb x hx).2⟩, X1 _ _ upd_same oFo.1 oFo.2.2, .nil, ⟨by simp, by intro j g row h; simp at h⟩, (fun row h => by simp at h), (fun p hp => by simp [loadsFrom, zeros, List.getD_eq_getElem?_getD, hp]), fun k g row h => by simp at h⟩ ?_ ?_ ?_⟩
    · rintro i' σ H2 _ ⟨y5, y6, y7, y8, y9, y10, y11, t', pls, vs, rows, rfl, d2, _, x2, _⟩
      exact (x2.tup hd).sq hg
    · rintro i' v σ H2 H3 hlt ⟨y5, y6, y7, y8, y9, y10, y11, t', pls, vs, rows, rfl, d2, ht2, x2, eP, lP, bP, eF, hvs, hsh, hbd, hld, hsm⟩ ⟨rfl, hx⟩
      obtain ⟨d, hdd, hxd⟩ := DpAll.at hgs hx
      rw [List.getElem?_map] at hdd
      obtain ⟨g, hgi, rfl⟩ := Option.map_eq_some_iff.mp hdd
      obtain ⟨gA, pA, rfl, hG, hP⟩ := grp_ref hxd
      have tk2 := x2.tup hd
      obtain ⟨gl6, gpr, gc1, gc2⟩ := ok.gp g (List.mem_of_getElem? hgi)
      have hi10 : i' < 10 := by have := ok.g10; omega
      refine ⟨gA, _, rfl, tk2.sq hG, rfl, _, _, rfl, _, _, rfl, rfl, ?_⟩
      refine ⟨.int g.2, rfl, Nat.zero_le _, fun Nu nNu => ⟨_, _, rfl, ?_⟩⟩
      have oNu := d2.off nNu
      have nNP : Pl ≠ Nu := ne_of_none eP nNu
      have nNF : Fo ≠ Nu := ne_of_none eF nNu
      have hNu : H Nu = none := by
        cases e : H Nu with
        | none => rfl
        | some o => rw [x2 _ _ e oNu.1 oNu.2.2] at nNu; cases nNu
      generalize hH4 : upd H3 Nu (.lst []) = H4
      have eN4 : H4 Nu = some (.lst []) := by rw [← hH4]; exact upd_same
      have s4 : Same H3 H4 := by rw [← hH4]; exact sameNew nNu
      have tk4 := tk2.trans (TupK.of s4)
      refine ⟨.ref pA, rfl, pA, rfl, ⟨_, tk4.sq hP⟩, for_it (walk_tup (K := K) (a := pA) (xs := g.1.map V.int))
        (fun j σ H5 => ∃ (y9 y10 y11 : Option V) (cnt : Int) (t5 : Nat) (ps2 nums : List Int), σ = [some (.ref st), some (.ref i), some (.ref Pl), some (.ref Fo), some (.int rf), some (.ref pA), some (.int g.2), some (.int cnt), some (.ref Nu), y9, y10, y11] ∧ DS H5 st c r t5 ∧ t5 ≤ t' + 3 * j ∧
          Ext st r H H5 ∧ TupK H3 H5 ∧ H5 Pl = some (.lst (ps2.map V.int)) ∧ ps2.length = cs.length ∧ (∀ x ∈ ps2, 0 ≤ x ∧ x ≤ 10 ^ 12) ∧ H5 Fo = some (.lst vs) ∧
          H5 Nu = some (.lst (nums.map V.int)) ∧ nums.length = j ∧ (∀ x ∈ nums, 0 ≤ x ∧ x ≤ 10 ^ 12) ∧ 0 ≤ cnt ∧ cnt ≤ 10 ^ 12 ∧ nums.sum + cnt = g.2 ∧ ∀ p, p < cs.length → ps2.getD p 0 + (rowLoads (loadsFrom (zeros cs.length) (gs.take i') rows) (g.1.take j) nums).getD p 0 = cs.getD p 0)
        ⟨y9, y10, y11, g.2, t', pls, [], rfl, d2.same s4, by omega, x2.trans (Ext.of s4), TupK.of s4, s4 _ _ eP, lP, bP, s4 _ _ eF, eN4, rfl, (fun x h => by simp at h), by omega, gc2, by simp, by simpa [rowLoads] using hld⟩ ?_ ?_ ?_⟩
      · rintro j σ H5 _ ⟨y9, y10, y11, cnt, t5, ps2, nums, rfl, d5, ht5, x5, tk5, _⟩
        exact (tk2.trans tk5).sq hP
      · rintro j v σ H5 H6 hltj ⟨y9, y10, y11, cnt, t5, ps2, nums, rfl, d5, ht5, x5, tk5, eP5, lP5, bP5, eF5, eN5, lN5, bN5, c0, c1, hsum5, hld5⟩ ⟨rfl, hx2⟩
        rw [List.getElem?_map] at hx2
        obtain ⟨pp, hpp, rfl⟩ := Option.map_eq_some_iff.mp hx2
        have hpr := gpr pp (List.mem_of_getElem? hpp)
        obtain ⟨pn, rfl⟩ : ∃ pn : Nat, pp = pn := ⟨pp.toNat, by omega⟩
        have hpl : pn < ps2.length := by omega
        have hj6 : j < 6 := by have := (List.getElem?_eq_some_iff.mp hpp).1; omega
        have hpv : (ps2.map V.int)[pn]? = some (.int ps2[pn]) := by rw [List.getElem?_map, List.getElem?_eq_getElem hpl]; rfl
        have hpb := bP5 ps2[pn] (List.getElem_mem hpl)
        -- room
        refine ⟨.int cnt, rfl, .ref Pl, rfl, .int pn, rfl, Pl, _, _, .int ps2[pn], rfl, rfl, SqL.of eP5, atI_nat hpv, _, _, rfl, ?_⟩
        obtain ⟨rm, hrm, hr0, hr1, hr2⟩ : ∃ rm : Int, (if ps2[pn] < cnt then ps2[pn] else cnt) = rm ∧ 0 ≤ rm ∧ rm ≤ cnt ∧ rm ≤ ps2[pn] := ⟨_, rfl, by split <;> omega, by split <;> omega, by split <;> omega⟩
        rw [hrm]
        refine ⟨.int rm, rfl, .int rm, rfl, .int rf, rfl, rfl, .inr ⟨_, rfl, _, _, rfl, rfl, .inr ⟨by split <;> decide, by split <;> decide⟩, .ref st, rfl, .int rm, rfl, _, _, rfl, rfl, st, c, r, t5, _, rfl, d5, by omega, by omega, by omega, fun H7 dd h70 h71 D7 X7 => ?_⟩⟩
        refine ⟨(show (3 : Nat) ≤ sizeLine by decide), fun Lt nLt => ⟨.ref st, rfl, st, c, r, t5 + 1, _, rfl, D7.new nLt, by omega, by decide, by decide, fun H8 kk h80 h81 D8 X8 => ?_⟩⟩
        obtain ⟨oL1, _, oL3⟩ := D7.off nLt
        have eL8 := X8 _ _ upd_same oL1 oL3
        have x8 := (X7.trans (Ext.of (sameNew nLt))).trans X8
        have tk58 : TupK H6 H8 := x8.tup d5
        obtain ⟨d, hat, h0, hd1, hd2⟩ : ∃ d : Int, atI [V.int rm, V.int (rm * (if decide (V.int rf = V.int 0) = true then 1 else 0)), V.int dd] kk = some (.int d) ∧ 0 ≤ d ∧ d ≤ cnt ∧ d ≤ ps2[pn] := by
          obtain h | h | h : kk = 0 ∨ kk = 1 ∨ kk = 2 := by omega
          · exact ⟨rm, by rw [h]; rfl, hr0, hr1, hr2⟩
          · refine ⟨_, by rw [h]; rfl, ?_⟩
            split <;> omega
          · exact ⟨dd, by rw [h]; rfl, h70, by omega, by omega⟩
        refine ⟨Lt, _, _, _, rfl, rfl, SqL.of eL8, hat, ?_⟩
        have eP7 := x8 _ _ eP5 oPl.1 oPl.2.2
        have eF7 := x8 _ _ eF5 oFo.1 oFo.2.2
        have eN7 := x8 _ _ eN5 oNu.1 oNu.2.2
        refine ⟨.ref Pl, rfl, .int pn, rfl, Pl, _, _, .int ps2[pn], rfl, rfl, SqL.of eP7, atI_nat hpv, .int d, rfl, _, _, rfl, rfl, .ref Pl, rfl, .int pn, rfl, Pl, _, _, pn, rfl, rfl, eP7, ixN_nat (by rw [List.length_map]; exact hpl), ?_⟩
        refine ⟨.int cnt, rfl, .int d, rfl, _, _, rfl, rfl, ?_⟩
        have eN8 : (upd H8 Pl (.lst ((ps2.map V.int).set pn (.int (ps2[pn] - d))))) Nu = some (.lst (nums.map V.int)) := by rw [upd_ne nNP.symm]; exact eN7
        refine ⟨.ref Nu, rfl, .inl ⟨rfl, _, SqL.of eN8⟩, .int d, rfl, Nu, _, _, rfl, rfl, eN8, ?_, ?_⟩
        · rw [List.length_map]; exact small (by omega)
        refine ⟨_, _, _, cnt - d, t5 + 2, ps2.set pn (ps2[pn] - d), nums ++ [d], rfl, (D8.put oPl.1 oPl.2.1 oPl.2.2).put oNu.1 oNu.2.1 oNu.2.2, by omega, ExtPut (ExtPut (x5.trans x8) nPl) hNu, ((tk5.trans tk58).trans (TupK.put eP7)).trans (TupK.put eN8), ?_, ?_, ?_, ?_, ?_, ?_, ?_, by omega, by omega, by rw [List.sum_append]; simp; omega, ?_⟩
        · rw [upd_ne nNP, upd_same, List.map_set]
        · rw [List.length_set]; exact lP5
        · intro x hx
          rcases List.mem_or_eq_of_mem_set hx with h | h
          · exact bP5 x h
          · rw [h]; omega
        · rw [upd_ne nNF, upd_ne nPF.symm]; exact eF7
        · rw [upd_same, List.map_append]; rfl
        · simp [lN5]
        · intro x hx
          rw [List.mem_append] at hx
          rcases hx with h | h
          · exact bN5 x h
          · simp at h; omega
        · intro p hp
          rw [rowLoads_snoc hpp lN5]
          have hrl : pn < (rowLoads (loadsFrom (zeros cs.length) (gs.take i') rows) (g.1.take j) nums).length := by rw [rowLoads_len, loadsFrom_len]; simp [zeros]; omega
          rw [addAt_get hrl]
          have e1 := hld5 p hp
          have e2 := hld5 pn (by omega)
          by_cases hpe : p = pn
          · subst hpe
            rw [if_pos rfl]
            have : (ps2.set p (ps2[p] - d)).getD p 0 = ps2[p] - d := by simp [List.getD_eq_getElem?_getD, hpl]
            have e3 : ps2.getD p 0 = ps2[p] := by simp [List.getD_eq_getElem?_getD, hpl]
            rw [this]; rw [e3] at e2; omega
          · rw [if_neg hpe]
            have : (ps2.set pn (ps2[pn] - d)).getD p 0 = ps2.getD p 0 := by simp only [List.getD_eq_getElem?_getD]; rw [List.getElem?_set_ne (fun z => hpe z.symm)]
            rw [this]; exact e1
      · rintro σ H5 ⟨z9, z10, z11, cnt, t5, ps2, nums, rfl, d5, ht5, x5, tk5, eP5, lP5, bP5, eF5, eN5, lN5, bN5, c0, c1, hsum5, hld5⟩
        rw [List.length_map] at ht5 lN5 hld5
        rw [List.take_length] at hld5
        have hvl : vs.length = i' := by rw [DpAll.len hvs, List.length_map, hsh.1, List.length_take]; omega
        -- found.append(tuple(numbers + [rest]))
        refine ⟨.ref Fo, rfl, .inl ⟨rfl, _, SqL.of eF5⟩, .ref Nu, rfl, .int cnt, rfl, (show (1 : Nat) ≤ sizeLine by decide), fun p1 n1 => ?_⟩
        refine ⟨Nu, p1, _, _, rfl, rfl, upNew n1 eN5, upd_same, ?_, fun p2 n2 => ⟨p2, _, rfl, .inl ⟨SqL.of upd_same, fun p n3 => ?_⟩⟩⟩
        · rw [List.length_map, lN5]; have := small (n := g.1.length + 1) (by omega); simp; omega
        have s9 := ((sameNew (o := .lst [.int cnt]) n1).trans (sameNew (o := .lst (nums.map V.int ++ [.int cnt])) n2)).trans (sameNew (o := .tup (nums.map V.int ++ [.int cnt])) n3)
        have h9 : SqT K (upd (upd (upd H5 p1 (.lst [.int cnt])) p2 (.lst (nums.map V.int ++ [.int cnt]))) p (.tup (nums.map V.int ++ [.int cnt]))) p ((nums ++ [cnt]).map V.int) := SqT.of (by rw [upd_same, List.map_append]; rfl)
        generalize upd (upd (upd H5 p1 (.lst [.int cnt])) p2 (.lst (nums.map V.int ++ [.int cnt]))) p (.tup (nums.map V.int ++ [.int cnt])) = H9 at s9 h9
        have eF9 := s9 _ _ eF5
        have tk9 : TupK H9 (upd H9 Fo (.lst (vs ++ [.ref p]))) := TupK.put eF9
        refine ⟨Fo, vs, .ref p, rfl, rfl, eF9, by rw [hvl]; exact small (by omega), _, _, _, _, _, _, _, t5, ps2, vs ++ [.ref p], rows ++ [nums ++ [cnt]], rfl, (d5.same s9).put oFo.1 oFo.2.1 oFo.2.2, by omega, ExtPut (x5.trans (Ext.of s9)) fFo, by rw [upd_ne nPF]; exact s9 _ _ eP5, lP5, bP5, upd_same, ?_, hsh.snoc hgi (by simp [lN5]), ?_, ?_, ?_⟩
        · rw [List.map_append]
          exact DpAll.snoc (((tk5.trans (TupK.of s9)).trans tk9).dpAll _ _ (to_rows _) hvs) (dI_sq (tk9.sq h9))
        · intro row hrow
          rw [List.mem_append] at hrow
          rcases hrow with h | h
          · exact hbd row h
          · simp at h
            subst h
            intro x hx
            rw [List.mem_append] at hx
            rcases hx with h | h
            · exact bN5 x h
            · simp at h; omega
        · intro p hp
          have hrl : rows.length = i' := by rw [hsh.1, List.length_take]; omega
          rw [loadsFrom_snoc hgi hrl, rowLoads_more lN5]
          exact hld5 p hp
        · intro k g' row' hk1 hk2
          have hrl : rows.length = i' := by rw [hsh.1, List.length_take]; omega
          rw [take_snoc hgi] at hk1
          by_cases hki : k < i'
          · rw [List.getElem?_append_left (by rw [List.length_take]; omega)] at hk1
            rw [List.getElem?_append_left (by omega)] at hk2
            exact hsm k g' row' hk1 hk2
          · rw [List.getElem?_append_right (by omega)] at hk2
            rw [List.getElem?_append_right (by rw [List.length_take]; omega)] at hk1
            have e0 : k - rows.length = 0 := by have := (List.getElem?_eq_some_iff.mp hk2).1; simp at this; omega
            have e1 : k - (gs.take i').length = 0 := by rw [List.length_take]; omega
            rw [e0] at hk2; rw [e1] at hk1
            simp at hk1 hk2
            rw [← hk1, ← hk2, List.sum_append]
            simpa using hsum5
    · rintro σ H2 ⟨y5, y6, y7, y8, y9, y10, y11, t', pls, vs, rows, rfl, d2, ht2, x2, eP, lP, bP, eF, hvs, hsh, hbd, hld, hsm⟩
      rw [lx, List.take_length] at hsh hld hsm
      have := ok.g10
      exact ⟨.ref Fo, rfl, Fo, _, rfl, .inl ⟨SqL.of eF, fun p np => q _ p t' rows (d2.new np) (by omega) (x2.trans (Ext.of (sameNew np))) (.tup (SqT.of upd_same) ((TupK.new np).dpAll _ _ (to_rows _) hvs)) hsh hbd hsm ⟨pls, lP, fun x hx => (bP x hx).1, hld⟩⟩⟩
end
end Pv

namespace Pv
open PySem PySem.Spec PyProof.Rows L2
abbrev sVo : Stmt := topS 1
theorem scVo : FnScope ["start", "end"] ["start", "end"] (defScope sVo) := ⟨rfl, rfl, rfl, by decide +kernel, rfl, by decide +kernel, by decide +kernel⟩
abbrev sLV : Stmt := topS 15
theorem scLV : FnScope ["_law_option", "_law_other"] ["_law_option", "_law_other"] (defScope sLV) := ⟨rfl, rfl, rfl, by decide +kernel, rfl, by decide +kernel, by decide +kernel⟩
abbrev sBg : Stmt := topS 4
theorem scBg : FnScope ["start", "costs", "end", "cost"] ["start", "costs"] (defScope sBg) := ⟨rfl, rfl, rfl, by decide +kernel, rfl, by decide +kernel, by decide +kernel⟩
abbrev sPl : Stmt := topS 3
theorem scPl : FnScope ["instance", "assignment", "prices", "total", "group", "share", "costs", "capacity", "price", "post", "start", "number"] ["instance", "assignment", "prices"] (defScope sPl) := ⟨rfl, rfl, rfl, by decide +kernel, rfl, by decide +kernel, by decide +kernel⟩
abbrev sLL : Stmt := topS 16
theorem scLL : FnScope ["_law_instance", "_law_assignment_here", "_law_prices", "_law_total", "_law_posts", "_law_count", "_law_numbers", "_law_costs", "_law_option", "_law_number", "_law_capacity", "_law_price", "_law_post", "_law_k"] ["_law_instance", "_law_assignment_here", "_law_prices"] (defScope sLL) := ⟨rfl, rfl, rfl, by decide +kernel, rfl, by decide +kernel, by decide +kernel⟩
def voteI (s e : Int) : Int := if e < s then 1 else if e > s then -1 else 0
def mx : List Int → Int
  | [] => 0
  | [a] => a
  | a :: b :: l => if mx (b :: l) < a then a else mx (b :: l)
theorem mx_spec : ∀ {l : List Int}, l ≠ [] → mx l ∈ l ∧ ∀ y ∈ l, y ≤ mx l
  | [], h => absurd rfl h
  | [a], _ => by simp [mx]
  | a :: b :: l, _ => by
    obtain ⟨h1, h2⟩ := mx_spec (l := b :: l) (by simp)
    simp only [mx]
    split
    · rename_i h
      refine ⟨by simp, fun y hy => ?_⟩
      rcases List.mem_cons.mp hy with rfl | hy
      · exact Int.le_refl _
      · have := h2 y hy; omega
    · rename_i h
      refine ⟨List.mem_cons_of_mem _ h1, fun y hy => ?_⟩
      rcases List.mem_cons.mp hy with rfl | hy
      · omega
      · exact h2 y hy
theorem mx_of {l : List Int} {m : Int} (h1 : m ∈ l) (h2 : ∀ y ∈ l, y ≤ m) : m = mx l := by
  obtain ⟨k1, k2⟩ := mx_spec (List.ne_nil_of_mem h1)
  have a := h2 _ k1
  have b := k2 _ h1
  omega
def gainAt (s : Int) (costs : List Int) (k : Nat) : Int := voteI s k - costs.getD k 0
def gains (s : Int) (costs : List Int) : List Int := (List.range costs.length).map (gainAt s costs)
def prAt (pr : List Int) (p : Int) : Int := pr.getD p.toNat 0
def costsOf (pr ps : List Int) : List Int := ps.map (prAt pr) ++ [0]
def partAt (costs row : List Int) (j : Nat) : Int := row.getD j 0 * mx (gains j costs)
def rowLim (costs row : List Int) : Int := ((List.range row.length).map (partAt costs row)).sum
def capLim (cs pr : List Int) : Int := ((List.range (min cs.length pr.length)).map fun j => cs.getD j 0 * pr.getD j 0).sum
def limI (cs : List Int) (gs : List Gp) (rows : List (List Int)) (pr : List Int) (n : Nat) : Int := capLim cs pr + ((List.range n).map fun j => rowLim (costsOf pr (gs.getD j ([], 0)).1) (rows.getD j [])).sum
theorem gains_snoc {s : Int} {costs : List Int} {k : Nat} (h : k < costs.length) : (gains s costs).take (k + 1) = (gains s costs).take k ++ [gainAt s costs k] := take_snoc (by simp [gains, h])
theorem lim_snoc (cs : List Int) (gs : List Gp) (rows : List (List Int)) (pr : List Int) (n : Nat) : limI cs gs rows pr (n + 1) = limI cs gs rows pr n + rowLim (costsOf pr (gs.getD n ([], 0)).1) (rows.getD n []) := by
  unfold limI
  rw [List.range_succ, List.map_append, List.sum_append]
  simp
  omega
theorem getD_at {α : Type} {l : List α} {i : Nat} {x d : α} (h : l[i]? = some x) : l.getD i d = x := by rw [List.getD_eq_getElem?_getD, h]; rfl
theorem walk_enumL {K : PySem.W.Frag} {a : Addr} {xs : List V} : Walk (Ite K a) xs.length (fun H => SqL K H a xs) (YPair (fun i => some (.int (i : Nat))) (fun i => xs[i]?)) := by
  constructor
  · intro i H hi q
    exact ⟨xs, xs[i], q, by simp [hi]⟩
  · intro H q
    exact ⟨xs, q, Nat.le_refl _⟩
  · rintro i H v H' _ q ⟨T, x, h1, h2, h3, h4⟩
    exact ⟨T, _, x, h1, h2, h3, rfl, h4 xs q⟩
section
variable {P : Program} {w : World} {K : PySem.W.Frag} {mg : Str → Option Value} {base : Heap}
def spVo : Sp := fun vs H Q _ => ∃ (s e : Int), vs = [.int s, .int e] ∧ Q (.int (voteI s e)) H
theorem ok_Vo {f : Addr} {fd : FuncData} (F : Fun K "vote" "vote" sVo f fd)
     :
    FnOk P w K mg base CX0 1 f fd ["start", "end"] spVo := by
  refine F.ok scVo (fun vs H Q E h => ?_) (fun cdv A outer s H vs Q E hr h => ?_)
  · obtain ⟨s, e, rfl, _⟩ := h; rfl
  · obtain ⟨s, e, rfl, q⟩ := h
    refine ⟨_, pss_cons (ps_if (pt_cmpR op_lt (pv 1) (pv 0) (nomark _))
        (pss_one (ps_ret (pe_int))) pss_nil)
      (pss_one (ps_ret (pe_ifExp (pt_cmpR op_gt (pv 1) (pv 0) (nomark _)) (pe_un un_neg (pe_int)) (pe_int)))), ?_⟩
    refine ⟨.int e, rfl, .int s, rfl, _, _, rfl, rfl, _, rfl, ite2 (fun h1 => ?_) (fun h1 => ?_)⟩
    · have h1 := of_decide_eq_true h1
      have e1 : voteI s e = 1 := by unfold voteI; rw [if_pos h1]
      rw [e1] at q
      exact q
    have h1 : ¬ e < s := fun z => h1 (decide_eq_true z)
    refine ⟨.int e, rfl, .int s, rfl, _, _, rfl, rfl, _, rfl, ite2 (fun h2 => ?_) (fun h2 => ?_)⟩
    · have h2 := of_decide_eq_true h2
      have e1 : voteI s e = -1 := by unfold voteI; rw [if_neg h1, if_pos h2]
      rw [e1] at q
      exact ⟨1, rfl, q⟩
    · have h2 : ¬ e > s := fun z => h2 (decide_eq_true z)
      have e1 : voteI s e = 0 := by unfold voteI; rw [if_neg h1, if_neg h2]
      rw [e1] at q
      exact q
theorem ok_LV {f : Addr} {fd : FuncData} (F : Fun K "_law_vote" "_law_vote" sLV f fd)
    (m_int : mg "int" = none) :
    FnOk P w K mg base CX0 1 f fd ["_law_option", "_law_other"] spVo := by
  refine F.ok scLV (fun vs H Q E h => ?_) (fun cdv A outer s H vs Q E hr h => ?_)
  · obtain ⟨s, e, rfl, _⟩ := h; rfl
  · obtain ⟨s, e, rfl, q⟩ := h
    refine ⟨_, pss_one (ps_ret (pe_op op_sub (pe_callTy call_int1 (by rfl) m_int (by decide +kernel) (pa_cons (pe_cmpR op_lt (pv 1) (pv 0) (nomark _)) pa_nil)) (pe_callTy call_int1 (by rfl) m_int (by decide +kernel) (pa_cons (pe_cmpR op_gt (pv 1) (pv 0) (nomark _)) pa_nil)))), ?_⟩
    refine ⟨.int e, rfl, .int s, rfl, _, _, rfl, rfl, .inr ⟨_, rfl, .int e, rfl, .int s, rfl, _, _, rfl, rfl, .inr ⟨_, rfl, _, _, rfl, rfl, ?_⟩⟩⟩
    have e1 : voteI s e = (if decide (e < s) = true then 1 else 0) - (if decide (s < e) = true then 1 else 0) := by
      unfold voteI
      by_cases h1 : e < s
      · have h2 : ¬ s < e := by omega
        simp [h1, h2]
      · by_cases h2 : s < e
        · simp [h1, h2]
        · simp [h1, h2]
    rw [e1] at q
    exact q
def spBg (K : PySem.W.Frag) : Sp := fun vs H Q _ => ∃ (s : Int) (a : Addr) (costs : List Int), vs = [.int s, .ref a] ∧ SqL K H a (costs.map V.int) ∧ 0 < costs.length ∧ costs.length ≤ 900 ∧ ∀ H', Same H H' → Q (.int (mx (gains s costs))) H'
theorem ok_Bg {f fVo : Addr} {fd fdVo : FuncData} (F : Fun K "best_gain" "best_gain" sBg f fd)
    (FVo : Fun K "vote" "vote" sVo fVo fdVo) (bVo : Binds K fdVo ["start", "end"] []) (gVo : mg "vote" = some (.ref fVo)) (GVo : FnOk P w K mg base CX0 1 fVo fdVo ["start", "end"] spVo)
    (m_enumerate : mg "enumerate" = none) (m_max : mg "max" = none) :
    FnOk P w K mg base CX0 2 f fd ["start", "costs"] (spBg K) := by
  refine F.ok scBg (fun vs H Q E h => ?_) (fun cdv A outer s H vs Q E hr h => ?_)
  · obtain ⟨s, a, costs, rfl, _⟩ := h; rfl
  · obtain ⟨s, a, costs, rfl, hA, hl0, hl9, q⟩ := h
    refine ⟨_, pss_one (ps_ret (pe_callB (cr_max rfl) (by rfl) m_max (by decide +kernel) (pa_cons (pe_lc (own := [("end", 2), ("cost", 3)]) (g := gTup K 2 (gCons (gName 2) (gCons (gName 3) gNil))) (tt := tYes) (te := tOp (rI0 fun i j => .int (i - j)) (tCall spVo [] E0 (tCons (tVar 0) (tCons (tVar 2) tNil))) (tVar 3)) rfl scBg.nd (pi_enum (by rfl) m_enumerate (pa_cons (pv 1) pa_nil)) (blkOk_by (N := ["start", "costs", "end", "cost"]) (sc := defScope sBg) (by decide +kernel)) (fun _ _ _ _ _ => pg_tup rfl (pgs_cons (pg_name (i := 2) scBg.nd rfl (.inl rfl)) (pgs_cons (pg_name (i := 3) scBg.nd rfl (.inl rfl)) pgs_nil))) (fun _ _ _ _ _ => pts_nil) (fun _ _ _ _ _ => pe_op op_sub (pe_call GVo (hr.mono (by omega)) (by rfl) gVo FVo.kp bVo .nil pass0 (pa_cons (pv 0) (pa_cons (pv 2) pa_nil))) (pv 3))) pa_nil))), ?_⟩
    refine ⟨.ref a, rfl, a, _, rfl, hA, fun D nD => lc_it (walk_enumL (K := K) (a := a) (xs := costs.map V.int))
      (fun j H2 => Same H H2 ∧ H2 D = some (.lst (((gains s costs).take j).map V.int))) ⟨sameNew nD, upd_same⟩ (fun j H2 _ h => h.1.seq hA) ?_ ?_⟩
    · rintro j v H2 H3 hlt ⟨s2, e2⟩ ⟨T, x, y, rfl, nT, rfl, ex, ey⟩
      have hj : j < costs.length := by rw [List.length_map] at hlt; exact hlt
      have ex : some (V.int (j : Nat)) = some x := ex
      cases ex
      have ey : (costs.map V.int)[j]? = some y := ey
      rw [List.getElem?_map, List.getElem?_eq_getElem hj] at ey
      cases ey
      have sT := sameNew (o := .tup [.int (j : Nat), .int costs[j]]) nT
      refine ⟨T, _, rfl, SqT.of upd_same, rfl, _, _, rfl, _, _, rfl, rfl, rfl, .int s, rfl, .int (j : Nat), rfl, s, j, rfl, .int costs[j], rfl, _, _, rfl, rfl, _, sT _ _ e2, ?_, samePut (s2.trans sT) nD, ?_⟩
      · rw [List.length_map, List.length_take]; exact small (by omega)
      · rw [upd_same, gains_snoc hj, List.map_append]
        have : gainAt s costs j = voteI s j - costs[j] := by unfold gainAt; rw [getD_at (List.getElem?_eq_getElem hj)]
        rw [this]; rfl
    rintro H2 ⟨s2, e2⟩
    have hlen : (gains s costs).length = costs.length := by simp [gains]
    rw [List.length_map, List.take_of_length_le (by omega)] at e2
    refine ⟨D, _, rfl, SqL.of e2, by omega, fun m h1 h2 => ?_⟩
    rw [mx_of h1 h2]
    exact q _ s2
def spLim (K : PySem.W.Frag) : Sp := fun vs H Q _ => ∃ (i b c : Addr) (cs : List Int) (gs : List Gp) (rows : List (List Int)) (pr : List Int), vs = [.ref i, .ref b, .ref c] ∧ Dp K H (.ref i) (dInst cs gs) ∧ InsOk cs gs ∧ Dp K H (.ref b) (dAsg rows) ∧ Shp gs rows ∧ Bd rows ∧ SqT K H c (pr.map V.int) ∧ pr.length = cs.length ∧
  ∀ H', Same H H' → Q (.int (limI cs gs rows pr gs.length)) H'
set_option maxHeartbeats 4000000 in
theorem ok_Pl {f fBg : Addr} {fd fdBg : FuncData} (F : Fun K "price_limit" "price_limit" sPl f fd)
    (FBg : Fun K "best_gain" "best_gain" sBg fBg fdBg) (bBg : Binds K fdBg ["start", "costs"] []) (gBg : mg "best_gain" = some (.ref fBg)) (GBg : FnOk P w K mg base CX0 2 fBg fdBg ["start", "costs"] (spBg K))
    (m_zip : mg "zip" = none) (m_sum : mg "sum" = none) (m_enumerate : mg "enumerate" = none) :
    FnOk P w K mg base CX0 3 f fd ["instance", "assignment", "prices"] (spLim K) := by
  refine F.ok scPl (fun vs H Q E h => ?_) (fun cdv A outer s H vs Q E hr h => ?_)
  · obtain ⟨i, b, c, cs, gs, rows, pr, rfl, _⟩ := h; rfl
  · obtain ⟨i, b, c, cs, gs, rows, pr, rfl, hI, ok, hR, sh, bd, hP, lP, q⟩ := h
    refine ⟨_, pss_cons (ps_set (i := 3) scPl.nd rfl (.inl rfl) (pe_callB (cr_sum rfl) (by rfl) m_sum (by decide +kernel) (pa_cons (pe_lc (own := [("capacity", 7), ("price", 8)]) (g := gTup K 2 (gCons (gName 7) (gCons (gName 8) gNil))) (tt := tYes) (te := tOp (rI CMul fun i j => .int (i * j)) (tVar 7) (tVar 8)) rfl scPl.nd (RZ.pi_zipA (by rfl) m_zip (pa_cons (pe_ix ix_tup (pv 0) (pe_int) (fun _ _ => rfl)) (pa_cons (pv 2) pa_nil))) (blkOk_by (N := ["instance", "assignment", "prices", "total", "group", "share", "costs", "capacity", "price", "post", "start", "number"]) (sc := defScope sPl) (by decide +kernel)) (fun _ _ _ _ _ => pg_tup rfl (pgs_cons (pg_name (i := 7) scPl.nd rfl (.inl rfl)) (pgs_cons (pg_name (i := 8) scPl.nd rfl (.inl rfl)) pgs_nil))) (fun _ _ _ _ _ => pts_nil) (fun _ _ _ _ _ => pe_op op_mul (pv 7) (pv 8))) pa_nil)))
      (pss_cons (ps_for PassesOwn.never rfl (RZ.pi_zipA (by rfl) m_zip (pa_cons (pe_ix ix_tup (pv 0) (pe_int) (fun _ _ => rfl)) (pa_cons (pv 1) pa_nil))) (pg_tup rfl (pgs_cons (pg_name (i := 4) scPl.nd rfl (.inl rfl)) (pgs_cons (pg_name (i := 5) scPl.nd rfl (.inl rfl)) pgs_nil)))
        (pss_cons (ps_set (i := 6) scPl.nd rfl (.inr rfl) (pe_op op_cat (pe_lc (own := [("post", 9)]) (g := gName 9) (tt := tYes) (te := tOp (rIxT K) (tVar 2) (tVar 9)) rfl scPl.nd (pi_tup (pe_ix ix_tup (pv 4) (pe_int) (fun _ _ => rfl))) (blkOk_by (N := ["instance", "assignment", "prices", "total", "group", "share", "costs", "capacity", "price", "post", "start", "number"]) (sc := defScope sPl) (by decide +kernel)) (fun _ _ _ _ _ => pg_name (i := 9) scPl.nd rfl (.inl rfl)) (fun _ _ _ _ _ => pts_nil) (fun _ _ _ _ _ => pe_ix ix_tup (pv 2) (pv 9) (fun _ _ => rfl))) (pe_lst (pa_cons (pe_int) pa_nil))))
        (pss_one (ps_aug (i := 3) scPl.nd rfl (.inl rfl) (pe_callB (cr_sum rfl) (by rfl) m_sum (by decide +kernel) (pa_cons (pe_lc (own := [("start", 10), ("number", 11)]) (g := gTup K 2 (gCons (gName 10) (gCons (gName 11) gNil))) (tt := tYes) (te := tOp (rI CMul fun i j => .int (i * j)) (tVar 11) (tCall (spBg K) [] E0 (tCons (tVar 10) (tCons (tVar 6) tNil)))) rfl scPl.nd (pi_enumT (by rfl) m_enumerate (pa_cons (pv 5) pa_nil)) (blkOk_by (N := ["instance", "assignment", "prices", "total", "group", "share", "costs", "capacity", "price", "post", "start", "number"]) (sc := defScope sPl) (by decide +kernel)) (fun _ _ _ _ _ => pg_tup rfl (pgs_cons (pg_name (i := 10) scPl.nd rfl (.inl rfl)) (pgs_cons (pg_name (i := 11) scPl.nd rfl (.inl rfl)) pgs_nil))) (fun _ _ _ _ _ => pts_nil) (fun _ _ _ _ _ => pe_op op_mul (pv 11) (pe_call GBg (hr.mono (by omega)) (by rfl) gBg FBg.kp bBg .nil pass0 (pa_cons (pv 10) (pa_cons (pv 6) pa_nil))))) pa_nil)) ip_add))))
      (pss_one (ps_ret (pv 3)))), ?_⟩
    obtain ⟨_, ca, ga, xs, e, hi, hc, hgt, hgs⟩ := inst_open hI
    cases e
    have lx := DpAll.len hgs
    rw [List.length_map] at lx
    have h6 := ok.c6
    have h10 := ok.g10
    obtain ⟨_, ys, e, hB, hys⟩ : ∃ b' ys, V.ref b = .ref b' ∧ SqT K H b' ys ∧ DpAll K H ys (rows.map dI) := by
      cases hR with
      | tup h1 h2 => exact ⟨_, _, rfl, h1, h2⟩
    cases e
    have ly := DpAll.len hys
    rw [List.length_map] at ly
    have cb : ∀ (k : Nat) (x : Int), cs[k]? = some x → 1 ≤ x ∧ x ≤ 10 ^ 12 := fun k x hx => ok.cb x (List.mem_of_getElem? hx)
    refine ⟨.ref i, rfl, i, _, 0, .ref ca, rfl, rfl, hi, atI_nat (j := 0) rfl, .ref c, rfl, ca, c, _, _, rfl, .inr ⟨hc, hP, fun D nD => lc_it (walk_zipT (K := K) (a := ca) (b := c) (xs := cs.map V.int) (ys := pr.map V.int) rfl)
      (fun j H2 => Same H H2 ∧ H2 D = some (.lst (((List.range j).map fun j => cs.getD j 0 * pr.getD j 0).map V.int))) ⟨sameNew nD, upd_same⟩ (fun j H2 _ h => ⟨(TupK.of h.1).sq hc, (TupK.of h.1).sq hP⟩) ?_ ?_⟩⟩
    · rintro j v H2 H3 hlt ⟨s2, e2⟩ ⟨T, x, y, rfl, nT, rfl, ex, ey⟩
      rw [List.length_map, List.length_map] at hlt
      have hj1 : j < cs.length := by omega
      have hj2 : j < pr.length := by omega
      have ex : (cs.map V.int)[j]? = some x := ex
      have ey : (pr.map V.int)[j]? = some y := ey
      rw [List.getElem?_map, List.getElem?_eq_getElem hj1] at ex
      rw [List.getElem?_map, List.getElem?_eq_getElem hj2] at ey
      cases ex
      cases ey
      have hcb := cb j cs[j] (List.getElem?_eq_getElem hj1)
      have sT := sameNew (o := .tup [.int cs[j], .int pr[j]]) nT
      refine ⟨T, _, rfl, SqT.of upd_same, rfl, _, _, rfl, _, _, rfl, rfl, rfl, .int cs[j], rfl, .int pr[j], rfl, _, _, rfl, rfl, .inl ⟨by omega, by omega⟩, _, sT _ _ e2, ?_, samePut (s2.trans sT) nD, ?_⟩
      · rw [List.length_map, List.length_map, List.length_range]; exact small (by omega)
      · rw [upd_same, List.range_succ, List.map_append, List.map_append]
        simp [List.getD_eq_getElem?_getD, List.getElem?_eq_getElem hj1, List.getElem?_eq_getElem hj2]
    rintro H2 ⟨s2, e2⟩
    rw [List.length_map, List.length_map] at e2
    refine ⟨D, _, rfl, SqL.of e2, ?_⟩
    have hcap : (((List.range (min cs.length pr.length)).map fun j => cs.getD j 0 * pr.getD j 0).sum) = limI cs gs rows pr 0 := by simp [limI, capLim]
    rw [hcap]
    have hrl := sh.1
    refine ⟨.ref i, rfl, i, _, 1, .ref ga, rfl, rfl, (TupK.of s2).sq hi, atI_nat (j := 1) rfl, .ref b, rfl, ga, b, _, _, rfl, .inr ⟨(TupK.of s2).sq hgt, (TupK.of s2).sq hB, for_it (walk_zipT (K := K) (a := ga) (b := b) (xs := xs) (ys := ys) rfl)
      (fun j σ H3 => ∃ y4 y5 y6, σ = [some (.ref i), some (.ref b), some (.ref c), some (.int (limI cs gs rows pr j)), y4, y5, y6, none, none, none, none, none] ∧ Same H H3) ⟨none, none, none, rfl, s2⟩ (fun j σ H3 _ h => by obtain ⟨y4, y5, y6, rfl, s3⟩ := h; exact ⟨(TupK.of s3).sq hgt, (TupK.of s3).sq hB⟩) ?_ ?_⟩⟩
    · rintro j v σ H3 H4 hlt ⟨y4, y5, y6, rfl, s3⟩ ⟨T, x, y, rfl, nT, rfl, ex, ey⟩
      have hj1 : j < gs.length := by omega
      have hj2 : j < rows.length := by omega
      have hg : gs[j]? = some gs[j] := List.getElem?_eq_getElem hj1
      have hr' : rows[j]? = some rows[j] := List.getElem?_eq_getElem hj2
      have ex : xs[j]? = some x := ex
      have ey : ys[j]? = some y := ey
      obtain ⟨d, hd, hxd⟩ := DpAll.at hgs ex
      rw [List.getElem?_map, hg] at hd
      cases hd
      obtain ⟨d, hd, hyd⟩ := DpAll.at hys ey
      rw [List.getElem?_map, hr'] at hd
      cases hd
      obtain ⟨gA, pA, rfl, hG, hPA⟩ := grp_ref hxd
      obtain ⟨rA, rfl, hRA⟩ := dI_ref hyd
      have hrow := sh.2 j gs[j] rows[j] hg hr'
      obtain ⟨gl6, gpr, gc1, gc2⟩ := ok.gp gs[j] (List.getElem_mem hj1)
      have bdr := bd rows[j] (List.getElem_mem hj2)
      have sT := sameNew (o := .tup [.ref gA, .ref rA]) nT
      have s4 := s3.trans sT
      have tk4 := TupK.of s4
      refine ⟨T, _, rfl, SqT.of upd_same, rfl, _, _, rfl, _, _, rfl, rfl, ?_⟩
      refine ⟨.ref gA, rfl, gA, _, 0, .ref pA, rfl, rfl, tk4.sq hG, atI_nat (j := 0) rfl, pA, rfl, ⟨_, tk4.sq hPA⟩, fun D nD => ?_⟩
      generalize upd H3 T (.tup [.ref gA, .ref rA]) = H5 at sT s4 tk4 nD
      refine lc_it (walk_tup (K := K) (a := pA) (xs := gs[j].1.map V.int))
        (fun m H6 => Same H5 H6 ∧ H6 D = some (.lst (((gs[j].1.map (prAt pr)).take m).map V.int))) ⟨sameNew nD, upd_same⟩ (fun m H6 _ h => (tk4.trans (TupK.of h.1)).sq hPA) ?_ ?_
      · rintro m v H6 H7 hltm ⟨s6, e6⟩ ⟨rfl, hv⟩
        have hv' : (gs[j].1.map V.int)[m]? = some v := hv
        rw [List.getElem?_map] at hv'
        obtain ⟨pp, hpp, rfl⟩ := Option.map_eq_some_iff.mp hv'
        have hpr := gpr pp (List.mem_of_getElem? hpp)
        obtain ⟨pn, rfl⟩ : ∃ pn : Nat, pp = pn := ⟨pp.toNat, by omega⟩
        have hpl : pn < pr.length := by omega
        have hpv : (pr.map V.int)[pn]? = some (.int pr[pn]) := by rw [List.getElem?_map, List.getElem?_eq_getElem hpl]; rfl
        have hm6 : m < 6 := by have := (List.getElem?_eq_some_iff.mp hpp).1; omega
        refine ⟨rfl, .ref c, rfl, .int pn, rfl, c, _, _, _, rfl, rfl, (tk4.trans (TupK.of s6)).sq hP, atI_nat hpv, _, e6, ?_, samePut s6 nD, ?_⟩
        · rw [List.length_map, List.length_take]; exact small (by omega)
        · have hq : (gs[j].1.map (prAt pr))[m]? = some pr[pn] := by rw [List.getElem?_map, hpp]; simp [prAt, List.getD_eq_getElem?_getD, List.getElem?_eq_getElem hpl]
          rw [upd_same, take_snoc hq, List.map_append]; rfl
      rintro H6 ⟨s6, e6⟩
      rw [List.length_map, List.take_of_length_le (by rw [List.length_map]; exact Nat.le_refl _)] at e6
      refine ⟨(show (1 : Nat) ≤ sizeLine by decide), fun p1 n1 => ⟨D, p1, _, _, rfl, rfl, upNew n1 e6, upd_same, ?_, fun Co nCo => ?_⟩⟩
      · rw [List.length_map, List.length_map]; have := small (n := gs[j].1.length + 1) (by omega); simp; omega
      have s7 := (sameNew (o := .lst [.int 0]) n1).trans (sameNew (o := .lst ((gs[j].1.map (prAt pr)).map V.int ++ [.int 0])) nCo)
      have eC : (upd (upd H6 p1 (.lst [.int 0])) Co (.lst ((gs[j].1.map (prAt pr)).map V.int ++ [.int 0]))) Co = some (.lst ((costsOf pr gs[j].1).map V.int)) := by rw [upd_same, costsOf, List.map_append]; rfl
      generalize upd (upd H6 p1 (.lst [.int 0])) Co (.lst ((gs[j].1.map (prAt pr)).map V.int ++ [.int 0])) = H8 at s7 eC
      have s8 := (s4.trans s6).trans s7
      have lC : (costsOf pr gs[j].1).length = gs[j].1.length + 1 := by simp [costsOf]
      have estep : limI cs gs rows pr (j + 1) = limI cs gs rows pr j + rowLim (costsOf pr gs[j].1) rows[j] := by rw [lim_snoc, getD_at hg, getD_at hr']
      refine ⟨_, rfl, .ref rA, rfl, rA, _, rfl, (TupK.of s8).sq hRA, fun D2 nD2 => lc_it (walk_enumT (K := K) (a := rA) (xs := rows[j].map V.int))
        (fun m H9 => Same H8 H9 ∧ H9 D2 = some (.lst (((List.range m).map (partAt (costsOf pr gs[j].1) rows[j])).map V.int))) ⟨sameNew nD2, upd_same⟩ (fun m H9 _ h => (TupK.of (s8.trans h.1)).sq hRA) ?_ ?_⟩
      · rintro m v H9 H10 hltm ⟨s9, e9⟩ ⟨T2, x2, y2, rfl, nT2, rfl, ex2, ey2⟩
        rw [List.length_map] at hltm
        have ex2 : some (V.int (m : Nat)) = some x2 := ex2
        cases ex2
        have ey2 : (rows[j].map V.int)[m]? = some y2 := ey2
        rw [List.getElem?_map, List.getElem?_eq_getElem hltm] at ey2
        cases ey2
        have bx := bdr _ (List.getElem_mem hltm)
        have sT2 := sameNew (o := .tup [.int (m : Nat), .int rows[j][m]]) nT2
        refine ⟨T2, _, rfl, SqT.of upd_same, rfl, _, _, rfl, _, _, rfl, rfl, rfl, .int rows[j][m], rfl, .int (m : Nat), rfl, .ref Co, rfl, m, Co, costsOf pr gs[j].1, rfl, SqL.of ((s9.trans sT2) _ _ eC), by omega, by omega, fun H11 s11 => ?_⟩
        have e11 := (sT2.trans s11) _ _ e9
        refine ⟨_, _, rfl, rfl, .inl ⟨by omega, by omega⟩, _, e11, ?_, samePut ((s9.trans sT2).trans s11) nD2, ?_⟩
        · rw [List.length_map, List.length_map, List.length_range]; exact small (by omega)
        · rw [upd_same, List.range_succ, List.map_append, List.map_append]
          have : partAt (costsOf pr gs[j].1) rows[j] m = rows[j][m] * mx (gains m (costsOf pr gs[j].1)) := by unfold partAt; rw [getD_at (List.getElem?_eq_getElem hltm)]
          simp [this]
      rintro H9 ⟨s9, e9⟩
      rw [List.length_map] at e9
      refine ⟨D2, _, rfl, SqL.of e9, _, _, rfl, rfl, ?_⟩
      refine ⟨some (.ref gA), some (.ref rA), some (.ref Co), ?_, s8.trans s9⟩
      rw [estep]
      rfl
    rintro σ H3 ⟨y4, y5, y6, rfl, s3⟩
    refine ⟨_, rfl, ?_⟩
    have hmin : min xs.length ys.length = gs.length := by omega
    rw [hmin]
    exact q _ s3
set_option maxHeartbeats 4000000 in
theorem ok_LL {f fLV : Addr} {fd fdLV : FuncData} (F : Fun K "_law_limit" "_law_limit" sLL f fd)
    (FLV : Fun K "_law_vote" "_law_vote" sLV fLV fdLV) (bLV : Binds K fdLV ["_law_option", "_law_other"] []) (gLV : mg "_law_vote" = some (.ref fLV)) (GLV : FnOk P w K mg base CX0 1 fLV fdLV ["_law_option", "_law_other"] spVo)
    (m_zip : mg "zip" = none) (m_sum : mg "sum" = none) (m_enumerate : mg "enumerate" = none) (m_len : mg "len" = none) (m_range : mg "range" = none) (m_max : mg "max" = none) :
    FnOk P w K mg base CX0 2 f fd ["_law_instance", "_law_assignment_here", "_law_prices"] (spLim K) := by
  refine F.ok scLL (fun vs H Q E h => ?_) (fun cdv A outer s H vs Q E hr h => ?_)
  · obtain ⟨i, b, c, cs, gs, rows, pr, rfl, _⟩ := h; rfl
  · obtain ⟨i, b, c, cs, gs, rows, pr, rfl, hI, ok, hR, sh, bd, hP, lP, q⟩ := h
    refine ⟨_, pss_cons (ps_set (i := 3) scLL.nd rfl (.inl rfl) (pe_callB (cr_sum rfl) (by rfl) m_sum (by decide +kernel) (pa_cons (pe_lc (own := [("_law_capacity", 10), ("_law_price", 11)]) (g := gTup K 2 (gCons (gName 10) (gCons (gName 11) gNil))) (tt := tYes) (te := tOp (rI CMul fun i j => .int (i * j)) (tVar 10) (tVar 11)) rfl scLL.nd (RZ.pi_zipA (by rfl) m_zip (pa_cons (pe_ix ix_tup (pv 0) (pe_int) (fun _ _ => rfl)) (pa_cons (pv 2) pa_nil))) (blkOk_by (N := ["_law_instance", "_law_assignment_here", "_law_prices", "_law_total", "_law_posts", "_law_count", "_law_numbers", "_law_costs", "_law_option", "_law_number", "_law_capacity", "_law_price", "_law_post", "_law_k"]) (sc := defScope sLL) (by decide +kernel)) (fun _ _ _ _ _ => pg_tup rfl (pgs_cons (pg_name (i := 10) scLL.nd rfl (.inl rfl)) (pgs_cons (pg_name (i := 11) scLL.nd rfl (.inl rfl)) pgs_nil))) (fun _ _ _ _ _ => pts_nil) (fun _ _ _ _ _ => pe_op op_mul (pv 10) (pv 11))) pa_nil)))
      (pss_cons (ps_for PassesOwn.never rfl (RZ.pi_zipA (by rfl) m_zip (pa_cons (pe_ix ix_tup (pv 0) (pe_int) (fun _ _ => rfl)) (pa_cons (pv 1) pa_nil))) (pg_tup rfl (pgs_cons (pg_tup rfl (pgs_cons (pg_name (i := 4) scLL.nd rfl (.inl rfl)) (pgs_cons (pg_name (i := 5) scLL.nd rfl (.inl rfl)) pgs_nil))) (pgs_cons (pg_name (i := 6) scLL.nd rfl (.inl rfl)) pgs_nil)))
        (pss_cons (ps_set (i := 7) scLL.nd rfl (.inr rfl) (pe_op op_cat (pe_lc (own := [("_law_post", 12)]) (g := gName 12) (tt := tYes) (te := tOp (rIxT K) (tVar 2) (tVar 12)) rfl scLL.nd (pi_tup (pv 4)) (blkOk_by (N := ["_law_instance", "_law_assignment_here", "_law_prices", "_law_total", "_law_posts", "_law_count", "_law_numbers", "_law_costs", "_law_option", "_law_number", "_law_capacity", "_law_price", "_law_post", "_law_k"]) (sc := defScope sLL) (by decide +kernel)) (fun _ _ _ _ _ => pg_name (i := 12) scLL.nd rfl (.inl rfl)) (fun _ _ _ _ _ => pts_nil) (fun _ _ _ _ _ => pe_ix ix_tup (pv 2) (pv 12) (fun _ _ => rfl))) (pe_lst (pa_cons (pe_int) pa_nil))))
        (pss_one (ps_for PassesOwn.never rfl (pi_enumT (by rfl) m_enumerate (pa_cons (pv 6) pa_nil)) (pg_tup rfl (pgs_cons (pg_name (i := 8) scLL.nd rfl (.inr rfl)) (pgs_cons (pg_name (i := 9) scLL.nd rfl (.inl rfl)) pgs_nil)))
          (pss_one (ps_set (i := 3) scLL.nd rfl (.inl rfl) (pe_op op_add (pv 3) (pe_op op_mul (pv 9) (pe_callB (cr_max rfl) (by rfl) m_max (by decide +kernel) (pa_cons (pe_lc (own := [("_law_k", 13)]) (g := gName 13) (tt := tYes) (te := tOp (rI0 fun i j => .int (i - j)) (tCall spVo [] E0 (tCons (tVar 8) (tCons (tVar 13) tNil))) (tOp (rIxL K) (tVar 7) (tVar 13))) rfl scLL.nd (pi_range1 (by rfl) m_range (pa_cons (pe_callB call_lenQ (by rfl) m_len PySem.boot_len (pa_cons (pv 7) pa_nil)) pa_nil)) (blkOk_by (N := ["_law_instance", "_law_assignment_here", "_law_prices", "_law_total", "_law_posts", "_law_count", "_law_numbers", "_law_costs", "_law_option", "_law_number", "_law_capacity", "_law_price", "_law_post", "_law_k"]) (sc := defScope sLL) (by decide +kernel)) (fun _ _ _ _ _ => pg_name (i := 13) scLL.nd rfl (.inl rfl)) (fun _ _ _ _ _ => pts_nil) (fun _ _ _ _ _ => pe_op op_sub (pe_call GLV (hr.mono (by omega)) (by rfl) gLV FLV.kp bLV .nil pass0 (pa_cons (pv 8) (pa_cons (pv 13) pa_nil))) (pe_ix ix_list (pv 7) (pv 13) (fun _ _ => rfl)))) pa_nil))))))))))
      (pss_one (ps_ret (pv 3)))), ?_⟩
    obtain ⟨_, ca, ga, xs, e, hi, hc, hgt, hgs⟩ := inst_open hI
    cases e
    have lx := DpAll.len hgs
    rw [List.length_map] at lx
    have h6 := ok.c6
    have h10 := ok.g10
    obtain ⟨_, ys, e, hB, hys⟩ : ∃ b' ys, V.ref b = .ref b' ∧ SqT K H b' ys ∧ DpAll K H ys (rows.map dI) := by
      cases hR with
      | tup h1 h2 => exact ⟨_, _, rfl, h1, h2⟩
    cases e
    have ly := DpAll.len hys
    rw [List.length_map] at ly
    have cb : ∀ (k : Nat) (x : Int), cs[k]? = some x → 1 ≤ x ∧ x ≤ 10 ^ 12 := fun k x hx => ok.cb x (List.mem_of_getElem? hx)
    refine ⟨.ref i, rfl, i, _, 0, .ref ca, rfl, rfl, hi, atI_nat (j := 0) rfl, .ref c, rfl, ca, c, _, _, rfl, .inr ⟨hc, hP, fun D nD => lc_it (walk_zipT (K := K) (a := ca) (b := c) (xs := cs.map V.int) (ys := pr.map V.int) rfl)
      (fun j H2 => Same H H2 ∧ H2 D = some (.lst (((List.range j).map fun j => cs.getD j 0 * pr.getD j 0).map V.int))) ⟨sameNew nD, upd_same⟩ (fun j H2 _ h => ⟨(TupK.of h.1).sq hc, (TupK.of h.1).sq hP⟩) ?_ ?_⟩⟩
    · rintro j v H2 H3 hlt ⟨s2, e2⟩ ⟨T, x, y, rfl, nT, rfl, ex, ey⟩
      rw [List.length_map, List.length_map] at hlt
      have hj1 : j < cs.length := by omega
      have hj2 : j < pr.length := by omega
      have ex : (cs.map V.int)[j]? = some x := ex
      have ey : (pr.map V.int)[j]? = some y := ey
      rw [List.getElem?_map, List.getElem?_eq_getElem hj1] at ex
      rw [List.getElem?_map, List.getElem?_eq_getElem hj2] at ey
      cases ex
      cases ey
      have hcb := cb j cs[j] (List.getElem?_eq_getElem hj1)
      have sT := sameNew (o := .tup [.int cs[j], .int pr[j]]) nT
      refine ⟨T, _, rfl, SqT.of upd_same, rfl, _, _, rfl, _, _, rfl, rfl, rfl, .int cs[j], rfl, .int pr[j], rfl, _, _, rfl, rfl, .inl ⟨by omega, by omega⟩, _, sT _ _ e2, ?_, samePut (s2.trans sT) nD, ?_⟩
      · rw [List.length_map, List.length_map, List.length_range]; exact small (by omega)
      · rw [upd_same, List.range_succ, List.map_append, List.map_append]
        simp [List.getD_eq_getElem?_getD, List.getElem?_eq_getElem hj1, List.getElem?_eq_getElem hj2]
    rintro H2 ⟨s2, e2⟩
    rw [List.length_map, List.length_map] at e2
    refine ⟨D, _, rfl, SqL.of e2, ?_⟩
    have hcap : (((List.range (min cs.length pr.length)).map fun j => cs.getD j 0 * pr.getD j 0).sum) = limI cs gs rows pr 0 := by simp [limI, capLim]
    rw [hcap]
    have hrl := sh.1
    refine ⟨.ref i, rfl, i, _, 1, .ref ga, rfl, rfl, (TupK.of s2).sq hi, atI_nat (j := 1) rfl, .ref b, rfl, ga, b, _, _, rfl, .inr ⟨(TupK.of s2).sq hgt, (TupK.of s2).sq hB, for_it (walk_zipT (K := K) (a := ga) (b := b) (xs := xs) (ys := ys) rfl)
      (fun j σ H3 => ∃ y4 y5 y6 y7 y8 y9, σ = [some (.ref i), some (.ref b), some (.ref c), some (.int (limI cs gs rows pr j)), y4, y5, y6, y7, y8, y9, none, none, none, none] ∧ Same H H3) ⟨none, none, none, none, none, none, rfl, s2⟩ (fun j σ H3 _ h => by obtain ⟨y4, y5, y6, y7, y8, y9, rfl, s3⟩ := h; exact ⟨(TupK.of s3).sq hgt, (TupK.of s3).sq hB⟩) ?_ ?_⟩⟩
    · rintro j v σ H3 H4 hlt ⟨y4, y5, y6, y7, y8, y9, rfl, s3⟩ ⟨T, x, y, rfl, nT, rfl, ex, ey⟩
      have hj1 : j < gs.length := by omega
      have hj2 : j < rows.length := by omega
      have hg : gs[j]? = some gs[j] := List.getElem?_eq_getElem hj1
      have hr' : rows[j]? = some rows[j] := List.getElem?_eq_getElem hj2
      have ex : xs[j]? = some x := ex
      have ey : ys[j]? = some y := ey
      obtain ⟨d, hd, hxd⟩ := DpAll.at hgs ex
      rw [List.getElem?_map, hg] at hd
      cases hd
      obtain ⟨d, hd, hyd⟩ := DpAll.at hys ey
      rw [List.getElem?_map, hr'] at hd
      cases hd
      obtain ⟨gA, pA, rfl, hG, hPA⟩ := grp_ref hxd
      obtain ⟨rA, rfl, hRA⟩ := dI_ref hyd
      have hrow := sh.2 j gs[j] rows[j] hg hr'
      obtain ⟨gl6, gpr, gc1, gc2⟩ := ok.gp gs[j] (List.getElem_mem hj1)
      have bdr := bd rows[j] (List.getElem_mem hj2)
      have sT := sameNew (o := .tup [.ref gA, .ref rA]) nT
      have s4 := s3.trans sT
      have tk4 := TupK.of s4
      refine ⟨T, _, rfl, SqT.of upd_same, rfl, _, _, rfl, gA, _, rfl, tk4.sq hG, rfl, _, _, rfl, _, _, rfl, rfl, _, _, rfl, rfl, ?_⟩
      refine ⟨.ref pA, rfl, pA, rfl, ⟨_, tk4.sq hPA⟩, fun D nD => ?_⟩
      generalize upd H3 T (.tup [.ref gA, .ref rA]) = H5 at sT s4 tk4 nD
      refine lc_it (walk_tup (K := K) (a := pA) (xs := gs[j].1.map V.int))
        (fun m H6 => Same H5 H6 ∧ H6 D = some (.lst (((gs[j].1.map (prAt pr)).take m).map V.int))) ⟨sameNew nD, upd_same⟩ (fun m H6 _ h => (tk4.trans (TupK.of h.1)).sq hPA) ?_ ?_
      · rintro m v H6 H7 hltm ⟨s6, e6⟩ ⟨rfl, hv⟩
        have hv' : (gs[j].1.map V.int)[m]? = some v := hv
        rw [List.getElem?_map] at hv'
        obtain ⟨pp, hpp, rfl⟩ := Option.map_eq_some_iff.mp hv'
        have hpr := gpr pp (List.mem_of_getElem? hpp)
        obtain ⟨pn, rfl⟩ : ∃ pn : Nat, pp = pn := ⟨pp.toNat, by omega⟩
        have hpl : pn < pr.length := by omega
        have hpv : (pr.map V.int)[pn]? = some (.int pr[pn]) := by rw [List.getElem?_map, List.getElem?_eq_getElem hpl]; rfl
        have hm6 : m < 6 := by have := (List.getElem?_eq_some_iff.mp hpp).1; omega
        refine ⟨rfl, .ref c, rfl, .int pn, rfl, c, _, _, _, rfl, rfl, (tk4.trans (TupK.of s6)).sq hP, atI_nat hpv, _, e6, ?_, samePut s6 nD, ?_⟩
        · rw [List.length_map, List.length_take]; exact small (by omega)
        · have hq : (gs[j].1.map (prAt pr))[m]? = some pr[pn] := by rw [List.getElem?_map, hpp]; simp [prAt, List.getD_eq_getElem?_getD, List.getElem?_eq_getElem hpl]
          rw [upd_same, take_snoc hq, List.map_append]; rfl
      rintro H6 ⟨s6, e6⟩
      rw [List.length_map, List.take_of_length_le (by rw [List.length_map]; exact Nat.le_refl _)] at e6
      refine ⟨(show (1 : Nat) ≤ sizeLine by decide), fun p1 n1 => ⟨D, p1, _, _, rfl, rfl, upNew n1 e6, upd_same, ?_, fun Co nCo => ?_⟩⟩
      · rw [List.length_map, List.length_map]; have := small (n := gs[j].1.length + 1) (by omega); simp; omega
      have s7 := (sameNew (o := .lst [.int 0]) n1).trans (sameNew (o := .lst ((gs[j].1.map (prAt pr)).map V.int ++ [.int 0])) nCo)
      have eC : (upd (upd H6 p1 (.lst [.int 0])) Co (.lst ((gs[j].1.map (prAt pr)).map V.int ++ [.int 0]))) Co = some (.lst ((costsOf pr gs[j].1).map V.int)) := by rw [upd_same, costsOf, List.map_append]; rfl
      generalize upd (upd H6 p1 (.lst [.int 0])) Co (.lst ((gs[j].1.map (prAt pr)).map V.int ++ [.int 0])) = H8 at s7 eC
      have s8 := (s4.trans s6).trans s7
      have lC : (costsOf pr gs[j].1).length = gs[j].1.length + 1 := by simp [costsOf]
      have estep : limI cs gs rows pr (j + 1) = limI cs gs rows pr j + rowLim (costsOf pr gs[j].1) rows[j] := by rw [lim_snoc, getD_at hg, getD_at hr']
      have lsum : ∀ m, ((List.range (m + 1)).map (partAt (costsOf pr gs[j].1) rows[j])).sum = ((List.range m).map (partAt (costsOf pr gs[j].1) rows[j])).sum + partAt (costsOf pr gs[j].1) rows[j] m := fun m => by rw [List.range_succ, List.map_append, List.sum_append]; simp
      refine ⟨.ref rA, rfl, rA, _, rfl, (TupK.of s8).sq hRA, for_it (walk_enumT (K := K) (a := rA) (xs := rows[j].map V.int))
        (fun m σ H9 => ∃ z8 z9, σ = [some (.ref i), some (.ref b), some (.ref c), some (.int (limI cs gs rows pr j + ((List.range m).map (partAt (costsOf pr gs[j].1) rows[j])).sum)), some (.ref pA), some (.int gs[j].2), some (.ref rA), some (.ref Co), z8, z9, none, none, none, none] ∧ Same H8 H9)
        ⟨y8, y9, by simp, Same.refl _⟩ (fun m σ H9 _ h => by obtain ⟨_, _, _, s9⟩ := h; exact (TupK.of (s8.trans s9)).sq hRA) ?_ ?_⟩
      · rintro m v σ H9 H10 hltm ⟨z8, z9, rfl, s9⟩ ⟨T2, x2, y2, rfl, nT2, rfl, ex2, ey2⟩
        rw [List.length_map] at hltm
        have ex2 : some (V.int (m : Nat)) = some x2 := ex2
        cases ex2
        have ey2 : (rows[j].map V.int)[m]? = some y2 := ey2
        rw [List.getElem?_map, List.getElem?_eq_getElem hltm] at ey2
        cases ey2
        have bx := bdr _ (List.getElem_mem hltm)
        have sT2 := sameNew (o := .tup [.int (m : Nat), .int rows[j][m]]) nT2
        have s10 := s9.trans sT2
        have eC10 := s10 _ _ eC
        refine ⟨T2, _, rfl, SqT.of upd_same, rfl, _, _, rfl, _, _, rfl, rfl, ?_⟩
        refine ⟨_, rfl, .int rows[j][m], rfl, .ref Co, rfl, Co, _, rfl, .inl (SqL.of eC10), _, rfl, by omega, by rw [List.length_map]; omega, fun D2 nD2 => lc_it (walk_range (lo := 0) (n := (((costsOf pr gs[j].1).map V.int).length : Int).toNat))
          (fun k H11 => Same (upd H9 T2 (.tup [.int (m : Nat), .int rows[j][m]])) H11 ∧ H11 D2 = some (.lst (((gains m (costsOf pr gs[j].1)).take k).map V.int))) ⟨sameNew nD2, upd_same⟩ (fun _ _ _ _ => trivial) ?_ ?_⟩
        · rintro k v H11 H12 hltk ⟨s11, e11⟩ ⟨rfl, rfl⟩
          rw [List.length_map] at hltk
          have hk : k < (costsOf pr gs[j].1).length := by omega
          have hkv : ((costsOf pr gs[j].1).map V.int)[k]? = some (.int (costsOf pr gs[j].1)[k]) := by rw [List.getElem?_map, List.getElem?_eq_getElem hk]; rfl
          have e0 : (0 : Int) + (k : Nat) = (k : Nat) := by omega
          dsimp only
          rw [e0]
          refine ⟨rfl, .int (m : Nat), rfl, .int (k : Nat), rfl, m, k, rfl, .ref Co, rfl, .int (k : Nat), rfl, Co, _, _, _, rfl, rfl, SqL.of (s11 _ _ eC10), atI_nat hkv, _, _, rfl, rfl, _, e11, ?_, samePut s11 nD2, ?_⟩
          · rw [List.length_map, List.length_take]; exact small (by omega)
          · rw [upd_same, gains_snoc hk, List.map_append]
            have : gainAt m (costsOf pr gs[j].1) k = voteI m k - (costsOf pr gs[j].1)[k] := by unfold gainAt; rw [getD_at (List.getElem?_eq_getElem hk)]
            rw [this]; rfl
        rintro H11 ⟨s11, e11⟩
        have hgl : (gains m (costsOf pr gs[j].1)).length = (costsOf pr gs[j].1).length := by simp [gains]
        rw [List.length_map, List.take_of_length_le (by omega)] at e11
        refine ⟨D2, _, rfl, SqL.of e11, by omega, fun mm h1 h2 => ?_⟩
        refine ⟨_, _, rfl, rfl, .inl ⟨by omega, by omega⟩, _, _, rfl, rfl, ?_⟩
        refine ⟨some (.int (m : Nat)), some (.int rows[j][m]), ?_, s10.trans s11⟩
        have hp : partAt (costsOf pr gs[j].1) rows[j] m = rows[j][m] * mm := by unfold partAt; rw [getD_at (List.getElem?_eq_getElem hltm), mx_of h1 h2]
        rw [lsum, hp, ← Int.add_assoc]
        rfl
      rintro σ H9 ⟨z8, z9, rfl, s9⟩
      rw [List.length_map]
      refine ⟨some (.ref pA), some (.int gs[j].2), some (.ref rA), some (.ref Co), z8, z9, ?_, s8.trans s9⟩
      rw [estep]
      rfl
    rintro σ H3 ⟨y4, y5, y6, y7, y8, y9, rfl, s3⟩
    refine ⟨_, rfl, ?_⟩
    have hmin : min xs.length ys.length = gs.length := by omega
    rw [hmin]
    exact q _ s3
end
end Pv

namespace Pv
open PySem PySem.Spec PyProof.Rows L2
abbrev sLa : Stmt := topS 17
theorem scLa : FnScope ["_law_script", "_law_stream_here", "_law_turn", "_law_instance", "_law_assignment_here", "_law_posts", "_law_kept", "_law_some", "_law_k", "_law_prices", "_law_due", "_law_told", "_law_post"] ["_law_script"] (defScope sLa) := ⟨rfl, rfl, rfl, by decide +kernel, rfl, by decide +kernel, by decide +kernel⟩
abbrev BigM : Nat := 10 ^ 29
theorem nat_big {i : Int} (h : -2 ≤ i ∧ i ≤ 10 ^ 12 + 2) : i.natAbs ≤ BigM := by
  have : i.natAbs ≤ 10 ^ 12 + 2 := by omega
  exact Nat.le_trans this (by decide)
theorem fit_ins {cs : List Int} {gs : List Gp} (ok : InsOk cs gs) : Fit BigM 5 20000 (dInst cs gs) := by
  have h6 := ok.c6
  have h10 := ok.g10
  refine fit_dInst ⟨by omega, fun i hi => nat_big (by have := ok.cb i hi; omega)⟩ (by omega) (fun g hg => ?_)
  have := ok.gp g hg
  refine ⟨by omega, fun i hi => nat_big ?_, nat_big (by omega)⟩
  have := this.2.1 i hi
  omega
theorem iteFF {c : Bool} {A B : Prop} (hc : c = false) (h : B) : if c = true then A else B := by rw [if_neg (by rw [hc]; decide)]; exact h
theorem seq_with {t u : TS} {D : Ends} {σ : L2.St} {H : Hp} (Pre : L2.St → Hp → Prop) (rest : ∀ σ1 H1, Pre σ1 H1 → u D σ1 H1) (main : (∀ σ1 H1, Pre σ1 H1 → u D σ1 H1) → tSeq t u D σ H) : tSeq t u D σ H := main rest
def rReprA (K : PySem.W.Frag) : RC := fun xs H Q => ∃ v d st r, xs = [v] ∧ Dq K st r H v d ∧ d.showable = true ∧ d.depth ≤ 60 ∧ d.shown.length ≤ sizeLine ∧ Q (.str d.shown) H
theorem call_reprR {X : Cx} (hg : X.A.guards = some []) (hu : X.A.units + 70 < cLine) : CallR X (.builtin "repr") (rReprA X.K) := call_reprA hg hu
/-- prices -/
def PrAll (K : PySem.W.Frag) (H : Hp) (n : Nat) (vs : List V) : Prop := ∀ v ∈ vs, ∃ (p : Addr) (pr : List Int), v = .ref p ∧ SqT K H p (pr.map V.int) ∧ pr.length = n
theorem rep_eq {K : PySem.W.Frag} {H : Hp} {l : Addr} {x : Int} {n : Nat} {Q : VK} (h : SqT K H l [.int x]) (h1 : 1 ≤ n) (h6 : n ≤ 6) (q : ∀ (H' : Hp) (p : Addr), Same H H' → SqT K H' p ((List.replicate n x).map V.int) → Q (.ref p) H') : rRepA K (.ref l) (.int (n : Nat)) H Q := by
  refine ⟨l, n, _, rfl, rfl, h, by simp, by omega, by simp, fun e => ?_, fun e p np => ?_⟩
  · subst e
    exact q H l (Same.refl _) h
  · refine q _ p (sameNew np) (SqT.of ?_)
    rw [upd_same]
    congr 2
    simp
section
variable {P : Program} {w : World} {K : PySem.W.Frag} {mg : Str → Option Value} {base : Heap}
def spLaw (K : PySem.W.Frag) : Sp := fun vs H Q _ => ∃ (a : Addr) (ns : List Int), vs = [.ref a] ∧ SqL K H a (ns.map V.int) ∧ ns.length ≤ 63 ∧ ∀ H', Q (.bl true) H'
set_option maxHeartbeats 8000000 in
theorem ok_La {f fSt fSl fDr fFa fAs fLL fPl fSm : Addr} {fd fdSt fdSl fdDr fdFa fdAs fdLL fdPl fdSm : FuncData} (F : Fun K "law" "law" sLa f fd)
    (FSt : Fun K "_law_stream" "_law_stream" sStart fSt fdSt) (bSt : Binds K fdSt ["_law_script"] []) (gSt : mg "_law_stream" = some (.ref fSt)) (GSt : FnOk P w K mg base CX0 1 fSt fdSt ["_law_script"] (spStart K))
    (FSl : Fun K "_law_small" "_law_small" sSl fSl fdSl) (bSl : Binds K fdSl ["_law_stream_here"] []) (gSl : mg "_law_small" = some (.ref fSl)) (GSl : FnOk P w K mg base CX0 4 fSl fdSl ["_law_stream_here"] (spSl K))
    (FDr : Fun K "_law_draw" "_law_draw" sDraw fDr fdDr) (bDr : Binds K fdDr ["_law_stream_here", "_law_bound"] []) (gDr : mg "_law_draw" = some (.ref fDr)) (GDr : FnOk P w K mg base CX0 1 fDr fdDr ["_law_stream_here", "_law_bound"] spDraw)
    (FFa : Fun K "_law_far" "_law_far" sFa fFa fdFa) (bFa : Binds K fdFa ["_law_stream_here", "_law_most"] []) (gFa : mg "_law_far" = some (.ref fFa)) (GFa : FnOk P w K mg base CX0 4 fFa fdFa ["_law_stream_here", "_law_most"] (spFa K))
    (FAs : Fun K "_law_assignment" "_law_assignment" sAs fAs fdAs) (bAs : Binds K fdAs ["_law_stream_here", "_law_instance"] []) (gAs : mg "_law_assignment" = some (.ref fAs)) (GAs : FnOk P w K mg base CX0 2 fAs fdAs ["_law_stream_here", "_law_instance"] (spAs K))
    (FLL : Fun K "_law_limit" "_law_limit" sLL fLL fdLL) (bLL : Binds K fdLL ["_law_instance", "_law_assignment_here", "_law_prices"] []) (gLL : mg "_law_limit" = some (.ref fLL)) (GLL : FnOk P w K mg base CX0 2 fLL fdLL ["_law_instance", "_law_assignment_here", "_law_prices"] (spLim K))
    (FPl : Fun K "price_limit" "price_limit" sPl fPl fdPl) (bPl : Binds K fdPl ["instance", "assignment", "prices"] []) (gPl : mg "price_limit" = some (.ref fPl)) (GPl : FnOk P w K mg base CX0 3 fPl fdPl ["instance", "assignment", "prices"] (spLim K))
    (FSm : Fun K "_law_same" "_law_same" sSame fSm fdSm) (bSm : Binds K fdSm ["_law_found", "_law_due"] []) (gSm : mg "_law_same" = some (.ref fSm)) (GSm : FnOk P w K mg base CX0 3 fSm fdSm ["_law_found", "_law_due"] (spS K 3))
    (m_range : mg "range" = none) (m_len : mg "len" = none) (m_repr : mg "repr" = none) (m_tuple : mg "tuple" = none) :
    FnG P w K mg base 5 f fd ["_law_script"] (spLaw K) := by
  refine okG F scLa (fun vs H Q E h => ?_) (fun cdv A outer s H vs Q E hgd hr h => ?_)
  · obtain ⟨a, ns, rfl, _⟩ := h; rfl
  · obtain ⟨a, ns, rfl, hS, hn, q⟩ := h
    refine ⟨_, pss_cons (ps_set (i := 1) scLa.nd rfl (.inr rfl) (pe_call GSt (hr.mono (by omega)) (by rfl) gSt FSt.kp bSt .nil pass0 (pa_cons (pv 0) pa_nil)))
      (pss_cons (ps_for PassesOwn.never rfl (pi_range1 (by rfl) m_range (pa_cons (pe_int) pa_nil)) (pg_name (i := 2) scLa.nd rfl (.inl rfl))
        (pss_cons (ps_set (i := 3) scLa.nd rfl (.inl rfl) (pe_call GSl (hr.mono (by omega)) (by rfl) gSl FSl.kp bSl .nil pass0 (pa_cons (pv 1) pa_nil)))
        (pss_cons (ps_if (pt_cmpR op_eq (pe_call GDr (hr.mono (by omega)) (by rfl) gDr FDr.kp bDr .nil pass0 (pa_cons (pv 1) (pa_cons (pe_int) pa_nil))) (pe_int) (nomark _))
          (pss_one (ps_set (i := 3) scLa.nd rfl (.inl rfl) (pe_call GFa (hr.mono (by omega)) (by rfl) gFa FFa.kp bFa .nil pass0 (pa_cons (pv 1) (pa_cons (pe_int) pa_nil))))) pss_nil)
        (pss_cons (ps_set (i := 4) scLa.nd rfl (.inl rfl) (pe_call GAs (hr.mono (by omega)) (by rfl) gAs FAs.kp bAs .nil pass0 (pa_cons (pv 1) (pa_cons (pv 3) pa_nil))))
        (pss_cons (ps_set (i := 5) scLa.nd rfl (.inl rfl) (pe_callB call_lenQ (by rfl) m_len PySem.boot_len (pa_cons (pe_ix ix_tup (pv 3) (pe_int) (fun _ _ => rfl)) pa_nil)))
        (pss_cons (ps_set (i := 6) scLa.nd rfl (.inl rfl) (pe_callB (call_reprR hgd (hu70 hr)) (by rfl) m_repr (by decide +kernel) (pa_cons (pe_lstS (pa_cons (pv 3) (pa_cons (pv 4) pa_nil))) pa_nil)))
        (pss_cons (ps_set (i := 7) scLa.nd rfl (.inl rfl) (pe_lst (pa_cons (pe_op op_repA (pe_tup (pa_cons (pe_int) pa_nil)) (pv 5)) (pa_cons (pe_op op_repA (pe_tup (pa_cons (pe_int) pa_nil)) (pv 5)) (pa_cons (pe_op op_repA (pe_tup (pa_cons (pe_int) pa_nil)) (pv 5)) pa_nil)))))
        (pss_cons (ps_for PassesOwn.never rfl (pi_range1 (by rfl) m_range (pa_cons (pe_int) pa_nil)) (pg_name (i := 8) scLa.nd rfl (.inl rfl))
          (pss_one (ps_expr (pe_bm PySem.F.plainAttrs_list PySem.F.slot_list_append PySem.F.type_list_append mt_append (pv 7) (pa_cons (pe_callTy call_tupQ (by rfl) m_tuple (by decide +kernel) (pa_cons (pe_lc (own := [("_law_post", 12)]) (g := gName 12) (tt := tYes) (te := tCall spDraw [] E0 (tCons (tVar 1) (tCons (tC (.int 3)) tNil))) rfl scLa.nd (pi_range1 (by rfl) m_range (pa_cons (pv 5) pa_nil)) (blkOk_by (N := ["_law_script", "_law_stream_here", "_law_turn", "_law_instance", "_law_assignment_here", "_law_posts", "_law_kept", "_law_some", "_law_k", "_law_prices", "_law_due", "_law_told", "_law_post"]) (sc := defScope sLa) (by decide +kernel)) (fun _ _ _ _ _ => pg_name (i := 12) scLa.nd rfl (.inl rfl)) (fun _ _ _ _ _ => pts_nil) (fun _ _ _ _ _ => pe_call GDr (hr.mono (by omega)) (by rfl) gDr FDr.kp bDr .nil pass0 (pa_cons (pv 1) (pa_cons (pe_int) pa_nil)))) pa_nil)) pa_nil)))))
        (pss_cons (ps_for PassesOwn.never rfl (pi_list (pv 7)) (pg_name (i := 9) scLa.nd rfl (.inl rfl))
          (pss_cons (ps_set (i := 10) scLa.nd rfl (.inl rfl) (pe_call GLL (hr.mono (by omega)) (by rfl) gLL FLL.kp bLL .nil pass0 (pa_cons (pv 3) (pa_cons (pv 4) (pa_cons (pv 9) pa_nil)))))
          (pss_cons (ps_set (i := 11) scLa.nd rfl (.inl rfl) (pe_lst (pa_cons (pe_call GPl (hr.mono (by omega)) (by rfl) gPl FPl.kp bPl .nil pass0 (pa_cons (pv 3) (pa_cons (pv 4) (pa_cons (pv 9) pa_nil)))) (pa_cons (pe_call GPl (hr.mono (by omega)) (by rfl) gPl FPl.kp bPl .nil pass0 (pa_cons (pv 3) (pa_cons (pv 4) (pa_cons (pv 9) pa_nil)))) pa_nil))))
          (pss_one (ps_if (pt_not (pt_val (pe_call GSm (hr.mono (by omega)) (by rfl) gSm FSm.kp bSm .nil pass0 (pa_cons (pv 11) (pa_cons (pe_lst (pa_cons (pv 10) (pa_cons (pv 10) pa_nil))) pa_nil)))))
            (pss_one (ps_ret (pe_bl))) pss_nil)))))
        (pss_one (ps_if (pt_cmpR op_ne (pe_callB (call_reprR hgd (hu70 hr)) (by rfl) m_repr (by decide +kernel) (pa_cons (pe_lstS (pa_cons (pv 3) (pa_cons (pv 4) pa_nil))) pa_nil)) (pv 6) (nomark _))
          (pss_one (ps_ret (pe_bl))) pss_nil)))))))))))
      (pss_one (ps_ret (pe_bl)))), ?_⟩
    refine ⟨.ref a, rfl, a, ns, rfl, hS, hn, fun H1 st c r s1 D1 => ?_⟩
    refine ⟨6, rfl, by decide, by decide, for_it (walk_range (lo := 0) (n := (6 : Int).toNat))
      (fun i σ H2 => ∃ (y2 y3 y4 y5 y6 y7 y8 y9 y10 y11 : Option V) (t2 : Nat), σ = [some (.ref a), some (.ref st), y2, y3, y4, y5, y6, y7, y8, y9, y10, y11, none] ∧ DS H2 st c r t2 ∧ t2 ≤ 1000 * i)
      ⟨none, none, none, none, none, none, none, none, none, none, 0, rfl, D1, by omega⟩ (fun _ _ _ _ _ => trivial) ?_ (fun σ H2 _ => q _)⟩
    rintro i v σ H2 H2' hlt ⟨y2, y3, y4, y5, y6, y7, y8, y9, y10, y11, t2, rfl, d2, ht2⟩ ⟨rfl, rfl⟩
    have hi6 : i < 6 := hlt
    refine ⟨.ref st, rfl, st, c, r, t2, rfl, d2, by omega, fun H3 I0 t3 cs0 gs0 D3 ht3 X3 hI0 ok0 nd0 sm0 => ?_⟩
    dsimp only [gName]
    refine seq_with (t := tIfS _ _ _) (fun σ1 H5 => ∃ (I : Addr) (cs : List Int) (gs : List Gp) (t5 : Nat), σ1 = [some (.ref a), some (.ref st), some (.int (0 + (i : Nat))), some (.ref I), y4, y5, y6, y7, y8, y9, y10, y11, none] ∧ DS H5 st c r t5 ∧ t5 ≤ t2 + 601 ∧ Dp K H5 (.ref I) (dInst cs gs) ∧ InsOk cs gs) ?rest (fun rest => ?main)
    case main =>
      refine ⟨.ref st, rfl, st, c, r, t3, _, rfl, D3, by omega, by decide, by decide, fun H4 d4 h40 h41 D4 X4 => ⟨rfl, _, rfl, ite2 (fun h1 => ?_) (fun h1 => ?_)⟩⟩
      · exact ⟨.ref st, rfl, st, c, r, t3 + 1, 6, rfl, D4, by omega, by omega, by omega, fun H5 I t5 cs gs D5 ht5 X5 hI ok nd => rest _ _ ⟨I, cs, gs, t5, rfl, D5, by omega, hI, ok⟩⟩
      · exact rest _ _ ⟨I0, cs0, gs0, t3 + 1, rfl, D4, by omega, (X4.tup D3).dp _ _ (to_dInst _ _) hI0, ok0⟩
    case rest =>
    rintro σ1 H5 ⟨I, cs, gs, t5, rfl, D5, ht5, hI, ok⟩
    have h1' := ok.c1
    have h6 := ok.c6
    have h10 := ok.g10
    refine ⟨.ref st, rfl, .ref I, rfl, st, c, r, I, t5, cs, gs, rfl, D5, by omega, hI, ok, fun H6 B t6 rows D6 ht6 X6 hB sh bd sm fit => ?_⟩
    have hI6 := (X6.tup D5).dp _ _ (to_dInst _ _) hI
    obtain ⟨_, ca, ga, xs, e, hi, hc, hgt, hgs⟩ := inst_open hI6
    cases e
    refine ⟨.ref I, rfl, I, _, 0, .ref ca, rfl, rfl, hi, atI_nat (j := 0) rfl, ca, _, rfl, .inr hc, ?_⟩
    rw [List.length_map]
    have hrows : Fit BigM 2 10000 (dAsg rows) := by
      refine fit_dAsg (fun row hr => ?_) (by have := sh.1; omega)
      obtain ⟨k, hk, e⟩ := List.mem_iff_getElem.mp hr
      have hkg : k < gs.length := by have := sh.1; omega
      have e1 := sh.2 k gs[k] rows[k] (List.getElem?_eq_getElem hkg) (List.getElem?_eq_getElem hk)
      have e2 := (ok.gp gs[k] (List.getElem_mem hkg)).1
      refine ⟨by rw [← e]; omega, fun x hx => nat_big ?_⟩
      have := bd row hr x hx
      omega
    have shP := fit_pair (by decide) ((fit_ins ok).mono (Nat.le_refl _) (k' := 5) (by omega) (W' := 20000) (by omega)) (hrows.mono (Nat.le_refl _) (k' := 5) (by omega) (W' := 20000) (by omega)) (by decide) (by decide)
    have qI : Dq K st r H6 (.ref I) (dInst cs gs) := Dq.of_dp (to_dInst _ _) hI6
    have qB : Dq K st r H6 (.ref B) (dAsg rows) := Dq.of_dp (to_dAsg _) hB
    have oc : ∀ {Hx : Hp} {tx : Nat}, DS Hx st c r tx → Hx st ≠ none ∧ Hx r ≠ none := fun {Hx tx} Dx => by
      obtain ⟨cells, rests, hc', hr', _⟩ := Dx.ex
      exact ⟨by rw [Dx.hs]; simp, by rw [hr']; simp⟩
    -- kept
    refine ⟨.ref I, rfl, .ref B, rfl, (show (2 : Nat) ≤ sizeLine by decide), fun L1 n1 m1 => ?_⟩
    have s7 := sameNew (o := .lst [.ref I, .ref B]) n1
    refine ⟨_, _, st, r, rfl, .lst upd_same (occ_ne (oc D6) n1).1 (occ_ne (oc D6) n1).2 m1 (.cons (qI.lasts (.of s7)) (.cons (qB.lasts (.of s7)) .nil)), shP.1, shP.2.1, shP.2.2, ?_⟩
    -- some
    refine ⟨(show (1 : Nat) ≤ sizeLine by decide), fun T1 nT1 => ⟨.int (cs.length : Nat), rfl, rep_eq (SqT.of upd_same) h1' (by omega) (fun Ha pa sa hpa => ?_)⟩⟩
    refine ⟨(show (1 : Nat) ≤ sizeLine by decide), fun T2 nT2 => ⟨.int (cs.length : Nat), rfl, rep_eq (SqT.of upd_same) h1' (by omega) (fun Hb pb sb hpb => ?_)⟩⟩
    refine ⟨(show (1 : Nat) ≤ sizeLine by decide), fun T3 nT3 => ⟨.int (cs.length : Nat), rfl, rep_eq (SqT.of upd_same) h1' (by omega) (fun Hc pc sc hpc => ?_)⟩⟩
    refine ⟨(show (3 : Nat) ≤ sizeLine by decide), fun So nSo => ?_⟩
    have sSo := sameNew (o := .lst [.ref pa, .ref pb, .ref pc]) nSo
    have sab := ((sameNew (o := .tup [.int 1]) nT2).trans sb)
    have sbc := ((sameNew (o := .tup [.int 2]) nT3).trans sc)
    have s6a := (s7.trans (sameNew (o := .tup [.int 0]) nT1)).trans sa
    have s6c := (s6a.trans sab).trans sbc
    have s6 := s6c.trans sSo
    have D6c := D6.same s6c
    have oSo := D6c.off nSo
    have D7 := D6.same s6
    have hall : PrAll K (upd Hc So (.lst [.ref pa, .ref pb, .ref pc])) cs.length [.ref pa, .ref pb, .ref pc] := by
      have k1 := (TupK.of ((sab.trans sbc).trans sSo)).sq hpa
      have k2 := (TupK.of (sbc.trans sSo)).sq hpb
      have k3 := (TupK.of sSo).sq hpc
      intro v hv
      simp only [List.mem_cons, List.not_mem_nil, or_false] at hv
      rcases hv with rfl | rfl | rfl
      · exact ⟨_, _, rfl, k1, by simp⟩
      · exact ⟨_, _, rfl, k2, by simp⟩
      · exact ⟨_, _, rfl, k3, by simp⟩
    have tk0 : TupK H6 (upd Hc So (.lst [.ref pa, .ref pb, .ref pc])) := TupK.of s6
    have eSo : (upd Hc So (.lst [.ref pa, .ref pb, .ref pc])) So = some (.lst [.ref pa, .ref pb, .ref pc]) := upd_same
    generalize upd Hc So (.lst [.ref pa, .ref pb, .ref pc]) = H7 at D7 hall tk0 eSo
    refine ⟨5, rfl, by decide, by decide, for_it (walk_range (lo := 0) (n := (5 : Int).toNat))
      (fun j σ H8 => ∃ (z8 : Option V) (t8 : Nat) (vs : List V), σ = [some (.ref a), some (.ref st), some (.int (0 + (i : Nat))), some (.ref I), some (.ref B), some (.int (cs.length : Nat)), some (.str (PyData.list [dInst cs gs, dAsg rows]).shown), some (.ref So), z8, y9, y10, y11, none] ∧ DS H8 st c r t8 ∧ t8 ≤ t6 + 10 * j ∧ TupK H6 H8 ∧ H8 So = some (.lst vs) ∧ vs.length = 3 + j ∧ PrAll K H8 cs.length vs)
      ⟨_, t6, _, rfl, D7, by omega, tk0, eSo, rfl, hall⟩ (fun _ _ _ _ _ => trivial) ?_ ?_⟩
    · rintro j v σ H8 H8' hltj ⟨z8, t8, vs, rfl, D8, ht8, tk8, e8, l8, p8⟩ ⟨rfl, rfl⟩
      have hj5 : j < 5 := hltj
      refine ⟨.ref So, rfl, .inl ⟨rfl, _, SqL.of e8⟩, .int (cs.length : Nat), rfl, cs.length, rfl, by omega, by omega, fun D nD => ?_⟩
      have oD := D8.off nD
      have nSD : So ≠ D := ne_of_none e8 nD
      refine lc_it (walk_range (lo := 0) (n := ((cs.length : Nat) : Int).toNat))
        (fun k H9 => ∃ (t9 : Nat) (ls : List Int), DS H9 st c r t9 ∧ t9 ≤ t8 + k ∧ TupK H8' H9 ∧ H9 So = some (.lst vs) ∧ H9 D = some (.lst (ls.map V.int)) ∧ ls.length = k)
        ⟨t8, [], D8.new nD, by omega, TupK.new nD, upNew nD e8, upd_same, rfl⟩ (fun _ _ _ _ => trivial) ?_ ?_
      · rintro k v H9 H10 hltk ⟨t9, ls, d9, ht9, tk9, eS9, eD9, l9⟩ ⟨rfl, rfl⟩
        have hk6 : k < 6 := by omega
        refine ⟨rfl, .ref st, rfl, st, c, r, t9, _, rfl, d9, by omega, by decide, by decide, fun H11 d11 h110 h111 D11 X11 => ?_⟩
        have eD11 := X11 _ _ eD9 oD.1 oD.2.2
        refine ⟨_, eD11, by rw [List.length_map]; exact small (by omega), t9 + 1, ls ++ [d11], D11.put oD.1 oD.2.1 oD.2.2, by omega, (tk9.trans (X11.tup d9)).trans (TupK.put eD11), by rw [upd_ne nSD]; exact X11 _ _ eS9 oSo.1 oSo.2.2, ?_, by simp [l9]⟩
        rw [upd_same, List.map_append]; rfl
      rintro H9 ⟨t9, ls, d9, ht9, tk9, eS9, eD9, l9⟩
      have l9' : ls.length = cs.length := by omega
      refine ⟨D, _, rfl, .inl ⟨SqL.of eD9, fun T nT => ?_⟩⟩
      have eS10 := upNew nT (o := .tup (ls.map V.int)) eS9
      have tkz : TupK H9 (upd (upd H9 T (.tup (ls.map V.int))) So (.lst (vs ++ [.ref T]))) := (TupK.new nT).trans (TupK.put eS10)
      refine ⟨So, vs, _, rfl, rfl, eS10, by rw [l8]; exact small (by omega), _, t9, vs ++ [.ref T], rfl, (d9.new nT).put oSo.1 oSo.2.1 oSo.2.2, by omega, (tk8.trans tk9).trans tkz, upd_same, by simp; omega, ?_⟩
      intro v hv
      rcases List.mem_append.mp hv with h | h
      · obtain ⟨p, pr, rfl, hp, lp⟩ := p8 v h
        exact ⟨p, pr, rfl, (tk9.trans tkz).sq hp, lp⟩
      · rw [List.mem_singleton.mp h]
        exact ⟨T, ls, rfl, SqT.of (by rw [upd_ne (ne_of_none eS9 nT).symm]; exact upd_same), l9'⟩
    · rintro σ H8 ⟨z8, t8, vs, rfl, D8, ht8, tk8, e8, l8, p8⟩
      have e5 : (5 : Int).toNat = 5 := rfl
      rw [e5] at ht8
      have hI8 := tk8.dp _ _ (to_dInst _ _) hI6
      have hB8 := tk8.dp _ _ (to_dAsg _) hB
      refine ⟨.ref So, rfl, So, rfl, ⟨_, SqL.of e8⟩, for_it (walk_list (K := K) (a := So) (xs := vs))
        (fun j σ H9 => ∃ (w9 w10 w11 : Option V), σ = [some (.ref a), some (.ref st), some (.int (0 + (i : Nat))), some (.ref I), some (.ref B), some (.int (cs.length : Nat)), some (.str (PyData.list [dInst cs gs, dAsg rows]).shown), some (.ref So), z8, w9, w10, w11, none] ∧ Same H8 H9)
        ⟨_, _, _, rfl, Same.refl _⟩ (fun j σ H9 _ h => by obtain ⟨_, _, _, _, s9⟩ := h; exact SqL.of (s9 _ _ e8)) ?_ ?_⟩
      · rintro j v σ H9 H9' hltj ⟨w9, w10, w11, rfl, s9⟩ ⟨rfl, hv⟩
        have hv' : vs[j]? = some v := hv
        obtain ⟨p, pr, rfl, hp, lp⟩ := p8 v (List.mem_of_getElem? hv')
        have go : ∀ H10, Same H8 H10 → Dp K H10 (.ref I) (dInst cs gs) ∧ Dp K H10 (.ref B) (dAsg rows) ∧ SqT K H10 p (pr.map V.int) := fun H10 s10 => ⟨(TupK.of s10).dp _ _ (to_dInst _ _) hI8, (TupK.of s10).dp _ _ (to_dAsg _) hB8, (TupK.of s10).sq hp⟩
        obtain ⟨g1, g2, g3⟩ := go _ s9
        refine ⟨.ref I, rfl, .ref B, rfl, .ref p, rfl, I, B, p, cs, gs, rows, pr, rfl, g1, ok, g2, sh, bd, g3, lp, fun H10 s10 => ?_⟩
        have s10' := s9.trans s10
        obtain ⟨g1, g2, g3⟩ := go _ s10'
        refine ⟨.ref I, rfl, .ref B, rfl, .ref p, rfl, I, B, p, cs, gs, rows, pr, rfl, g1, ok, g2, sh, bd, g3, lp, fun H11 s11 => ?_⟩
        have s11' := s10'.trans s11
        obtain ⟨g1, g2, g3⟩ := go _ s11'
        refine ⟨.ref I, rfl, .ref B, rfl, .ref p, rfl, I, B, p, cs, gs, rows, pr, rfl, g1, ok, g2, sh, bd, g3, lp, fun H12 s12 => ?_⟩
        have s12' := s11'.trans s12
        generalize limI cs gs rows pr gs.length = z
        refine ⟨(show (2 : Nat) ≤ sizeLine by decide), fun A1 nA1 => ⟨.ref A1, rfl, .int z, rfl, .int z, rfl, (show (2 : Nat) ≤ sizeLine by decide), fun A2 nA2 => ?_⟩⟩
        have sA1 := sameNew (o := .lst [.int z, .int z]) nA1
        have sA2 := sameNew (o := .lst [.int z, .int z]) nA2
        refine ⟨_, _, .list [.int z, .int z], rfl, .lst (SqL.of (sA2 _ _ upd_same)) (.cons (.int _) (.cons (.int _) .nil)), .lst (SqL.of upd_same) (.cons (.int _) (.cons (.int _) .nil)), by simp [plain, plainAll], by simp [PyData.depth, PyData.depthAll], fun H13 s13 => ⟨_, rfl, iteF ?_⟩⟩
        exact ⟨_, _, _, rfl, ((s12'.trans sA1).trans sA2).trans s13⟩
      · rintro σ H9 ⟨w9, w10, w11, rfl, s9⟩
        have D9 := D8.same s9
        have qI9 := qI.lasts (st := st) (r := r) (H' := H6) Lasts.refl
        refine ⟨.ref I, rfl, .ref B, rfl, (show (2 : Nat) ≤ sizeLine by decide), fun L2 n2 m2 => ?_⟩
        have sL2 := s9.trans (sameNew (o := .lst [.ref I, .ref B]) n2)
        have tkL := tk8.trans (TupK.of sL2)
        refine ⟨_, _, st, r, rfl, .lst upd_same (occ_ne (oc D9) n2).1 (occ_ne (oc D9) n2).2 m2 (.cons (Dq.of_dp (to_dInst _ _) (tkL.dp _ _ (to_dInst _ _) hI6)) (.cons (Dq.of_dp (to_dAsg _) (tkL.dp _ _ (to_dAsg _) hB)) .nil)), shP.1, shP.2.1, shP.2.2, _, rfl, rfl, _, rfl, iteFF (by simp) ?_⟩
        exact ⟨_, _, _, _, _, _, _, _, _, _, t8, rfl, D8.same sL2, by omega⟩
end
end Pv

namespace Pv
open PySem PySem.Spec PyProof.Rows L2
/-! what the top has left -/
theorem all_mk {l : PySem.W.OpenLaw} {w : World} {K : PySem.W.Frag} {h : Heap} {mg : Str → Option Value} {fa fVo fPl fBg fSt fDr fOn fSm fLi fSl fAm fFa fAs fLV fLL fLa : Addr} (X : K.In h) (G : h.Ns mainGlobals mg) (hfa : mg "law" = some (.ref fa))
    {odVo anVo odPl anPl odBg anBg odSt anSt odDr anDr odOn anOn odSm anSm odLi anLi odSl anSl odAm anAm odFa anFa odAs anAs odLV anLV odLL anLL odLa anLa : Option Addr} {slVo slPl slBg slSt slDr slOn slSm slLi slSl slAm slFa slAs slLV slLL slLa : Array (Option Value)}
    {ocVo kVVo dcVo pmVo cdVo ctVo ocPl kVPl dcPl pmPl cdPl ctPl ocBg kVBg dcBg pmBg cdBg ctBg ocSt kVSt dcSt pmSt cdSt ctSt ocDr kVDr dcDr pmDr cdDr ctDr ocOn kVOn dcOn pmOn cdOn ctOn ocSm kVSm dcSm pmSm cdSm ctSm ocLi kVLi dcLi pmLi cdLi ctLi ocSl kVSl dcSl pmSl cdSl ctSl ocAm kVAm dcAm pmAm cdAm ctAm ocFa kVFa dcFa pmFa cdFa ctFa ocAs kVAs dcAs pmAs cdAs ctAs ocLV kVLV dcLV pmLV cdLV ctLV ocLL kVLL dcLL pmLL cdLL ctLL ocLa kVLa dcLa pmLa cdLa ctLa : Value}
    (aVo : PySem.W.nsIn K mainGlobals "vote" = some (some (.ref fVo))) (lVo : K.lookup fVo = some ⟨ocVo, odVo, .func (PySem.W.fnOf "vote" "vote" (defArgs sVo) (defBody sVo) (defScope sVo) .none kVVo dcVo pmVo anVo cdVo ctVo), slVo⟩)
      (cVo : PySem.W.codeIn K cdVo "vote" = true) (kVo : PySem.W.keepIn K (.ref fVo) = true)
    (aPl : PySem.W.nsIn K mainGlobals "price_limit" = some (some (.ref fPl))) (lPl : K.lookup fPl = some ⟨ocPl, odPl, .func (PySem.W.fnOf "price_limit" "price_limit" (defArgs sPl) (defBody sPl) (defScope sPl) .none kVPl dcPl pmPl anPl cdPl ctPl), slPl⟩)
      (cPl : PySem.W.codeIn K cdPl "price_limit" = true) (kPl : PySem.W.keepIn K (.ref fPl) = true)
    (aBg : PySem.W.nsIn K mainGlobals "best_gain" = some (some (.ref fBg))) (lBg : K.lookup fBg = some ⟨ocBg, odBg, .func (PySem.W.fnOf "best_gain" "best_gain" (defArgs sBg) (defBody sBg) (defScope sBg) .none kVBg dcBg pmBg anBg cdBg ctBg), slBg⟩)
      (cBg : PySem.W.codeIn K cdBg "best_gain" = true) (kBg : PySem.W.keepIn K (.ref fBg) = true)
    (aSt : PySem.W.nsIn K mainGlobals "_law_stream" = some (some (.ref fSt))) (lSt : K.lookup fSt = some ⟨ocSt, odSt, .func (PySem.W.fnOf "_law_stream" "_law_stream" (defArgs sStart) (defBody sStart) (defScope sStart) .none kVSt dcSt pmSt anSt cdSt ctSt), slSt⟩)
      (cSt : PySem.W.codeIn K cdSt "_law_stream" = true) (kSt : PySem.W.keepIn K (.ref fSt) = true)
    (aDr : PySem.W.nsIn K mainGlobals "_law_draw" = some (some (.ref fDr))) (lDr : K.lookup fDr = some ⟨ocDr, odDr, .func (PySem.W.fnOf "_law_draw" "_law_draw" (defArgs sDraw) (defBody sDraw) (defScope sDraw) .none kVDr dcDr pmDr anDr cdDr ctDr), slDr⟩)
      (cDr : PySem.W.codeIn K cdDr "_law_draw" = true) (kDr : PySem.W.keepIn K (.ref fDr) = true)
    (aOn : PySem.W.nsIn K mainGlobals "_law_one" = some (some (.ref fOn))) (lOn : K.lookup fOn = some ⟨ocOn, odOn, .func (PySem.W.fnOf "_law_one" "_law_one" (defArgs sOne) (defBody sOne) (defScope sOne) .none kVOn dcOn pmOn anOn cdOn ctOn), slOn⟩)
      (cOn : PySem.W.codeIn K cdOn "_law_one" = true) (kOn : PySem.W.keepIn K (.ref fOn) = true)
    (aSm : PySem.W.nsIn K mainGlobals "_law_same" = some (some (.ref fSm))) (lSm : K.lookup fSm = some ⟨ocSm, odSm, .func (PySem.W.fnOf "_law_same" "_law_same" (defArgs sSame) (defBody sSame) (defScope sSame) .none kVSm dcSm pmSm anSm cdSm ctSm), slSm⟩)
      (cSm : PySem.W.codeIn K cdSm "_law_same" = true) (kSm : PySem.W.keepIn K (.ref fSm) = true)
    (aLi : PySem.W.nsIn K mainGlobals "_law_list" = some (some (.ref fLi))) (lLi : K.lookup fLi = some ⟨ocLi, odLi, .func (PySem.W.fnOf "_law_list" "_law_list" (defArgs sLi) (defBody sLi) (defScope sLi) .none kVLi dcLi pmLi anLi cdLi ctLi), slLi⟩)
      (cLi : PySem.W.codeIn K cdLi "_law_list" = true) (kLi : PySem.W.keepIn K (.ref fLi) = true)
    (aSl : PySem.W.nsIn K mainGlobals "_law_small" = some (some (.ref fSl))) (lSl : K.lookup fSl = some ⟨ocSl, odSl, .func (PySem.W.fnOf "_law_small" "_law_small" (defArgs sSl) (defBody sSl) (defScope sSl) .none kVSl dcSl pmSl anSl cdSl ctSl), slSl⟩)
      (cSl : PySem.W.codeIn K cdSl "_law_small" = true) (kSl : PySem.W.keepIn K (.ref fSl) = true)
    (aAm : PySem.W.nsIn K mainGlobals "_law_amount" = some (some (.ref fAm))) (lAm : K.lookup fAm = some ⟨ocAm, odAm, .func (PySem.W.fnOf "_law_amount" "_law_amount" (defArgs sAm) (defBody sAm) (defScope sAm) .none kVAm dcAm pmAm anAm cdAm ctAm), slAm⟩)
      (cAm : PySem.W.codeIn K cdAm "_law_amount" = true) (kAm : PySem.W.keepIn K (.ref fAm) = true)
    (aFa : PySem.W.nsIn K mainGlobals "_law_far" = some (some (.ref fFa))) (lFa : K.lookup fFa = some ⟨ocFa, odFa, .func (PySem.W.fnOf "_law_far" "_law_far" (defArgs sFa) (defBody sFa) (defScope sFa) .none kVFa dcFa pmFa anFa cdFa ctFa), slFa⟩)
      (cFa : PySem.W.codeIn K cdFa "_law_far" = true) (kFa : PySem.W.keepIn K (.ref fFa) = true)
    (aAs : PySem.W.nsIn K mainGlobals "_law_assignment" = some (some (.ref fAs))) (lAs : K.lookup fAs = some ⟨ocAs, odAs, .func (PySem.W.fnOf "_law_assignment" "_law_assignment" (defArgs sAs) (defBody sAs) (defScope sAs) .none kVAs dcAs pmAs anAs cdAs ctAs), slAs⟩)
      (cAs : PySem.W.codeIn K cdAs "_law_assignment" = true) (kAs : PySem.W.keepIn K (.ref fAs) = true)
    (aLV : PySem.W.nsIn K mainGlobals "_law_vote" = some (some (.ref fLV))) (lLV : K.lookup fLV = some ⟨ocLV, odLV, .func (PySem.W.fnOf "_law_vote" "_law_vote" (defArgs sLV) (defBody sLV) (defScope sLV) .none kVLV dcLV pmLV anLV cdLV ctLV), slLV⟩)
      (cLV : PySem.W.codeIn K cdLV "_law_vote" = true) (kLV : PySem.W.keepIn K (.ref fLV) = true)
    (aLL : PySem.W.nsIn K mainGlobals "_law_limit" = some (some (.ref fLL))) (lLL : K.lookup fLL = some ⟨ocLL, odLL, .func (PySem.W.fnOf "_law_limit" "_law_limit" (defArgs sLL) (defBody sLL) (defScope sLL) .none kVLL dcLL pmLL anLL cdLL ctLL), slLL⟩)
      (cLL : PySem.W.codeIn K cdLL "_law_limit" = true) (kLL : PySem.W.keepIn K (.ref fLL) = true)
    (aLa : PySem.W.nsIn K mainGlobals "law" = some (some (.ref fLa))) (lLa : K.lookup fLa = some ⟨ocLa, odLa, .func (PySem.W.fnOf "law" "law" (defArgs sLa) (defBody sLa) (defScope sLa) .none kVLa dcLa pmLa anLa cdLa ctLa), slLa⟩)
      (cLa : PySem.W.codeIn K cdLa "law" = true) (kLa : PySem.W.keepIn K (.ref fLa) = true)
    (z0 : PySem.W.nsIn K mainGlobals "isinstance" = some none)
    (z1 : PySem.W.nsIn K mainGlobals "int" = some none)
    (z2 : PySem.W.nsIn K mainGlobals "bool" = some none)
    (z3 : PySem.W.nsIn K mainGlobals "str" = some none)
    (z4 : PySem.W.nsIn K mainGlobals "tuple" = some none)
    (z5 : PySem.W.nsIn K mainGlobals "list" = some none)
    (z6 : PySem.W.nsIn K mainGlobals "len" = some none)
    (z7 : PySem.W.nsIn K mainGlobals "sum" = some none)
    (z8 : PySem.W.nsIn K mainGlobals "abs" = some none)
    (z9 : PySem.W.nsIn K mainGlobals "min" = some none)
    (z10 : PySem.W.nsIn K mainGlobals "max" = some none)
    (z11 : PySem.W.nsIn K mainGlobals "range" = some none)
    (z12 : PySem.W.nsIn K mainGlobals "repr" = some none)
    (z13 : PySem.W.nsIn K mainGlobals "zip" = some none)
    (z14 : PySem.W.nsIn K mainGlobals "all" = some none)
    (z15 : PySem.W.nsIn K mainGlobals "enumerate" = some none)
    : ∃ fd : FuncData, (∀ (s : Shared) (v : Value), BindsTo s fd ⟨[v], []⟩ [("_law_script", v)]) ∧ ∀ base : Heap, K.In base → base.Ns mainGlobals mg → FnG l.prog w K mg base 5 fa fd ["_law_script"] (spLaw K) := by
  have e := hfa.symm.trans (PySem.W.mg_of X G aLa)
  cases e
  have FVo := fun_mk (st := sVo) lVo cVo kVo
  have bVo := FVo.binds (ps := ["start", "end"]) fun _ _ _ _ _ _ us hl => match us, hl with | [_, _], _ => rfl
  have gVo := PySem.W.mg_of X G aVo
  have FPl := fun_mk (st := sPl) lPl cPl kPl
  have bPl := FPl.binds (ps := ["instance", "assignment", "prices"]) fun _ _ _ _ _ _ us hl => match us, hl with | [_, _, _], _ => rfl
  have gPl := PySem.W.mg_of X G aPl
  have FBg := fun_mk (st := sBg) lBg cBg kBg
  have bBg := FBg.binds (ps := ["start", "costs"]) fun _ _ _ _ _ _ us hl => match us, hl with | [_, _], _ => rfl
  have gBg := PySem.W.mg_of X G aBg
  have FSt := fun_mk (st := sStart) lSt cSt kSt
  have bSt := FSt.binds (ps := ["_law_script"]) fun _ _ _ _ _ _ us hl => match us, hl with | [_], _ => rfl
  have gSt := PySem.W.mg_of X G aSt
  have FDr := fun_mk (st := sDraw) lDr cDr kDr
  have bDr := FDr.binds (ps := ["_law_stream_here", "_law_bound"]) fun _ _ _ _ _ _ us hl => match us, hl with | [_, _], _ => rfl
  have gDr := PySem.W.mg_of X G aDr
  have FOn := fun_mk (st := sOne) lOn cOn kOn
  have bOn := FOn.binds (ps := ["_law_stream_here", "_law_items"]) fun _ _ _ _ _ _ us hl => match us, hl with | [_, _], _ => rfl
  have gOn := PySem.W.mg_of X G aOn
  have FSm := fun_mk (st := sSame) lSm cSm kSm
  have bSm := FSm.binds (ps := ["_law_found", "_law_due"]) fun _ _ _ _ _ _ us hl => match us, hl with | [_, _], _ => rfl
  have gSm := PySem.W.mg_of X G aSm
  have FLi := fun_mk (st := sLi) lLi cLi kLi
  have bLi := FLi.binds (ps := ["_law_stream_here", "_law_posts"]) fun _ _ _ _ _ _ us hl => match us, hl with | [_, _], _ => rfl
  have gLi := PySem.W.mg_of X G aLi
  have FSl := fun_mk (st := sSl) lSl cSl kSl
  have bSl := FSl.binds (ps := ["_law_stream_here"]) fun _ _ _ _ _ _ us hl => match us, hl with | [_], _ => rfl
  have gSl := PySem.W.mg_of X G aSl
  have FAm := fun_mk (st := sAm) lAm cAm kAm
  have bAm := FAm.binds (ps := ["_law_stream_here"]) fun _ _ _ _ _ _ us hl => match us, hl with | [_], _ => rfl
  have gAm := PySem.W.mg_of X G aAm
  have FFa := fun_mk (st := sFa) lFa cFa kFa
  have bFa := FFa.binds (ps := ["_law_stream_here", "_law_most"]) fun _ _ _ _ _ _ us hl => match us, hl with | [_, _], _ => rfl
  have gFa := PySem.W.mg_of X G aFa
  have FAs := fun_mk (st := sAs) lAs cAs kAs
  have bAs := FAs.binds (ps := ["_law_stream_here", "_law_instance"]) fun _ _ _ _ _ _ us hl => match us, hl with | [_, _], _ => rfl
  have gAs := PySem.W.mg_of X G aAs
  have FLV := fun_mk (st := sLV) lLV cLV kLV
  have bLV := FLV.binds (ps := ["_law_option", "_law_other"]) fun _ _ _ _ _ _ us hl => match us, hl with | [_, _], _ => rfl
  have gLV := PySem.W.mg_of X G aLV
  have FLL := fun_mk (st := sLL) lLL cLL kLL
  have bLL := FLL.binds (ps := ["_law_instance", "_law_assignment_here", "_law_prices"]) fun _ _ _ _ _ _ us hl => match us, hl with | [_, _, _], _ => rfl
  have gLL := PySem.W.mg_of X G aLL
  have FLa := fun_mk (st := sLa) lLa cLa kLa
  have m_isinstance := PySem.W.mg_none_of X G z0
  have m_int := PySem.W.mg_none_of X G z1
  have m_bool := PySem.W.mg_none_of X G z2
  have m_str := PySem.W.mg_none_of X G z3
  have m_tuple := PySem.W.mg_none_of X G z4
  have m_list := PySem.W.mg_none_of X G z5
  have m_len := PySem.W.mg_none_of X G z6
  have m_sum := PySem.W.mg_none_of X G z7
  have m_abs := PySem.W.mg_none_of X G z8
  have m_min := PySem.W.mg_none_of X G z9
  have m_max := PySem.W.mg_none_of X G z10
  have m_range := PySem.W.mg_none_of X G z11
  have m_repr := PySem.W.mg_none_of X G z12
  have m_zip := PySem.W.mg_none_of X G z13
  have m_all := PySem.W.mg_none_of X G z14
  have m_enumerate := PySem.W.mg_none_of X G z15
  refine ⟨PySem.W.fnOf "law" "law" (defArgs sLa) (defBody sLa) (defScope sLa) .none kVLa dcLa pmLa anLa cdLa ctLa, fun s v => .of_eq rfl, fun base _ _ => ?_⟩
  have GSt := ok_start (P := l.prog) (w := w) (base := base) (mg := mg) (k := 0) FSt m_abs m_int m_len
  have GDr := ok_draw (P := l.prog) (w := w) (base := base) (mg := mg) (k := 0) FDr m_len
  have GOn := ok_one (P := l.prog) (w := w) (base := base) (mg := mg) (k := 0) FOn FDr bDr gDr GDr m_len
  have GSm := ok_same (P := l.prog) (w := w) (base := base) (mg := mg) FSm bSm gSm m_tuple m_list m_isinstance m_len m_zip m_all m_bool m_int m_str m_repr 3
  have GLi := ok_Li (P := l.prog) (w := w) (base := base) (mg := mg) FLi  FDr bDr gDr GDr FOn bOn gOn GOn   m_list m_range m_min m_len m_tuple
  have GAm := ok_Am (P := l.prog) (w := w) (base := base) (mg := mg) FAm  FDr bDr gDr GDr FOn bOn gOn GOn   
  have GSl := ok_Sl (P := l.prog) (w := w) (base := base) (mg := mg) FSl  FDr bDr gDr GDr FLi bLi gLi GLi   m_range m_tuple
  have GFa := ok_Fa (P := l.prog) (w := w) (base := base) (mg := mg) FFa  FDr bDr gDr GDr FLi bLi gLi GLi FAm bAm gAm GAm FOn bOn gOn GOn   m_range m_sum m_min m_max m_tuple
  have GAs := ok_As (P := l.prog) (w := w) (base := base) (mg := mg) FAs  FDr bDr gDr GDr   m_list m_min m_int m_tuple
  have GVo := ok_Vo (P := l.prog) (w := w) (base := base) (mg := mg) FVo     
  have GBg := ok_Bg (P := l.prog) (w := w) (base := base) (mg := mg) FBg  FVo bVo gVo GVo   m_enumerate m_max
  have GPl := ok_Pl (P := l.prog) (w := w) (base := base) (mg := mg) FPl  FBg bBg gBg GBg   m_zip m_sum m_enumerate
  have GLV := ok_LV (P := l.prog) (w := w) (base := base) (mg := mg) FLV     m_int
  have GLL := ok_LL (P := l.prog) (w := w) (base := base) (mg := mg) FLL  FLV bLV gLV GLV   m_zip m_sum m_enumerate m_len m_range m_max
  exact ok_La (P := l.prog) (w := w) (base := base) FLa  FSt bSt gSt GSt FSl bSl gSl GSl FDr bDr gDr GDr FFa bFa gFa GFa FAs bAs gAs GAs FLL bLL gLL GLL FPl bPl gPl GPl FSm bSm gSm GSm   m_range m_len m_repr m_tuple
end Pv

open PySem PySem.W PyProof.Rows
set_option maxRecDepth 100000 in
set_option maxHeartbeats 0 in
theorem PySem.Challenge.cw_postvote_k10_price_limit_holds : PySem.Challenge.rw_postvote_k10_price_limit.Holds := by
  w_on; o_law; k_head; (case hw => w_witness2)
  k_fill
  refine Pv.walkG (l := PySem.Challenge.rw_postvote_k10_price_limit) (n := 63) (k := 5) (x := "_law_script") (sp := fun w => Pv.spLaw _) rfl (by decide) rfl ⟨rfl, by decide, by decide⟩ (fun w h Y => PySem.W.kIn_of Y) ?F (fun _ _ a ns hl _ _ hS => ⟨a, ns, rfl, hS, hl, fun _ => rfl⟩)
  case F =>
    intro w mg fa h KX G hmg
    refine' Pv.all_mk KX G hmg ?aVo ?lVo ?cVo ?kVo ?aPl ?lPl ?cPl ?kPl ?aBg ?lBg ?cBg ?kBg ?aSt ?lSt ?cSt ?kSt ?aDr ?lDr ?cDr ?kDr ?aOn ?lOn ?cOn ?kOn ?aSm ?lSm ?cSm ?kSm ?aLi ?lLi ?cLi ?kLi ?aSl ?lSl ?cSl ?kSl ?aAm ?lAm ?cAm ?kAm ?aFa ?lFa ?cFa ?kFa ?aAs ?lAs ?cAs ?kAs ?aLV ?lLV ?cLV ?kLV ?aLL ?lLL ?cLL ?kLL ?aLa ?lLa ?cLa ?kLa ?z0 ?z1 ?z2 ?z3 ?z4 ?z5 ?z6 ?z7 ?z8 ?z9 ?z10 ?z11 ?z12 ?z13 ?z14 ?z15
    (case aVo => k_is); (case lVo => k_is); (case cVo => k_is); (case kVo => k_is); (case aPl => k_is); (case lPl => k_is); (case cPl => k_is); (case kPl => k_is); (case aBg => k_is); (case lBg => k_is); (case cBg => k_is); (case kBg => k_is); (case aSt => k_is); (case lSt => k_is); (case cSt => k_is); (case kSt => k_is); (case aDr => k_is); (case lDr => k_is); (case cDr => k_is); (case kDr => k_is); (case aOn => k_is); (case lOn => k_is); (case cOn => k_is); (case kOn => k_is); (case aSm => k_is); (case lSm => k_is); (case cSm => k_is); (case kSm => k_is); (case aLi => k_is); (case lLi => k_is); (case cLi => k_is); (case kLi => k_is); (case aSl => k_is); (case lSl => k_is); (case cSl => k_is); (case kSl => k_is); (case aAm => k_is); (case lAm => k_is); (case cAm => k_is); (case kAm => k_is); (case aFa => k_is); (case lFa => k_is); (case cFa => k_is); (case kFa => k_is); (case aAs => k_is); (case lAs => k_is); (case cAs => k_is); (case kAs => k_is); (case aLV => k_is); (case lLV => k_is); (case cLV => k_is); (case kLV => k_is); (case aLL => k_is); (case lLL => k_is); (case cLL => k_is); (case kLL => k_is); (case aLa => k_is); (case lLa => k_is); (case cLa => k_is); (case kLa => k_is); (case z0 => k_is); (case z1 => k_is); (case z2 => k_is); (case z3 => k_is); (case z4 => k_is); (case z5 => k_is); (case z6 => k_is); (case z7 => k_is); (case z8 => k_is); (case z9 => k_is); (case z10 => k_is); (case z11 => k_is); (case z12 => k_is); (case z13 => k_is); (case z14 => k_is); (case z15 => k_is)
