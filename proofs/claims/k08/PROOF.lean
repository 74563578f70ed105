import PyProof.Rows.All
import Wide.All
import OpenK.AllK
import Wide.FinOn
import HandS.ForMost
import HandS.Wide
import HandS.IsInst
import HandS.TupAny
import HandS.Conv
import KE.GoesMore
import KE.GoesEnum
import HandS.ForExc
import HandS.ExcInit
import HandS.ExcField
import HandS.TryMany
import PyProof.ExcBaseAll.OverflowError
import KE.KExcInit
import HandS.TupMul
import HandS.SetFor
import HandS.Strs
import HandS.Zip
import PyProof.StrOps2
import HandS.Text
import HandS.Defaults
import HandS.Style
import HandS.Deep
import PySem.Challenge.RW_stepsound_k08_whole_maps
set_option Elab.async false
set_option linter.all false
set_option maxRecDepth 100000
namespace My
open PySem PySem.Spec PyProof.Rows L2

/-! ### heaps -/
theorem same_new {H : Hp} {p : Addr} {o : HO} (h : H p = none) : Same H (upd H p o) := fun b x e => by
  rw [upd_ne (ne_of_none e h)]
  exact e
theorem same_tup {K : PySem.W.Frag} {H H' : Hp} {a : Addr} {xs : List V} (e : Same H H') (h : SqT K H a xs) : SqT K H' a xs := by
  rcases h with (h | ⟨o, h⟩) | h
  · exact .inl (.inl (e _ _ h))
  · exact .inl (.inr ⟨o, e _ _ h⟩)
  · exact .inr h
/-- every tuple stands -/
def TupS (H H' : Hp) : Prop := ∀ b xs, H b = some (.tup xs) → H' b = some (.tup xs)
theorem Same.tupS {H H' : Hp} (e : Same H H') : TupS H H' := fun b xs h => e b _ h

/-! ### rules within a comprehension: the written part by its own name -/
theorem ix_tupK {X : Cx} {K : PySem.W.Frag} (h : X.K = K := by rfl) : IxR X (rIxT K) := by
  subst h
  exact ix_tup
theorem ix_listK {X : Cx} {K : PySem.W.Frag} (h : X.K = K := by rfl) : IxR X (rIxL K) := by
  subst h
  exact ix_list
def rLen (K : PySem.W.Frag) : List V → Hp → VK → Prop := fun xs H Q => ∃ p ys, xs = [.ref p] ∧ (SqL K H p ys ∨ SqT K H p ys) ∧ Q (.int ys.length) H
theorem call_lenK {X : Cx} {K : PySem.W.Frag} (h : X.K = K := by rfl) : CallR X (.builtin "len") (rLen K) := by
  subst h
  exact call_len_seq
/-! ### the drawer of a law: a dict of two lists and a number -/
def dd (c l : Addr) (k : Int) : List (Key × V) := [(.inr "cells", .ref c), (.inr "left", .ref l), (.inr "at", .int k)]
theorem nCL : ¬ ((Sum.inr ("cells" : Str) : Key) = Sum.inr ("left" : Str)) := by decide +kernel
theorem nCA : ¬ ((Sum.inr ("cells" : Str) : Key) = Sum.inr ("at" : Str)) := by decide +kernel
theorem nLC : ¬ ((Sum.inr ("left" : Str) : Key) = Sum.inr ("cells" : Str)) := by decide +kernel
theorem nLA : ¬ ((Sum.inr ("left" : Str) : Key) = Sum.inr ("at" : Str)) := by decide +kernel
theorem nAC : ¬ ((Sum.inr ("at" : Str) : Key) = Sum.inr ("cells" : Str)) := by decide +kernel
theorem nAL : ¬ ((Sum.inr ("at" : Str) : Key) = Sum.inr ("left" : Str)) := by decide +kernel
theorem dd_c (c l : Addr) (k : Int) : valV (dd c l k) (.inr "cells") = some (.ref c) := valV_pos rfl
theorem dd_l (c l : Addr) (k : Int) : valV (dd c l k) (.inr "left") = some (.ref l) := (valV_neg nCL).trans (valV_pos rfl)
theorem dd_a (c l : Addr) (k : Int) : valV (dd c l k) (.inr "at") = some (.int k) := (valV_neg nCA).trans ((valV_neg nLA).trans (valV_pos rfl))
theorem sCL : ¬ (("cells" : Str) = "left") := by decide +kernel
theorem sCA : ¬ (("cells" : Str) = "at") := by decide +kernel
theorem sLA : ¬ (("left" : Str) = "at") := by decide +kernel
theorem sAL : ¬ (("at" : Str) = "left") := by decide +kernel
theorem dd_pl (c l l' : Addr) (k : Int) : putK (dd c l k) (.inr "left") (.ref l') = dd c l' k := by
  simp [putK, dd, sCL, sAL]
theorem dd_pa (c l : Addr) (k k' : Int) : putK (dd c l k) (.inr "at") (.int k') = dd c l k' := by
  simp [putK, dd, sCA, sLA]
theorem dd_mk (c l : Addr) : mergeK [] [(Sum.inr "cells", V.ref c), (Sum.inr "left", V.ref l), (Sum.inr "at", V.int 0)] = dd c l 0 := by
  simp [mergeK, putK, dd, sCL, sCA, sLA]

/-- at m the drawer with its lists at c and l, for n draws more -/
structure Dr (H : Hp) (m c l : Addr) (n : Nat) : Prop where
  ex : ∃ (cs ls : List Int) (k : Int), H m = some (.dK (dd c l k)) ∧ H c = some (.lst (cs.map V.int)) ∧ H l = some (.lst (ls.map V.int)) ∧ c ≠ l ∧
    cs.length ≤ 63 ∧ ls.length ≤ 63 ∧ (∀ x ∈ ls, 0 ≤ x) ∧ 0 ≤ k ∧ k + (n : Int) ≤ 1000000
/-- all but the drawer's own stands; its list of what is left is the old one or new -/
structure Kp (m l : Addr) (H : Hp) (l' : Addr) (H' : Hp) : Prop where
  st : ∀ b o, H b = some o → b ≠ m → b ≠ l → H' b = some o
  nw : l' = l ∨ H l' = none
  dm : ∀ b, H' b = none → H b = none
theorem Kp.refl (m l : Addr) (H : Hp) : Kp m l H l H := ⟨fun _ _ h _ _ => h, .inl rfl, fun _ h => h⟩
theorem Kp.off {m l l' : Addr} {H H' : Hp} (k : Kp m l H l' H') {b : Addr} {o : HO} (h : H b = some o) (n : b ≠ l) : b ≠ l' := by
  rcases k.nw with e | e
  · rw [e]; exact n
  · exact ne_of_none h e
theorem Kp.trans {m l l' l'' : Addr} {H H' H'' : Hp} (a : Kp m l H l' H') (b : Kp m l' H' l'' H'') : Kp m l H l'' H'' := by
  refine ⟨fun q o h n1 n2 => b.st q o (a.st q o h n1 n2) n1 (a.off h n2), ?_, fun q e => a.dm q (b.dm q e)⟩
  rcases b.nw with e | e
  · rw [e]; exact a.nw
  · exact .inr (a.dm _ e)
/-- a new object -/
theorem Kp.new {m l : Addr} {H : Hp} {p : Addr} {o : HO} (h : H p = none) : Kp m l H l (upd H p o) := by
  refine ⟨fun b u e _ _ => same_new h b u e, .inl rfl, fun b e => ?_⟩
  unfold upd at e
  split at e
  · cases e
  · exact e
theorem Dr.new {H : Hp} {m c l n : Nat} {p : Addr} {o : HO} (d : Dr H m c l n) (h : H p = none) : Dr (upd H p o) m c l n := by
  obtain ⟨cs, ls, k, h1, h2, h3, r⟩ := d.ex
  exact ⟨cs, ls, k, same_new h _ _ h1, same_new h _ _ h2, same_new h _ _ h3, r⟩
/-- a change of another object than the drawer's -/
theorem Dr.set {H : Hp} {m c l n : Nat} {p : Addr} {o : HO} (d : Dr H m c l n) (n1 : p ≠ m) (n2 : p ≠ c) (n3 : p ≠ l) : Dr (upd H p o) m c l n := by
  obtain ⟨cs, ls, k, h1, h2, h3, r⟩ := d.ex
  exact ⟨cs, ls, k, (upd_ne n1.symm).trans h1, (upd_ne n2.symm).trans h2, (upd_ne n3.symm).trans h3, r⟩
theorem Dr.less {H : Hp} {m c l n k : Nat} (d : Dr H m c l n) (h : k ≤ n) : Dr H m c l k := by
  obtain ⟨cs, ls, z, h1, h2, h3, h4, h5, h6, h7, h8, h9⟩ := d.ex
  exact ⟨cs, ls, z, h1, h2, h3, h4, h5, h6, h7, h8, by omega⟩
theorem Dr.same {H H' : Hp} {m c l n : Nat} (d : Dr H m c l n) (s : Same H H') : Dr H' m c l n := by
  obtain ⟨cs, ls, k, h1, h2, h3, r⟩ := d.ex
  exact ⟨cs, ls, k, s _ _ h1, s _ _ h2, s _ _ h3, r⟩
theorem Kp.same {m l : Addr} {H H' : Hp} (s : Same H H') : Kp m l H l H' := ⟨fun b o h _ _ => s b o h, .inl rfl, fun _ h => s.free h⟩
/-- tuples stand -/
theorem Kp.tup {m c l l' n : Addr} {H H' : Hp} (k : Kp m l H l' H') (d : Dr H m c l n) : TupS H H' := fun b xs h => by
  obtain ⟨cs, ls, z, h1, h2, h3, r⟩ := d.ex
  exact k.st b _ h (ne_of h h1 nofun) (ne_of h h3 nofun)
end My

/-! Defs that write out data (repr): their promise is asked only where nothing is being written out around them. -/
namespace My
open PySem PySem.Spec PyProof.Rows L2
/-- as the layer's promise of a def, for calls around which no guard stands -/
structure FnG (P : Program) (w : World) (K : PySem.W.Frag) (mg : Str → Option Value) (base : Heap) (k : Nat) (f : Addr) (fd : FuncData)
    (ps : List Str) (sp : Sp) : Prop where
  len : ∀ vs H Q E, sp vs H Q E → vs.length = ps.length
  go : ∀ (A : Around) (outer : List Env) (s : Shared) (H : Hp) (args : Args) (us : List Value) (vs : List V) (Q : VK) (E : XK),
    A.guards = some [] → Room k A → Env0 P w K mg base A outer s H → BindsTo s fd args (ps.zip us) → Vals vs us → sp vs H Q E →
    codeAny (model P w) A (.call (.ref f) args) (CR CX0 outer P w H s Q E) s
section
variable {P : Program} {w : World} {K : PySem.W.Frag} {mg : Str → Option Value} {base : Heap}
theorem FnG.of {k : Nat} {f : Addr} {fd : FuncData} {ps : List Str} {sp : Sp} (F : FnOk P w K mg base CX0 k f fd ps sp) : FnG P w K mg base k f fd ps sp :=
  ⟨F.len, fun A o s H args us vs Q E _ hr => F.run A o s H args us vs Q E hr⟩
theorem okG {x qual : Str} {st : Stmt} {f : Addr} {fd : FuncData} {N ps : List Str} {k : Nat} {sp : Sp} (F : Fun K x qual st f fd)
    (S : FnScope N ps (defScope st)) (len : ∀ vs H Q E, sp vs H Q E → vs.length = ps.length)
    (body : ∀ (cdv : Value) (A : Around) (outer : List Env) (s : Shared) (H : Hp) (vs : List V) (Q : VK) (E : XK), A.guards = some [] →
      Room k (A.deeper (envOfC qual (defScope st) s.heap.objs.size f cdv)) → sp vs H Q E →
      ∃ t, PSs (cxOf CX0 P w K mg base N qual (defScope st) f cdv A outer s H E).nox (defBody st) t ∧
        t { nx := fun _ H' => Q .non H', rt := Q } (start N vs) H) :
    FnG P w K mg base (k + 1) f fd ps sp := by
  obtain ⟨oc, od, kV, doc, pm, an, cdv, ct, osl, rfl, lk, hcd⟩ := F.ex
  refine ⟨len, fun A outer s H args us vs Q E hg room env0 binds rel want => ?_⟩
  have inK : K.In s.heap := env0.mod.kin.keeps fun b o e => (env0.bs b o e).1
  have noLim : s.heap.NoLimit := env0.mod.nolimit.keeps fun b o e => (env0.bs b o e).1
  have kinds : ∀ y ∈ ps.zip us, (defScope st).names.lookup y.1 = some .local ∨
      ((defScope st).names.lookup y.1 = some .cell ∧ ((cellsFrom (s.heap.objs.size + 1) (defScope st).names []).lookup y.1).isSome = true) := by
    rintro ⟨n, v⟩ hy
    rcases S.par n (List.of_mem_zip hy).1 with q | q
    · exact Or.inl q
    · exact Or.inr ⟨q, PySem.W.cellsFrom_some _ _ _ (Or.inl q)⟩
  refine codeAny_call_function room.depth (inK _ _ lk) rfl S.co S.gen rfl (PySem.W.codeRec_of inK hcd)
    (binds _ _ _ _ ?_)
  refine wpAny_newFunctionEnv_cells S.kind kinds
    fun env he s1 x => ?_
  subst he
  refine ⟨noLim.keeps x.toInCall.keep,
    codeAny_func ?_⟩
  obtain ⟨t, ht, run⟩ := body cdv A outer s H vs Q E hg (room.deeper _) want
  have start0 : Inv (cxOf CX0 P w K mg base N qual (defScope st) f cdv A outer s H E) [] (start N vs) H s1 :=
    inv_start S room.hd env0 (len _ _ _ _ want) rel x
  refine wpAny_mono (ht.nox.run [] s1 (start N vs) H _ start0 run)
    (fun flow s' hs => ?_) fun e s' hs => hs
  have fin : ∀ {σ' : L2.St} {H' : Hp} {v : V} {u : Value}, Inv (cxOf CX0 P w K mg base N qual (defScope st) f cdv A outer s H E) [] σ' H' s' →
      RelV v u → Q v H' → CE outer P w H s Q u s' :=
    fun {_ H' v _} J rv q => ⟨v, H', J.os, J.bare, J.base, J.hok, rv, q⟩
  cases flow with
  | ret u =>
    obtain ⟨v, σ', H', J, rv, q⟩ := hs
    exact fin J rv q
  | next =>
    obtain ⟨σ', H', J, q⟩ := hs
    exact fin (v := V.non) (u := Value.none) J rfl q
  | brk => obtain ⟨_, _, _, q⟩ := hs; exact q.elim
  | cont => obtain ⟨_, _, _, q⟩ := hs; exact q.elim
end
section
variable {X : Cx}
theorem goG {k : Nat} {f : Addr} {fd : FuncData} {ps : List Str} {sp : Sp} {ds : List Value} {dvs : List V} {E : XK} {pins : List (Addr × Obj)} {σ : L2.St} {H : Hp} {s : Shared} {Q : VK} {us : List Value} {vs : List V}
    (F : FnG X.prog X.w X.K X.mg X.base k f fd ps sp) (hg : X.A.guards = some []) (hr : Room k X.A) (hb : Binds X.K fd ps ds) (hd : Vals dvs ds) (hx : Passes CX0 X E)
    (I : Inv X pins σ H s) (r : Vals vs us) (h : sp (vs ++ dvs) H Q E) :
    wpAny (model X.prog X.w) X.A (call (.ref f) us) (EP X pins σ Q) X.xe s := by
  have rr : Vals (vs ++ dvs) (us ++ ds) := r.append hd
  have len : (us ++ ds).length = ps.length := rr.length ▸ F.len _ _ _ _ h
  refine wpAny_call (codeAny_mono (F.go X.A X.stack s H ⟨us, []⟩ (us ++ ds) (vs ++ dvs) Q E hg hr I.env0 (hb s us I.kIn len) rr h) ?_)
  intro res s' hq
  match res, hq with
  | .error e, hq => exact hx pins σ H s e s' I hq
  | .ok (.ret u), hq => exact I.after hq
/-- f(e, ..), f writing out data -/
theorem pe_callG {k : Nat} {f : Addr} {fd : FuncData} {ps : List Str} {sp : Sp} {ds : List Value} {dvs : List V} {E : XK} {x : Str} {e : Expr} {es : List Expr} {t : TA} {p pos : Pos}
    (F : FnG X.prog X.w X.K X.mg X.base k f fd ps sp) (hgd : X.A.guards = some []) (hr : Room k X.A) (hg : Gl X x) (hm : X.mg x = some (.ref f)) (hk : PySem.W.keepIn X.K (.ref f) = true)
    (hb : Binds X.K fd ps ds) (hd : Vals dvs ds) (hx : Passes CX0 X E) (ha : PA X (e :: es) t) (hdb : (x == ("__debug__" : Str)) = false := by decide)
    (he : starEach (e :: es) X.env = (false, eval e X.env) :: starEach es X.env := by rfl)
    (hpl : (backTo pos (starEach es X.env)).any (·.1) = false := by rfl) :
    PE X (.Call (.Name x p) (e :: es) [] pos) (tCall sp dvs E t) := by
  refine ⟨fun pins s σ H Q I h => wpAny_Call_Name_kw (ld_glob I hg hm ?_ hdb)⟩
  refine PySem.W.callWith_K (h₀ := X.base) I.ok.mod.kin hk
    (thn (ha.run pos pins s σ H _ I h) fun us s1 ⟨vs, H1, I1, r, q⟩ => ⟨I1.kIn, ?_⟩) he hpl
  exact goG F hgd hr hb hd hx I1 r q

/-! ### repr -/
def rRepr (K : PySem.W.Frag) : List V → Hp → VK → Prop := fun xs H Q => ∃ (v : V) (d : PyData), xs = [v] ∧ Dp K H v d ∧ d.showable = true ∧ d.hasDict = false ∧
  d.depth ≤ 60 ∧ d.shown.length ≤ sizeLine ∧ Q (.str d.shown) H
theorem call_repr (hg : X.A.guards = some []) (hu : X.A.units + 64 < cLine) : CallR X (.builtin "repr") (rRepr X.K) := by
  intro pins s σ H xs us Q I r h
  obtain ⟨v, d, rfl, hd, hs, hn, hdp, hz, q⟩ := h
  obtain ⟨u, rfl, ru⟩ := vals1 r
  cases hd with
  | non =>
    cases ru
    exact P.repr_of_none ⟨.str _, H, I.tok _, ⟨_, rfl⟩, q⟩
  | bl b =>
    cases ru
    exact P.repr_of_bool ⟨.str _, H, I.tok _, ⟨_, rfl⟩, q⟩
  | int i =>
    obtain ⟨t, rfl⟩ := ru
    exact P.repr_of_int (of_decide_eq_true hs) ⟨.str _, H, I.tok _, ⟨_, rfl⟩, q⟩
  | str x =>
    obtain ⟨t, rfl⟩ := ru
    exact P.repr_of_str ⟨.str _, H, I.tok _, ⟨_, rfl⟩, q⟩ hz
  | @lst a xs ds h1 h2 =>
    cases ru
    obtain ⟨as, rd⟩ := Dp.reads I (.list ds) (.ref a) (.ref a) (.lst h1 h2) rfl
    refine repr_of_reads' rd hs (fun z => by rw [hn] at z; cases z) hg (by omega) (fun _ _ e => e) (fun h' u tk hk => ?_) hz
    exact ⟨.str _, H, I.kept hk, ⟨_, rfl⟩, q⟩
  | @tup a xs ds h1 h2 =>
    cases ru
    obtain ⟨as, rd⟩ := Dp.reads I (.tuple ds) (.ref a) (.ref a) (.tup h1 h2) rfl
    refine repr_of_reads' rd hs (fun z => by rw [hn] at z; cases z) hg (by omega) (fun _ _ e => e) (fun h' u tk hk => ?_) hz
    exact ⟨.str _, H, I.kept hk, ⟨_, rfl⟩, q⟩
end
end My

/-! The end of a law whose promise is asked where no guard stands. -/
namespace My
open PySem PySem.Spec PyProof.Rows L2
theorem law_callG {P : Program} {w : World} {K : PySem.W.Frag} {mg mb : Str → Option Value} {k : Nat} {fa a : Addr} {fd : FuncData} {x : Str} {sp : Sp} {s₁ : Shared} {vs : List Value} {ns : List Int}
    (inK : K.In s₁.heap) (glob : s₁.heap.Ns mainGlobals mg) (blt : s₁.heap.Ns builtinsNs mb) (boot : ∀ x : Str, x ≠ "__name__" → mb x = bootBuiltins x) (nolim : s₁.heap.NoLimit) (nogen : s₁.gens = #[])
    (hobj : s₁.heap.get? a = some { cls := .type "list", data := .seq vs.toArray }) (hints : IntsAre vs ns) (hlen : ns.length ≤ sizeLine) (room : Room k callerA)
    (F : ∀ base : Heap, K.In base → base.Ns mainGlobals mg → FnG P w K mg base k fa fd [x] sp) (binds : ∀ (s : Shared) (u : Value), BindsTo s fd ⟨[u], []⟩ [(x, u)])
    (want : ∀ H : Hp, Only H → SqL K H a (ns.map V.int) → sp [.ref a] H (fun v _ => v = .bl true) fun _ _ _ => False) :
    codeAny (model P w) callerA (.call (.ref fa) ⟨[.ref a], []⟩) (fun r s' => r = .ok (.ret (.bool true)) ∧ OldK s₁.heap s'.heap ∧ s'.os = s₁.os ∧ AllBare s'.gens) s₁ := by
  have relv := vals_ints hints
  have core : ∀ H : Hp, Only H → SqL K H a (ns.map V.int) → HOk P w H s₁.heap → (∀ b, H b ≠ none → b = a) → (H a ≠ none → K.lookup a = none) →
      codeAny (model P w) callerA (.call (.ref fa) ⟨[.ref a], []⟩) (fun r s' => r = .ok (.ret (.bool true)) ∧ OldK s₁.heap s'.heap ∧ s'.os = s₁.os ∧ AllBare s'.gens) s₁ := by
    intro H only seq ok one notK
    have up : ∀ {b : Addr} {o : Obj}, s₁.heap.get? b = some o → H b = none → (hidT s₁.heap H).get? b = some o := fun e n => hidT_get e n
    have dictFree : ∀ {b : Addr} {o : Obj} {es : Array DictEntry} {ep : Nat}, s₁.heap.get? b = some o → o.data = .dict es ep → H b = none := by
      intro b o es ep e d
      cases q : H b with
      | none => rfl
      | some u =>
        have eb : b = a := one b (fun z => by rw [q] at z; cases z)
        rw [eb, hobj] at e
        cases e
        exact Data.noConfusion (show Data.seq vs.toArray _ = Data.dict es ep from d)
    have nsUp : ∀ {b : Addr} {m : Str → Option Value}, s₁.heap.Ns b m → (hidT s₁.heap H).Ns b m :=
      fun {_ _} ⟨o, es, ep, e, d, r⟩ => ⟨o, es, ep, up e (dictFree e d), d, r⟩
    have kUp : K.In (hidT s₁.heap H) := by
      intro b o e
      refine up (inK b o e) ?_
      cases q : H b with
      | none => rfl
      | some u =>
        have eb : b = a := one b (fun z => by rw [q] at z; cases z)
        rw [eb, notK (fun z => by rw [← eb, q] at z; cases z)] at e
        cases e
    have mod : Mod K mg (hidT s₁.heap H) := ⟨kUp, nsUp glob, ⟨mb, nsUp blt, boot⟩, nolim.imp fun mc z => ⟨nsUp z.1, z.2⟩⟩
    have env0 : Env0 P w K mg (hidT s₁.heap H) callerA [] s₁ H :=
      ⟨rfl, mod, fun b o e => of_hidT e, Nat.le_of_eq (hidT_size _ _), trivial, fun b hb => absurd (show b ∈ ([] : List Addr) from hb) (by simp), ok, .of_eq nogen⟩
    have call := (F _ kUp (nsUp glob)).go callerA [] s₁ H ⟨[.ref a], []⟩ [.ref a] [.ref a] _ _ rfl room env0 (binds s₁ (.ref a)) (.cons rfl .nil) (want H only seq)
    refine codeAny_mono call fun r s' h => ?_
    match r, h with
    | .error e, h => exact (show False from h).elim
    | .ok (.ret u), h =>
      obtain ⟨v, H', os, bare, un, ok', rv, q⟩ := h
      obtain rfl : v = .bl true := q
      obtain rfl : u = Value.bool true := rv
      refine ⟨rfl, OldK.of_keep (fun b o e => ?_), os, bare⟩
      rcases only b with z | ⟨ob, xs, z⟩
      · exact un.keep b o e z (fun y => absurd (show b ∈ ([] : List Addr) from y) (by simp)) (by simp)
      · obtain ⟨e1, _⟩ := ok b _ z
        obtain ⟨e2, _⟩ := ok' b _ (un.frzs b ob _ z)
        rw [e] at e1
        cases e1
        exact e2
  cases hk : K.lookup a with
  | some o =>
    have e := inK a o hk
    rw [hobj] at e
    cases e
    have stands : SqL K (fun _ => none) a (ns.map V.int) := .inr ⟨_, vs.toArray, _, hk, rfl, rfl, rfl, by rw [List.size_toArray, hints.length]; exact hlen, by simpa using relv⟩
    exact core (fun _ => none) (fun _ => .inl rfl) stands (fun b u z => nomatch (show (none : Option HO) = some u from z)) (fun b z => absurd rfl z) fun z => absurd rfl z
  | none =>
    let o : Obj := { cls := .type "list", data := .seq vs.toArray }
    have atA : (fun b => if b = a then some (HO.frz o (.lst (ns.map V.int))) else none) a = some (.frz o (.lst (ns.map V.int))) := if_pos rfl
    refine core (fun b => if b = a then some (.frz o (.lst (ns.map V.int))) else none) (fun b => ?_) (.inl (.inr ⟨o, atA⟩)) (fun b u z => ?_) (fun b z => ?_) fun _ => hk
    · by_cases hb : b = a
      · exact .inr ⟨_, _, if_pos hb⟩
      · exact .inl (if_neg hb)
    · by_cases hb : b = a
      · have y := (if_pos hb).symm.trans z
        cases y
        rw [hb]
        exact ⟨hobj, by rw [List.length_map]; exact hlen, vs, _, relv, hobj⟩
      · exact nomatch (if_neg hb).symm.trans z
    · by_cases hb : b = a
      · exact hb
      · exact absurd (if_neg hb) z
theorem walk_ofG {l : PySem.W.OpenLaw} {n k : Nat} {q : Program} {loose : List Str} {XP : (Str → Option Value) → Heap → Prop} {YP : World → Heap → Prop} {d : DefRec}
    {K : Params → PySem.W.Frag} {sp : PySem.W.Frag → Sp} {x : Str}
    (hn : l.most = some n) (hn2 : n ≤ sizeLine) (hdf : d.params.defaults = []) (room : Room k callerA)
    (hY : ∀ (w : World) (h : Heap), YP w h → (K w.params).In h)
    (F : ∀ (w : World) (mg : Str → Option Value) (fa : Addr) (h : Heap), (K w.params).In h → h.Ns mainGlobals mg → mg d.name = some (.ref fa) →
      ∃ fd : FuncData, (∀ (s : Shared) (u : Value), BindsTo s fd ⟨[u], []⟩ [(x, u)]) ∧
        ∀ base : Heap, (K w.params).In base → base.Ns mainGlobals mg → FnG l.prog w (K w.params) mg base k fa fd [x] (sp (K w.params)))
    (want : ∀ (K : PySem.W.Frag) (H : Hp) (a : Addr) (ns : List Int), ns.length ≤ n → Only H → SqL K H a (ns.map V.int) → sp K [.ref a] H (fun v _ => v = .bl true) fun _ _ _ => False) :
    PySem.W.WalkO q loose XP YP l.row.toRowW d [] (fun f vs => PySem.call f vs) := by
  refine Att.attach_call hn hdf fun w s₀ s₁ mg mb fa o pm cd doc a vs ns G Y ho hd hcd hmg hobj hints hlen hg => ?_
  obtain ⟨fd, hb, hF⟩ := F w mg fa _ (hY w _ Y) G.T.g hmg
  exact law_callG (hY w _ Y) G.T.g G.T.b G.T.builtins G.T.nolimit hg hobj hints
    (Nat.le_trans hlen hn2) room hF hb fun H only seq => want (K w.params) H a ns hlen only seq
end My

/-! for i, x in enumerate(t), t a tuple. -/
namespace My
open PySem PySem.Spec PyProof.Rows L2
/-- what enumerate(v) makes: v's iterator and itself -/
def enumO (a : Addr) : Obj :=
  { cls := .type "enumerate",
    data := .fields #[.none, .bool false, .ref a, rawInt 0, .none, .none] }
set_option maxHeartbeats 1000000 in
theorem meets_enum1 {v : Value} {o : Obj} {G : Heap → Prop} (B : Begins v o G) :
    Meets (Builtin.«enumerate.__new__» ⟨[.type "enumerate", v], []⟩) (fun _ R s => G s.heap ∧
      R (.ok (.ret (.ref (s.heap.push o).objs.size)))
        { s with heap := (s.heap.push o).push (enumO s.heap.objs.size) }) :=
  .of_wp fun prog w A R s ⟨h1, h⟩ => by
    obtain ⟨hp, gens, drawn, tk, os⟩ := s
    have isSub := sub_enumerate
    have step : ∀ {A' : Around} {E : Value → Shared → Prop} {Q : Value → Shared → Prop}, Q (.ref hp.objs.size) ⟨hp.push o, gens, drawn, tk, os⟩ →
        wpAny (model prog w) A' (pyIter v) Q E ⟨hp, gens, drawn, tk, os⟩ :=
      fun q => B.iter prog w _ _ ⟨hp, gens, drawn, tk, os⟩ _ h1 q
    wp_walk using step
    refine wpAny_stack_any fun st => wpAny_pure ?_
    split
    · rename_i c _ _ _ _ _
      by_cases hc : (c == Value.type "enumerate") = true
      · rw [hc]
        wp_walk using step
        exact ⟨_, rfl, h⟩
      · rw [Bool.not_eq_true] at hc
        rw [hc]
        wp_walk using step
        exact ⟨_, rfl, h⟩
    · wp_walk using step
      exact ⟨_, rfl, h⟩
section
variable {prog : Program} {w : World} {A : Around} {E : Value → Shared → Prop} {s : Shared}
theorem enum_call1 {v : Value} {o : Obj} {G : Heap → Prop} {Q : Value → Shared → Prop} (B : Begins v o G) (h1 : G s.heap)
    (h : ∀ h', IsEnum h' (s.heap.objs.size + 1) s.heap.objs.size 0 .none → h'.get? s.heap.objs.size = some o →
      (∀ b u, s.heap.get? b = some u → h'.get? b = some u) → Q (.ref (s.heap.objs.size + 1)) { s with heap := h' }) :
    wpAny (model prog w) A (call (.type "enumerate") [v]) Q E s := by
  have size1 : (s.heap.push o).objs.size = s.heap.objs.size + 1 := Heap.size_push ..
  have made : IsEnum ((s.heap.push o).push (enumO s.heap.objs.size)) (s.heap.objs.size + 1) s.heap.objs.size 0 .none := by
    have z := Heap.get?_push_size (s.heap.push o) (o := enumO s.heap.objs.size) rfl
    rw [size1] at z
    exact z
  refine callType_new F.called_enumerate (by decide) (F.typeCall_enumerate_1 _) (F.newCall_enumerate_1 _)
    (fun obj => F.args_object_init_2 obj _) F.entry_enumerate_new (meets_enum1 B) ⟨h1, ?_⟩
  show _ ∧ _
  rw [size1]
  exact ⟨⟨_, made, rfl⟩, h _ made (Heap.get?_push_of_some _ (Heap.get?_push_size _ B.free)) fun b u x => Heap.get?_push_of_some _ (Heap.get?_push_of_some _ x)⟩
end
/-- the tuple at a, each item in a new pair with its number -/
def Itu (K : PySem.W.Frag) (a : Addr) : It where
  go i H := ∃ (xs : List V) (x : V), SqT K H a xs ∧ xs[i]? = some x
  yld i H v H' := ∃ T x, v = .ref T ∧ H T = none ∧ H' = upd H T (.tup [.int (i : Nat), x]) ∧ ∀ xs, SqT K H a xs → xs[i]? = some x
  stop i H := ∃ xs : List V, SqT K H a xs ∧ xs.length = i
def EnumAt (e it a : Addr) (i : Nat) (h : Heap) : Prop := (∃ old, IsEnum h e it ((i : Nat) : Int) old) ∧ h.IsTupleIter it a i ∧ e ≠ it
theorem turn_enumT {P : Program} {w : World} {K : PySem.W.Frag} {elts : List Expr} {kk : Nat} {tpos : Pos} (a e it : Addr) (hae : a ≠ e) (hai : a ≠ it) :
    Turn P w K (.Tuple elts kk tpos) (Itu K a) [e, it] e (EnumAt e it a) where
  mem := by simp
  obj := fun i h st b hb => by
    obtain ⟨⟨old, he⟩, ⟨o, ho, hc, hd⟩, _⟩ := st
    rcases List.mem_cons.mp hb with z | z
    · rw [z]; exact ⟨_, he, fun v q => nomatch q⟩
    · rw [List.mem_singleton.mp z]; exact ⟨o, ho, fun v q => by rw [hd] at q; cases q⟩
  keep := fun i h h' st k => by
    obtain ⟨⟨old, he⟩, hi, hne⟩ := st
    exact ⟨⟨old, k e (by simp) _ he⟩, hi.at fun o q => k it (by simp) o q, hne⟩
  item := by
    intro X hP hw hK hc i pins s σ H E I hf st hg
    subst hP hw hK
    obtain ⟨⟨old, he⟩, hit, hne⟩ := st
    obtain ⟨xs, x, hq, hx⟩ := hg
    obtain ⟨its, rv, p, hz⟩ := I.tuple hq
    obtain ⟨u, hu, ru⟩ := rv.get hx
    have helt : e < s.heap.objs.size := Heap.lt_size he
    have hilt : it < s.heap.objs.size := by
      obtain ⟨_, q, _⟩ := hit
      exact Heap.lt_size q
    have hlt : i < its.toArray.size := by
      rw [List.size_toArray]
      exact (List.getElem?_eq_some_iff.mp hu).1
    have hef : e ∉ [it, a] := by
      intro z
      rcases List.mem_cons.mp z with q | q
      · exact hne q
      · exact hae (List.mem_singleton.mp q).symm
    refine wpAny_pyNext_enum_itemD (Draws.tuple (A := X.A.in1) (I.ok.hd hc) it a hai its.toArray) he ⟨hit, p⟩ hlt hne hef fun y h' tk hy ho hst' hT hsz hk => ?_
    have hy' : y = u := by
      have z : its.toArray[i]? = some u := by simpa using hu
      exact Option.some.inj (hy.symm.trans z)
    subst hy'
    refine ⟨_, rfl, wpAny_letOwnedTupleGo_enum (s := { s with heap := h', toks := tk + 1 }) ho fun h'' he' sb => ?_⟩
    have hT2 : h''.get? s.heap.objs.size = some { cls := .type "tuple", data := .seq #[.int i tk, y] } :=
      (sb.2 _ (Nat.ne_of_gt helt)).trans hT
    have new : ObjOk X.prog X.w (upd H s.heap.objs.size (.tup [.int (i : Nat), x])) h'' s.heap.objs.size (.tup [.int (i : Nat), x]) :=
      ⟨(by decide : 2 ≤ sizeLine), [.int i tk, y], .cons ⟨_, rfl⟩ (.cons ru .nil), _, hT2, rfl, _, rfl⟩
    have I1 : Inv X pins σ (upd H s.heap.objs.size (.tup [.int (i : Nat), x])) { s with heap := h'', toks := tk + 1 } :=
      I.turnedNew (ch := [e, it])
        (fun b ob hb q => (sb.2 b (fun z => hb (by simp [z]))).trans (hk b ob (fun z => hb (by simp [z])) (fun z => hb (by simp [z])) q)) hf (Nat.le_refl _) new
    refine ⟨.ref s.heap.objs.size, _, I1, rfl, ⟨_, x, rfl, I.hok.fresh (Nat.le_refl _), rfl, fun ys hy => by rw [I.tuple_inj hy hq]; exact hx⟩,
      ⟨⟨y, ?_⟩, hst'.1.at fun o q => (sb.2 it (Ne.symm hne)).trans q, hne⟩, fun b hb => ?_⟩
    · rw [show ((i + 1 : Nat) : Int) = (i : Int) + 1 by omega]
      exact he'
    · have hlt : b < s.heap.objs.size := by
        rcases List.mem_cons.mp hb with z | z
        · rw [z]; exact helt
        · rw [List.mem_singleton.mp z]; exact hilt
      rw [upd_ne (Nat.ne_of_lt hlt)]
      exact (hf b hb).1
  done := by
    intro X hP hw hK hc i pins s σ H E I hf st hg
    subst hP hw hK
    obtain ⟨⟨old, he⟩, hit, hne⟩ := st
    obtain ⟨xs, hq, hx⟩ := hg
    obtain ⟨its, rv, p, hz⟩ := I.tuple hq
    obtain ⟨f0, f1, f2, f3, f4, f5⟩ := hf it (by simp)
    have hl : its.toArray.size = i := by rw [List.size_toArray, ← rv.length, hx]
    have st : its.toArray.size = i → (s.heap.IsTupleIter it a its.toArray.size ∧ s.heap.IsTuple a its.toArray) := fun z => ⟨z ▸ hit, p⟩
    refine wpAny_pyNext_enum_endD (Draws.tuple (A := X.A.in1) (I.ok.hd hc) it a hai its.toArray) he (st hl) fun h' eb => ⟨rfl, ?_⟩
    exact I.turned (t' := s.toks) (fun b o hb q => eb b o hb q) f0 f1 f3 f4 f5
  self := fun A i s Q E st h => by
    obtain ⟨⟨_, he⟩, _⟩ := st
    exact wpAny_pyIter_enum he h
def iEnumT (K : PySem.W.Frag) (ta : TA) : TI := fun σ H R => ta σ H fun vs H1 => ∃ a xs, vs = [.ref a] ∧ SqT K H1 a xs ∧ R (Itu K a) H1
theorem pi_enumT {X : Cx} {e : Expr} {ta : TA} {p pos tpos : Pos} {elts : List Expr} {kk : Nat} (hg : Gl X "enumerate") (hm : X.mg "enumerate" = none) (ha : PA X [e] ta)
    (hs : starEach [e] X.env = [(false, eval e X.env)] := by rfl) : PI X (.Tuple elts kk tpos) (.Call (.Name "enumerate" p) [e] [] pos) (iEnumT X.K ta) := by
  refine ⟨fun pins s σ H R I h => Call_ (ld_blt I hg hm boot_enumerate (PyProof.Rows.callWith_type1 ?_ hs rfl))⟩
  refine thn (ha.run pos pins s σ H _ I h) fun us s1 ⟨vs, H1, I1, r1, a, xs, ex, hq, q⟩ => ?_
  subst ex
  obtain ⟨u, rfl, ru⟩ := vals1 r1
  obtain rfl : u = Value.ref a := ru
  obtain ⟨its, rv, p', hz⟩ := I1.tuple hq
  have hlt : a < s1.heap.objs.size := (by obtain ⟨o, ho, _⟩ := p'; exact Heap.lt_size ho)
  refine enum_call1 (begins_tuple a its.toArray) p' fun h' he hit hk => wpAny_pyIter_enum he ?_
  have I2 : Inv X pins σ H1 { s1 with heap := h' } := I1.kept (t' := s1.toks) hk
  refine ⟨s1.heap.objs.size + 1, [s1.heap.objs.size + 1, s1.heap.objs.size], _, _, H1, rfl, I2,
    turn_enumT a (s1.heap.objs.size + 1) s1.heap.objs.size (Nat.ne_of_lt (Nat.lt_succ_of_lt hlt)) (Nat.ne_of_lt hlt), ⟨⟨.none, he⟩, ⟨_, hit, rfl, rfl⟩, Nat.succ_ne_self _⟩, fun b hb => ?_, q⟩
  have hle : s1.heap.objs.size ≤ b := by
    rcases List.mem_cons.mp hb with z | z
    · rw [z]; exact Nat.le_add_right _ _
    · rw [List.mem_singleton.mp z]; exact Nat.le_refl _
  exact I1.fpOk hle (I1.hok.fresh hle)
end My

/-! An own error whose __init__ stores no field: it has no dict. -/
namespace My
open PySem PySem.Spec PyProof.Rows L2
def tMk0 (C : Addr) (sp : Sp) (ta : TA) : L2.St → Hp → XK → Prop := fun σ H Q => ta σ H fun vs H1 => vs.length ≤ 1000 ∧ ∀ a, H1 a = none →
  sp (.ref a :: vs) (upd H1 a (exo a C none)) (fun v H2 => v = .non ∧ H2 a = some (exo a C none) ∧ Q (.ref C) none (del H2 a)) (fun _ _ _ => False)
section
variable {X : Cx}
theorem end_nodict {pins : List (Addr × Obj)} {σ : L2.St} {H1 H2 : Hp} {hp hp2 h2 : Heap} {g1 g2 : Array GenState} {d1 d2 : Drawn} {t1 t2 : Nat} {os1 os2 : OsState} {a C : Addr}
    (I1 : Inv X pins σ H1 ⟨hp, g1, d1, t1, os1⟩) (above : hp.objs.size ≤ a) (kept : ∀ b o, hp.get? b = some o → hp2.get? b = some o)
    (un : Un (frs X.stack) [] (upd H1 a (exo a C none)) H2 hp2 h2) (ok : HOk X.prog X.w H2 h2) (sameOs : os2 = os1) (bare : AllBare g2) (ea : H2 a = some (exo a C none)) :
    ∃ (t0 : Addr) (G : Heap), Inv X pins σ (del H2 a) ⟨G, g2, d2, t2, os2⟩ ∧ (∀ b o, G.get? b = some o → h2.get? b = some o) ∧ G.get? a = none ∧
      h2.get? a = some ({ cls := .ref C, dict := none, data := .fields #[.ref t0, .none, .none, .none, .bool false, .none] } : Obj) := by
  obtain ⟨t0, obj⟩ := exo_at ok ea
  have free : H1 a = none := I1.hok.fresh above
  obtain ⟨G, in1, in2⟩ := restrict h2 fun b => decide (b ≠ a)
  have same : ∀ b, b ≠ a → G.get? b = h2.get? b := fun b hb => in1 b (decide_eq_true hb)
  have gone : G.get? a = none := in2 a (by simp)
  have other : ∀ {b : Addr} {o : Obj}, hp.get? b = some o → b ≠ a :=
    fun {_ _} z => Nat.ne_of_lt (Nat.lt_of_lt_of_le (Heap.lt_size z) above)
  have still : ∀ {b : Addr}, b ≠ a → H1 b = none → upd H1 a (exo a C none) b = none := fun {_} hb n => (upd_ne hb).trans n
  have newU : Un (frs X.stack) [] H1 (del H2 a) hp G := {
    keep := fun b o z n hf hx => (same b (other z)).trans (un.keep b o (kept b o z) (still (other z) n) hf hx)
    slot := fun b o z n hf hx => by
      obtain ⟨sl, e⟩ := un.slot b o (kept b o z) (still (other z) n) hf hx
      exact ⟨sl, (same b (other z)).trans e⟩
    free := fun b o z n hx => (del_ne (other z)).trans (un.free b o (kept b o z) (still (other z) n) hx)
    there := fun b o z hx => by
      obtain ⟨u, e⟩ := un.there b o (kept b o z) hx
      exact ⟨u, (same b (other z)).trans e⟩
    tups := fun b xs z => (del_ne (ne_of_none z free)).trans (un.tups b xs ((upd_ne (ne_of_none z free)).trans z))
    frzs := fun b o v z => (del_ne (ne_of_none z free)).trans (un.frzs b o v ((upd_ne (ne_of_none z free)).trans z))
    tbls := fun b ps z => by
      obtain ⟨more, e⟩ := un.tbls b ps ((upd_ne (ne_of_none z free)).trans z)
      exact ⟨more, (del_ne (ne_of_none z free)).trans e⟩ }
  have newOk : HOk X.prog X.w (del H2 a) G := by
    intro b o z
    have hba : b ≠ a := fun e => by
      rw [e, del_same] at z
      cases z
    rw [del_ne hba] at z
    have notOwn : ∀ {c : Addr}, H2 c = some (.own b) → c ≠ a := fun {_} hc => at_ne ea hc exo_own
    refine (ok b o z).stay (fun c v hc y => ?_) (fun c hc => (del_ne (notOwn hc)).trans hc) (fun c xs hc => (del_ne (at_ne ea hc exo_tup)).trans hc)
    have hca : c ≠ a := by
      rcases hc with hc | hc
      · rw [hc]; exact hba
      · exact notOwn hc
    exact (same c hca).trans y
  refine ⟨t0, G, I1.call' (ch := []) sameOs newU newOk bare (fun b z => absurd z (by simp)), fun b o z => ?_, gone, obj⟩
  by_cases hba : b = a
  · rw [hba, gone] at z
    cases z
  · exact (same b hba).symm.trans z
theorem pmk0 {x : Str} {C fI : Addr} {k : Nat} {fd : FuncData} {ps : List Str} {sp : Sp} {e : Expr} {es : List Expr} {ta : TA} {p pos : Pos}
    (T : OexC X.K C) (iC : PySem.W.findIn X.K (.ref C) "__init__" = some (some (.ref fI))) (tI : PySem.W.typeIn X.K (.ref fI) = some (.type "function"))
    (F1 : FnOk X.prog X.w X.K X.mg X.base CX0 k fI fd ps sp) (hr : Room (k + 1) X.A) (hb : Binds X.K fd ps []) (hm : X.mg x = some (.ref C)) (ha : PA X (e :: es) ta) (hg : Gl X x := by rfl)
    (hdb : (x == ("__debug__" : Str)) = false := by decide) (he : starEach (e :: es) X.env = (false, eval e X.env) :: starEach es X.env := by rfl)
    (hpl : (backTo pos (starEach es X.env)).any (·.1) = false := by rfl) : PMk X (.Call (.Name x p) (e :: es) [] pos) (tMk0 C sp ta) := by
  intro pins s σ H Q I h
  obtain ⟨nm, q, N, bs, bm, sn, sub, ab, col, dd, k0, k1, k2, k3, k5, hC, hbm⟩ := T.cls
  refine wpAny_Call_Name_kw (ld_glob I hg hm ?_ hdb)
  refine PySem.W.callWith_K (h₀ := X.base) I.ok.mod.kin T.kC
    (thn (ha.run pos pins s σ H _ I h) fun us s1 ⟨vs, H1, I1, rel, few, want⟩ => ⟨I1.kIn, ?_⟩) he hpl
  show wpAny _ _ (call (.ref C) us) _ _ _
  obtain ⟨hp, g, dr, tk, os⟩ := s1
  have up : hp.objs.size ≤ hp.objs.size + 1 := Nat.le_succ _
  have goal1 := want (hp.objs.size + 1) (I1.hok.fresh up)
  have kept : ∀ b o, hp.get? b = some o → ((hp.push (PySem.W.kdv_tup us)).push (PySem.HandSPX.excO C hp.objs.size)).get? b = some o :=
    fun b o e => Heap.get?_push_of_some _ (Heap.get?_push_of_some _ e)
  have there : ((hp.push (PySem.W.kdv_tup us)).push (PySem.HandSPX.excO C hp.objs.size)).get? (hp.objs.size + 1) = some (PySem.HandSPX.excO C hp.objs.size) := by
    heap_get
  have I2 : Inv X pins σ (upd H1 (hp.objs.size + 1) (exo (hp.objs.size + 1) C none)) ⟨(hp.push (PySem.W.kdv_tup us)).push (PySem.HandSPX.excO C hp.objs.size), g, dr, tk, os⟩ :=
    I1.laid (t' := tk) (o := exo (hp.objs.size + 1) C none) kept up
      (exo_ok there)
  have rel2 : Vals (V.ref (hp.objs.size + 1) :: vs) (Value.ref (hp.objs.size + 1) :: us) := .cons rfl rel
  have len : (Value.ref (hp.objs.size + 1) :: us ++ []).length = ps.length := by
    have z := rel2.length
    rw [F1.len _ _ _ _ goal1] at z
    rw [List.append_nil]
    exact z.symm
  have small : us.length ≤ sizeLine := by
    rw [← Paired.length rel]
    exact Nat.le_trans few (by decide)
  have bind0 := hb _ (Value.ref (hp.objs.size + 1) :: us) I2.kIn len
  rw [List.append_nil] at bind0
  refine wpAny_call (PySem.HandSPX.call_own F.excBase_ValueError (fun Y => PySem.HandSPX.refsVE_contains Y bm hbm) (I1.kIn _ _ hC)
    (PySem.W.looks_findIn I1.kIn iC) (fun self => PySem.W.bind_fn I1.kIn self tI) small
    (codeAny_mono (F1.run _ X.stack _ _ ⟨Value.ref (hp.objs.size + 1) :: us, []⟩ (Value.ref (hp.objs.size + 1) :: us) _ _ (fun _ _ _ => False) (hr.make C us []) (I2.env0.make C us []) bind0 rel2 goal1) ?_))
  intro r s' hq
  match r, hq with
  | .error er, hq => exact (show False from hq).elim
  | .ok (.ret u), hq =>
    obtain ⟨v, H2, os2, bare2, un2, ok2, rv, rfl, ea, q2⟩ := hq
    obtain ⟨h2, g2, d2, t2, os'⟩ := s'
    obtain ⟨t0, G, J, inG, gone, obj⟩ := end_nodict (d2 := d2) (t2 := t2) I1 up kept un2 ok2 os2 bare2 ea
    exact ⟨rv, hp.objs.size + 1, _, _, ⟨G, g2, d2, t2, os'⟩, _, .ref C, none, rfl, J, inG, gone, obj, ⟨rfl, rfl⟩, rfl, rfl, del_same, rfl, bare2, raises_own T.exC T.tyC, q2⟩
theorem del_new {H : Hp} {a : Addr} {o : HO} (h : H a = none) : del (upd H a o) a = H := by
  funext b
  unfold del upd
  by_cases e : b = a
  · rw [if_pos e, e, h]
  · rw [if_neg e, if_neg e]
end
end My

/-! try with several clauses, each with a name for the exception or without one. -/
namespace My
open PySem PySem.Spec PyProof.Rows L2
abbrev Suite := Addr → Value → Option Addr → L2.TS
/-- where the suite goes on: the name's slot is emptied -/
def endsAs (D : Ends) (i : Nat) : Ends where
  nx := fun σ H => D.nx (σ.set i none) H
  rt := D.rt
  bk := fun σ H => D.bk (σ.set i none) H
  ct := fun σ H => D.ct (σ.set i none) H
def wHs (K : PySem.W.Frag) (Wout : WX) (D : Ends) : List (Value × Option Nat × Suite) → WX
  | [] => Wout
  | (c, none, ts) :: r => fun cls d σ H => ∃ b, PySem.W.exmOne K cls c = some b ∧
    (b = true → ∀ a, H a = none → ts a cls d D σ H) ∧ (b = false → wHs K Wout D r cls d σ H)
  | (c, some i, ts) :: r => fun cls d σ H => ∃ b, PySem.W.exmOne K cls c = some b ∧
    (b = true → ∀ a, H a = none → ts a cls d (endsAs D i) (σ.set i (some (.ref a))) H) ∧ (b = false → wHs K Wout D r cls d σ H)
def SuiteOk (X : Cx) (body : List Stmt) (ts : Suite) : Prop :=
  ∀ (a : Addr) (oe : Obj) (cls : Value) (d : Option Addr) (pn : List (Addr × Obj)), Zc cls d oe → (∃ vs, oe.data = .fields vs) →
    PSs (X.suite a ((a, oe) :: pn)) body (ts a cls d)
inductive Hs (X : Cx) : List ExceptHandler → List (Value × Option Nat × Suite) → Prop
  | nil : Hs X [] []
  | bare {x : Str} {c : Value} {ts : Suite} {b₀ : Stmt} {suite : List Stmt} {np pos' : Pos} {hds : List ExceptHandler} {l : List (Value × Option Nat × Suite)}
      (hc : Names X x c) (hsu : SuiteOk X (b₀ :: suite) ts) (r : Hs X hds l) : Hs X (.ExceptHandler (some (.Name x np)) none (b₀ :: suite) pos' :: hds) ((c, none, ts) :: l)
  | as {x n : Str} {i : Nat} {c : Value} {ts : Suite} {b₀ : Stmt} {suite : List Stmt} {np pos' : Pos} {hds : List ExceptHandler} {l : List (Value × Option Nat × Suite)}
      (hi : X.N[i]? = some n) (hln : X.env.kindOf n = some .local) (hc : Names X x c) (hsu : SuiteOk X (b₀ :: suite) ts) (r : Hs X hds l) :
      Hs X (.ExceptHandler (some (.Name x np)) (some n) (b₀ :: suite) pos' :: hds) ((c, some i, ts) :: l)
section
variable {X : Cx} {body : List Stmt} {h₀ : ExceptHandler} {hds : List ExceptHandler} {l : List (Value × Option Nat × Suite)} {pos : Pos} {tb : WX → L2.TS} {Wout : WX}
theorem ps_try_hs (stk : X.stack = X.env :: X.outer) (frm : X.env.frame = some X.env.locals) (nd : X.N.Nodup) (out : Takes X Wout)
    (hb : ∀ (W : WX) (pn : List (Addr × Obj)) (xe : Value → Shared → Prop), Takes (X.tr pn xe) W → PassesOwn (model X.prog X.w) X.A X.env xe → PSs (X.tr pn xe) body (tb W))
    (clauses : Hs X (h₀ :: hds) l) : PS X (.Try body (h₀ :: hds) [] [] pos) (fun D σ H => tb (wHs X.K Wout D l) D σ H) := by
  refine ⟨fun pins s σ H D I want => ?_⟩
  have ok := I.ok
  have frames : X.A.frames = some (X.env :: X.outer) := by rw [ok.frames, stk]
  refine wpAny_Try_except ?_
  let catcher : Value → Shared → Prop := fun e s₁ => wpAny (model X.prog X.w) X.A (noteFrame e X.env) (fun _ s₂ =>
    wpAny (model X.prog X.w) X.A (setFlight e none) (fun _ s₃ => wpAny (model X.prog X.w) X.A (handleBy e X.env (h₀ :: hds)) (SP X pins D) X.xe s₃) X.xe s₂) X.xe s₁
  have inBody := hb (wHs X.K Wout D l) (X.pn ++ pins) catcher (fun u s' xx => ?caught) PassesOwn.looking
  case caught =>
    obtain ⟨a, B, sI, pins', σ', H', cls, d, rfl, J', nb, up, sky, na, os, ag, wish⟩ := xx
    have J : Inv X pins σ' H' sI := J'.ofTry ok
    have sky' : Sky B (X.env :: X.outer) a (Zc cls d) X.env.locals s'.heap := stk ▸ sky
    show wpAny (model X.prog X.w) X.A (noteFrame (.ref a) X.env) _ _ _
    refine Sky.land Zc.steady frames frm sky' fun h3 fl3 up3 => ?_
    have J3 : Inv X pins σ' H' { s' with heap := h3 } := J.landed nb fl3.1 (up.trans up3) os ag
    obtain ⟨oe3, vs3, he3, hz3, hd3⟩ := fl3.there
    have noFrame : a ∉ frs (X.env :: X.outer) := fun hm => by
      obtain ⟨_, o', e', hnf⟩ := fl3.2.2.1.mem hm
      rw [he3] at e'
      cases e'
      exact hnf _ hd3
    have nL : a ≠ X.env.locals := fun z => noFrame (List.mem_filterMap.mpr ⟨X.env, List.mem_cons_self, by rw [frm, z]⟩)
    have nF : a ∉ X.fs := fun hm => by
      obtain ⟨e, he, q⟩ := List.mem_filterMap.mp hm
      exact noFrame (List.mem_filterMap.mpr ⟨e, List.mem_cons_of_mem _ he, q⟩)
    have S3 := J3.suite he3 hd3 na nL nF
    have typ : PySem.W.Looks (model X.prog X.w) h3 (typeOf (.ref a)) cls := fun A Q E s k q =>
      wpAny_typeOf_ref (k _ _ he3) (by rw [hz3.1]; exact q)
    have named : ∀ {x : Str} {c : Value} {np : Pos}, Names X x c → ∀ {Q : Value → Shared → Prop} {E : Value → Shared → Prop}, Q c { s' with heap := h3 } →
        wpAny (model X.prog X.w) (X.A.mark (some (.ref a))) (eval (.Name x np) X.env) Q E { s' with heap := h3 } := by
      intro x c np hc Q E q
      obtain ⟨hg, hdbg, hm | ⟨hm, hv, hnn⟩⟩ := hc
      · exact ld_glob (X := X.suite a ((a, oe3) :: (X.pn ++ pins))) S3 hg hm q
          hdbg
      · exact ld_blt (X := X.suite a ((a, oe3) :: (X.pn ++ pins))) S3 hg hm hv q
          hnn hdbg
    have go : ∀ {hds' : List ExceptHandler} {l' : List (Value × Option Nat × Suite)}, Hs X hds' l' → wHs X.K Wout D l' cls d σ' H' →
        wpAny (model X.prog X.w) X.A (handleBy (.ref a) X.env hds') (SP X pins D) X.xe { s' with heap := h3 } := by
      intro hds' l' hk
      induction hk with
      | nil =>
        intro wish
        refine wpAny_handleBy_nil ?_
        obtain ⟨k1, k2, k3, oe, vs, T, oT, ts', he, hz, hd, h1, hr⟩ := id fl3
        unfold PySem.passOn
        refine wpAny_bind (wpAny_field he hd h1 ?_)
        rw [if_neg (show ¬ ((Value.ref T == Value.none) = true) from by simp)]
        have away : wpAny (model X.prog X.w) X.A (setFlight (.ref a) X.env.frame) (fun _ s4 => wpAny (model X.prog X.w) X.A (throw (.ref a) : Sem Flow) (SP X pins D) X.xe s4) X.xe
            { s' with heap := h3 } := by
          rw [frm]
          refine HandSPX.setFlight_upZ fl3 fun h4 hh4 up4 => wpAny_throw (out _ _ ?_)
          exact ⟨a, B, sI, pins, σ', H', cls, d, rfl, J, nb, (up.trans up3).trans up4,
            .inr (.inr (by rw [stk]; exact hh4)), na, os, ag, wish⟩
        first
          | exact wpAny_bind (wpAny_pure (wpAny_bind away))
          | exact wpAny_bind away
      | @bare x c ts b₀ suite np pos' hds2 l2 hc hsu r ih =>
        intro wish
        obtain ⟨b, hb1, yes, no⟩ := wish
        refine wpAny_handleBy_cons (codeAny_handlers_test ?_) (fun q => by cases q)
        refine named hc ((PySem.W.exm_one (M := model X.prog X.w) J3.kIn typ hb1).here ?_)
        cases b with
        | true =>
          refine codeAny_handlers_suite (HandSPX.lands_againZ fl3 fun h4 fl4 up4 => ?_)
          have J4 : Inv X pins σ' H' { s' with heap := h4 } := J.landed nb fl4.1
            ((up.trans up3).trans up4) os ag
          obtain ⟨oe4, vs4, he4, hz4, hd4⟩ := fl4.there
          have S4 := J4.suite he4 hd4 na nL nF
          refine wpAny_mono ((hsu a oe4 cls d (X.pn ++ pins) hz4 ⟨_, hd4⟩).run [] _ _ H' _ S4 (yes rfl a na)) (fun f s6 hsp => ?_)
            (fun _ _ z => False.elim z)
          cases f with
          | next => exact hsp.imp fun _ ⟨H6, S6, q6⟩ => ⟨H6, S6.unsuite ok, q6⟩
          | brk => exact hsp.imp fun _ ⟨H6, S6, q6⟩ => ⟨H6, S6.unsuite ok, q6⟩
          | cont => exact hsp.imp fun _ ⟨H6, S6, q6⟩ => ⟨H6, S6.unsuite ok, q6⟩
          | ret u => exact hsp.imp fun _ ⟨σ6, H6, S6, r6, q6⟩ => ⟨σ6, H6, S6.unsuite ok, r6, q6⟩
        | false =>
          show wpAny _ X.A (handleBy (.ref a) X.env hds2) _ _ _
          exact ih (no rfl)
      | @as x n i c ts b₀ suite np pos' hds2 l2 hi hln hc hsu r ih =>
        intro wish
        obtain ⟨b, hb1, yes, no⟩ := wish
        refine wpAny_handleBy_cons (codeAny_handlers_test ?_) (fun q => by cases q)
        refine named hc ((PySem.W.exm_one (M := model X.prog X.w) J3.kIn typ hb1).here ?_)
        cases b with
        | true =>
          refine codeAny_handlers_suite_as (HandSPX.lands_againZ fl3 fun h4 fl4 up4 => ?_)
          have J4 : Inv X pins σ' H' { s' with heap := h4 } := J.landed nb fl4.1
            ((up.trans up3).trans up4) os ag
          obtain ⟨oe4, vs4, he4, hz4, hd4⟩ := fl4.there
          have S4 := J4.suite he4 hd4 na nL nF
          have hloc : Loc X.env.scope n := Or.inl hln
          refine store_ok (X := X.suite a ((a, oe4) :: (X.pn ++ pins))) (v := .ref a) S4 nd hi hloc rfl (fun s5 S5 => ?_)
            (Or.inr hln)
          refine wpAny_mono ((hsu a oe4 cls d (X.pn ++ pins) hz4 ⟨_, hd4⟩).run [] s5 _ H' _ S5 (yes rfl a na))
            (fun f s6 hsp => ?_) (fun _ _ z => False.elim z)
          have fin : ∀ {σ6 : L2.St} {H6 : Hp} {Q : Shared → Prop}, Inv (X.suite a ((a, oe4) :: (X.pn ++ pins))) [] σ6 H6 s6 → (∀ s7, Inv X pins (σ6.set i none) H6 s7 → Q s7) →
              wpAny (model X.prog X.w) X.A (do bindName X.env n .none; unbindBehindTheSuite X.env n pos') (fun _ s7 => Q s7) X.xe s6 :=
            fun {_ _ _} S6 hq => gone_ok (S6.unsuite ok) nd hi hln hq
          cases f with
          | next =>
            obtain ⟨σ6, H6, S6, q6⟩ := hsp
            exact fin S6 fun s7 J7 => ⟨σ6.set i none, H6, J7, q6⟩
          | brk =>
            obtain ⟨σ6, H6, S6, q6⟩ := hsp
            exact fin S6 fun s7 J7 => ⟨σ6.set i none, H6, J7, q6⟩
          | cont =>
            obtain ⟨σ6, H6, S6, q6⟩ := hsp
            exact fin S6 fun s7 J7 => ⟨σ6.set i none, H6, J7, q6⟩
          | ret u =>
            obtain ⟨v6, σ6, H6, S6, r6, q6⟩ := hsp
            exact fin S6 fun s7 J7 => ⟨v6, σ6.set i none, H6, J7, r6, q6⟩
        | false =>
          show wpAny _ X.A (handleBy (.ref a) X.env hds2) _ _ _
          exact ih (no rfl)
    exact go clauses wish
  refine wpAny_mono (inBody.run [] s σ H D (I.toTry _) want) (fun f s1 hsp => ?_) (fun e s1 he => he)
  cases f with
  | next => exact wpAny_execs_nil (hsp.imp fun _ ⟨H', J', q⟩ => ⟨H', J'.ofTry ok, q⟩)
  | brk => exact hsp.imp fun _ ⟨H', J', q⟩ => ⟨H', J'.ofTry ok, q⟩
  | cont => exact hsp.imp fun _ ⟨H', J', q⟩ => ⟨H', J'.ofTry ok, q⟩
  | ret u => exact hsp.imp fun _ ⟨σ', H', J', r, q⟩ => ⟨σ', H', J'.ofTry ok, r, q⟩
end
end My

set_option maxHeartbeats 4000000
/-! an own error over OverflowError whose __init__ stores one field -/
namespace My
open PySem PySem.Spec PyProof.Rows L2
def oeTail : List Value := [.type "OverflowError", .type "ArithmeticError", .type "Exception", .type "BaseException", .type "object"]
/-- what is asked of the class -/
structure TgC (K : PySem.W.Frag) (C : Addr) : Prop where
  look : ∃ nm q N bs sn sub ab col dd k0 k1 k2 k3 k5, K.lookup C =
    some (excClassObj nm q C N bs oeTail true sn sub ab col dd k0 k1 k2 k3 k5 "OverflowError.__new__")
  setter : PySem.W.findIn K (.ref C) "__setattr__" = some (some (.builtin "object.__setattr__"))
  base : PySem.W.subIn K (.ref C) (.type "BaseException") = some true
  ofType : PySem.W.typeIn K (.ref C) = some (.type "type")
  keep : PySem.W.keepIn K (.ref C) = true
section
open PySem.W PySem.Calls PySem.HandSPX Builtin Builtin.ObjectAttr
variable {prog : Program} {w : World} {A : Around} {R : Result → Shared → Prop} {hp : Heap} {g : Array GenState} {d : Drawn} {t : Nat} {os : OsState}
theorem put_field {K : W.Frag} {name : Str} {tk : Tok} {v : Value} {x C : Addr} {fv : Array Value} {cd : ClassData}
    (inK : K.In hp) (atX : hp.get? x = some { cls := .ref C, data := .fields fv }) (ofC : W.clsIn K C = some cd) (order : cd.mro = .ref C :: oeTail)
    (dict : cd.hasDict = true) (free : W.findIn K (.ref C) name = some none)
    (go : ∀ h2 tk2 dx, (∀ b o, b ≠ x → hp.get? b = some o → h2.get? b = some o) → hp.objs.size ≤ dx → dx ≠ x →
      h2.get? x = some { cls := .ref C, dict := some dx, data := .fields fv } → h2.Ns1 dx (fun y => if y = name then some v else none) →
      R (.ok (.ret .none)) ⟨h2, g, d, tk2, os⟩) :
    codeAny (model prog w) A (.call (.builtin "object.__setattr__") ⟨[.ref x, .str name tk, v], []⟩) R ⟨hp, g, d, t, os⟩ := by
  have inst : W.InstAt hp x { cls := .ref C, data := .fields fv } C none := ⟨atX, rfl, rfl, trivial⟩
  have facts := F.store_object
  have some' : cd.mro.isEmpty = false := by rw [order]; rfl
  have isObj : cd.mro.contains (.type "object") = true := by
    rw [order, List.contains_cons, show oeTail.contains (.type "object") = true by decide +kernel, Bool.or_true]
  have apart : x ≠ hp.objs.size := Nat.ne_of_lt (Heap.lt_size atX)
  have inside : W.mroIn K C (.type "object") = some true := by
    unfold W.mroIn
    rw [ofC, Option.bind_some, if_neg (by rw [some']; decide), isObj]
  have sub : W.Looks (model prog w) hp (isInstance (.ref x) (.type "object")) true := inst.type.andThen (W.looks_mroIn inK inside)
  refine codeAny_call_builtin facts.slot.plain facts.entry ?_
  refine @W.check_slot (model prog w) _ _ ⟨hp, g, d, t, os⟩ "object.__setattr__" "object" "__setattr__" (.ref x)
    [.str name tk, v] [] _ facts.kind facts.split sub (facts.args (.ref x) (.str name tk) v) ?_
  have lookOrder : W.Looks (model prog w) hp (mroOf (.ref C)) cd.mro := (W.looks_clsIn inK ofC).andThen .now
  have noTaker : W.Looks (model prog w) hp (storeTaker? none) none := .now
  have lookCls : W.Looks (model prog w) hp (classData C) cd := W.looks_clsIn inK ofC
  rw [W.osa_eq, refuse_eq]
  refine wpAny_bind (wpAny_bind ?_)
  refine inst.type.at (wpAny_bind (lookOrder.at ?_))
  rw [order, refuseLoop_ref, show refuseLoop (.ref x) "__setattr__" oeTail = pure () from F.store_OverflowError.passes _]
  refine wpAny_pure (wpAny_bind ?_)
  refine inst.type.at (wpAny_bind ((W.looks_findIn inK free).at (wpAny_bind (noTaker.at ?_))))
  show wpAny _ _ (storeInOwnDict (.ref x) (.ref C) (.str name tk) name v false) _ _ _
  obtain ⟨c1, c2, c3, c4, c5, c6, c7, c8, c9, c10, c11⟩ := cd
  dsimp only at dict
  subst dict
  unfold storeInOwnDict ownDictForStores
  repeat (first
    | with_reducible refine store_in_new ?_ ?_
    | with_reducible refine wpAny_loadPart_at atX ?_
    | with_reducible refine lookCls.at ?_
    | wp_step)
  · exact ⟨_, #[], _, (Heap.get?_update_ne _ _ _ _ apart.symm).trans (Heap.get?_push_at rfl rfl),
      rfl, fun e he => absurd he (by simp), fun _ => rfl⟩
  · intro h2 tk2 names same
    have stays : (hp.push { cls := .type "dict", data := .dict #[] }).get? x = some { cls := .ref C, data := .fields fv } := Heap.get?_push_of_some _ atX
    refine go h2 tk2 hp.objs.size (fun b o ne ho => ?_) (Nat.le_refl _) apart.symm ?_ names
    · refine (same.2 b (Nat.ne_of_lt (Heap.lt_size ho))).trans ?_
      exact (Heap.get?_update_ne _ _ _ _ ne).trans (Heap.get?_push_of_some _ ho)
    · exact (same.2 x apart).trans (Heap.get?_update_self _ stays rfl)
end
section
variable {X : Cx} {pins : List (Addr × Obj)} {σ : L2.St} {H : Hp} {s : Shared} {a C dx : Addr} {f : Str} {y : V} {u : Value} {Q : Unit → Shared → Prop} {E : Value → Shared → Prop} {A : Around}
theorem put_first (T : TgC X.K C) (I : Inv X pins σ H s) (e : H a = some (exo a C none)) (free : PySem.W.findIn X.K (.ref C) f = some none) (ry : RelV y u)
    (go : ∀ dx s2, H dx = none → dx ≠ a → Inv X pins σ (upd (upd H dx (exd dx [(f, y)])) a (exo a C (some dx))) s2 → Q () s2) :
    wpAny (model X.prog X.w) A (setAttr (.ref a) f u) Q E s := by
  obtain ⟨nm, q, N, bs, sn, sub, ab, col, dd, k0, k1, k2, k3, k5, hC⟩ := T.look
  have ofC : PySem.W.clsIn X.K C = some {
      name := nm
      bases := bs
      mro := .ref C :: oeTail
      ns := N
      qualname := q
      hasDict := true
      slotNames := sn
      subclasses := sub
      abstract := ab
      collection := col
      hasDel := false } := by
    unfold PySem.W.clsIn
    rw [hC] <;> rfl
  obtain ⟨t1, ho⟩ := exo_at I.hok e
  obtain ⟨hp, g, d, t, os⟩ := s
  refine PySem.W.set_plain I.kIn (ox := { cls := .ref C, dict := none, data := .fields #[.ref t1, .none, .none, .none, .bool false, .none] }) (od := none)
    ⟨ho, rfl, rfl, trivial⟩ T.setter ?_
  refine put_field I.kIn ho ofC rfl rfl free fun h2 tk2 dx k dn dne hx hn => ?_
  have newDx : H dx = none := I.hok.fresh dn
  have notDx : ∀ {b : Addr} {o : Obj}, hp.get? b = some o → b ≠ dx := fun {b o} z => Nat.ne_of_lt (Nat.lt_of_lt_of_le (Heap.lt_size z) dn)
  have notA : ∀ {b : Addr}, H b = none → b ≠ a := fun {b} n z => by
    rw [z, e] at n
    cases n
  have step : Un X.fs [] H (upd (upd H dx (exd dx [(f, y)])) a (exo a C (some dx))) hp h2 := by
    refine {
      keep := fun b o z n _ _ => k b o (notA n) z
      slot := fun b o z n _ _ => ⟨_, k b o (notA n) z⟩
      free := fun b o z n _ => ?_
      there := fun b o z _ => ?_
      tups := fun b xs z => ?_
      frzs := fun b o v z => ?_
      tbls := fun b ps z => ⟨#[], ?_⟩ }
    · rw [upd_ne (notA n), upd_ne (notDx z)]
      exact n
    · by_cases hb : b = a
      · exact ⟨_, by rw [hb]; exact hx⟩
      · exact ⟨o, k b o hb z⟩
    · rw [upd_ne (at_ne e z exo_tup), upd_ne (ne_of_none z newDx)]
      exact z
    · rw [upd_ne (at_ne e z exo_frz), upd_ne (ne_of_none z newDx)]
      exact z
    · rw [upd_ne (at_ne e z exo_tbl), upd_ne (ne_of_none z newDx), z]
      simp
  refine go dx _ newDx dne (I.un (t' := tk2) step fun b o z => ?_)
  by_cases hb : b = a
  · subst hb
    rw [upd_same] at z
    cases z
    exact exo_ok hx
  rw [upd_ne hb] at z
  by_cases hd : b = dx
  · subst hd
    rw [upd_same] at z
    cases z
    exact exd_ok hn (relO_put (fs := []) ry fun _ => True.intro)
  rw [upd_ne hd] at z
  refine (I.hok b o z).stay (fun c v hc r => k c v ?_ r) (fun c hc => ?_) (fun c xs hc => ?_)
  · rcases hc with hc | hc
    · rw [hc]
      exact hb
    · exact at_ne e hc exo_own
  · rw [upd_ne (at_ne e hc exo_own), upd_ne (ne_of_none hc newDx)]
    exact hc
  · rw [upd_ne (at_ne e hc exo_tup), upd_ne (ne_of_none hc newDx)]
    exact hc
end
/-- self.f = e, in the __init__ of such a class -/
def tPut (K : PySem.W.Frag) (f : Str) (to te : TE) : L2.TS := fun D σ H => te σ H fun y H1 => to σ H1 fun x H2 => ∃ a C : Addr, x = .ref a ∧ TgC K C ∧
  PySem.W.findIn K (.ref C) f = some none ∧ H2 a = some (exo a C none) ∧
  ∀ dx, H2 dx = none → dx ≠ a → D.nx σ (upd (upd H2 dx (exd dx [(f, y)])) a (exo a C (some dx)))
section
variable {X : Cx} {o e : Expr} {es : List Expr} {to te : TE} {ta : TA} {f : Str} {p p' pos : Pos}
theorem ps_put (ho : PE X o to) (he : PE X e te) (hs : swapsWith e (some (.Attribute o f p')) pos.line X.env = pure false := by rfl) :
    PS X (.Assign [.Attribute o f p'] e pos) (tPut X.K f to te) := by
  refine ⟨fun pins s σ H D I h => ?_⟩
  refine plainObj_wpAny_Assign_Attribute (thn (he.run pins s σ H _ I h) fun v s1 ⟨y, H1, I1, r1, q1⟩ => ?_) hs
  refine thn (ho.run pins s1 σ H1 _ I1 q1) fun u s2 ⟨x, H2, I2, r2, a, C, ex, T, free, ea, q⟩ => ?_
  subst ex
  obtain rfl : u = Value.ref a := r2
  exact put_first T I2 ea free r1 fun dx s3 n ne J => ⟨σ, _, J, q dx n ne⟩
theorem pmk_tg {CX : CXT} {x : Str} {C fI : Addr} {k : Nat} {fd : FuncData} {ps : List Str} {sp : Sp} {ds : List Value} {dvs : List V} (T : TgC X.K C)
    (iC : PySem.W.findIn X.K (.ref C) "__init__" = some (some (.ref fI))) (tI : PySem.W.typeIn X.K (.ref fI) = some (.type "function"))
    (F1 : FnOk X.prog X.w X.K X.mg X.base CX k fI fd ps sp) (hr : Room (k + 1) X.A) (hb : Binds X.K fd ps ds) (hd : Vals dvs ds)
    (hx : Passes CX X (fun _ _ _ => False)) (hg : Gl X x) (hm : X.mg x = some (.ref C)) (ha : PA X (e :: es) ta)
    (hdb : (x == ("__debug__" : Str)) = false := by decide) (he : starEach (e :: es) X.env = (false, eval e X.env) :: starEach es X.env := by rfl)
    (hpl : (backTo pos (starEach es X.env)).any (·.1) = false := by rfl) :
    PMk X (.Call (.Name x p) (e :: es) [] pos) (tMkO C sp dvs ta) := by
  intro pins s σ H Q I h
  obtain ⟨nm, q, N, bs, sn, sub, ab, col, dd, k0, k1, k2, k3, k5, hC⟩ := T.look
  refine wpAny_Call_Name_kw (ld_glob I hg hm ?_ hdb)
  refine PySem.W.callWith_K (h₀ := X.base) I.ok.mod.kin T.keep ?_ he hpl
  refine thn (ha.run pos pins s σ H _ I h) fun us s1 ⟨vs, H1, I1, r1, hz, q1⟩ => ⟨I1.kIn, ?_⟩
  show wpAny _ _ (call (.ref C) us) _ _ _
  obtain ⟨hp, g, dr, tk, os⟩ := s1
  have over : hp.objs.size ≤ hp.objs.size + 1 := Nat.le_succ _
  have new : H1 (hp.objs.size + 1) = none := I1.hok.fresh over
  have want := q1 (hp.objs.size + 1) new
  have stays : ∀ b o, hp.get? b = some o → ((hp.push (PySem.W.kdv_tup us)).push (PySem.HandSPX.excO C hp.objs.size)).get? b = some o := fun b o z =>
    Heap.get?_push_of_some _ (Heap.get?_push_of_some _ z)
  have made : ((hp.push (PySem.W.kdv_tup us)).push (PySem.HandSPX.excO C hp.objs.size)).get? (hp.objs.size + 1) = some (PySem.HandSPX.excO C hp.objs.size) := by
    heap_get
  have I2 := I1.laid (t' := tk) (a := hp.objs.size + 1) (o := exo (hp.objs.size + 1) C none)
    (h' := (hp.push (PySem.W.kdv_tup us)).push (PySem.HandSPX.excO C hp.objs.size)) stays over (exo_ok made)
  have r2 : Vals (V.ref (hp.objs.size + 1) :: (vs ++ dvs)) (Value.ref (hp.objs.size + 1) :: (us ++ ds)) := .cons rfl (r1.append hd)
  have lens : (Value.ref (hp.objs.size + 1) :: us ++ ds).length = ps.length := by
    have z := r2.length
    rw [F1.len _ _ _ _ want] at z
    exact z.symm
  have small : us.length ≤ sizeLine := by
    rw [← Paired.length r1, sizeLine_eq]
    omega
  refine wpAny_call (PySem.HandSPX.call_own F.excBase_OverflowError (fun _ => rfl) (I1.kIn _ _ hC) (PySem.W.looks_findIn I1.kIn iC)
    (fun self => PySem.W.bind_fn I1.kIn self tI) small ?_)
  refine codeAny_mono (F1.run _ X.stack _ _ ⟨Value.ref (hp.objs.size + 1) :: us, []⟩ (Value.ref (hp.objs.size + 1) :: (us ++ ds)) _ _ (fun _ _ _ => False)
    (hr.make C us []) (I2.env0.make C us []) (hb _ (Value.ref (hp.objs.size + 1) :: us) I2.kIn lens) r2 want) fun r s2 back => ?_
  match r, back with
  | .error er, back => exact hx pins σ _ _ er s2 I2 back
  | .ok (.ret u), back =>
    obtain ⟨v, H2, os2, bare2, un2, hok2, rv, ev, d, fs, ea, ed, hd1, q2⟩ := back
    subst ev
    obtain ⟨h2, g2, d2, t2, os'⟩ := s2
    exact ⟨rv, mk_end (raises_own T.base T.ofType) I1 over stays un2 hok2 os2 bare2 ea ed hd1 q2⟩
end
end My

/-! (v,) * k for great k -/
namespace My
open PySem PySem.Spec PyProof.Rows L2
theorem rep_flat1 {α : Type} (v : α) : ∀ n : Nat, (List.replicate n [v]).flatten = List.replicate n v
  | 0 => rfl
  | n + 1 => by rw [List.replicate_succ, List.flatten_cons, rep_flat1 v n, List.replicate_succ]; rfl
def rRepW (K : PySem.W.Frag) : R2 := fun x y H Q => ∃ (a : Addr) (n : Nat) (z : V), x = .ref a ∧ y = .int (n : Int) ∧ SqT K H a [z] ∧ 2 ≤ n ∧ n ≤ 9000 ∧
  ∀ b, H b = none → Q (.ref b) (upd H b (.tup (List.replicate n z)))
set_option maxHeartbeats 4000000 in
theorem op_repW {X : Cx} : OpR X (binaryOp .Mult) (rRepW X.K) := by
  intro pins st σ H x y v u Q I rx ry want
  obtain ⟨a, n, z, rfl, rfl, seq, low, most, q⟩ := want
  cases rx
  obtain ⟨tk, rfl⟩ := ry
  obtain ⟨vals, rel, ⟨⟨cl, dict, data, slots⟩, found, isT, m, isS⟩, small⟩ := I.tuple seq
  simp only at isT isS
  subst isT isS
  obtain ⟨it, rfl⟩ : ∃ it, vals = [it] := by
    have := rel.length
    match vals, this with
    | [it], _ => exact ⟨it, rfl⟩
  have line := sizeLine_eq
  have one : ([it].toArray.size : Nat) = 1 := rfl
  have flatLen : (List.replicate n [it]).flatten.length = n := by rw [rep_flat1, List.length_replicate]
  have flatNat : (n : Int).toNat = n := by omega
  have many : (List.foldl (fun x1 x2 => x1 ++ x2) #[] (List.replicate (n : Int).toNat [it].toArray)).size ≤ sizeLine := by
    rw [size_rep, List.size_toArray, flatNat, flatLen, line]
    omega
  have bound0 : (decide ((n : Int) < -(2 ^ 63)) || decide ((n : Int) ≥ 2 ^ 63)) = false := by
    rw [decide_eq_false (by omega), decide_eq_false (by omega)]
    rfl
  have bound1 : ([it].toArray.isEmpty || (n : Int) == 1) = false := by
    rw [show [it].toArray.isEmpty = false from rfl, Bool.false_or, beq_eq_false_iff_ne]
    omega
  have bound2 : (decide ((n : Int) ≤ 0) || [it].toArray.isEmpty) = false := by
    rw [show [it].toArray.isEmpty = false from rfl, decide_eq_false (by omega)]
    rfl
  have bound3 : ¬ (([it].toArray.size : Nat) : Int) * (n : Int) > (2 ^ 63 - 1) / 8 := by
    rw [one]
    omega
  have bound4 : Builtin.Tuple.tupleTooMany ((([it].toArray.size : Nat) : Int) * (n : Int)) = false := by
    unfold Builtin.Tuple.tupleTooMany
    rw [line, one, decide_eq_false (by omega)]
  have mulled := tuple_mulW a [it].toArray m dict slots (n : Int) tk bound0 bound1 bound2 bound3 bound4 many
  refine wpAny_binaryOp_repeat_ref (T := "tuple") (U := "int") (by decide) ⟨_, found, rfl⟩ (fun s2 => typeIs_int s2 (n : Int) tk)
    noFill_tuple_mul F.fills_int_mul F.slot_int_rmul
    repeat_tuple F.slot_int_index.lookup ?_
  refine call_meets F.slot_int_rmul (typeIs_int st (n : Int) tk) F.entry_int_rmul (F.args_int_rmul_2 _ _)
    (int_rmul_tuple (n : Int) tk a [it].toArray m dict slots) ⟨found, rfl, ⟨_, found, rfl⟩, ?_⟩
  refine call_meets F.slot_tuple_mul ⟨_, found, rfl⟩ F.entry_tuple_mul
    (F.args_tuple_mul_2 _ _) mulled ⟨found, ?_⟩
  rw [size_rep, flatNat, rep_flat1]
  refine ⟨.ref st.heap.objs.size, _, I.laid (t' := st.toks) (o := .tup (List.replicate n z)) (fun b ob q => Heap.get?_push_of_some _ q)
    (Nat.le_refl _) ?_, rfl, q _ (I.hok.fresh (Nat.le_refl _))⟩
  refine ⟨by rw [List.length_replicate, line]; omega, List.replicate n it, ?_, IsTup.new _ _⟩
  have r1 := rel.rep n
  rw [rep_flat1, rep_flat1] at r1
  exact r1
end My

/-! set(list of ints), to be sorted -/
namespace My
open PySem PySem.Spec PyProof.Rows L2
abbrev nset (w : World) : Obj := { cls := .type "set", dict := none, data := .set #[] 0 (.fresh 0 0 (!w.params.followText "set-order")) }
section
variable {P : Program} {w : World} {A : Around} {E : Value → Shared → Prop} {s : Shared}
set_option maxHeartbeats 4000000 in
theorem set_of_list {l : Addr} {xs : Array Value} (ns : List Int) {Q : Value → Shared → Prop} (calm : A.handled = none) (atL : s.heap.IsList l xs) (areI : IntsAre xs.toList ns) (few : ns.length + 1 < scanBound)
    (go : ∀ (h2 : Heap) (tk c : Nat), SetR w h2 s.heap.objs.size (fun j => decide (j ∈ ns)) c → c ≤ ns.length → (∀ b o, s.heap.get? b = some o → h2.get? b = some o) → Q (.ref s.heap.objs.size) { s with heap := h2, toks := tk }) :
    wpAny (model P w) A (call (.type "set") [.ref l]) Q E s := by
  have size : xs.size = ns.length := (Array.length_toList (xs := xs)).symm.trans (IntsAre.length areI)
  obtain ⟨mc, mt, mr⟩ := F.called_set.mro
  have made := F.called_set.made
  have below := F.called_set.sub
  refine wpAny_call (codeAny_of_tree (?_ : wpAny _ _ (callAny (.type "set") _) _ _ _))
  refine wpAny_pure ⟨Code.quiet_builtin _ (by decide +kernel), codeAny_builtin F.entry_type_call ?_⟩
  rw [Around.under_plain (weight_type_call_type "set" [.ref l] []) rfl]
  have noType := F.called_set.notType
  have creates := F.called_set.canCreate
  have checked := F.typeCall_set_1 (.ref l)
  repeat any_goals first | assumption | wp_step
  refine codeAny_mono (code_set_led1 (.ref l) (E := E) (Q₁ := fun x s1 => x = .ref s.heap.objs.size ∧ s1 = { s with heap := s.heap.push (nset w) }) ⟨rfl, rfl⟩) fun res s1 told => ?_
  match res, told with
  | .error e, told => exact told
  | .ok (.ret x), told =>
    obtain ⟨rfl, rfl⟩ := told
    have atS : (s.heap.push (nset w)).get? s.heap.objs.size = some (nset w) := Heap.get?_push_size _ rfl
    have isSet : Shared.TypeIs { s with heap := s.heap.push (nset w) } (.ref s.heap.objs.size) "set" := ⟨_, atS, rfl⟩
    have look := F.called_set.init.lookup
    have bound := F.called_set.init.bind (.ref s.heap.objs.size)
    repeat any_goals first | assumption | wp_step
    refine codeAny_mono (codeAny_call_builtin (R := wants (fun r s2 => r = .none ∧ ∃ h2 tk c, s2 = { s with heap := h2, toks := tk } ∧ SetR w h2 s.heap.objs.size (fun j => decide (j ∈ ns)) c ∧ c ≤ ns.length ∧
      ∀ b o, s.heap.get? b = some o → h2.get? b = some o) E) F.called_set.init.plain F.entry_set_init (check_set_init_1 isSet ?_)) fun res2 s2 told2 => ?_
    · obtain ⟨ol, atO, isL, nl, dat⟩ := atL
      obtain ⟨oc, od, odat, osl⟩ := ol
      simp only at isL dat
      subst isL dat
      have atO2 : (s.heap.push (nset w)).get? l = some { cls := .type "list", dict := od, data := .seq xs nl, slots := osl } := Heap.get?_push_of_some _ atO
      have noSet := F.sub_list_set
      have noFrozen := F.sub_list_frozenset
      have noDict : (Value.type "list" == Value.type "dict") = false := by decide
      have atL2 : (s.heap.push (nset w)).IsList l xs := ⟨_, atO2, rfl, nl, rfl⟩
      unfold Builtin.«set.__init__» Builtin.Frozenset.updateFrom noKeywords
      generalize e0 : pyIter = iter0
      wp_walk
      subst e0
      refine wpAny_pyIter_list atL2 (wpAny_bind (wpAny_runValue ?_))
      have ll : l < s.heap.objs.size := Heap.lt_size atO
      have calm3 : A.in1.in1.in1.handled = none := by simp [calm]
      have sz : (s.heap.push (nset w)).objs.size = s.heap.objs.size + 1 := Heap.size_push ..
      have neI : l ≠ (s.heap.push (nset w)).objs.size := by rw [sz]; exact Nat.ne_of_lt (Nat.lt_succ_of_lt ll)
      have neS : s.heap.objs.size ∉ [(s.heap.push (nset w)).objs.size, l] := by
        simp only [List.mem_cons, List.not_mem_nil, or_false, not_or]
        rw [sz]
        exact ⟨Nat.ne_of_lt (Nat.lt_succ_self _), fun z => Nat.ne_of_lt ll z.symm⟩
      have vals : ∀ (i : Nat) (v : Value), xs[i]? = some v → ∃ k t, ns[i]? = some k ∧ v = .int k t := fun i v hv => by
        have hi : i < ns.length := size ▸ (Array.getElem?_eq_some_iff.mp hv).1
        obtain ⟨t, e⟩ := IntsAre.int_at areI i v (Array.getElem?_toList.trans hv)
        refine ⟨ns[i], t, List.getElem?_eq_getElem hi, e.trans ?_⟩
        rw [List.getD_eq_getElem?_getD, List.getElem?_eq_getElem hi]
        rfl
      refine set_update_ints ((Walks.list calm3 _ l neI xs).toS) s.heap.objs.size neS ns size few vals (xs.size - 0) 0 _ (by omega) (Nat.zero_le _) ⟨⟨_, Heap.get?_push_size _ rfl, rfl, rfl⟩, atL2.push _⟩
        ⟨0, Nat.le_refl 0, setR_new_at (Heap.get?_push_of_some _ atS)⟩ fun s3 c3 mv le3 R3 => ?_
      obtain ⟨h3, g3, d3, tk3, os3⟩ := s3
      obtain rfl : g3 = s.gens := mv.gens
      obtain rfl : d3 = s.drawn := mv.drawn
      obtain rfl : os3 = s.os := mv.os
      show wpAny _ _ _ _ _ _
      refine wpAny_pure ?_
      show wpAny _ _ (ret Value.none) _ _ _
      refine wpAny_pure ⟨rfl, h3, tk3, c3, rfl, R3, size ▸ le3, fun b o e => ?_⟩
      have lb : b < s.heap.objs.size := Heap.lt_size e
      refine mv.heap b o ?_ (Heap.get?_push_of_some _ (Heap.get?_push_of_some _ e))
      simp only [List.mem_cons, List.not_mem_nil, or_false, not_or]
      rw [sz]
      exact ⟨Nat.ne_of_lt lb, Nat.ne_of_lt (Nat.lt_succ_of_lt lb)⟩
    · match res2, told2 with
      | .error e, told2 => exact told2
      | .ok (.ret r), told2 =>
        obtain ⟨rfl, h2, tk, c, rfl, R2, le2, keeps⟩ := told2
        repeat any_goals first | assumption | wp_step
        exact go _ _ _ R2 le2 keeps
end
/-- set(xs) of a list of ints -/
def rSetL (K : PySem.W.Frag) (w : World) : List V → Hp → VK → Prop := fun vs H Q => ∃ (l : Addr) (ns : List Int), vs = [V.ref l] ∧ SqL K H l (ns.map V.int) ∧ ns.length ≤ 1000 ∧
  ∀ p c, H p = none → c ≤ ns.length → Q (.ref p) (upd H p (SetO w p (fun j => decide (j ∈ ns)) c))
theorem cr_setL {X : Cx} (calm : X.calm = true) : CallR X (.type "set") (rSetL X.K X.w) := by
  intro pins s σ H vs us Q I r want
  obtain ⟨l, ns, rfl, hl, few, q⟩ := want
  rw [Vals.ref1 r]
  obtain ⟨its, rv, pl, _⟩ := I.list hl
  refine set_of_list ns (I.ok.hd calm) pl.isList (by simpa using ints_of_vals rv) (by unfold scanBound; omega) fun h2 tk c R le keeps => ?_
  exact ⟨.ref s.heap.objs.size, _, I.laid (t' := tk) keeps (Nat.le_refl _) (setO_new R), rfl, q _ c (I.hok.fresh (Nat.le_refl _)) le⟩
end My

/-! a comprehension over zip of two tuples of any lengths -/
namespace My
open PySem PySem.Spec PyProof.Rows L2 RZ
theorem lc_zipT {K : PySem.W.Frag} {a b : Addr} {xs ys : List V} {g : TG} {tt : TT} {te : TE} {vs : List Nat} {σ : L2.St} {H1 : Hp} {D : Addr} {Qd : Hp → Prop} (n : Nat) (hn : n = min xs.length ys.length)
    (Pv : Nat → Hp → Prop) (h0 : Pv 0 (upd H1 D (.lst []))) (hq : ∀ i H, i ≤ n → Pv i H → SqT K H a xs ∧ SqT K H b ys)
    (hs : ∀ (i : Nat) (x y : V) (T : Addr) (H : Hp), xs[i]? = some x → ys[i]? = some y → Pv i H → H T = none → g (.ref T) (wipe σ vs) (upd H T (.tup [x, y])) fun σ2 H2 => wipe σ2 vs = wipe σ vs ∧ tt σ2 H2 fun b H3 =>
      if b = true then te σ2 H3 fun y H4 => ∃ acc, H4 D = some (.lst acc) ∧ acc.length < sizeLine ∧ Pv (i + 1) (upd H4 D (.lst (acc ++ [y]))) else Pv (i + 1) H3) (hd : ∀ H, Pv n H → Qd H) :
    ∃ W : Nat → Nat → Hp → Prop, (∃ m, W 0 m (upd H1 D (.lst []))) ∧ ∀ i m H, W i m H →
      ((ItzT K a b).stop i H ∧ Qd H) ∨ ((ItzT K a b).go i H ∧ ∃ Nx : Hp → Prop, (∀ H', Nx H' → ∃ m', m' < m ∧ W (i + 1) m' H') ∧ ∀ x H', (ItzT K a b).yld i H x H' → g x (wipe σ vs) H' fun σ2 H2 => wipe σ2 vs = wipe σ vs ∧ tt σ2 H2 fun b H3 =>
        if b = true then te σ2 H3 fun y H4 => ∃ acc, H4 D = some (.lst acc) ∧ acc.length < sizeLine ∧ Nx (upd H4 D (.lst (acc ++ [y]))) else Nx H3) := by
  refine ⟨fun i m H => m = n - i ∧ i ≤ n ∧ Pv i H, ⟨n, by simp, Nat.zero_le _, h0⟩, ?_⟩
  rintro i m H ⟨rfl, hi, p⟩
  obtain ⟨qx, qy⟩ := hq i H hi p
  by_cases hlt : i < n
  · have h1 : i < xs.length := by omega
    have h2 : i < ys.length := by omega
    have hx : xs[i]? = some xs[i] := List.getElem?_eq_getElem h1
    have hy : ys[i]? = some ys[i] := List.getElem?_eq_getElem h2
    refine .inr ⟨⟨xs, ys, _, _, qx, qy, hx, hy⟩, Pv (i + 1), fun H' p' => ⟨n - (i + 1), by omega, rfl, hlt, p'⟩, fun v H' y => ?_⟩
    obtain ⟨T, x', y', rfl, hT, rfl, f1, f2⟩ := y
    exact hs i x' y' T H (f1 xs qx) (f2 ys qy) p hT
  · have e : i = n := by omega
    subst e
    exact .inl ⟨⟨xs, ys, qx, qy, by omega⟩, hd H p⟩
end My

/-! rules within a comprehension: the written part by its own name -/
namespace My
open PySem PySem.Spec PyProof.Rows L2
section
variable {X : Cx}
theorem pg_tupK {K : PySem.W.Frag} {es : List Expr} {k : Nat} {pos : Pos} {t : TGs} {n : Nat} (hc : X.calm = true) (h : PGs X es t) (hK : X.K = K := by rfl)
    (hn : (assignEach es X.env).length = n := by rfl) (hst : (assignEach es X.env).findIdx? (·.1) = none := by rfl) : PG X (.Tuple es k pos) (gTup K n t) := by
  subst hK
  exact pg_tup hc h hn hst
theorem call_reprK {K : PySem.W.Frag} (hg : X.A.guards = some []) (hu : X.A.units + 64 < cLine) (h : X.K = K := by rfl) : CallR X (.builtin "repr") (rRepr K) := by
  subst h
  exact call_repr hg hu
variable {o e : Expr} {es : List Expr} {to : TE} {t : TA} {name : Str} {apos cpos : Pos} {T id : String} {r : V → List V → Hp → VK → Prop}
theorem pe_bmK {K : PySem.W.Frag} (pa : PlainAttrs T) (slot : Slot T name id) (hty : typeOf (.builtin id) = pure (.type "method_descriptor")) (hm : MtR X id r) (ho : PE X o to) (ha : PA X (e :: es) t) (hK : X.K = K := by rfl)
    (hbase : attributeBase o name X.env (eval o X.env) = eval o X.env := by rfl)
    (hfew : ((backTo cpos (starEach (e :: es) X.env)).all (fun x => !x.1) && (backToKw cpos (keywordEach [] X.env)).all (fun x => x.1.isSome)
      && decide ((e :: es).length + ([] : List Keyword).length + (if ([] : List Keyword).isEmpty then 0 else 1) < 30)) = true := by rfl)
    (hline : (apos.endLine == cpos.line) = true := by rfl) (hs : starEach (e :: es) X.env = (false, eval e X.env) :: starEach es X.env := by rfl) (hplain : (backTo cpos (starEach es X.env)).any (·.1) = false := by rfl) :
    PE X (.Call (.Attribute o name apos) (e :: es) [] cpos) (tBM K T r to t) := by
  subst hK
  exact pe_bm pa slot hty hm ho ha hbase hfew hline hs hplain
end
end My

/-! a text times a number; list.index within a comprehension -/
namespace My
open PySem PySem.Spec PyProof.Rows L2
theorem fold_size {a : Array Nat} : ∀ (n : Nat) (b : Array Nat), ((List.replicate n a).foldl (fun x y => x ++ y) b).size = b.size + n * a.size
  | 0, b => by simp
  | n + 1, b => by
    rw [List.replicate_succ, List.foldl_cons, fold_size n, Array.size_append, Nat.succ_mul]
    omega
def rRepS : R2 := fun x y H Q => ∃ (z : Str) (n : Nat), x = .str z ∧ y = .int (n : Int) ∧ 2 ≤ n ∧ 1 ≤ z.length ∧ z.length * n ≤ 1000000 ∧ ∀ u : Str, u.length = z.length * n → Q (.str u) H
theorem op_repS {X : Cx} : OpR X (binaryOp .Mult) rRepS := by
  intro pins s σ H x y v u Q I rx ry h
  obtain ⟨z, n, rfl, rfl, h2, h1, hz, q⟩ := h
  obtain ⟨t, rfl⟩ := rx
  obtain ⟨t', rfl⟩ := ry
  have hn : n ≤ 1000000 := Nat.le_trans (Nat.le_mul_of_pos_left n h1) hz
  have e1 : ¬ ((n : Int) < 1) := by omega
  have e2 : ((n : Int) == 1 || z.length == 0) = false := by
    rw [Bool.or_eq_false_iff]
    exact ⟨beq_eq_false_iff_ne.mpr (by omega), beq_eq_false_iff_ne.mpr (by omega)⟩
  have hsz : ((List.replicate (n : Int).toNat z.cps).foldl (fun x y => x ++ y) #[]).size = z.length * n := by
    rw [fold_size, Int.toNat_natCast]
    show 0 + n * z.length = z.length * n
    rw [Nat.zero_add, Nat.mul_comm]
  refine PySem.P.mul_str (x := z) (n := (n : Int)) ?_ (fun _ _ => ?_) (fun _ _ => ?_) ?_
  · rw [decide_eq_false (by omega), decide_eq_false (by omega)]
    rfl
  · have h : (z.length : Int) ≤ (2 ^ 63 - 1) / (n : Int) := by
      rw [Int.le_ediv_iff_mul_le (by omega)]
      have : ((z.length * n : Nat) : Int) ≤ 1000000 := by omega
      rw [Int.natCast_mul] at this
      omega
    omega
  · unfold PySem.Builtin.Str.tooLong
    refine decide_eq_false ?_
    rw [Int.toNat_natCast]
    have : (1000000 : Nat) ≤ sizeLine := by decide
    omega
  · rw [if_neg e1, if_neg (by rw [e2]; decide)]
    refine ⟨?_, ⟨.str _, H, I.tok _, ⟨_, rfl⟩, q _ hsz⟩⟩
    show ((List.replicate (n : Int).toNat z.cps).foldl (fun x y => x ++ y) #[]).size ≤ sizeLine
    rw [hsz]
    exact Nat.le_trans hz (by decide)
theorem mt_indexK {X : Cx} {K : PySem.W.Frag} (h : X.K = K := by rfl) : MtR X "list.index" (rIndex K) := by
  subst h
  exact mt_index
theorem op_in_seqK {X : Cx} {K : PySem.W.Frag} (h : X.K = K := by rfl) : OpR X (compareOp .In) (rIn K false) := by
  subst h
  exact op_in_seq
theorem op_notIn_seqK {X : Cx} {K : PySem.W.Frag} (h : X.K = K := by rfl) : OpR X (compareOp .NotIn) (rIn K true) := by
  subst h
  exact op_notIn_seq
end My

namespace My
open PySem PySem.Spec PyProof.Rows L2
def top (i : Nat) : Stmt := PySem.Challenge.pw_stepsound_k08_whole_maps.main.body.getD i (.Pass ⟨0, 0, 0, 0⟩)
abbrev s_is_integer : Stmt := top 7
abbrev s_is_between : Stmt := top 8
abbrev s_is_pair : Stmt := top 9
abbrev s_is_code : Stmt := top 10
abbrev s_is_place : Stmt := top 11
abbrev s_need_place : Stmt := top 12
abbrev s_need_row : Stmt := top 13
abbrev s_need_few_states : Stmt := top 14
abbrev s_rounded : Stmt := top 16
abbrev s_limited : Stmt := top 17
abbrev s_change_at : Stmt := top 18
abbrev s_faded : Stmt := top 19
abbrev s_need_coder : Stmt := top 21
abbrev s_first_fault : Stmt := top 22
abbrev s_fault_of_steps : Stmt := top 23
abbrev s_fault_of_moves : Stmt := top 24
abbrev s_is_tuple_of : Stmt := top 25
abbrev s_is_move : Stmt := top 26
abbrev s_is_fade : Stmt := top 27
abbrev s_changes_along : Stmt := top 29
abbrev s_level_behind : Stmt := top 30
abbrev s_limits_behind : Stmt := top 31
abbrev s_levels_behind : Stmt := top 32
abbrev s_row_map : Stmt := top 34
abbrev s_limits_of : Stmt := top 35
abbrev s_law_begun : Stmt := top 37
abbrev s_law_next : Stmt := top 38
abbrev s_law_coder : Stmt := top 39
abbrev s_law_parted : Stmt := top 40
abbrev s_law_limited : Stmt := top 41
abbrev s_law_led : Stmt := top 42
abbrev s_law_walked : Stmt := top 43
abbrev s_law_row : Stmt := top 44
abbrev s_law_place_right : Stmt := top 45
abbrev s_law_total : Stmt := top 46
abbrev s_law_refused : Stmt := top 47
abbrev s_law : Stmt := top 48
abbrev si_BadRow : Stmt := inClass (top 2) 0
theorem sci_BadRow : FnScope ["self", "row", "word"] ["self", "row", "word"] (defScope si_BadRow) := ⟨rfl, rfl, rfl, by decide +kernel, rfl, by decide +kernel, by decide +kernel⟩
abbrev si_OutOfPlace : Stmt := inClass (top 3) 0
theorem sci_OutOfPlace : FnScope ["self", "text"] ["self", "text"] (defScope si_OutOfPlace) := ⟨rfl, rfl, rfl, by decide +kernel, rfl, by decide +kernel, by decide +kernel⟩
abbrev si_TooGreat : Stmt := inClass (top 4) 0
theorem sci_TooGreat : FnScope ["self", "most"] ["self", "most"] (defScope si_TooGreat) := ⟨rfl, rfl, rfl, by decide +kernel, rfl, by decide +kernel, by decide +kernel⟩
theorem sc_is_integer : FnScope ["thing"] ["thing"] (defScope s_is_integer) := ⟨rfl, rfl, rfl, by decide +kernel, rfl, by decide +kernel, by decide +kernel⟩
theorem sc_is_between : FnScope ["thing", "least", "most"] ["thing", "least", "most"] (defScope s_is_between) := ⟨rfl, rfl, rfl, by decide +kernel, rfl, by decide +kernel, by decide +kernel⟩
theorem sc_is_pair : FnScope ["thing"] ["thing"] (defScope s_is_pair) := ⟨rfl, rfl, rfl, by decide +kernel, rfl, by decide +kernel, by decide +kernel⟩
theorem sc_is_code : FnScope ["coder", "thing"] ["coder", "thing"] (defScope s_is_code) := ⟨rfl, rfl, rfl, by decide +kernel, rfl, by decide +kernel, by decide +kernel⟩
theorem sc_is_place : FnScope ["coder", "thing"] ["coder", "thing"] (defScope s_is_place) := ⟨rfl, rfl, rfl, by decide +kernel, rfl, by decide +kernel, by decide +kernel⟩
theorem sc_need_place : FnScope ["coder", "thing"] ["coder", "thing"] (defScope s_need_place) := ⟨rfl, rfl, rfl, by decide +kernel, rfl, by decide +kernel, by decide +kernel⟩
theorem sc_need_row : FnScope ["coder", "thing", "index", "code"] ["coder", "thing"] (defScope s_need_row) := ⟨rfl, rfl, rfl, by decide +kernel, rfl, by decide +kernel, by decide +kernel⟩
theorem sc_need_few_states : FnScope ["coder", "most", "low", "high", "steps"] ["coder", "most"] (defScope s_need_few_states) := ⟨rfl, rfl, rfl, by decide +kernel, rfl, by decide +kernel, by decide +kernel⟩
theorem sc_rounded : FnScope ["number", "divisor"] ["number", "divisor"] (defScope s_rounded) := ⟨rfl, rfl, rfl, by decide +kernel, rfl, by decide +kernel, by decide +kernel⟩
theorem sc_limited : FnScope ["number", "least", "most"] ["number", "least", "most"] (defScope s_limited) := ⟨rfl, rfl, rfl, by decide +kernel, rfl, by decide +kernel, by decide +kernel⟩
theorem sc_change_at : FnScope ["coder", "code", "place", "share"] ["coder", "code", "place"] (defScope s_change_at) := ⟨rfl, rfl, rfl, by decide +kernel, rfl, by decide +kernel, by decide +kernel⟩
theorem sc_faded : FnScope ["level", "fade"] ["level", "fade"] (defScope s_faded) := ⟨rfl, rfl, rfl, by decide +kernel, rfl, by decide +kernel, by decide +kernel⟩
theorem sc_need_coder : FnScope ["thing", "fault"] ["thing"] (defScope s_need_coder) := ⟨rfl, rfl, rfl, by decide +kernel, rfl, by decide +kernel, by decide +kernel⟩
theorem sc_first_fault : FnScope ["thing", "low", "high", "steps", "moves", "fade", "fault"] ["thing"] (defScope s_first_fault) := ⟨rfl, rfl, rfl, by decide +kernel, rfl, by decide +kernel, by decide +kernel⟩
theorem sc_fault_of_steps : FnScope ["steps", "index", "step"] ["steps"] (defScope s_fault_of_steps) := ⟨rfl, rfl, rfl, by decide +kernel, rfl, by decide +kernel, by decide +kernel⟩
theorem sc_fault_of_moves : FnScope ["moves", "index", "move"] ["moves"] (defScope s_fault_of_moves) := ⟨rfl, rfl, rfl, by decide +kernel, rfl, by decide +kernel, by decide +kernel⟩
theorem sc_is_tuple_of : FnScope ["thing", "least", "most"] ["thing", "least", "most"] (defScope s_is_tuple_of) := ⟨rfl, rfl, rfl, by decide +kernel, rfl, by decide +kernel, by decide +kernel⟩
theorem sc_is_move : FnScope ["thing"] ["thing"] (defScope s_is_move) := ⟨rfl, rfl, rfl, by decide +kernel, rfl, by decide +kernel, by decide +kernel⟩
theorem sc_is_fade : FnScope ["thing"] ["thing"] (defScope s_is_fade) := ⟨rfl, rfl, rfl, by decide +kernel, rfl, by decide +kernel, by decide +kernel⟩
theorem sc_changes_along : FnScope ["coder", "row", "place", "last", "changes", "now", "code"] ["coder", "row", "place"] (defScope s_changes_along) := ⟨rfl, rfl, rfl, by decide +kernel, rfl, by decide +kernel, by decide +kernel⟩
theorem sc_level_behind : FnScope ["coder", "changes", "level", "low", "high", "fade", "now", "change"] ["coder", "changes", "level"] (defScope s_level_behind) := ⟨rfl, rfl, rfl, by decide +kernel, rfl, by decide +kernel, by decide +kernel⟩
theorem sc_limits_behind : FnScope ["coder", "changes", "low", "high"] ["coder", "changes"] (defScope s_limits_behind) := ⟨rfl, rfl, rfl, by decide +kernel, rfl, by decide +kernel, by decide +kernel⟩
theorem sc_levels_behind : FnScope ["coder", "changes", "low", "high", "fade", "total", "least", "most", "left", "led", "change", "indexes", "behind", "level", "index"] ["coder", "changes"] (defScope s_levels_behind) := ⟨rfl, rfl, rfl, by decide +kernel, rfl, by decide +kernel, by decide +kernel⟩
theorem sc_row_map : FnScope ["coder", "row", "place", "changes", "behind"] ["coder", "row", "place"] (defScope s_row_map) := ⟨rfl, rfl, rfl, by decide +kernel, rfl, by decide +kernel, by decide +kernel⟩
theorem sc_limits_of : FnScope ["coder", "row", "place", "changes", "behind", "total", "least", "most"] ["coder", "row", "place"] (defScope s_limits_of) := ⟨rfl, rfl, rfl, by decide +kernel, rfl, by decide +kernel, by decide +kernel⟩
theorem sc_law_begun : FnScope ["script", "cell"] ["script"] (defScope s_law_begun) := ⟨rfl, rfl, rfl, by decide +kernel, rfl, by decide +kernel, by decide +kernel⟩
theorem sc_law_next : FnScope ["m", "many", "rest", "k", "cell", "mixed"] ["m", "many"] (defScope s_law_next) := ⟨rfl, rfl, rfl, by decide +kernel, rfl, by decide +kernel, by decide +kernel⟩
theorem sc_law_coder : FnScope ["m", "wide", "places", "codes", "low", "high", "k", "steps", "moves", "fade"] ["m", "wide", "places", "codes"] (defScope s_law_coder) := ⟨rfl, rfl, rfl, by decide +kernel, rfl, by decide +kernel, by decide +kernel⟩
theorem sc_law_parted : FnScope ["number", "by"] ["number", "by"] (defScope s_law_parted) := ⟨rfl, rfl, rfl, by decide +kernel, rfl, by decide +kernel, by decide +kernel⟩
theorem sc_law_limited : FnScope ["number", "least", "most"] ["number", "least", "most"] (defScope s_law_limited) := ⟨rfl, rfl, rfl, by decide +kernel, rfl, by decide +kernel, by decide +kernel⟩
theorem sc_law_led : FnScope ["coder", "here", "code", "share", "turn", "level"] ["coder", "here", "code"] (defScope s_law_led) := ⟨rfl, rfl, rfl, by decide +kernel, rfl, by decide +kernel, by decide +kernel⟩
theorem sc_law_walked : FnScope ["coder", "here", "row", "found", "code"] ["coder", "here", "row"] (defScope s_law_walked) := ⟨rfl, rfl, rfl, by decide +kernel, rfl, by decide +kernel, by decide +kernel⟩
theorem sc_law_row : FnScope ["m", "coder", "many", "k"] ["m", "coder", "many"] (defScope s_law_row) := ⟨rfl, rfl, rfl, by decide +kernel, rfl, by decide +kernel, by decide +kernel⟩
theorem sc_law_place_right : FnScope ["coder", "row", "place", "ends", "told", "behind", "total", "least", "greatest", "last", "due", "level", "one", "other", "end"] ["coder", "row", "place"] (defScope s_law_place_right) := ⟨rfl, rfl, rfl, by decide +kernel, rfl, by decide +kernel, by decide +kernel⟩
theorem sc_law_total : FnScope ["coder", "row", "place", "found", "here", "code"] ["coder", "row", "place"] (defScope s_law_total) := ⟨rfl, rfl, rfl, by decide +kernel, rfl, by decide +kernel, by decide +kernel⟩
theorem sc_law_refused : FnScope ["way", "coder", "row", "place", "found", "e"] ["way", "coder", "row", "place"] (defScope s_law_refused) := ⟨rfl, rfl, rfl, by decide +kernel, rfl, by decide +kernel, by decide +kernel⟩
theorem sc_law : FnScope ["script", "m", "turn", "coder", "row", "place", "free", "some", "thing", "due", "found", "great", "just"] ["script"] (defScope s_law) := ⟨rfl, rfl, rfl, by decide +kernel, rfl, by decide +kernel, by decide +kernel⟩
structure Txt0 (K : PySem.W.Frag) (mg : Str → Option Value) where
  f_is_integer : Addr
  d_is_integer : FuncData
  F_is_integer : Fun K "is_integer" "is_integer" s_is_integer f_is_integer d_is_integer
  b_is_integer : Binds K d_is_integer ["thing"] []
  g_is_integer : mg "is_integer" = some (.ref f_is_integer)
  f_is_between : Addr
  d_is_between : FuncData
  F_is_between : Fun K "is_between" "is_between" s_is_between f_is_between d_is_between
  b_is_between : Binds K d_is_between ["thing", "least", "most"] []
  g_is_between : mg "is_between" = some (.ref f_is_between)
  f_is_pair : Addr
  d_is_pair : FuncData
  F_is_pair : Fun K "is_pair" "is_pair" s_is_pair f_is_pair d_is_pair
  b_is_pair : Binds K d_is_pair ["thing"] []
  g_is_pair : mg "is_pair" = some (.ref f_is_pair)
  f_is_code : Addr
  d_is_code : FuncData
  F_is_code : Fun K "is_code" "is_code" s_is_code f_is_code d_is_code
  b_is_code : Binds K d_is_code ["coder", "thing"] []
  g_is_code : mg "is_code" = some (.ref f_is_code)
  f_is_place : Addr
  d_is_place : FuncData
  F_is_place : Fun K "is_place" "is_place" s_is_place f_is_place d_is_place
  b_is_place : Binds K d_is_place ["coder", "thing"] []
  g_is_place : mg "is_place" = some (.ref f_is_place)
  f_need_place : Addr
  d_need_place : FuncData
  F_need_place : Fun K "need_place" "need_place" s_need_place f_need_place d_need_place
  b_need_place : Binds K d_need_place ["coder", "thing"] []
  g_need_place : mg "need_place" = some (.ref f_need_place)
  f_need_row : Addr
  d_need_row : FuncData
  F_need_row : Fun K "need_row" "need_row" s_need_row f_need_row d_need_row
  b_need_row : Binds K d_need_row ["coder", "thing"] []
  g_need_row : mg "need_row" = some (.ref f_need_row)
  f_need_few_states : Addr
  d_need_few_states : FuncData
  F_need_few_states : Fun K "need_few_states" "need_few_states" s_need_few_states f_need_few_states d_need_few_states
  b_need_few_states : Binds K d_need_few_states ["coder", "most"] []
  g_need_few_states : mg "need_few_states" = some (.ref f_need_few_states)
  f_rounded : Addr
  d_rounded : FuncData
  F_rounded : Fun K "rounded" "rounded" s_rounded f_rounded d_rounded
  b_rounded : Binds K d_rounded ["number", "divisor"] []
  g_rounded : mg "rounded" = some (.ref f_rounded)
  f_limited : Addr
  d_limited : FuncData
  F_limited : Fun K "limited" "limited" s_limited f_limited d_limited
  b_limited : Binds K d_limited ["number", "least", "most"] []
  g_limited : mg "limited" = some (.ref f_limited)
structure Txt1 (K : PySem.W.Frag) (mg : Str → Option Value) extends Txt0 K mg where
  f_change_at : Addr
  d_change_at : FuncData
  F_change_at : Fun K "change_at" "change_at" s_change_at f_change_at d_change_at
  b_change_at : Binds K d_change_at ["coder", "code", "place"] []
  g_change_at : mg "change_at" = some (.ref f_change_at)
  f_faded : Addr
  d_faded : FuncData
  F_faded : Fun K "faded" "faded" s_faded f_faded d_faded
  b_faded : Binds K d_faded ["level", "fade"] []
  g_faded : mg "faded" = some (.ref f_faded)
  f_need_coder : Addr
  d_need_coder : FuncData
  F_need_coder : Fun K "need_coder" "need_coder" s_need_coder f_need_coder d_need_coder
  b_need_coder : Binds K d_need_coder ["thing"] []
  g_need_coder : mg "need_coder" = some (.ref f_need_coder)
  f__first_fault : Addr
  d__first_fault : FuncData
  F__first_fault : Fun K "_first_fault" "_first_fault" s_first_fault f__first_fault d__first_fault
  b__first_fault : Binds K d__first_fault ["thing"] []
  g__first_fault : mg "_first_fault" = some (.ref f__first_fault)
  f__fault_of_steps : Addr
  d__fault_of_steps : FuncData
  F__fault_of_steps : Fun K "_fault_of_steps" "_fault_of_steps" s_fault_of_steps f__fault_of_steps d__fault_of_steps
  b__fault_of_steps : Binds K d__fault_of_steps ["steps"] []
  g__fault_of_steps : mg "_fault_of_steps" = some (.ref f__fault_of_steps)
  f__fault_of_moves : Addr
  d__fault_of_moves : FuncData
  F__fault_of_moves : Fun K "_fault_of_moves" "_fault_of_moves" s_fault_of_moves f__fault_of_moves d__fault_of_moves
  b__fault_of_moves : Binds K d__fault_of_moves ["moves"] []
  g__fault_of_moves : mg "_fault_of_moves" = some (.ref f__fault_of_moves)
  f__is_tuple_of : Addr
  d__is_tuple_of : FuncData
  F__is_tuple_of : Fun K "_is_tuple_of" "_is_tuple_of" s_is_tuple_of f__is_tuple_of d__is_tuple_of
  b__is_tuple_of : Binds K d__is_tuple_of ["thing", "least", "most"] []
  g__is_tuple_of : mg "_is_tuple_of" = some (.ref f__is_tuple_of)
  f__is_move : Addr
  d__is_move : FuncData
  F__is_move : Fun K "_is_move" "_is_move" s_is_move f__is_move d__is_move
  b__is_move : Binds K d__is_move ["thing"] []
  g__is_move : mg "_is_move" = some (.ref f__is_move)
  f__is_fade : Addr
  d__is_fade : FuncData
  F__is_fade : Fun K "_is_fade" "_is_fade" s_is_fade f__is_fade d__is_fade
  b__is_fade : Binds K d__is_fade ["thing"] []
  g__is_fade : mg "_is_fade" = some (.ref f__is_fade)
  f_changes_along : Addr
  d_changes_along : FuncData
  F_changes_along : Fun K "changes_along" "changes_along" s_changes_along f_changes_along d_changes_along
  b_changes_along : Binds K d_changes_along ["coder", "row", "place"] []
  g_changes_along : mg "changes_along" = some (.ref f_changes_along)
structure Txt2 (K : PySem.W.Frag) (mg : Str → Option Value) extends Txt1 K mg where
  f_level_behind : Addr
  d_level_behind : FuncData
  F_level_behind : Fun K "level_behind" "level_behind" s_level_behind f_level_behind d_level_behind
  b_level_behind : Binds K d_level_behind ["coder", "changes", "level"] []
  g_level_behind : mg "level_behind" = some (.ref f_level_behind)
  f_limits_behind : Addr
  d_limits_behind : FuncData
  F_limits_behind : Fun K "limits_behind" "limits_behind" s_limits_behind f_limits_behind d_limits_behind
  b_limits_behind : Binds K d_limits_behind ["coder", "changes"] []
  g_limits_behind : mg "limits_behind" = some (.ref f_limits_behind)
  f_levels_behind : Addr
  d_levels_behind : FuncData
  F_levels_behind : Fun K "levels_behind" "levels_behind" s_levels_behind f_levels_behind d_levels_behind
  b_levels_behind : Binds K d_levels_behind ["coder", "changes"] []
  g_levels_behind : mg "levels_behind" = some (.ref f_levels_behind)
  f_row_map : Addr
  d_row_map : FuncData
  F_row_map : Fun K "row_map" "row_map" s_row_map f_row_map d_row_map
  b_row_map : Binds K d_row_map ["coder", "row", "place"] []
  g_row_map : mg "row_map" = some (.ref f_row_map)
  f_limits_of : Addr
  d_limits_of : FuncData
  F_limits_of : Fun K "limits_of" "limits_of" s_limits_of f_limits_of d_limits_of
  b_limits_of : Binds K d_limits_of ["coder", "row", "place"] []
  g_limits_of : mg "limits_of" = some (.ref f_limits_of)
  f__law_begun : Addr
  d__law_begun : FuncData
  F__law_begun : Fun K "_law_begun" "_law_begun" s_law_begun f__law_begun d__law_begun
  b__law_begun : Binds K d__law_begun ["script"] []
  g__law_begun : mg "_law_begun" = some (.ref f__law_begun)
  f__law_next : Addr
  d__law_next : FuncData
  F__law_next : Fun K "_law_next" "_law_next" s_law_next f__law_next d__law_next
  b__law_next : Binds K d__law_next ["m", "many"] []
  g__law_next : mg "_law_next" = some (.ref f__law_next)
  f__law_coder : Addr
  d__law_coder : FuncData
  F__law_coder : Fun K "_law_coder" "_law_coder" s_law_coder f__law_coder d__law_coder
  b__law_coder : Binds K d__law_coder ["m", "wide", "places", "codes"] []
  g__law_coder : mg "_law_coder" = some (.ref f__law_coder)
  f__law_parted : Addr
  d__law_parted : FuncData
  F__law_parted : Fun K "_law_parted" "_law_parted" s_law_parted f__law_parted d__law_parted
  b__law_parted : Binds K d__law_parted ["number", "by"] []
  g__law_parted : mg "_law_parted" = some (.ref f__law_parted)
  f__law_limited : Addr
  d__law_limited : FuncData
  F__law_limited : Fun K "_law_limited" "_law_limited" s_law_limited f__law_limited d__law_limited
  b__law_limited : Binds K d__law_limited ["number", "least", "most"] []
  g__law_limited : mg "_law_limited" = some (.ref f__law_limited)
structure Txt3 (K : PySem.W.Frag) (mg : Str → Option Value) extends Txt2 K mg where
  f__law_led : Addr
  d__law_led : FuncData
  F__law_led : Fun K "_law_led" "_law_led" s_law_led f__law_led d__law_led
  b__law_led : Binds K d__law_led ["coder", "here", "code"] []
  g__law_led : mg "_law_led" = some (.ref f__law_led)
  f__law_walked : Addr
  d__law_walked : FuncData
  F__law_walked : Fun K "_law_walked" "_law_walked" s_law_walked f__law_walked d__law_walked
  b__law_walked : Binds K d__law_walked ["coder", "here", "row"] []
  g__law_walked : mg "_law_walked" = some (.ref f__law_walked)
  f__law_row : Addr
  d__law_row : FuncData
  F__law_row : Fun K "_law_row" "_law_row" s_law_row f__law_row d__law_row
  b__law_row : Binds K d__law_row ["m", "coder", "many"] []
  g__law_row : mg "_law_row" = some (.ref f__law_row)
  f__law_place_right : Addr
  d__law_place_right : FuncData
  F__law_place_right : Fun K "_law_place_right" "_law_place_right" s_law_place_right f__law_place_right d__law_place_right
  b__law_place_right : Binds K d__law_place_right ["coder", "row", "place"] []
  g__law_place_right : mg "_law_place_right" = some (.ref f__law_place_right)
  f__law_total : Addr
  d__law_total : FuncData
  F__law_total : Fun K "_law_total" "_law_total" s_law_total f__law_total d__law_total
  b__law_total : Binds K d__law_total ["coder", "row", "place"] []
  g__law_total : mg "_law_total" = some (.ref f__law_total)
  f__law_refused : Addr
  d__law_refused : FuncData
  F__law_refused : Fun K "_law_refused" "_law_refused" s_law_refused f__law_refused d__law_refused
  b__law_refused : Binds K d__law_refused ["way", "coder", "row", "place"] []
  g__law_refused : mg "_law_refused" = some (.ref f__law_refused)
  f_law : Addr
  d_law : FuncData
  F_law : Fun K "law" "law" s_law f_law d_law
  b_law : Binds K d_law ["script"] []
  g_law : mg "law" = some (.ref f_law)
structure Txt (K : PySem.W.Frag) (mg : Str → Option Value) extends Txt3 K mg where
  z_bool : mg "bool" = none
  z_enumerate : mg "enumerate" = none
  z_int : mg "int" = none
  z_isinstance : mg "isinstance" = none
  z_len : mg "len" = none
  z_list : mg "list" = none
  z_max : mg "max" = none
  z_min : mg "min" = none
  z_range : mg "range" = none
  z_repr : mg "repr" = none
  z_set : mg "set" = none
  z_sorted : mg "sorted" = none
  z_sum : mg "sum" = none
  z_tuple : mg "tuple" = none
  z_zip : mg "zip" = none
  C_BadRow : Addr
  fi_BadRow : Addr
  di_BadRow : FuncData
  g_BadRow : mg "BadRow" = some (.ref C_BadRow)
  o_BadRow : OexC K C_BadRow
  i_BadRow : PySem.W.findIn K (.ref C_BadRow) "__init__" = some (some (.ref fi_BadRow))
  t_BadRow : PySem.W.typeIn K (.ref fi_BadRow) = some (.type "function")
  x_BadRow : XfC K C_BadRow
  n_BadRow_row : PySem.W.findIn K (.ref C_BadRow) "row" = some none
  n_BadRow_word : PySem.W.findIn K (.ref C_BadRow) "word" = some none
  Fi_BadRow : Fun K "__init__" "BadRow.__init__" si_BadRow fi_BadRow di_BadRow
  bi_BadRow : Binds K di_BadRow ["self", "row", "word"] []
  e_BadRow : PySem.W.exmOne K (.ref C_BadRow) (.ref C_BadRow) = some true
  C_OutOfPlace : Addr
  fi_OutOfPlace : Addr
  di_OutOfPlace : FuncData
  g_OutOfPlace : mg "OutOfPlace" = some (.ref C_OutOfPlace)
  o_OutOfPlace : OexC K C_OutOfPlace
  i_OutOfPlace : PySem.W.findIn K (.ref C_OutOfPlace) "__init__" = some (some (.ref fi_OutOfPlace))
  t_OutOfPlace : PySem.W.typeIn K (.ref fi_OutOfPlace) = some (.type "function")
  Fi_OutOfPlace : Fun K "__init__" "OutOfPlace.__init__" si_OutOfPlace fi_OutOfPlace di_OutOfPlace
  bi_OutOfPlace : Binds K di_OutOfPlace ["self", "text"] []
  e_OutOfPlace : PySem.W.exmOne K (.ref C_OutOfPlace) (.ref C_OutOfPlace) = some true
  C_TooGreat : Addr
  fi_TooGreat : Addr
  di_TooGreat : FuncData
  g_TooGreat : mg "TooGreat" = some (.ref C_TooGreat)
  o_TooGreat : TgC K C_TooGreat
  i_TooGreat : PySem.W.findIn K (.ref C_TooGreat) "__init__" = some (some (.ref fi_TooGreat))
  t_TooGreat : PySem.W.typeIn K (.ref fi_TooGreat) = some (.type "function")
  x_TooGreat : XfC K C_TooGreat
  n_TooGreat_most : PySem.W.findIn K (.ref C_TooGreat) "most" = some none
  Fi_TooGreat : Fun K "__init__" "TooGreat.__init__" si_TooGreat fi_TooGreat di_TooGreat
  bi_TooGreat : Binds K di_TooGreat ["self", "most"] []
  e_TooGreat : PySem.W.exmOne K (.ref C_TooGreat) (.ref C_TooGreat) = some true
  e_BadRow_OutOfPlace : PySem.W.exmOne K (.ref C_BadRow) (.ref C_OutOfPlace) = some false
  e_BadRow_TooGreat : PySem.W.exmOne K (.ref C_BadRow) (.ref C_TooGreat) = some false
  e_OutOfPlace_BadRow : PySem.W.exmOne K (.ref C_OutOfPlace) (.ref C_BadRow) = some false
  e_OutOfPlace_TooGreat : PySem.W.exmOne K (.ref C_OutOfPlace) (.ref C_TooGreat) = some false
  e_TooGreat_BadRow : PySem.W.exmOne K (.ref C_TooGreat) (.ref C_BadRow) = some false
  e_TooGreat_OutOfPlace : PySem.W.exmOne K (.ref C_TooGreat) (.ref C_OutOfPlace) = some false
  vV : PySem.W.findCls K (.type "ValueError") (.type "type") "__init__" = some (.val (.builtin "ValueError.__init__"))
  zV : mg "ValueError" = none
  t_MOST_CODES : Tok
  g_MOST_CODES : mg "MOST_CODES" = some (.int 2000 t_MOST_CODES)

end My

namespace My
open PySem PySem.Spec PyProof.Rows L2
/-! ### things and their kinds -/
def tyN : PyData → String
  | .none => "NoneType"
  | .bool _ => "bool"
  | .int _ => "int"
  | .str _ => "str"
  | .list _ => "list"
  | .tuple _ => "tuple"
  | .dict _ => "dict"
def isT : PyData → Bool
  | .tuple _ => true
  | _ => false
def isI : PyData → Bool
  | .int _ => true
  | .bool _ => true
  | _ => false
def isB : PyData → Bool
  | .bool _ => true
  | _ => false
theorem tyx {K : PySem.W.Frag} {H : Hp} {v : V} {d : PyData} (h : Dp K H v d) : TyX K H v (.type (tyN d)) := by
  cases h with
  | non => exact .base .non
  | bl b => exact .base (.bl b)
  | int i => exact .base (.int i)
  | str x => exact .base (.str x)
  | lst h _ =>
    rcases h with (h | ⟨o, h⟩) | ⟨o, its, n, h, hc, _⟩
    · exact .base (.lst h)
    · exact .base (.frz h)
    · exact .kList h hc
  | tup h _ =>
    rcases h with (h | ⟨o, h⟩) | ⟨o, its, n, h, hc, _⟩
    · exact .base (.tup h)
    · exact .fTuple h
    · exact .kTuple h hc
theorem kitI {K : PySem.W.Frag} : ∀ d : PyData, PySem.W.kitOne K (.type (tyN d)) (.type "int") = some (isI d)
  | .none => kit_ty (a := "NoneType") (b := "int") (r := false) (by decide +kernel)
  | .bool _ => kit_ty (a := "bool") (b := "int") (r := true) (by decide +kernel)
  | .int _ => kit_ty (a := "int") (b := "int") (r := true) (by decide +kernel)
  | .str _ => kit_ty (a := "str") (b := "int") (r := false) (by decide +kernel)
  | .list _ => kit_ty (a := "list") (b := "int") (r := false) (by decide +kernel)
  | .tuple _ => kit_ty (a := "tuple") (b := "int") (r := false) (by decide +kernel)
  | .dict _ => kit_ty (a := "dict") (b := "int") (r := false) (by decide +kernel)
theorem kitBo {K : PySem.W.Frag} : ∀ d : PyData, PySem.W.kitOne K (.type (tyN d)) (.type "bool") = some (isB d)
  | .none => kit_ty (a := "NoneType") (b := "bool") (r := false) (by decide +kernel)
  | .bool _ => kit_ty (a := "bool") (b := "bool") (r := true) (by decide +kernel)
  | .int _ => kit_ty (a := "int") (b := "bool") (r := false) (by decide +kernel)
  | .str _ => kit_ty (a := "str") (b := "bool") (r := false) (by decide +kernel)
  | .list _ => kit_ty (a := "list") (b := "bool") (r := false) (by decide +kernel)
  | .tuple _ => kit_ty (a := "tuple") (b := "bool") (r := false) (by decide +kernel)
  | .dict _ => kit_ty (a := "dict") (b := "bool") (r := false) (by decide +kernel)
theorem kitT {K : PySem.W.Frag} : ∀ d : PyData, PySem.W.kitOne K (.type (tyN d)) (.type "tuple") = some (isT d)
  | .none => kit_ty (a := "NoneType") (b := "tuple") (r := false) (by decide +kernel)
  | .bool _ => kit_ty (a := "bool") (b := "tuple") (r := false) (by decide +kernel)
  | .int _ => kit_ty (a := "int") (b := "tuple") (r := false) (by decide +kernel)
  | .str _ => kit_ty (a := "str") (b := "tuple") (r := false) (by decide +kernel)
  | .list _ => kit_ty (a := "list") (b := "tuple") (r := false) (by decide +kernel)
  | .tuple _ => kit_ty (a := "tuple") (b := "tuple") (r := true) (by decide +kernel)
  | .dict _ => kit_ty (a := "dict") (b := "tuple") (r := false) (by decide +kernel)
def btw (d : PyData) (lo hi : Int) : Bool := match d with
  | .int n => decide (lo ≤ n) && decide (n ≤ hi)
  | _ => false
def pairD : PyData → Bool
  | .tuple ds => decide ((ds.length : Int) = 2)
  | _ => false
theorem dpAll_len {K : PySem.W.Frag} {H : Hp} : ∀ {xs : List V} {ds : List PyData}, DpAll K H xs ds → xs.length = ds.length
  | _, _, .nil => rfl
  | _, _, .cons _ t => congrArg (· + 1) (dpAll_len t)
theorem dpAll_get {K : PySem.W.Frag} {H : Hp} : ∀ {xs : List V} {ds : List PyData} {i : Nat} {x : V}, DpAll K H xs ds → xs[i]? = some x → ∃ d, ds[i]? = some d ∧ Dp K H x d
  | _, _, _, _, .nil, h => by simp at h
  | _, _, 0, _, .cons h t, e => by
    simp at e
    subst e
    exact ⟨_, by simp, h⟩
  | _, _, i + 1, x, .cons h t, e => by
    obtain ⟨d, h1, h2⟩ := dpAll_get (i := i) (x := x) t (by simpa using e)
    exact ⟨d, by simpa using h1, h2⟩
theorem dpAll_get' {K : PySem.W.Frag} {H : Hp} {xs : List V} {ds : List PyData} {i : Nat} {d : PyData} (h : DpAll K H xs ds) (e : ds[i]? = some d) : ∃ x, xs[i]? = some x ∧ Dp K H x d := by
  have hl := dpAll_len h
  have hi := (List.getElem?_eq_some_iff.mp e).1
  obtain ⟨d', h1, h2⟩ := dpAll_get (i := i) (x := xs[i]) h (List.getElem?_eq_getElem (by omega))
  rw [e] at h1
  cases h1
  exact ⟨_, List.getElem?_eq_getElem (by omega), h2⟩
mutual
theorem dp_same {K : PySem.W.Frag} {H H' : Hp} (s : Same H H') : ∀ (d : PyData) (v : V), Dp K H v d → Dp K H' v d
  | .none, _, h => by cases h; exact .non
  | .bool _, _, h => by cases h; exact .bl _
  | .int _, _, h => by cases h; exact .int _
  | .str _, _, h => by cases h; exact .str _
  | .list ds, _, h => by
    cases h with
    | lst a b => exact .lst (s.seq a) (dpAll_same s ds _ b)
  | .tuple ds, _, h => by
    cases h with
    | tup a b => exact .tup (same_tup s a) (dpAll_same s ds _ b)
  | .dict _, _, h => by cases h
theorem dpAll_same {K : PySem.W.Frag} {H H' : Hp} (s : Same H H') : ∀ (ds : List PyData) (vs : List V), DpAll K H vs ds → DpAll K H' vs ds
  | [], _, h => by cases h; exact .nil
  | d :: ds, _, h => by
    cases h with
    | cons a b => exact .cons (dp_same s d _ a) (dpAll_same s ds _ b)
end
theorem dp_tup {K : PySem.W.Frag} {H : Hp} {v : V} {ds : List PyData} (h : Dp K H v (.tuple ds)) : ∃ a xs, v = .ref a ∧ SqT K H a xs ∧ DpAll K H xs ds := by
  cases h with
  | tup a b => exact ⟨_, _, rfl, a, b⟩
/-- hands back the value z, all stands -/
def Pure (K : PySem.W.Frag) (vs : List V) (H : Hp) (Q : VK) (args : List V) (z : V) : Prop := vs = args ∧ ∀ H', Same H H' → Q z H'
section
variable {P : Program} {w : World} {K : PySem.W.Frag} {mg : Str → Option Value} {base : Heap}
def intD (d : PyData) : Bool := isI d && !isB d
def sp_is_integer (K : PySem.W.Frag) : Sp := fun vs H Q _ => ∃ (x : V) (d : PyData), vs = [x] ∧ Dp K H x d ∧ ∀ H', Same H H' → Q (.bl (intD d)) H'
theorem ok_is_integer (T : Txt K mg) : FnOk P w K mg base CX0 1 T.f_is_integer T.d_is_integer ["thing"] (sp_is_integer K) := by
  refine T.F_is_integer.ok sc_is_integer (fun vs H Q E h => ?_) (fun cdv A outer s H vs Q E hr h => ?_)
  · obtain ⟨x, d, rfl, _⟩ := h
    rfl
  · obtain ⟨x, d, rfl, hd, q⟩ := h
    refine ⟨_,
(pss_one (ps_ret (pe_and (pe_callB call_isi (by rfl) T.z_isinstance (by decide +kernel) (pa_cons (pv 0) (pa_cons (pe_bltn (v := .ty "int") (by rfl) T.z_int (by decide +kernel) rfl) pa_nil))) (pe_one (pe_not (pe_callB call_isi (by rfl) T.z_isinstance (by decide +kernel) (pa_cons (pv 0) (pa_cons (pe_bltn (v := .ty "bool") (by rfl) T.z_bool (by decide +kernel) rfl) pa_nil))))))))
, ?_⟩
    have q' : ∀ b, intD d = b → Q (.bl b) H := fun b e => e ▸ q H (Same.refl H)
    refine ⟨x, rfl, x, .ty "int", _, _, _, rfl, .ty _, tyx hd, kitI d, _, rfl, ?_⟩
    cases h1 : isI d with
    | false => exact iteF (q' _ (by unfold intD; rw [h1]; rfl))
    | true =>
      refine iteT ?_
      refine ⟨_, rfl, _, .ty "bool", _, _, _, rfl, .ty _, tyx hd, kitBo d, _, rfl, ?_⟩
      exact q' _ (by unfold intD; rw [h1]; rfl)
theorem btw_not {d : PyData} (h : intD d = false) (lo hi : Int) : btw d lo hi = false := by
  cases d <;> first | rfl | cases h
theorem intD_int {d : PyData} (h : intD d = true) : ∃ n, d = .int n := by
  cases d <;> first | exact ⟨_, rfl⟩ | cases h
def sp_is_between (K : PySem.W.Frag) : Sp := fun vs H Q _ => ∃ (x : V) (d : PyData) (lo hi : Int), vs = [x, .int lo, .int hi] ∧ Dp K H x d ∧ ∀ H', Same H H' → Q (.bl (btw d lo hi)) H'
theorem ok_is_between (T : Txt K mg) : FnOk P w K mg base CX0 2 T.f_is_between T.d_is_between ["thing", "least", "most"] (sp_is_between K) := by
  refine T.F_is_between.ok sc_is_between (fun vs H Q E h => ?_) (fun cdv A outer s H vs Q E hr h => ?_)
  · obtain ⟨x, d, lo, hi, rfl, _⟩ := h
    rfl
  · obtain ⟨x, d, lo, hi, rfl, hd, q⟩ := h
    refine ⟨_,
(pss_one (ps_ret (pe_and (pe_call (ok_is_integer T) (hr.mono (by decide)) (by rfl) T.g_is_integer T.F_is_integer.kp T.b_is_integer .nil pass0 (pa_cons (pv 0) pa_nil)) (pe_one (pe_chain op_le op_le (pv 1) (pv 0) (pv 2))))))
, ?_⟩
    refine ⟨x, rfl, x, d, rfl, hd, fun H1 s1 => ⟨_, rfl, ?_⟩⟩
    have q' : ∀ b, btw d lo hi = b → Q (.bl b) H1 := fun b e => e ▸ q H1 s1
    cases h1 : intD d with
    | false => exact iteF (q' _ (btw_not h1 lo hi))
    | true =>
      obtain ⟨n, rfl⟩ := intD_int h1
      cases hd
      refine iteT ?_
      refine ⟨_, rfl, _, rfl, lo, n, rfl, rfl, _, rfl, ?_⟩
      refine ite2 (fun e => ?_) (fun e => ?_)
      · refine ⟨_, rfl, n, hi, rfl, rfl, ?_⟩
        exact q' _ (by show (decide (lo ≤ n) && decide (n ≤ hi)) = _; rw [e]; rfl)
      · exact q' _ (by show (decide (lo ≤ n) && decide (n ≤ hi)) = _; rw [Bool.not_eq_true] at e; rw [e]; rfl)
def sp_is_pair (K : PySem.W.Frag) : Sp := fun vs H Q _ => ∃ (x : V) (d : PyData), vs = [x] ∧ Dp K H x d ∧ ∀ H', Same H H' → Q (.bl (pairD d)) H'
theorem ok_is_pair (T : Txt K mg) : FnOk P w K mg base CX0 2 T.f_is_pair T.d_is_pair ["thing"] (sp_is_pair K) := by
  refine T.F_is_pair.ok sc_is_pair (fun vs H Q E h => ?_) (fun cdv A outer s H vs Q E hr h => ?_)
  · obtain ⟨x, d, rfl, _⟩ := h
    rfl
  · obtain ⟨x, d, rfl, hd, q⟩ := h
    refine ⟨_,
(pss_one (ps_ret (pe_and (pe_callB call_isi (by rfl) T.z_isinstance (by decide +kernel) (pa_cons (pv 0) (pa_cons (pe_bltn (v := .ty "tuple") (by rfl) T.z_tuple (by decide +kernel) rfl) pa_nil))) (pe_one (pe_cmpR op_eq (pe_callB call_len_seq (by rfl) T.z_len (by decide +kernel) (pa_cons (pv 0) pa_nil)) pe_int (nomark _))))))
, ?_⟩
    have q' : ∀ b, pairD d = b → Q (.bl b) H := fun b e => e ▸ q H (Same.refl H)
    refine ⟨x, rfl, x, .ty "tuple", _, _, _, rfl, .ty _, tyx hd, kitT d, _, rfl, ?_⟩
    cases hd with
    | tup h1 h2 =>
      refine iteT ?_
      refine ⟨_, rfl, _, _, rfl, .inr h1, rfl, ?_⟩
      exact q' _ (by show decide _ = decide _; rw [dpAll_len h2]; congr 1; simp)
    | non => exact iteF (q H (Same.refl H))
    | int n => exact iteF (q H (Same.refl H))
    | bl b => exact iteF (q H (Same.refl H))
    | str z => exact iteF (q H (Same.refl H))
    | lst _ _ => exact iteF (q H (Same.refl H))
def tupD (d : PyData) (lo hi : Int) : Bool := match d with
  | .tuple ds => decide (lo ≤ (ds.length : Int)) && decide ((ds.length : Int) ≤ hi)
  | _ => false
def sp_is_tuple_of (K : PySem.W.Frag) : Sp := fun vs H Q _ => ∃ (x : V) (d : PyData) (lo hi : Int), vs = [x, .int lo, .int hi] ∧ Dp K H x d ∧ ∀ H', Same H H' → Q (.bl (tupD d lo hi)) H'
theorem ok_is_tuple_of (T : Txt K mg) : FnOk P w K mg base CX0 2 T.f__is_tuple_of T.d__is_tuple_of ["thing", "least", "most"] (sp_is_tuple_of K) := by
  refine T.F__is_tuple_of.ok sc_is_tuple_of (fun vs H Q E h => ?_) (fun cdv A outer s H vs Q E hr h => ?_)
  · obtain ⟨x, d, lo, hi, rfl, _⟩ := h
    rfl
  · obtain ⟨x, d, lo, hi, rfl, hd, q⟩ := h
    refine ⟨_,
(pss_one (ps_ret (pe_and (pe_callB call_isi (by rfl) T.z_isinstance (by decide +kernel) (pa_cons (pv 0) (pa_cons (pe_bltn (v := .ty "tuple") (by rfl) T.z_tuple (by decide +kernel) rfl) pa_nil))) (pe_one (pe_chain op_le op_le (pv 1) (pe_callB call_len_seq (by rfl) T.z_len (by decide +kernel) (pa_cons (pv 0) pa_nil)) (pv 2))))))
, ?_⟩
    have q' : ∀ b, tupD d lo hi = b → Q (.bl b) H := fun b e => e ▸ q H (Same.refl H)
    refine ⟨x, rfl, x, .ty "tuple", _, _, _, rfl, .ty _, tyx hd, kitT d, _, rfl, ?_⟩
    cases hd with
    | @tup a xs ds h1 h2 =>
      refine iteT ?_
      refine ⟨_, rfl, _, rfl, _, _, rfl, .inr h1, lo, _, rfl, rfl, _, rfl, ?_⟩
      have hl : xs.length = ds.length := dpAll_len h2
      refine ite2 (fun e => ?_) (fun e => ?_)
      · refine ⟨_, rfl, _, hi, rfl, rfl, ?_⟩
        exact q' _ (by show (decide (lo ≤ (ds.length : Int)) && decide ((ds.length : Int) ≤ hi)) = _; rw [← hl, e]; rfl)
      · exact q' _ (by show (decide (lo ≤ (ds.length : Int)) && decide ((ds.length : Int) ≤ hi)) = _; rw [← hl]; rw [Bool.not_eq_true] at e; rw [e]; rfl)
    | non => exact iteF (q H (Same.refl H))
    | int n => exact iteF (q H (Same.refl H))
    | bl b => exact iteF (q H (Same.refl H))
    | str z => exact iteF (q H (Same.refl H))
    | lst _ _ => exact iteF (q H (Same.refl H))
def moveD : PyData → Bool
  | .tuple [a, b] => btw a (-32) 32 && btw b (-15) 15
  | _ => false
def sp_is_move (K : PySem.W.Frag) : Sp := fun vs H Q _ => ∃ (x : V) (d : PyData), vs = [x] ∧ Dp K H x d ∧ ∀ H', Same H H' → Q (.bl (moveD d)) H'
theorem ok_is_move (T : Txt K mg) : FnOk P w K mg base CX0 3 T.f__is_move T.d__is_move ["thing"] (sp_is_move K) := by
  refine T.F__is_move.ok sc_is_move (fun vs H Q E h => ?_) (fun cdv A outer s H vs Q E hr h => ?_)
  · obtain ⟨x, d, rfl, _⟩ := h
    rfl
  · obtain ⟨x, d, rfl, hd, q⟩ := h
    refine ⟨_,
(pss_one (ps_ret (pe_and (pe_call (ok_is_pair T) (hr.mono (by decide)) (by rfl) T.g_is_pair T.F_is_pair.kp T.b_is_pair .nil pass0 (pa_cons (pv 0) pa_nil)) (pe_and (pe_call (ok_is_between T) (hr.mono (by decide)) (by rfl) T.g_is_between T.F_is_between.kp T.b_is_between .nil pass0 (pa_cons (pe_ix ix_tup (pv 0) pe_int (fun _ _ => rfl)) (pa_cons (pe_un un_neg pe_int) (pa_cons pe_int pa_nil)))) (pe_one (pe_call (ok_is_between T) (hr.mono (by decide)) (by rfl) T.g_is_between T.F_is_between.kp T.b_is_between .nil pass0 (pa_cons (pe_ix ix_tup (pv 0) pe_int (fun _ _ => rfl)) (pa_cons (pe_un un_neg pe_int) (pa_cons pe_int pa_nil)))))))))
, ?_⟩
    have q' : ∀ b H', Same H H' → moveD d = b → Q (.bl b) H' := fun b H' s e => e ▸ q H' s
    refine ⟨x, rfl, x, d, rfl, hd, fun H1 s1 => ⟨_, rfl, ?_⟩⟩
    by_cases hp : pairD d = true
    · rw [hp]
      refine iteT ?_
      obtain ⟨da, db, rfl⟩ : ∃ da db, d = .tuple [da, db] := by
        cases d with
        | tuple ds =>
          match ds, hp with
          | [a, b], _ => exact ⟨a, b, rfl⟩
          | [], hp => cases hp
          | [a], hp => cases hp
          | a :: b :: c :: r, hp =>
            have := of_decide_eq_true (show decide (((a :: b :: c :: r).length : Int) = 2) = true from hp)
            simp at this
            omega
        | _ => cases hp
      obtain ⟨a, xs, rfl, ha, hds⟩ := dp_tup hd
      have ha1 := same_tup s1 ha
      obtain ⟨x0, e0, h0⟩ := dpAll_get' hds (i := 0) rfl
      obtain ⟨x1, e1, h1⟩ := dpAll_get' hds (i := 1) rfl
      refine ⟨_, rfl, a, xs, 0, x0, rfl, rfl, ha1, atI_nat (j := 0) e0, 32, rfl, x0, da, -32, 32, rfl, dp_same s1 _ _ h0, fun H2 s2 => ⟨_, rfl, ?_⟩⟩
      have ha2 := same_tup s2 ha1
      cases hb : btw da (-32) 32 with
      | false =>
        refine iteF ?_
        exact q' _ H2 (s1.trans s2) (by show (btw da (-32) 32 && btw db (-15) 15) = false; rw [hb]; rfl)
      | true =>
        refine iteT ?_
        refine ⟨_, rfl, a, xs, 1, x1, rfl, rfl, ha2, atI_nat (j := 1) e1, 15, rfl, x1, db, -15, 15, rfl, dp_same s2 _ _ (dp_same s1 _ _ h1), fun H3 s3 => ?_⟩
        exact q' _ H3 ((s1.trans s2).trans s3) (by show (btw da (-32) 32 && btw db (-15) 15) = _; rw [hb]; rfl)
    · rw [Bool.not_eq_true] at hp
      rw [hp]
      refine iteF ?_
      have e : moveD d = false := by
        unfold moveD
        split
        · cases hp
        · rfl
      exact q' _ H1 s1 e
def fadeD (d : PyData) : Bool := btw d 0 0 || btw d 2 99
def sp_is_fade (K : PySem.W.Frag) : Sp := fun vs H Q _ => ∃ (x : V) (d : PyData), vs = [x] ∧ Dp K H x d ∧ ∀ H', Same H H' → Q (.bl (fadeD d)) H'
theorem ok_is_fade (T : Txt K mg) : FnOk P w K mg base CX0 3 T.f__is_fade T.d__is_fade ["thing"] (sp_is_fade K) := by
  refine T.F__is_fade.ok sc_is_fade (fun vs H Q E h => ?_) (fun cdv A outer s H vs Q E hr h => ?_)
  · obtain ⟨x, d, rfl, _⟩ := h
    rfl
  · obtain ⟨x, d, rfl, hd, q⟩ := h
    refine ⟨_,
(pss_one (ps_ret (pe_or (pe_call (ok_is_between T) (hr.mono (by decide)) (by rfl) T.g_is_between T.F_is_between.kp T.b_is_between .nil pass0 (pa_cons (pv 0) (pa_cons pe_int (pa_cons pe_int pa_nil)))) (pe_one (pe_call (ok_is_between T) (hr.mono (by decide)) (by rfl) T.g_is_between T.F_is_between.kp T.b_is_between .nil pass0 (pa_cons (pv 0) (pa_cons pe_int (pa_cons pe_int pa_nil))))))))
, ?_⟩
    have q' : ∀ b H', Same H H' → fadeD d = b → Q (.bl b) H' := fun b H' s e => e ▸ q H' s
    refine ⟨x, rfl, x, d, 0, 0, rfl, hd, fun H1 s1 => ⟨_, rfl, ?_⟩⟩
    cases hb : btw d 0 0 with
    | true =>
      refine iteT ?_
      exact q' _ H1 s1 (by unfold fadeD; rw [hb]; rfl)
    | false =>
      refine iteF ?_
      refine ⟨x, rfl, x, d, 2, 99, rfl, dp_same s1 _ _ hd, fun H2 s2 => ?_⟩
      exact q' _ H2 (s1.trans s2) (by unfold fadeD; rw [hb]; rfl)
end
end My

namespace My
open PySem PySem.Spec PyProof.Rows L2
theorem for_enumT {K : PySem.W.Frag} {a : Addr} {xs : List V} {g : TG} {tb : L2.TS} {D : Ends} {σ : L2.St} {H : Hp} (Pv : Nat → L2.St → Hp → Prop) (h0 : Pv 0 σ H)
    (still : ∀ i σ H, i ≤ xs.length → Pv i σ H → SqT K H a xs)
    (turn : ∀ i x σ H T, xs[i]? = some x → Pv i σ H → H T = none → g (.ref T) σ (upd H T (.tup [.int (i : Nat), x])) fun σ2 H2 => tb { D with nx := Pv (i + 1), ct := Pv (i + 1), bk := D.nx } σ2 H2)
    (fin : ∀ σ H, Pv xs.length σ H → D.nx σ H) :
    ∃ W : Nat → Nat → L2.St → Hp → Prop, (∃ m, W 0 m σ H) ∧ ∀ i m σ H, W i m σ H →
      ((Itu K a).stop i H ∧ D.nx σ H) ∨ ((Itu K a).go i H ∧ ∃ N : L2.St → Hp → Prop, (∀ σ' H', N σ' H' → ∃ m', m' < m ∧ W (i + 1) m' σ' H') ∧ ∀ x H', (Itu K a).yld i H x H' → g x σ H' fun σ2 H2 => tb { D with nx := N, ct := N, bk := D.nx } σ2 H2) := by
  refine ⟨fun i m σ H => m + i = xs.length ∧ Pv i σ H, ⟨xs.length, by omega, h0⟩, ?_⟩
  rintro i m σ H ⟨hm, p⟩
  have q := still i σ H (by omega) p
  rcases Nat.lt_or_ge i xs.length with hlt | hge
  · refine Or.inr ⟨⟨xs, xs[i], q, List.getElem?_eq_getElem hlt⟩, Pv (i + 1), fun σ' H' p' => ⟨m - 1, by omega, by omega, p'⟩, ?_⟩
    rintro v H' ⟨T, x, rfl, hT, rfl, hx⟩
    exact turn i x σ H T (hx xs q) p hT
  · have e : i = xs.length := by omega
    exact Or.inl ⟨⟨xs, q, e.symm⟩, fin σ H (e ▸ p)⟩
theorem st_tail {t u : L2.TS} {D : Ends} {σ : L2.St} {H : Hp} (R : L2.St → Hp → Prop) (hR : ∀ σ H, R σ H → u D σ H)
    (h : (∀ σ H, R σ H → u D σ H) → t { D with nx := u D } σ H) : tSeq t u D σ H := h hR
/-- the place of the first thing of which p does not hold -/
def badAt (p : PyData → Bool) : Nat → List PyData → Option Nat
  | _, [] => none
  | i, d :: r => if p d = true then badAt p (i + 1) r else some i
theorem badAt_step {p : PyData → Bool} {ds : List PyData} {i : Nat} {d : PyData} (h : ds[i]? = some d) : badAt p i (ds.drop i) = if p d = true then badAt p (i + 1) (ds.drop (i + 1)) else some i := by
  have hi := (List.getElem?_eq_some_iff.mp h).1
  have e : ds.drop i = d :: ds.drop (i + 1) := by
    rw [List.drop_eq_getElem_cons hi]
    rw [List.getElem?_eq_getElem hi] at h
    rw [Option.some.inj h]
  rw [e]
  rfl
def noOr : Option Nat → PyData
  | none => .none
  | some i => .int i
def faultD (s : Str) : Option Nat → PyData
  | none => .none
  | some i => .tuple [.str s, .int i]
def rowF (s : Str) (lo hi : Int) (p : PyData → Bool) (d : PyData) : PyData := match d with
  | .tuple ds => if tupD (.tuple ds) lo hi = true then faultD s (badAt p 0 ds) else .tuple [.str s, .none]
  | _ => .tuple [.str s, .none]
def stepsF : PyData → PyData := rowF "steps" 1 16 (btw · 1 9999)
def movesF : PyData → PyData := rowF "moves" 2 16 moveD
theorem upd_tup {K : PySem.W.Frag} {H : Hp} {p : Addr} {xs : List V} : SqT K (upd H p (.tup xs)) p xs := .inl (.inl upd_same)
section
variable {P : Program} {w : World} {K : PySem.W.Frag} {mg : Str → Option Value} {base : Heap}
/-- hands back a thing that is f of the argument -/
def spF (K : PySem.W.Frag) (f : PyData → PyData) : Sp := fun vs H Q _ => ∃ (x : V) (d : PyData), vs = [x] ∧ Dp K H x d ∧ ∀ z H', Same H H' → Dp K H' z (f d) → Q z H'
theorem ok_fault_of_steps (T : Txt K mg) : FnOk P w K mg base CX0 3 T.f__fault_of_steps T.d__fault_of_steps ["steps"] (spF K stepsF) := by
  refine T.F__fault_of_steps.ok sc_fault_of_steps (fun vs H Q E h => ?_) (fun cdv A outer s H vs Q E hr h => ?_)
  · obtain ⟨x, d, rfl, _⟩ := h
    rfl
  · obtain ⟨x, d, rfl, hd, q⟩ := h
    have q' : ∀ z H' e, Same H H' → stepsF d = e → Dp K H' z e → Q z H' := fun z H' e s ee hz => q z H' s (ee ▸ hz)
    refine ⟨_,
(pss_cons (ps_if (pt_not (pt_val (pe_call (ok_is_tuple_of T) (hr.mono (by decide)) (by rfl) T.g__is_tuple_of T.F__is_tuple_of.kp T.b__is_tuple_of .nil pass0 (pa_cons (pv 0) (pa_cons pe_int (pa_cons pe_int pa_nil)))))) (pss_one (ps_ret (pe_tup (pa_cons pe_str (pa_cons pe_non pa_nil))))) pss_nil)
      (pss_cons (ps_for PassesOwn.never rfl (My.pi_enumT (by rfl) T.z_enumerate (pa_cons (pv 0) pa_nil)) (pg_tup (by rfl) (pgs_cons (pg_name (i := 1) sc_fault_of_steps.nd rfl (Or.inl rfl)) (pgs_cons (pg_name (i := 2) sc_fault_of_steps.nd rfl (Or.inl rfl)) pgs_nil))) (pss_one (ps_if (pt_not (pt_val (pe_call (ok_is_between T) (hr.mono (by decide)) (by rfl) T.g_is_between T.F_is_between.kp T.b_is_between .nil pass0 (pa_cons (pv 2) (pa_cons pe_int (pa_cons pe_int pa_nil)))))) (pss_one (ps_ret (pe_tup (pa_cons pe_str (pa_cons (pv 1) pa_nil))))) pss_nil)))
      (pss_one (ps_ret pe_non))))
, ?_⟩
    refine ⟨x, rfl, x, d, 1, 16, rfl, hd, fun H1 s1 => ⟨_, rfl, ?_⟩⟩
    cases hb : tupD d 1 16 with
    | false =>
      refine iteT ?_
      refine ⟨by decide, fun p hp => ?_⟩
      refine q' _ _ _ (s1.trans (same_new hp)) ?_ (.tup upd_tup (.cons (.str _) (.cons .non .nil)))
      unfold stepsF rowF
      split
      · rw [hb]; rfl
      · rfl
    | true =>
      refine iteF ?_
      obtain ⟨ds, rfl⟩ : ∃ ds, d = .tuple ds := by
        cases d with
        | tuple ds => exact ⟨ds, rfl⟩
        | _ => cases hb
      obtain ⟨a, xs, rfl, ha, hds⟩ := dp_tup hd
      have hF : stepsF (.tuple ds) = faultD "steps" (badAt (btw · 1 9999) 0 ds) := by
        show (if _ then _ else _) = _
        rw [if_pos hb]
      refine ⟨.ref a, rfl, a, xs, rfl, same_tup s1 ha, ?_⟩
      refine for_enumT (K := K) (a := a) (xs := xs) (fun i σ H' => ∃ y1 y2, σ = [some (.ref a), y1, y2] ∧ Same H H' ∧ badAt (btw · 1 9999) 0 ds = badAt (btw · 1 9999) i (ds.drop i)) ⟨none, none, rfl, s1, rfl⟩ ?_ ?_ ?_
      · rintro i σ H' _ ⟨_, _, _, s2, _⟩
        exact same_tup s2 ha
      · rintro i v σ H' p hi ⟨y1, y2, rfl, s2, hbad⟩ hp
        obtain ⟨dv, hdv, hv⟩ := dpAll_get hds hi
        rw [badAt_step hdv] at hbad
        have s3 := s2.trans (same_new (o := .tup [.int (i : Nat), v]) hp)
        refine ⟨p, _, rfl, upd_tup, rfl, _, _, rfl, _, _, rfl, rfl, ?_⟩
        refine ⟨_, rfl, v, dv, 1, 9999, rfl, dp_same s3 _ _ hv, fun H2 s4 => ⟨_, rfl, ?_⟩⟩
        cases hg : btw dv 1 9999 with
        | true =>
          refine iteF ?_
          rw [hg] at hbad
          exact ⟨_, _, rfl, s3.trans s4, hbad⟩
        | false =>
          refine iteT ?_
          rw [hg] at hbad
          refine ⟨_, rfl, by show 2 ≤ sizeLine; decide, fun p2 hp2 => ?_⟩
          refine q' _ _ _ ((s3.trans s4).trans (same_new hp2)) (hF.trans ?_) (.tup upd_tup (.cons (.str _) (.cons (.int _) .nil)))
          rw [hbad]
          rfl
      · rintro σ H' ⟨y1, y2, rfl, s2, hbad⟩
        refine q' _ _ _ s2 (hF.trans ?_) .non
        rw [hbad, dpAll_len hds, List.drop_length]
        rfl
theorem ok_fault_of_moves (T : Txt K mg) : FnOk P w K mg base CX0 4 T.f__fault_of_moves T.d__fault_of_moves ["moves"] (spF K movesF) := by
  refine T.F__fault_of_moves.ok sc_fault_of_moves (fun vs H Q E h => ?_) (fun cdv A outer s H vs Q E hr h => ?_)
  · obtain ⟨x, d, rfl, _⟩ := h
    rfl
  · obtain ⟨x, d, rfl, hd, q⟩ := h
    have q' : ∀ z H' e, Same H H' → movesF d = e → Dp K H' z e → Q z H' := fun z H' e s ee hz => q z H' s (ee ▸ hz)
    refine ⟨_,
(pss_cons (ps_if (pt_not (pt_val (pe_call (ok_is_tuple_of T) (hr.mono (by decide)) (by rfl) T.g__is_tuple_of T.F__is_tuple_of.kp T.b__is_tuple_of .nil pass0 (pa_cons (pv 0) (pa_cons pe_int (pa_cons pe_int pa_nil)))))) (pss_one (ps_ret (pe_tup (pa_cons pe_str (pa_cons pe_non pa_nil))))) pss_nil)
      (pss_cons (ps_for PassesOwn.never rfl (My.pi_enumT (by rfl) T.z_enumerate (pa_cons (pv 0) pa_nil)) (pg_tup (by rfl) (pgs_cons (pg_name (i := 1) sc_fault_of_moves.nd rfl (Or.inl rfl)) (pgs_cons (pg_name (i := 2) sc_fault_of_moves.nd rfl (Or.inl rfl)) pgs_nil))) (pss_one (ps_if (pt_not (pt_val (pe_call (ok_is_move T) (hr.mono (by decide)) (by rfl) T.g__is_move T.F__is_move.kp T.b__is_move .nil pass0 (pa_cons (pv 2) pa_nil)))) (pss_one (ps_ret (pe_tup (pa_cons pe_str (pa_cons (pv 1) pa_nil))))) pss_nil)))
      (pss_one (ps_ret pe_non))))
, ?_⟩
    refine ⟨x, rfl, x, d, 2, 16, rfl, hd, fun H1 s1 => ⟨_, rfl, ?_⟩⟩
    cases hb : tupD d 2 16 with
    | false =>
      refine iteT ?_
      refine ⟨by decide, fun p hp => ?_⟩
      refine q' _ _ _ (s1.trans (same_new hp)) ?_ (.tup upd_tup (.cons (.str _) (.cons .non .nil)))
      unfold movesF rowF
      split
      · rw [hb]; rfl
      · rfl
    | true =>
      refine iteF ?_
      obtain ⟨ds, rfl⟩ : ∃ ds, d = .tuple ds := by
        cases d with
        | tuple ds => exact ⟨ds, rfl⟩
        | _ => cases hb
      obtain ⟨a, xs, rfl, ha, hds⟩ := dp_tup hd
      have hF : movesF (.tuple ds) = faultD "moves" (badAt moveD 0 ds) := by
        show (if _ then _ else _) = _
        rw [if_pos hb]
      refine ⟨.ref a, rfl, a, xs, rfl, same_tup s1 ha, ?_⟩
      refine for_enumT (K := K) (a := a) (xs := xs) (fun i σ H' => ∃ y1 y2, σ = [some (.ref a), y1, y2] ∧ Same H H' ∧ badAt moveD 0 ds = badAt moveD i (ds.drop i)) ⟨none, none, rfl, s1, rfl⟩ ?_ ?_ ?_
      · rintro i σ H' _ ⟨_, _, _, s2, _⟩
        exact same_tup s2 ha
      · rintro i v σ H' p hi ⟨y1, y2, rfl, s2, hbad⟩ hp
        obtain ⟨dv, hdv, hv⟩ := dpAll_get hds hi
        rw [badAt_step hdv] at hbad
        have s3 := s2.trans (same_new (o := .tup [.int (i : Nat), v]) hp)
        refine ⟨p, _, rfl, upd_tup, rfl, _, _, rfl, _, _, rfl, rfl, ?_⟩
        refine ⟨_, rfl, v, dv, rfl, dp_same s3 _ _ hv, fun H2 s4 => ⟨_, rfl, ?_⟩⟩
        cases hg : moveD dv with
        | true =>
          refine iteF ?_
          rw [hg] at hbad
          exact ⟨_, _, rfl, s3.trans s4, hbad⟩
        | false =>
          refine iteT ?_
          rw [hg] at hbad
          refine ⟨_, rfl, by show 2 ≤ sizeLine; decide, fun p2 hp2 => ?_⟩
          refine q' _ _ _ ((s3.trans s4).trans (same_new hp2)) (hF.trans ?_) (.tup upd_tup (.cons (.str _) (.cons (.int _) .nil)))
          rw [hbad]
          rfl
      · rintro σ H' ⟨y1, y2, rfl, s2, hbad⟩
        refine q' _ _ _ s2 (hF.trans ?_) .non
        rw [hbad, dpAll_len hds, List.drop_length]
        rfl
/-- the five things -/
def codF (low high steps moves fade : PyData) : PyData :=
  if btw low (-32768) 0 = true then
    if btw high 0 32767 = true then
      match stepsF steps with
      | .none => (match movesF moves with
        | .none => if fadeD fade = true then .none else .tuple [.str "fade", .none]
        | e => e)
      | e => e
    else .tuple [.str "high", .none]
  else .tuple [.str "low", .none]
def firstF : PyData → PyData
  | .tuple [low, high, steps, moves, fade] => codF low high steps moves fade
  | _ => .tuple [.str "form", .none]
def isN : PyData → Bool
  | .none => true
  | _ => false
theorem dp_isN {K : PySem.W.Frag} {H : Hp} {z : V} {e : PyData} (h : Dp K H z e) : decide (z = V.non) = isN e := by
  cases h <;> rfl
theorem len5 {ds : List PyData} (h : ds.length = 5) : ∃ a b c d e, ds = [a, b, c, d, e] := by
  match ds, h with
  | [a, b, c, d, e], _ => exact ⟨a, b, c, d, e, rfl⟩
theorem dpAll5 {K : PySem.W.Frag} {H : Hp} {xs : List V} {a b c d e : PyData} (h : DpAll K H xs [a, b, c, d, e]) : ∃ x1 x2 x3 x4 x5, xs = [x1, x2, x3, x4, x5] ∧ Dp K H x1 a ∧ Dp K H x2 b ∧ Dp K H x3 c ∧ Dp K H x4 d ∧ Dp K H x5 e := by
  cases h with
  | cons h1 h => cases h with
    | cons h2 h => cases h with
      | cons h3 h => cases h with
        | cons h4 h => cases h with
          | cons h5 h => cases h with
            | nil => exact ⟨_, _, _, _, _, rfl, h1, h2, h3, h4, h5⟩
theorem ok_first_fault (T : Txt K mg) : FnOk P w K mg base CX0 5 T.f__first_fault T.d__first_fault ["thing"] (spF K firstF) := by
  refine T.F__first_fault.ok sc_first_fault (fun vs H Q E h => ?_) (fun cdv A outer s H vs Q E hr h => ?_)
  · obtain ⟨x, d, rfl, _⟩ := h
    rfl
  · obtain ⟨x, d, rfl, hd, q⟩ := h
    have q' : ∀ z H' e, Same H H' → firstF d = e → Dp K H' z e → Q z H' := fun z H' e s ee hz => q z H' s (ee ▸ hz)
    refine ⟨_,
(pss_cons (ps_if (PW.pt (pw_or (pt_not (pt_val (pe_callB call_isi (by rfl) T.z_isinstance (by decide +kernel) (pa_cons (pv 0) (pa_cons (pe_bltn (v := .ty "tuple") (by rfl) T.z_tuple (by decide +kernel) rfl) pa_nil))))) (pw_or1 (pt_cmpR op_ne (pe_callB call_len_seq (by rfl) T.z_len (by decide +kernel) (pa_cons (pv 0) pa_nil)) pe_int (nomark _))))) (pss_one (ps_ret (pe_tup (pa_cons pe_str (pa_cons pe_non pa_nil))))) pss_nil)
      (pss_cons (ps_asg (pv 0) (pg_tup (by rfl) (pgs_cons (pg_name (i := 1) sc_first_fault.nd rfl (Or.inl rfl)) (pgs_cons (pg_name (i := 2) sc_first_fault.nd rfl (Or.inl rfl)) (pgs_cons (pg_name (i := 3) sc_first_fault.nd rfl (Or.inl rfl)) (pgs_cons (pg_name (i := 4) sc_first_fault.nd rfl (Or.inl rfl)) (pgs_cons (pg_name (i := 5) sc_first_fault.nd rfl (Or.inl rfl)) pgs_nil)))))))
      (pss_cons (ps_if (pt_not (pt_val (pe_call (ok_is_between T) (hr.mono (by decide)) (by rfl) T.g_is_between T.F_is_between.kp T.b_is_between .nil pass0 (pa_cons (pv 1) (pa_cons (pe_un un_neg pe_int) (pa_cons pe_int pa_nil)))))) (pss_one (ps_ret (pe_tup (pa_cons pe_str (pa_cons pe_non pa_nil))))) pss_nil)
      (pss_cons (ps_if (pt_not (pt_val (pe_call (ok_is_between T) (hr.mono (by decide)) (by rfl) T.g_is_between T.F_is_between.kp T.b_is_between .nil pass0 (pa_cons (pv 2) (pa_cons pe_int (pa_cons pe_int pa_nil)))))) (pss_one (ps_ret (pe_tup (pa_cons pe_str (pa_cons pe_non pa_nil))))) pss_nil)
      (pss_cons (ps_set (i := 6) sc_first_fault.nd rfl (Or.inl rfl) (pe_call (ok_fault_of_steps T) (hr.mono (by decide)) (by rfl) T.g__fault_of_steps T.F__fault_of_steps.kp T.b__fault_of_steps .nil pass0 (pa_cons (pv 3) pa_nil)))
      (pss_cons (ps_if (pt_cmpR op_isN (pv 6) pe_non (nomark _)) (pss_one (ps_set (i := 6) sc_first_fault.nd rfl (Or.inl rfl) (pe_call (ok_fault_of_moves T) (hr.mono (by decide)) (by rfl) T.g__fault_of_moves T.F__fault_of_moves.kp T.b__fault_of_moves .nil pass0 (pa_cons (pv 4) pa_nil)))) pss_nil)
      (pss_cons (ps_if (PW.pt (pw_and (pt_cmpR op_isN (pv 6) pe_non (nomark _)) (pw_and1 (pt_not (pt_val (pe_call (ok_is_fade T) (hr.mono (by decide)) (by rfl) T.g__is_fade T.F__is_fade.kp T.b__is_fade .nil pass0 (pa_cons (pv 5) pa_nil))))))) (pss_one (ps_set (i := 6) sc_first_fault.nd rfl (Or.inl rfl) (pe_tup (pa_cons pe_str (pa_cons pe_non pa_nil))))) pss_nil)
      (pss_one (ps_ret (pv 6))))))))))
, ?_⟩
    refine ⟨x, rfl, x, .ty "tuple", _, _, _, rfl, .ty _, tyx hd, kitT d, _, rfl, ?_⟩
    -- no tuple of five things
    have bad : (∀ a b c e f, d ≠ .tuple [a, b, c, e, f]) → ∀ H1, Same H H1 → ([V.str "form", V.non].length ≤ sizeLine ∧ ∀ p, H1 p = none → Q (.ref p) (upd H1 p (.tup [V.str "form", V.non]))) := fun nd H1 s1 => by
      refine ⟨by decide, fun p hp => q' _ _ _ (s1.trans (same_new hp)) ?_ (.tup upd_tup (.cons (.str _) (.cons .non .nil)))⟩
      unfold firstF
      split
      · exact absurd rfl (nd _ _ _ _ _)
      · rfl
    cases hT : isT d with
    | false =>
      refine iteT ?_
      exact bad (fun a b c e f z => by rw [z] at hT; cases hT) H (Same.refl H)
    | true =>
      refine iteF ?_
      obtain ⟨ds, rfl⟩ : ∃ ds, d = .tuple ds := by
        cases d with
        | tuple ds => exact ⟨ds, rfl⟩
        | _ => cases hT
      obtain ⟨a, xs, rfl, ha, hds⟩ := dp_tup hd
      refine ⟨_, rfl, a, xs, rfl, .inr ha, rfl, _, rfl, ?_⟩
      have hl := dpAll_len hds
      by_cases h5 : ds.length = 5
      · have e5 : decide (V.int (xs.length : Int) = V.int 5) = true := by rw [hl, h5]; rfl
        rw [e5]
        refine iteF ?_
        obtain ⟨low, high, steps, moves, fade, rfl⟩ := len5 h5
        obtain ⟨x1, x2, x3, x4, x5, rfl, d1, d2, d3, d4, d5⟩ := dpAll5 hds
        have hF : firstF (.tuple [low, high, steps, moves, fade]) = codF low high steps moves fade := rfl
        rw [hF] at q'
        refine ⟨_, rfl, a, _, rfl, ha, rfl, _, _, rfl, _, _, rfl, _, _, rfl, _, _, rfl, _, _, rfl, rfl, ?_⟩
        refine ⟨_, rfl, 32768, rfl, x1, low, -32768, 0, rfl, d1, fun H1 s1 => ⟨_, rfl, ?_⟩⟩
        cases b1 : btw low (-32768) 0 with
        | false =>
          refine iteT ?_
          refine ⟨by decide, fun p hp => q' _ _ _ (s1.trans (same_new hp)) ?_ (.tup upd_tup (.cons (.str "low") (.cons .non .nil)))⟩
          unfold codF
          rw [b1]
          rfl
        | true =>
        refine iteF ?_
        refine ⟨_, rfl, x2, high, 0, 32767, rfl, dp_same s1 _ _ d2, fun H2 s2 => ⟨_, rfl, ?_⟩⟩
        have s12 := s1.trans s2
        cases b2 : btw high 0 32767 with
        | false =>
          refine iteT ?_
          refine ⟨by decide, fun p hp => q' _ _ _ (s12.trans (same_new hp)) ?_ (.tup upd_tup (.cons (.str "high") (.cons .non .nil)))⟩
          unfold codF
          rw [b1, b2]
          rfl
        | true =>
        refine iteF ?_
        refine ⟨_, rfl, x3, steps, rfl, dp_same s12 _ _ d3, fun z1 H3 s3 hz1 => ?_⟩
        have s13 := s12.trans s3
        dsimp only
        refine st_tail (fun σ H' => ∃ (z : V) (e : PyData), σ = [some (.ref a), some x1, some x2, some x3, some x4, some x5, some z] ∧ Same H H' ∧ Dp K H' z e ∧
          codF low high steps moves fade = (if isN e = true then (if fadeD fade = true then .none else .tuple [.str "fade", .none]) else e)) ?_ fun tail => ?_
        · rintro σ H4 ⟨z, e, rfl, s4, hz, he⟩
          refine ⟨_, rfl, rfl, _, rfl, ?_⟩
          show if decide (z = V.non) = true then _ else _
          rw [dp_isN hz]
          cases hn : isN e with
          | false =>
            refine iteF ?_
            refine iteF ?_
            refine ⟨_, rfl, q' _ _ _ s4 ?_ hz⟩
            rw [he, hn]
            rfl
          | true =>
            refine iteT ?_
            refine ⟨_, rfl, x5, fade, rfl, dp_same s4 _ _ d5, fun H5 s5 => ⟨_, rfl, ?_⟩⟩
            cases hf : fadeD fade with
            | true =>
              refine iteF ?_
              have en : e = .none := by
                cases e with
                | none => rfl
                | _ => cases hn
              refine ⟨_, rfl, q' _ _ _ (s4.trans s5) ?_ (dp_same s5 _ _ hz)⟩
              rw [he, hn, hf, en]
              rfl
            | false =>
              refine iteT ?_
              refine ⟨by decide, fun p hp => ⟨_, rfl, q' _ _ _ ((s4.trans s5).trans (same_new hp)) ?_ (.tup upd_tup (.cons (.str "fade") (.cons .non .nil)))⟩⟩
              rw [he, hn, hf]
              rfl
        refine ⟨_, rfl, rfl, _, rfl, ?_⟩
        show if decide (z1 = V.non) = true then _ else _
        rw [dp_isN hz1]
        have hC : codF low high steps moves fade = (match stepsF steps with
          | .none => (match movesF moves with
            | .none => if fadeD fade = true then .none else .tuple [.str "fade", .none]
            | e => e)
          | e => e) := by
          unfold codF
          rw [b1, b2]
          rfl
        cases hn : isN (stepsF steps) with
        | false =>
          refine iteF ?_
          refine tail _ _ ⟨z1, stepsF steps, rfl, s13, hz1, ?_⟩
          rw [hC, hn]
          cases e : stepsF steps with
          | none => rw [e] at hn; cases hn
          | _ => rfl
        | true =>
          refine iteT ?_
          refine ⟨_, rfl, x4, moves, rfl, dp_same s13 _ _ d4, fun z2 H4 s4 hz2 => ?_⟩
          refine tail _ _ ⟨z2, movesF moves, rfl, s13.trans s4, hz2, ?_⟩
          rw [hC]
          have en : stepsF steps = .none := by
            cases e : stepsF steps with
            | none => rfl
            | _ => rw [e] at hn; cases hn
          rw [en]
          cases movesF moves <;> rfl
      · have e5 : decide (V.int (xs.length : Int) = V.int 5) = false := by
          rw [hl]
          refine decide_eq_false fun z => h5 ?_
          have := V.int.inj z
          omega
        rw [e5]
        refine iteT ?_
        exact bad (fun a b c e f z => by cases z; exact h5 rfl) H (Same.refl H)
end
end My

namespace My
open PySem PySem.Spec PyProof.Rows L2
/-! ### coders, states, the move of a code: the mathematics -/
structure Cod where
  low : Int
  high : Int
  steps : List Int
  moves : List (Int × Int)
  fade : Int
def pairI (p : Int × Int) : PyData := .tuple [.int p.1, .int p.2]
def Cod.dat (C : Cod) : PyData := .tuple [.int C.low, .int C.high, .tuple (C.steps.map .int), .tuple (C.moves.map pairI), .int C.fade]
structure Cod.Ok (C : Cod) : Prop where
  l1 : -32768 ≤ C.low
  l2 : C.low ≤ 0
  h1 : 0 ≤ C.high
  h2 : C.high ≤ 32767
  s1 : 1 ≤ C.steps.length
  s2 : C.steps.length ≤ 16
  s3 : ∀ s ∈ C.steps, 1 ≤ s ∧ s ≤ 9999
  m1 : 2 ≤ C.moves.length
  m2 : C.moves.length ≤ 16
  m3 : ∀ p ∈ C.moves, (-32 ≤ p.1 ∧ p.1 ≤ 32) ∧ (-15 ≤ p.2 ∧ p.2 ≤ 15)
  f1 : C.fade = 0 ∨ (2 ≤ C.fade ∧ C.fade ≤ 99)
def rnd (n d : Int) : Int := if n < 0 then -((-n).fdiv d) else n.fdiv d
def lim (n lo hi : Int) : Int := if n < lo then lo else if hi < n then hi else n
def fdd (l f : Int) : Int := if f = 0 then l else l - rnd l f
def Cod.chg (C : Cod) (k p : Nat) : Int := rnd ((C.moves.getD k (0, 0)).1 * C.steps.getD p 0) 8
def Cod.led (C : Cod) (s : Int × Int) (k : Nat) : Int × Int :=
  (lim (fdd s.1 C.fade + C.chg k s.2.toNat) C.low C.high, lim (s.2 + (C.moves.getD k (0, 0)).2) 0 ((C.steps.length : Int) - 1))
def Cod.St (C : Cod) (s : Int × Int) : Prop := C.low ≤ s.1 ∧ s.1 ≤ C.high ∧ 0 ≤ s.2 ∧ s.2 < C.steps.length
theorem lim_in {n lo hi : Int} (h : lo ≤ hi) : lo ≤ lim n lo hi ∧ lim n lo hi ≤ hi := by
  unfold lim
  split
  · omega
  · split <;> omega
theorem Cod.led_St {C : Cod} (O : C.Ok) (s : Int × Int) (k : Nat) : C.St (C.led s k) := by
  have h1 := lim_in (n := fdd s.1 C.fade + C.chg k s.2.toNat) (lo := C.low) (hi := C.high) (by have := O.l2; have := O.h1; omega)
  have h2 := lim_in (n := s.2 + (C.moves.getD k (0, 0)).2) (lo := 0) (hi := (C.steps.length : Int) - 1) (by have := O.s1; omega)
  exact ⟨h1.1, h1.2, h2.1, by show lim _ _ _ < _; omega⟩
theorem badAt_none {p : PyData → Bool} : ∀ {ds : List PyData} {i : Nat}, (∀ d ∈ ds, p d = true) → badAt p i ds = none
  | [], _, _ => rfl
  | d :: r, i, h => by
    show (if p d = true then badAt p (i + 1) r else some i) = none
    rw [if_pos (h d List.mem_cons_self)]
    exact badAt_none fun e he => h e (List.mem_cons_of_mem _ he)
theorem btw_in {n lo hi : Int} (h1 : lo ≤ n) (h2 : n ≤ hi) : btw (.int n) lo hi = true := by
  show (decide _ && decide _) = true
  rw [decide_eq_true h1, decide_eq_true h2]
  rfl
theorem tup_in {ds : List PyData} {lo hi : Int} (h1 : lo ≤ (ds.length : Int)) (h2 : (ds.length : Int) ≤ hi) : tupD (.tuple ds) lo hi = true := by
  show (decide _ && decide _) = true
  rw [decide_eq_true h1, decide_eq_true h2]
  rfl
theorem Cod.Ok.first {C : Cod} (O : C.Ok) : firstF C.dat = .none := by
  have e1 : stepsF (.tuple (C.steps.map .int)) = .none := by
    show (if _ then _ else _) = _
    rw [if_pos (tup_in (by rw [List.length_map]; have := O.s1; omega) (by rw [List.length_map]; have := O.s2; omega)), badAt_none]
    · rfl
    · intro d hd
      obtain ⟨s, hs, rfl⟩ := List.mem_map.mp hd
      exact btw_in (O.s3 s hs).1 (O.s3 s hs).2
  have e2 : movesF (.tuple (C.moves.map pairI)) = .none := by
    show (if _ then _ else _) = _
    rw [if_pos (tup_in (by rw [List.length_map]; have := O.m1; omega) (by rw [List.length_map]; have := O.m2; omega)), badAt_none]
    · rfl
    · intro d hd
      obtain ⟨p, hp, rfl⟩ := List.mem_map.mp hd
      obtain ⟨⟨a1, a2⟩, b1, b2⟩ := O.m3 p hp
      show (btw (.int p.1) (-32) 32 && btw (.int p.2) (-15) 15) = true
      rw [btw_in a1 a2, btw_in b1 b2]
      rfl
  have e3 : fadeD (.int C.fade) = true := by
    unfold fadeD
    rcases O.f1 with h | ⟨h1, h2⟩
    · rw [btw_in (by omega) (by omega)]
      rfl
    · rw [btw_in h1 h2, Bool.or_true]
  show codF (.int C.low) (.int C.high) (.tuple (C.steps.map .int)) (.tuple (C.moves.map pairI)) (.int C.fade) = .none
  unfold codF
  rw [if_pos (btw_in O.l1 O.l2), if_pos (btw_in O.h1 O.h2), e1, e2, if_pos e3]
theorem dpAll_ints {K : PySem.W.Frag} {H : Hp} : ∀ {ns : List Int} {xs : List V}, DpAll K H xs (ns.map .int) → xs = ns.map V.int
  | [], _, h => by cases h; rfl
  | n :: r, _, h => by
    cases h with
    | cons a b =>
      cases a
      rw [dpAll_ints b]
      rfl
theorem dp_int {K : PySem.W.Frag} {H : Hp} {v : V} {n : Int} (h : Dp K H v (.int n)) : v = .int n := by
  cases h
  rfl
theorem dpAll2 {K : PySem.W.Frag} {H : Hp} {xs : List V} {a b : PyData} (h : DpAll K H xs [a, b]) : ∃ x1 x2, xs = [x1, x2] ∧ Dp K H x1 a ∧ Dp K H x2 b := by
  cases h with
  | cons h1 h => cases h with
    | cons h2 h => cases h with
      | nil => exact ⟨_, _, rfl, h1, h2⟩
theorem dp_pair {K : PySem.W.Frag} {H : Hp} {v : V} {p : Int × Int} (h : Dp K H v (pairI p)) : ∃ a, v = .ref a ∧ SqT K H a [.int p.1, .int p.2] := by
  obtain ⟨a, xs, rfl, ha, hd⟩ := dp_tup h
  obtain ⟨x1, x2, rfl, h1, h2⟩ := dpAll2 hd
  rw [dp_int h1, dp_int h2] at ha
  exact ⟨a, rfl, ha⟩
/-- a coder's parts -/
theorem cod_at {K : PySem.W.Frag} {H : Hp} {c : V} {C : Cod} (h : Dp K H c C.dat) : ∃ (a s m : Addr) (ms : List V), c = .ref a ∧ SqT K H a [.int C.low, .int C.high, .ref s, .ref m, .int C.fade] ∧
    SqT K H s (C.steps.map V.int) ∧ SqT K H m ms ∧ DpAll K H ms (C.moves.map pairI) := by
  obtain ⟨a, xs, rfl, ha, hd⟩ := dp_tup h
  obtain ⟨x1, x2, x3, x4, x5, rfl, h1, h2, h3, h4, h5⟩ := dpAll5 hd
  obtain ⟨s, ys, rfl, hs, hsd⟩ := dp_tup h3
  obtain ⟨m, ms, rfl, hm, hmd⟩ := dp_tup h4
  rw [dp_int h1, dp_int h2, dp_int h5] at ha
  rw [dpAll_ints hsd] at hs
  exact ⟨a, s, m, ms, rfl, ha, hs, hm, hmd⟩
theorem move_at {K : PySem.W.Frag} {H : Hp} {C : Cod} {ms : List V} (h : DpAll K H ms (C.moves.map pairI)) {k : Nat} (hk : k < C.moves.length) :
    ∃ q, ms[k]? = some (.ref q) ∧ SqT K H q [.int (C.moves.getD k (0, 0)).1, .int (C.moves.getD k (0, 0)).2] := by
  have e : (C.moves.map pairI)[k]? = some (pairI (C.moves.getD k (0, 0))) := by
    rw [List.getElem?_map, List.getElem?_eq_getElem hk, List.getD_eq_getElem?_getD, List.getElem?_eq_getElem hk]
    rfl
  obtain ⟨x, hx, hd⟩ := dpAll_get' h e
  obtain ⟨q, rfl, hq⟩ := dp_pair hd
  exact ⟨q, hx, hq⟩
theorem step_at {C : Cod} {p : Nat} (hp : p < C.steps.length) : (C.steps.map V.int)[p]? = some (.int (C.steps.getD p 0)) := by
  rw [List.getElem?_map, List.getElem?_eq_getElem hp, List.getD_eq_getElem?_getD, List.getElem?_eq_getElem hp]
  rfl
section
variable {P : Program} {w : World} {K : PySem.W.Frag} {mg : Str → Option Value} {base : Heap}
def sp_need_coder (K : PySem.W.Frag) : Sp := fun vs H Q _ => ∃ (x : V) (d : PyData), vs = [x] ∧ Dp K H x d ∧ firstF d = .none ∧ ∀ H', Same H H' → Q x H'
theorem ok_need_coder (T : Txt K mg) : FnOk P w K mg base CX0 6 T.f_need_coder T.d_need_coder ["thing"] (sp_need_coder K) := by
  refine T.F_need_coder.ok sc_need_coder (fun vs H Q E h => ?_) (fun cdv A outer s H vs Q E hr h => ?_)
  · obtain ⟨x, d, rfl, _⟩ := h
    rfl
  · obtain ⟨x, d, rfl, hd, h0, q⟩ := h
    refine ⟨_,
(pss_cons (ps_set (i := 1) sc_need_coder.nd rfl (Or.inl rfl) (pe_call (ok_first_fault T) (hr.mono (by decide)) (by rfl) T.g__first_fault T.F__first_fault.kp T.b__first_fault .nil pass0 (pa_cons (pv 0) pa_nil)))
      (pss_cons (ps_if (pt_cmpR op_notN (pv 1) pe_non (nomark _)) (pss_one ps_never) pss_nil)
      (pss_one (ps_ret (pv 0)))))
, ?_⟩
    refine ⟨x, rfl, x, d, rfl, hd, fun z H1 s1 hz => ?_⟩
    rw [h0] at hz
    cases hz
    refine ⟨_, rfl, rfl, _, rfl, ?_⟩
    refine iteF ?_
    exact ⟨x, rfl, q H1 s1⟩
def sp_is_code (K : PySem.W.Frag) : Sp := fun vs H Q _ => ∃ (c x : V) (C : Cod) (d : PyData), vs = [c, x] ∧ Dp K H c C.dat ∧ Dp K H x d ∧ ∀ H', Same H H' → Q (.bl (btw d 0 ((C.moves.length : Int) - 1))) H'
theorem ok_is_code (T : Txt K mg) : FnOk P w K mg base CX0 3 T.f_is_code T.d_is_code ["coder", "thing"] (sp_is_code K) := by
  refine T.F_is_code.ok sc_is_code (fun vs H Q E h => ?_) (fun cdv A outer s H vs Q E hr h => ?_)
  · obtain ⟨c, x, C, d, rfl, _⟩ := h
    rfl
  · obtain ⟨c, x, C, d, rfl, hc, hd, q⟩ := h
    obtain ⟨a, s, m, ms, rfl, ha, hs, hm, hmd⟩ := cod_at hc
    refine ⟨_,
(pss_one (ps_ret (pe_call (ok_is_between T) (hr.mono (by decide)) (by rfl) T.g_is_between T.F_is_between.kp T.b_is_between .nil pass0 (pa_cons (pv 1) (pa_cons pe_int (pa_cons (pe_op op_sub (pe_callB call_len_seq (by rfl) T.z_len (by decide +kernel) (pa_cons (pe_ix ix_tup (pv 0) pe_int (fun _ _ => rfl)) pa_nil)) pe_int) pa_nil))))))
, ?_⟩
    refine ⟨x, rfl, _, rfl, a, _, 3, .ref m, rfl, rfl, ha, atI_nat (j := 3) rfl, m, ms, rfl, .inr hm, _, _, rfl, rfl, ?_⟩
    have e : (ms.length : Int) - 1 = (C.moves.length : Int) - 1 := by rw [dpAll_len hmd, List.length_map]
    refine ⟨x, d, 0, _, rfl, hd, fun H1 s1 => ?_⟩
    show Q (.bl (btw d 0 ((ms.length : Int) - 1))) H1
    rw [e]
    exact q H1 s1
def sp_is_place (K : PySem.W.Frag) : Sp := fun vs H Q _ => ∃ (c x : V) (C : Cod) (d : PyData), vs = [c, x] ∧ Dp K H c C.dat ∧ Dp K H x d ∧ ∀ H', Same H H' → Q (.bl (btw d 0 ((C.steps.length : Int) - 1))) H'
theorem ok_is_place (T : Txt K mg) : FnOk P w K mg base CX0 3 T.f_is_place T.d_is_place ["coder", "thing"] (sp_is_place K) := by
  refine T.F_is_place.ok sc_is_place (fun vs H Q E h => ?_) (fun cdv A outer s H vs Q E hr h => ?_)
  · obtain ⟨c, x, C, d, rfl, _⟩ := h
    rfl
  · obtain ⟨c, x, C, d, rfl, hc, hd, q⟩ := h
    obtain ⟨a, s, m, ms, rfl, ha, hs, hm, hmd⟩ := cod_at hc
    refine ⟨_,
(pss_one (ps_ret (pe_call (ok_is_between T) (hr.mono (by decide)) (by rfl) T.g_is_between T.F_is_between.kp T.b_is_between .nil pass0 (pa_cons (pv 1) (pa_cons pe_int (pa_cons (pe_op op_sub (pe_callB call_len_seq (by rfl) T.z_len (by decide +kernel) (pa_cons (pe_ix ix_tup (pv 0) pe_int (fun _ _ => rfl)) pa_nil)) pe_int) pa_nil))))))
, ?_⟩
    refine ⟨x, rfl, _, rfl, a, _, 2, .ref s, rfl, rfl, ha, atI_nat (j := 2) rfl, s, _, rfl, .inr hs, _, _, rfl, rfl, ?_⟩
    refine ⟨x, d, 0, _, rfl, hd, fun H1 s1 => ?_⟩
    show Q (.bl (btw d 0 (((C.steps.map V.int).length : Int) - 1))) H1
    rw [List.length_map]
    exact q H1 s1
def stateD (C : Cod) : PyData → Bool
  | .tuple [a, b] => btw a C.low C.high && btw b 0 ((C.steps.length : Int) - 1)
  | _ => false
theorem pairD_two {d : PyData} (h : pairD d = true) : ∃ a b, d = .tuple [a, b] := by
  cases d with
  | tuple ds =>
    match ds, h with
    | [a, b], _ => exact ⟨a, b, rfl⟩
    | [], hp => cases hp
    | [a], hp => cases hp
    | a :: b :: c :: r, hp =>
      have := of_decide_eq_true (show decide (((a :: b :: c :: r).length : Int) = 2) = true from hp)
      simp at this
      omega
  | _ => cases h
end
end My

namespace My
open PySem PySem.Spec PyProof.Rows L2
theorem lim_of {n lo hi : Int} (h : lo ≤ hi) : (if (if hi < n then hi else n) > lo then (if hi < n then hi else n) else lo) = lim n lo hi := by
  unfold lim
  split <;> split <;> split <;> omega
section
variable {P : Program} {w : World} {K : PySem.W.Frag} {mg : Str → Option Value} {base : Heap}
theorem okD0 {x qual : Str} {params : Arguments} {body : List Stmt} {scope : Scope} {dvs : List V} {f : Addr} {fd : FuncData} {N ps : List Str} {k : Nat} {sp : Sp}
    (F : ∃ q : Addr, FunD K x qual params body scope dvs [("state", V.ref q)] f fd) (S : FnScope N ps scope) (len : ∀ vs H Q E, sp vs H Q E → vs.length = ps.length)
    (hbody : ∀ (cdv : Value) (A : Around) (outer : List Env) (s : Shared) (H : Hp) (vs : List V) (Q : VK) (E : XK), Room k (A.deeper (envOfC qual scope s.heap.objs.size f cdv)) → sp vs H Q E →
      ∃ t, PSs (cxOf CX0 P w K mg base N qual scope f cdv A outer s H E).nox body t ∧ t { nx := fun _ H' => Q .non H', rt := Q } (start N vs) H) : FnOk P w K mg base CX0 (k + 1) f fd ps sp := by
  obtain ⟨q, F⟩ := F
  refine F.ok S len fun cdv A outer s H vs Q E hr h => ?_
  obtain ⟨t, ht, hq⟩ := hbody cdv A outer s H vs Q E hr h
  exact ⟨t, ht.nox, hq⟩
def sp_rounded : Sp := fun vs H Q _ => ∃ (n d : Int), vs = [.int n, .int d] ∧ 0 < d ∧ d < 1000 ∧ Q (.int (rnd n d)) H
theorem ok_rounded (T : Txt K mg) : FnOk P w K mg base CX0 2 T.f_rounded T.d_rounded ["number", "divisor"] sp_rounded := by
  refine T.F_rounded.ok sc_rounded (fun vs H Q E h => ?_) (fun cdv A outer s H vs Q E hr h => ?_)
  · obtain ⟨n, d, rfl, _⟩ := h
    rfl
  · obtain ⟨n, d, rfl, h1, h2, q⟩ := h
    have q' : ∀ z, rnd n d = z → Q (.int z) H := fun z e => e ▸ q
    refine ⟨_,
(pss_cons (ps_if (pt_cmpR op_lt (pv 0) pe_int (nomark _)) (pss_one (ps_ret (pe_un un_neg (pe_op op_fdivN (pe_un un_neg (pv 0)) (pv 1))))) pss_nil)
      (pss_one (ps_ret (pe_op op_fdivN (pv 0) (pv 1)))))
, ?_⟩
    refine ⟨_, rfl, n, 0, rfl, rfl, _, rfl, ?_⟩
    refine ite2 (fun e => ?_) (fun e => ?_)
    · have e := of_decide_eq_true e
      refine ⟨_, rfl, n, rfl, _, rfl, -n, d, rfl, rfl, ⟨by omega, by omega⟩, _, rfl, q' _ ?_⟩
      unfold rnd
      rw [if_pos e]
    · have e : ¬ n < 0 := fun z => e (decide_eq_true z)
      refine ⟨_, rfl, _, rfl, n, d, rfl, rfl, ⟨by omega, by omega⟩, q' _ ?_⟩
      unfold rnd
      rw [if_neg e]
def sp_limited : Sp := fun vs H Q _ => ∃ (n lo hi : Int), vs = [.int n, .int lo, .int hi] ∧ lo ≤ hi ∧ Q (.int (lim n lo hi)) H
theorem ok_limited (T : Txt K mg) : FnOk P w K mg base CX0 2 T.f_limited T.d_limited ["number", "least", "most"] sp_limited := by
  refine T.F_limited.ok sc_limited (fun vs H Q E h => ?_) (fun cdv A outer s H vs Q E hr h => ?_)
  · obtain ⟨n, lo, hi, rfl, _⟩ := h
    rfl
  · obtain ⟨n, lo, hi, rfl, h1, q⟩ := h
    refine ⟨_,
(pss_one (ps_ret (pe_callB (call_max2 rfl) (by rfl) T.z_max (by decide +kernel) (pa_cons (pv 1) (pa_cons (pe_callB (call_min2 rfl) (by rfl) T.z_min (by decide +kernel) (pa_cons (pv 0) (pa_cons (pv 2) pa_nil))) pa_nil)))))
, ?_⟩
    refine ⟨_, rfl, _, rfl, _, rfl, n, hi, rfl, lo, _, rfl, ?_⟩
    have e := lim_of (n := n) h1
    show Q (.int (if (if hi < n then hi else n) > lo then (if hi < n then hi else n) else lo)) H
    rw [e]
    exact q
def sp_change_at (K : PySem.W.Frag) : Sp := fun vs H Q _ => ∃ (c : V) (C : Cod) (k p : Nat), vs = [c, .int k, .int p] ∧ C.Ok ∧ Dp K H c C.dat ∧ k < C.moves.length ∧ p < C.steps.length ∧ Q (.int (C.chg k p)) H
theorem ok_change_at (T : Txt K mg) : FnOk P w K mg base CX0 3 T.f_change_at T.d_change_at ["coder", "code", "place"] (sp_change_at K) := by
  refine T.F_change_at.ok sc_change_at (fun vs H Q E h => ?_) (fun cdv A outer s H vs Q E hr h => ?_)
  · obtain ⟨c, C, k, p, rfl, _⟩ := h
    rfl
  · obtain ⟨c, C, k, p, rfl, O, hc, hk, hp, q⟩ := h
    obtain ⟨a, s, m, ms, rfl, ha, hs, hm, hmd⟩ := cod_at hc
    obtain ⟨t, ht, hT⟩ := move_at hmd hk
    refine ⟨_,
(pss_cons (ps_set (i := 3) sc_change_at.nd rfl (Or.inl rfl) (pe_ix ix_tup (pe_ix ix_tup (pe_ix ix_tup (pv 0) pe_int (fun _ _ => rfl)) (pv 1) (fun _ _ => rfl)) pe_int (fun _ _ => rfl)))
      (pss_one (ps_ret (pe_call (ok_rounded T) (hr.mono (by decide)) (by rfl) T.g_rounded T.F_rounded.kp T.b_rounded .nil pass0 (pa_cons (pe_op op_mul (pv 3) (pe_ix ix_tup (pe_ix ix_tup (pv 0) pe_int (fun _ _ => rfl)) (pv 2) (fun _ _ => rfl))) (pa_cons pe_int pa_nil))))))
, ?_⟩
    refine ⟨_, rfl, a, _, 3, _, rfl, rfl, ha, atI_nat (j := 3) rfl, _, rfl, m, _, k, _, rfl, rfl, hm, atI_nat ht, t, _, 0, _, rfl, rfl, hT, atI_nat (j := 0) rfl, ?_⟩
    refine ⟨_, rfl, _, rfl, a, _, 2, _, rfl, rfl, ha, atI_nat (j := 2) rfl, _, rfl, s, _, p, _, rfl, rfl, hs, atI_nat (step_at hp), _, _, rfl, rfl, ?_, ?_⟩
    · have hm3 : (C.moves.getD k (0, 0)) ∈ C.moves := by
        rw [List.getD_eq_getElem?_getD, List.getElem?_eq_getElem hk]
        exact List.getElem_mem hk
      have := O.m3 _ hm3
      exact .inl ⟨by omega, by omega⟩
    exact ⟨_, 8, rfl, by decide, by decide, q⟩
def sp_faded : Sp := fun vs H Q _ => ∃ (l f : Int), vs = [.int l, .int f] ∧ (f = 0 ∨ (2 ≤ f ∧ f ≤ 99)) ∧ Q (.int (fdd l f)) H
theorem ok_faded (T : Txt K mg) : FnOk P w K mg base CX0 3 T.f_faded T.d_faded ["level", "fade"] sp_faded := by
  refine T.F_faded.ok sc_faded (fun vs H Q E h => ?_) (fun cdv A outer s H vs Q E hr h => ?_)
  · obtain ⟨l, f, rfl, _⟩ := h
    rfl
  · obtain ⟨l, f, rfl, h1, q⟩ := h
    have q' : ∀ z, fdd l f = z → Q (.int z) H := fun z e => e ▸ q
    refine ⟨_,
(pss_cons (ps_if (pt_cmpR op_eq (pv 1) pe_int (nomark _)) (pss_one (ps_ret (pv 0))) pss_nil)
      (pss_one (ps_ret (pe_op op_sub (pv 0) (pe_call (ok_rounded T) (hr.mono (by decide)) (by rfl) T.g_rounded T.F_rounded.kp T.b_rounded .nil pass0 (pa_cons (pv 0) (pa_cons (pv 1) pa_nil)))))))
, ?_⟩
    refine ⟨_, rfl, rfl, _, rfl, ?_⟩
    refine ite2 (fun e => ?_) (fun e => ?_)
    · have e : f = 0 := V.int.inj (of_decide_eq_true e)
      refine ⟨_, rfl, q' _ ?_⟩
      unfold fdd
      rw [if_pos e]
    · have e : ¬ f = 0 := fun z => e (decide_eq_true (by rw [z]))
      refine ⟨_, rfl, _, rfl, _, rfl, l, f, rfl, by omega, by omega, _, _, rfl, rfl, q' _ ?_⟩
      unfold fdd
      rw [if_neg e]
def sd (s : Int × Int) : PyData := pairI s
/-- a state's pair, as it is read -/
def sp_state_behind (K : PySem.W.Frag) : Sp := fun vs H Q _ => ∃ (c x : V) (C : Cod) (s : Int × Int) (k : Nat), vs = [c, x, .int k] ∧ C.Ok ∧ Dp K H c C.dat ∧ Dp K H x (pairI s) ∧ C.St s ∧ k < C.moves.length ∧
  ∀ p, H p = none → Q (.ref p) (upd H p (.tup [.int (C.led s k).1, .int (C.led s k).2]))
end
end My

namespace My
open PySem PySem.Spec PyProof.Rows L2
def Cod.run (C : Cod) (s : Int × Int) : List Nat → Int × Int
  | [] => s
  | k :: r => Cod.run C (C.led s k) r
def Cod.lev (C : Cod) (s : Int × Int) : List Nat → List Int
  | [] => []
  | k :: r => (C.led s k).1 :: Cod.lev C (C.led s k) r
theorem run_snoc {C : Cod} : ∀ (r : List Nat) (s : Int × Int) (k : Nat), C.run s (r ++ [k]) = C.led (C.run s r) k
  | [], _, _ => rfl
  | j :: r, s, k => run_snoc r (C.led s j) k
theorem run_app {C : Cod} : ∀ (r : List Nat) (s : Int × Int) (q : List Nat), C.run s (r ++ q) = C.run (C.run s r) q
  | [], _, _ => rfl
  | j :: r, s, q => run_app r (C.led s j) q
theorem lev_snoc {C : Cod} : ∀ (r : List Nat) (s : Int × Int) (k : Nat), C.lev s (r ++ [k]) = C.lev s r ++ [(C.led (C.run s r) k).1]
  | [], _, _ => rfl
  | j :: r, s, k => by
    show (C.led s j).1 :: C.lev (C.led s j) (r ++ [k]) = _
    rw [lev_snoc r (C.led s j) k]
    rfl
theorem lev_app {C : Cod} : ∀ (r : List Nat) (s : Int × Int) (q : List Nat), C.lev s (r ++ q) = C.lev s r ++ C.lev (C.run s r) q
  | [], _, _ => rfl
  | j :: r, s, q => by
    show (C.led s j).1 :: C.lev (C.led s j) (r ++ q) = _
    rw [lev_app r (C.led s j) q]
    rfl
theorem lev_len {C : Cod} : ∀ (r : List Nat) (s : Int × Int), (C.lev s r).length = r.length
  | [], _ => rfl
  | j :: r, s => congrArg (· + 1) (lev_len r (C.led s j))
theorem run_St {C : Cod} (O : C.Ok) : ∀ (r : List Nat) {s : Int × Int}, C.St s → C.St (C.run s r)
  | [], _, h => h
  | k :: r, s, _ => run_St O r (C.led_St O s k)
theorem lev_in {C : Cod} (O : C.Ok) : ∀ (r : List Nat) (s : Int × Int), ∀ z ∈ C.lev s r, C.low ≤ z ∧ z ≤ C.high
  | [], _, _, h => by cases h
  | k :: r, s, z, h => by
    rcases List.mem_cons.mp h with e | e
    · rw [e]
      have := C.led_St O s k
      exact ⟨this.1, this.2.1⟩
    · exact lev_in O r _ z e
def rowI (r : List Nat) : PyData := .tuple (r.map fun k : Nat => PyData.int (k : Int))
def rowV (r : List Nat) : List V := r.map fun k : Nat => V.int (k : Int)
structure Cod.Row (C : Cod) (r : List Nat) : Prop where
  len : r.length ≤ 2000
  lt : ∀ k ∈ r, k < C.moves.length
theorem Cod.St.ok {C : Cod} {s : Int × Int} (h : C.St s) : stateD C (pairI s) = true := by
  show (btw (.int s.1) _ _ && btw (.int s.2) _ _) = true
  rw [btw_in h.1 h.2.1, btw_in h.2.2.1 (by have := h.2.2.2; omega)]
  rfl
theorem dpAll_row {K : PySem.W.Frag} {H : Hp} : ∀ {r : List Nat} {xs : List V}, DpAll K H xs (r.map fun k : Nat => PyData.int (k : Int)) → xs = rowV r
  | [], _, h => by cases h; rfl
  | n :: r, _, h => by
    cases h with
    | cons a b =>
      cases a
      rw [dpAll_row b]
      rfl
theorem row_at {K : PySem.W.Frag} {H : Hp} {v : V} {r : List Nat} (h : Dp K H v (rowI r)) : ∃ a, v = .ref a ∧ SqT K H a (rowV r) := by
  obtain ⟨a, xs, rfl, ha, hd⟩ := dp_tup h
  rw [dpAll_row hd] at ha
  exact ⟨a, rfl, ha⟩
theorem rowV_get {r : List Nat} {i : Nat} {x : V} (h : (rowV r)[i]? = some x) : ∃ k, r[i]? = some k ∧ x = .int (k : Int) := by
  unfold rowV at h
  rw [List.getElem?_map] at h
  cases e : r[i]? with
  | none => rw [e] at h; cases h
  | some k => rw [e] at h; exact ⟨k, rfl, (Option.some.inj h).symm⟩
theorem take_snoc {α : Type} {r : List α} {i : Nat} {k : α} (h : r[i]? = some k) : r.take (i + 1) = r.take i ++ [k] := by
  rw [List.take_add_one, h]
  rfl
/-- a tuple stands while a list is changed -/
theorem sqt_set {K : PySem.W.Frag} {H : Hp} {p a : Addr} {ys xs : List V} {o : HO} (hp : H p = some (.lst ys)) (h : SqT K H a xs) : SqT K (upd H p o) a xs := by
  rcases h with (h | ⟨u, h⟩) | h
  · exact .inl (.inl ((upd_ne (ne_of h hp nofun)).trans h))
  · exact .inl (.inr ⟨u, (upd_ne (ne_of h hp nofun)).trans h⟩)
  · exact .inr h
theorem dp_mkpair {K : PySem.W.Frag} {H : Hp} {a : Addr} {s : Int × Int} (h : SqT K H a [.int s.1, .int s.2]) : Dp K H (.ref a) (pairI s) := .tup h (.cons (.int _) (.cons (.int _) .nil))
theorem dp_tints {K : PySem.W.Frag} {H : Hp} {a : Addr} {ns : List Int} (h : SqT K H a (ns.map V.int)) : Dp K H (.ref a) (.tuple (ns.map .int)) := by
  refine .tup h ?_
  clear h
  induction ns with
  | nil => exact .nil
  | cons n r ih => exact .cons (.int n) ih
end My

namespace My
open PySem PySem.Spec PyProof.Rows L2
theorem dg_l {H : Hp} {m c l : Addr} {k : Int} (h : H m = some (.dK (dd c l k))) : DGet H m (.str "left") (some (.ref l)) := by
  have e := DGet.k (k := .inr "left") h
  rw [dd_l] at e
  exact e
theorem dg_c {H : Hp} {m c l : Addr} {k : Int} (h : H m = some (.dK (dd c l k))) : DGet H m (.str "cells") (some (.ref c)) := by
  have e := DGet.k (k := .inr "cells") h
  rw [dd_c] at e
  exact e
theorem dg_a {H : Hp} {m c l : Addr} {k : Int} (h : H m = some (.dK (dd c l k))) : DGet H m (.str "at") (some (.int k)) := by
  have e := DGet.k (k := .inr "at") h
  rw [dd_a] at e
  exact e
theorem dp_l {H : Hp} {m c l p : Addr} {k : Int} (h : H m = some (.dK (dd c l k))) : DPut H m (.str "left") (.ref p) (upd H m (.dK (dd c p k))) := by
  have e := DPut.k (k := .inr "left") (v := .ref p) h (by show 3 < sizeLine; decide)
  rw [dd_pl] at e
  exact e
theorem dp_a {H : Hp} {m c l : Addr} {k z : Int} (h : H m = some (.dK (dd c l k))) : DPut H m (.str "at") (.int z) (upd H m (.dK (dd c l z))) := by
  have e := DPut.k (k := .inr "at") (v := .int z) h (by show 3 < sizeLine; decide)
  rw [dd_pa] at e
  exact e
def pis (ns : List Int) : List PyData := ns.map .int
theorem dp_ints {K : PySem.W.Frag} {H : Hp} : ∀ ns : List Int, DpAll K H (ns.map V.int) (pis ns)
  | [] => .nil
  | n :: r => .cons (.int n) (dp_ints r)
theorem lay_ints : ∀ ns : List Int, PyData.canLayAll0 (pis ns) = true ∧ PyData.depthAll (pis ns) = 0
  | [] => ⟨rfl, rfl⟩
  | n :: r => by
    obtain ⟨h1, h2⟩ := lay_ints r
    exact ⟨by show ((PyData.int n).canLay0 && PyData.canLayAll0 (pis r)) = true; rw [h1]; rfl, by show max 0 (PyData.depthAll (pis r)) = 0; rw [h2]; rfl⟩
theorem shaped_ints (ns : List Int) : SeqAt.shaped (.list (pis ns)) = true := by
  obtain ⟨h1, h2⟩ := lay_ints ns
  show (PyData.canLayAll0 (pis ns) && decide (PyData.depthAll (pis ns) + 1 ≤ 64)) = true
  rw [h1, h2]
  rfl
theorem eqv_nil (ns : List Int) : PyData.eqv (.list (pis ns)) (.list []) = ns.isEmpty := by
  cases ns <;> rfl
section
variable {P : Program} {w : World} {K : PySem.W.Frag} {mg : Str → Option Value} {base : Heap}
theorem ixN_nat {n j : Nat} (h : j < n) : ixN n (j : Int) = some j := by
  unfold ixN
  rw [if_pos (by omega), if_pos (by omega)]
  simp
def sp_law_next : Sp := fun vs H Q _ => ∃ (m c l : Addr) (n : Nat) (many : Int), vs = [.ref m, .int many] ∧ 0 < many ∧ many < 2 ^ 100 ∧ Dr H m c l (n + 1) ∧
  ∀ (r : Int) (l' : Addr) (H' : Hp), 0 ≤ r → r < many → Kp m l H l' H' → Dr H' m c l' n → Q (.int r) H'
theorem ok_law_next (T : Txt K mg) : FnOk P w K mg base CX0 2 T.f__law_next T.d__law_next ["m", "many"] sp_law_next := by
  refine T.F__law_next.ok sc_law_next (fun vs H Q E h => ?_) (fun cdv A outer s H vs Q E hr h => ?_)
  · obtain ⟨m, c, l, n, many, rfl, _⟩ := h
    rfl
  · obtain ⟨m, c, l, n, many, rfl, p1, p2, D, q⟩ := h
    have hu := hu_of hr
    refine ⟨_,
(pss_cons (ps_while PassesOwn.never (PW.pt (pw_and (pt_cmpR (op_neD hr.units) (pe_dget hu (pv 0) pe_str (fun _ _ => rfl)) (pe_lst pa_nil) (nomark _)) (pw_and1 (pt_cmpR op_eq (pe_ix ix_list (pe_dget hu (pv 0) pe_str (fun _ _ => rfl)) pe_int (fun _ _ => rfl)) pe_int (nomark _))))) (pss_one (ps_dput hu (pv 0) pe_str (pe_slice sl_list (pe_dget hu (pv 0) pe_str (fun _ _ => rfl)) (po_some pe_int) po_none) rfl)))
      (pss_cons (ps_if (pt_cmpR (op_neD hr.units) (pe_dget hu (pv 0) pe_str (fun _ _ => rfl)) (pe_lst pa_nil) (nomark _)) (pss_cons (ps_set (i := 2) sc_law_next.nd rfl (Or.inl rfl) (pe_callTy call_int1 (by rfl) T.z_int (by decide +kernel) (pa_cons (pe_ix ix_list (pe_dget hu (pv 0) pe_str (fun _ _ => rfl)) pe_int (fun _ _ => rfl)) pa_nil)))
      (pss_cons (ps_asg (pe_op op_fdivW (pv 2) (pv 1)) (pg_sub (pe_dget hu (pv 0) pe_str (fun _ _ => rfl)) pe_int set_list))
      (pss_one (ps_ret (pe_op op_modN (pv 2) (pv 1)))))) pss_nil)
      (pss_cons (ps_set (i := 3) sc_law_next.nd rfl (Or.inl rfl) (pe_op op_add (pe_dget hu (pv 0) pe_str (fun _ _ => rfl)) pe_int))
      (pss_cons (ps_dput hu (pv 0) pe_str (pv 3) rfl)
      (pss_cons (ps_set (i := 4) sc_law_next.nd rfl (Or.inl rfl) (pe_ifExp (pt_cmpR (op_neD hr.units) (pe_dget hu (pv 0) pe_str (fun _ _ => rfl)) (pe_lst pa_nil) (nomark _)) (pe_ix ix_list (pe_dget hu (pv 0) pe_str (fun _ _ => rfl)) (pe_op op_modN (pe_callTy call_int1 (by rfl) T.z_int (by decide +kernel) (pa_cons (pv 3) pa_nil)) (pe_callB call_len_seq (by rfl) T.z_len (by decide +kernel) (pa_cons (pe_dget hu (pv 0) pe_str (fun _ _ => rfl)) pa_nil))) (fun _ _ => rfl)) pe_int))
      (pss_cons (ps_set (i := 5) sc_law_next.nd rfl (Or.inl rfl) (pe_op op_mul (pe_callTy call_int1 (by rfl) T.z_int (by decide +kernel) (pa_cons (pe_op op_add (pe_op op_add (pe_op op_modN (pe_callTy call_int1 (by rfl) T.z_int (by decide +kernel) (pa_cons (pv 4) pa_nil)) pe_int) (pe_op op_mul pe_int (pv 3))) (pe_op op_mul (pe_op op_mul pe_int (pv 3)) (pv 3))) pa_nil)) pe_int))
      (pss_cons (ps_set (i := 5) sc_law_next.nd rfl (Or.inl rfl) (pe_op op_mul (pe_callTy call_int1 (by rfl) T.z_int (by decide +kernel) (pa_cons (pe_op op_add (pe_op op_modN (pe_callTy call_int1 (by rfl) T.z_int (by decide +kernel) (pa_cons (pv 5) pa_nil)) pe_int) (pe_op op_mul pe_int (pv 3))) pa_nil)) pe_int))
      (pss_one (ps_ret (pe_op op_modN (pe_callTy call_int1 (by rfl) T.z_int (by decide +kernel) (pa_cons (pe_op op_fdivN (pe_op op_modN (pe_callTy call_int1 (by rfl) T.z_int (by decide +kernel) (pa_cons (pv 5) pa_nil)) pe_int) pe_int) pa_nil)) (pv 1)))))))))))
, ?_⟩
    refine st_tail (fun σ H' => ∃ (l' : Addr), σ = [some (.ref m), some (.int many), none, none, none, none] ∧ Kp m l H l' H' ∧ Dr H' m c l' (n + 1)) ?_ fun tail => ?_
    · rintro σ H1 ⟨l1, rfl, kp, D1⟩
      obtain ⟨cs, ls, k, h1, h2, h3, ncl, lc, ll, pos, k0, kn⟩ := D1.ex
      have nml : m ≠ l1 := ne_of h1 h3 nofun
      have nmc : m ≠ c := ne_of h1 h2 nofun
      -- if m['left'] != []
      refine ⟨_, rfl, m, .ref l1, rfl, dg_l h1, Nat.zero_le _, fun p hp => ?_⟩
      have g1 := same_new (o := .lst []) hp _ _ h1
      have g2 := same_new (o := .lst []) hp _ _ h2
      have g3 := same_new (o := .lst []) hp _ _ h3
      refine ⟨.list (pis ls), .list [], .lst (SqL.of g3) (dp_ints ls), .lst (SqL.of upd_same) .nil, shaped_ints ls, by rfl, _, rfl, ?_⟩
      rw [eqv_nil]
      have kp2 : Kp m l H l1 (upd H1 p (.lst [])) := kp.trans (Kp.new hp)
      have D2 : Dr (upd H1 p (.lst [])) m c l1 (n + 1) := D1.new hp
      cases ls with
      | cons x r =>
        refine iteT ?_
        have x0 : 0 ≤ x := pos x List.mem_cons_self
        refine ⟨_, rfl, m, .ref l1, rfl, dg_l g1, l1, _, 0, .int x, rfl, rfl, SqL.of g3, atI_nat (j := 0) rfl, .inl ⟨x, rfl, ?_⟩⟩
        -- m['left'][0] = rest // many
        refine ⟨_, rfl, _, rfl, x, many, rfl, rfl, wide_div (b := 100) p1 (by omega) (by decide) (by decide), _, rfl, m, .ref l1, rfl, dg_l g1, l1, _, 0, 0, rfl, rfl, g3, ixN_nat (j := 0) (by simp), ?_⟩
        refine ⟨_, rfl, _, rfl, x, many, rfl, rfl, by omega, ?_⟩
        show Q (.int (x.fmod many)) (upd (upd H1 p (.lst [])) l1 (.lst (((x / many) :: r).map V.int)))
        rw [Int.fmod_eq_emod_of_nonneg x (by omega)]
        refine q _ l1 _ (Int.emod_nonneg _ (by omega)) (Int.emod_lt_of_pos _ p1) ⟨fun b o hb n1 n2 => ?_, kp2.nw, fun b hb => ?_⟩ ⟨cs, (x / many) :: r, k, ?_, ?_, ?_, ncl, lc, ll, ?_, k0, by omega⟩
        · have e := kp2.st b o hb n1 n2
          rw [upd_ne (kp2.off hb n2)]
          exact e
        · refine kp2.dm b ?_
          unfold upd at hb ⊢
          split at hb
          · cases hb
          · exact hb
        · rw [upd_ne nml]; exact g1
        · rw [upd_ne ncl]; exact g2
        · exact upd_same
        · intro y hy
          rcases List.mem_cons.mp hy with e | e
          · rw [e]; exact Int.ediv_nonneg x0 (by omega)
          · exact pos y (List.mem_cons_of_mem _ e)
      | nil =>
        refine iteF ?_
        refine ⟨_, rfl, m, .int k, rfl, dg_a g1, _, _, rfl, rfl, _, rfl, _, rfl, m, _, rfl, dp_a g1, ?_⟩
        have a1 : (upd (upd H1 p (.lst [])) m (.dK (dd c l1 (k + 1)))) m = some (.dK (dd c l1 (k + 1))) := upd_same
        have a2 := (upd_ne (H := upd H1 p (.lst [])) (o := .dK (dd c l1 (k + 1))) nmc.symm).trans g2
        have a3 := (upd_ne (H := upd H1 p (.lst [])) (o := .dK (dd c l1 (k + 1))) nml.symm).trans g3
        have kp3 : Kp m l H l1 (upd (upd H1 p (.lst [])) m (.dK (dd c l1 (k + 1)))) := ⟨fun b o hb n1 n2 => (upd_ne n1).trans (kp2.st b o hb n1 n2), kp2.nw, fun b hb => kp2.dm b (by
          unfold upd at hb ⊢
          split at hb
          · cases hb
          · exact hb)⟩
        have D3 : Dr (upd (upd H1 p (.lst [])) m (.dK (dd c l1 (k + 1)))) m c l1 n := ⟨cs, [], k + 1, a1, a2, a3, ncl, lc, ll, pos, by omega, by omega⟩
        generalize upd (upd H1 p (.lst [])) m (.dK (dd c l1 (k + 1))) = H3 at a1 a2 a3 kp3 D3
        -- cell
        dsimp only
        refine st_tail (fun σ H' => ∃ (z : Int), σ = [some (.ref m), some (.int many), none, some (.int (k + 1)), some (.int z), none] ∧ Kp m l H l1 H' ∧ Dr H' m c l1 n) ?_ fun tail => ?_
        · rintro σ H4 ⟨z, rfl, kp4, D4⟩
          have kb : k + 1 ≤ 1000000 := by omega
          refine ⟨_, rfl, .inl ⟨z, rfl, _, _, rfl, rfl, (show (2147483629 : Int) ≠ 0 by decide), _, rfl, _, _, rfl, rfl, .inl ⟨by decide, by decide⟩, _, _, rfl, rfl, _, rfl, _, _, rfl, rfl, .inl ⟨by decide, by decide⟩,
            _, rfl, _, _, rfl, rfl, .inl ⟨by show -(2 ^ 64) < 19 * (k + 1); omega, by show 19 * (k + 1) < 2 ^ 64; omega⟩, _, _, rfl, rfl, .inl ⟨_, rfl, _, _, rfl, rfl, .inr ⟨by decide, by decide⟩, ?_⟩⟩⟩
          refine ⟨_, rfl, .inl ⟨_, rfl, _, _, rfl, rfl, (show (2147483647 : Int) ≠ 0 by decide), _, rfl, _, _, rfl, rfl, .inl ⟨by decide, by decide⟩, _, _, rfl, rfl, .inl ⟨_, rfl, _, _, rfl, rfl, .inr ⟨by decide, by decide⟩, ?_⟩⟩⟩
          refine ⟨_, rfl, .inl ⟨_, rfl, _, _, rfl, rfl, (show (2147483587 : Int) ≠ 0 by decide), _, _, rfl, rfl, ⟨by decide, by decide⟩, .inl ⟨_, rfl, _, rfl, _, _, rfl, rfl, by omega, ?_⟩⟩⟩
          refine q _ l1 _ ?_ ?_ kp4 D4
          · rw [Int.fmod_eq_emod_of_nonneg _ (by omega)]
            exact Int.emod_nonneg _ (by omega)
          · rw [Int.fmod_eq_emod_of_nonneg _ (by omega)]
            exact Int.emod_lt_of_pos _ p1
        refine ⟨_, rfl, m, .ref c, rfl, dg_c a1, Nat.zero_le _, fun p' hp' => ?_⟩
        have b1 := same_new (o := .lst []) hp' _ _ a1
        have b2 := same_new (o := .lst []) hp' _ _ a2
        refine ⟨.list (pis cs), .list [], .lst (SqL.of b2) (dp_ints cs), .lst (SqL.of upd_same) .nil, shaped_ints cs, by rfl, _, rfl, ?_⟩
        rw [eqv_nil]
        have kp4 : Kp m l H l1 (upd H3 p' (.lst [])) := kp3.trans (Kp.new hp')
        have D4 : Dr (upd H3 p' (.lst [])) m c l1 n := D3.new hp'
        cases cs with
        | nil =>
          refine iteF ?_
          exact tail _ _ ⟨3, rfl, kp4, D4⟩
        | cons y r =>
          refine iteT ?_
          obtain ⟨j, z, hj⟩ : ∃ (j : Nat) (z : Int), (k + 1).fmod (((y :: r).map V.int).length : Int) = (j : Int) ∧ ((y :: r).map V.int)[j]? = some (.int z) := by
            have hl : (0 : Int) < (((y :: r).map V.int).length : Int) := by
              show (0 : Int) < (((r.map V.int).length + 1 : Nat) : Int)
              omega
            rw [Int.fmod_eq_emod_of_nonneg _ (by omega)]
            have e1 := Int.emod_nonneg (k + 1) (b := (((y :: r).map V.int).length : Int)) (by omega)
            have e2 := Int.emod_lt_of_pos (k + 1) hl
            have hj : ((k + 1) % (((y :: r).map V.int).length : Int)).toNat < (y :: r).length := by
              have : ((y :: r).map V.int).length = (y :: r).length := List.length_map ..
              omega
            refine ⟨((k + 1) % (((y :: r).map V.int).length : Int)).toNat, (y :: r)[((k + 1) % (((y :: r).map V.int).length : Int)).toNat], by omega, ?_⟩
            rw [List.getElem?_map, List.getElem?_eq_getElem hj]
            rfl
          refine ⟨_, rfl, m, .ref c, rfl, dg_c b1, _, rfl, .inl ⟨_, rfl, _, rfl, m, .ref c, rfl, dg_c b1, c, _, rfl, .inl (SqL.of b2), _, _, rfl, rfl, by show (((y :: r).map V.int).length : Int) ≠ 0; simp; omega, c, _, _, .int z, rfl, rfl, SqL.of b2, ?_, ?_⟩⟩
          · show atI _ ((k + 1).fmod (((y :: r).map V.int).length : Int)) = some _
            rw [hj.1]
            exact atI_nat hj.2
          exact tail _ _ ⟨z, rfl, kp4, D4⟩
    -- the loop
    refine ⟨fun cnt σ H' => ∃ (l' : Addr) (cs ls : List Int) (k : Int), σ = [some (.ref m), some (.int many), none, none, none, none] ∧ Kp m l H l' H' ∧ ls.length = cnt ∧
      H' m = some (.dK (dd c l' k)) ∧ H' c = some (.lst (cs.map V.int)) ∧ H' l' = some (.lst (ls.map V.int)) ∧ c ≠ l' ∧
      cs.length ≤ 63 ∧ ls.length ≤ 63 ∧ (∀ x ∈ ls, 0 ≤ x) ∧ 0 ≤ k ∧ k + ((n + 1 : Nat) : Int) ≤ 1000000, ?_, ?_⟩
    · obtain ⟨cs, ls, k, r⟩ := D.ex
      exact ⟨ls.length, l, cs, ls, k, rfl, Kp.refl m l H, rfl, r⟩
    rintro cnt σ H1 ⟨l1, cs, ls, k, rfl, kp, hcnt, h1, h2, h3, ncl, lc, ll, pos, k0, kn⟩
    have nml : m ≠ l1 := ne_of h1 h3 nofun
    have nmc : m ≠ c := ne_of h1 h2 nofun
    refine ⟨_, rfl, m, .ref l1, rfl, dg_l h1, Nat.zero_le _, fun p hp => ?_⟩
    have g1 := same_new (o := .lst []) hp _ _ h1
    have g2 := same_new (o := .lst []) hp _ _ h2
    have g3 := same_new (o := .lst []) hp _ _ h3
    have kp2 : Kp m l H l1 (upd H1 p (.lst [])) := kp.trans (Kp.new hp)
    have D2 : Dr (upd H1 p (.lst [])) m c l1 (n + 1) := ⟨cs, ls, k, g1, g2, g3, ncl, lc, ll, pos, k0, kn⟩
    refine ⟨.list (pis ls), .list [], .lst (SqL.of g3) (dp_ints ls), .lst (SqL.of upd_same) .nil, shaped_ints ls, by rfl, _, rfl, ?_⟩
    rw [eqv_nil]
    cases ls with
    | nil =>
      refine iteF ?_
      refine iteF ?_
      exact tail _ _ ⟨l1, rfl, kp2, D2⟩
    | cons x r =>
      refine iteT ?_
      refine ⟨_, rfl, m, .ref l1, rfl, dg_l g1, l1, _, 0, .int x, rfl, rfl, SqL.of g3, atI_nat (j := 0) rfl, rfl, _, rfl, ?_⟩
      refine ite2 (fun e => ?_) (fun e => tail _ _ ⟨l1, rfl, kp2, D2⟩)
      generalize upd H1 p (.lst []) = H3 at g1 g2 g3 kp2 D2
      refine ⟨_, fun σ' H' hN => hN, ?_⟩
      refine ⟨_, rfl, m, .ref l1, rfl, dg_l g1, 1, rfl, l1, _, rfl, SqL.of g3, fun p2 hp2 => ⟨_, rfl, m, _, rfl, dp_l (same_new hp2 _ _ g1), ?_⟩⟩
      have np1 : p2 ≠ m := (ne_of_none g1 hp2).symm
      have np2 : p2 ≠ c := (ne_of_none g2 hp2).symm
      refine ⟨r.length, by rw [← hcnt]; simp, p2, cs, r, k, rfl, ⟨fun b o hb q1 q2 => ?_, ?_, fun b hb => ?_⟩, rfl, upd_same, (upd_ne nmc.symm).trans ((upd_ne np2.symm).trans g2), (upd_ne np1).trans ?_, np2.symm, lc, by simp at ll ⊢; omega, fun y hy => pos y (List.mem_cons_of_mem _ hy), k0, kn⟩
      · have e := kp2.st b o hb q1 q2
        rw [upd_ne q1, upd_ne (ne_of_none e hp2)]
        exact e
      · exact .inr (kp2.dm _ hp2)
      · refine kp2.dm b ?_
        unfold upd at hb
        split at hb
        · cases hb
        · split at hb
          · cases hb
          · exact hb
      · rw [upd_same]
        unfold cutV
        rw [HT.sIx_none, show HT.sIx ((x :: r).map V.int).length 0 (some 1) = min 1 ((x :: r).map V.int).length from HT.sIx_nat _ 0 1, show min 1 ((x :: r).map V.int).length = 1 by simp]
        show some (HO.lst (List.take (((x :: r).map V.int).length - 1) (r.map V.int))) = _
        rw [List.take_of_length_le (by simp)]
def sp_law_begun (K : PySem.W.Frag) : Sp := fun vs H Q _ => ∃ (a : Addr) (ns : List Int), vs = [.ref a] ∧ SqL K H a (ns.map V.int) ∧ ns.length ≤ 63 ∧
  ∀ (m c l : Addr) (H' : Hp), Same H H' → H m = none → H c = none → H l = none → Dr H' m c l 900000 → Q (.ref m) H'
theorem ok_law_begun (T : Txt K mg) : FnOk P w K mg base CX0 2 T.f__law_begun T.d__law_begun ["script"] (sp_law_begun K) := by
  refine T.F__law_begun.ok sc_law_begun (fun vs H Q E h => ?_) (fun cdv A outer s H vs Q E hr h => ?_)
  · obtain ⟨a, ns, rfl, _⟩ := h
    rfl
  · obtain ⟨a, ns, rfl, hS, hl, q⟩ := h
    have hu := hu_of hr
    refine ⟨_,
(pss_one (ps_ret (pe_disp (pps_cons pe_str (pe_callTy call_list_of (by rfl) T.z_list (by decide +kernel) (pa_cons (pv 0) pa_nil)) (pps_cons pe_str (pe_lc (own := [("cell", 1)]) rfl sc_law_begun.nd (pi_list (pv 0)) (blkOk_by (own := [("cell", 1)]) (N := ["script", "cell"]) (sc := defScope s_law_begun) (by decide +kernel)) (fun _ _ _ _ _ => (pg_name (i := 1) sc_law_begun.nd rfl (Or.inl rfl))) (fun _ _ _ _ _ => pts_one (pt_cmpR op_ge (pv 1) (pe_op op_pow pe_int pe_int) (nomark _))) (fun _ _ _ _ _ => (pv 1))) (pps_cons pe_str pe_int pps_nil))) (by rfl) (by rfl) (fun z => by cases z) (by decide))))
, ?_⟩
    intro p hp
    have s1 : Same H (upd H p (.dK [])) := same_new hp
    refine ⟨.ref a, rfl, a, _, rfl, .inl (s1.seq hS), fun c hc => ?_⟩
    have s2 := s1.trans (same_new (o := .lst (ns.map V.int)) hc)
    have ncp : p ≠ c := fun e => by rw [← e, upd_same] at hc; cases hc
    have e1 : upd (upd H p (.dK [])) c (.lst (ns.map V.int)) p = some (.dK []) := (upd_ne ncp).trans upd_same
    have e2 : upd (upd H p (.dK [])) c (.lst (ns.map V.int)) c = some (.lst (ns.map V.int)) := upd_same
    have hc0 : H c = none := s1.free hc
    generalize upd (upd H p (.dK [])) c (.lst (ns.map V.int)) = H1 at s2 e1 e2
    refine ⟨.ref a, rfl, a, rfl, ⟨_, s2.seq hS⟩, fun l hD => ?_⟩
    have nlp : p ≠ l := ne_of_none e1 hD
    have nlc : c ≠ l := ne_of_none e2 hD
    have hl0 : H l = none := s2.free hD
    refine lc_list (K := K) (a := a) (xs := ns.map V.int) (fun i H' => ∃ ls : List Int, ls.length ≤ i ∧ (∀ x ∈ ls, 0 ≤ x) ∧ H' = upd H1 l (.lst (ls.map V.int))) ⟨[], by simp, by simp, rfl⟩ ?_ ?_ ?_
    · rintro i H' _ ⟨ls, _, _, rfl⟩
      exact (same_new hD).seq (s2.seq hS)
    · rintro i x H' hx ⟨ls, h1, h2, rfl⟩
      obtain ⟨z, rfl⟩ : ∃ z, x = V.int z := by
        rw [List.getElem?_map] at hx
        cases e : ns[i]? with
        | none => rw [e] at hx; cases hx
        | some z => rw [e] at hx; exact ⟨z, (Option.some.inj hx).symm⟩
      have hi : i < 63 := by
        have := (List.getElem?_eq_some_iff.mp hx).1
        rw [List.length_map] at this
        omega
      refine ⟨rfl, _, rfl, 10, 18, rfl, rfl, ⟨by decide, by decide, by decide⟩, z, 1000000000000000000, rfl, rfl, _, rfl, ?_⟩
      refine ite2 (fun e => ?_) (fun e => ⟨ls, by omega, h2, rfl⟩)
      refine ⟨.int z, rfl, _, upd_same, ?_, ls ++ [z], ?_, ?_, ?_⟩
      · rw [List.length_map]; exact small1000 (by omega)
      · simp; omega
      · intro y hy
        rcases List.mem_append.mp hy with k | k
        · exact h2 y k
        · rw [List.mem_singleton.mp k]
          have := of_decide_eq_true e
          omega
      · rw [upd_upd, List.map_append]
        rfl
    · rintro H' ⟨ls, h1, h2, rfl⟩
      refine ⟨(upd_ne nlp).trans e1, [(Sum.inr "cells", V.ref c), (Sum.inr "left", V.ref l), (Sum.inr "at", V.int 0)], rfl, by show 3 ≤ 15; decide, ?_⟩
      rw [dd_mk]
      refine q p c l _ (fun b o hb => ?_) hp hc0 hl0 ⟨ns, ls, 0, upd_same, ?_, ?_, nlc, hl, by rw [List.length_map] at h1; omega, h2, by decide, by decide⟩
      · rw [upd_ne (ne_of_none hb hp), upd_ne (ne_of_none hb hl0)]
        exact s2 _ _ hb
      · rw [upd_ne ncp.symm, upd_ne nlc]; exact e2
      · rw [upd_ne nlp.symm, upd_same]
end
end My

namespace My
open PySem PySem.Spec PyProof.Rows L2
theorem dpAll_app {K : PySem.W.Frag} {H : Hp} : ∀ {xs ys : List V} {ds es : List PyData}, DpAll K H xs ds → DpAll K H ys es → DpAll K H (xs ++ ys) (ds ++ es)
  | _, _, _, _, .nil, h => h
  | _, _, _, _, .cons a b, h => .cons a (dpAll_app b h)
theorem pairs_set {K : PySem.W.Frag} {H : Hp} {p : Addr} {zs : List V} {o : HO} (hp : H p = some (.lst zs)) : ∀ {ss : List (Int × Int)} {xs : List V}, DpAll K H xs (ss.map pairI) → DpAll K (upd H p o) xs (ss.map pairI)
  | [], _, h => by cases h; exact .nil
  | s :: r, _, h => by
    cases h with
    | cons a b =>
      obtain ⟨t, rfl, ht⟩ := dp_pair a
      exact .cons (dp_mkpair (sqt_set hp ht)) (pairs_set hp b)
/-! ### what stands through draws: tuples -/
def Tp : HO → Prop
  | .tup _ => True
  | .frz _ _ => True
  | _ => False
def Keep (H H' : Hp) : Prop := ∀ b o, H b = some o → Tp o → H' b = some o
theorem Keep.refl (H : Hp) : Keep H H := fun _ _ h _ => h
theorem Keep.trans {H H1 H2 : Hp} (a : Keep H H1) (b : Keep H1 H2) : Keep H H2 := fun c o h t => b c o (a c o h t) t
theorem keep_same {H H' : Hp} (s : Same H H') : Keep H H' := fun b o h _ => s b o h
theorem keep_set {H : Hp} {p : Addr} {ys : List V} {o : HO} (hp : H p = some (.lst ys)) : Keep H (upd H p o) := fun b u h t => by
  have nb : b ≠ p := fun e => by
    rw [e, hp] at h
    cases h
    exact t
  rw [upd_ne nb]
  exact h
theorem keep_draw {m c l l' n : Addr} {H H' : Hp} (k : Kp m l H l' H') (d : Dr H m c l n) : Keep H H' := fun b o h t => by
  obtain ⟨cs, ls, z, h1, h2, h3, r⟩ := d.ex
  refine k.st b o h (fun e => ?_) (fun e => ?_)
  · rw [e, h1] at h
    cases h
    exact t
  · rw [e, h3] at h
    cases h
    exact t
theorem Keep.tup {K : PySem.W.Frag} {H H' : Hp} {a : Addr} {xs : List V} (k : Keep H H') (h : SqT K H a xs) : SqT K H' a xs := by
  rcases h with (h | ⟨u, h⟩) | h
  · exact .inl (.inl (k _ _ h trivial))
  · exact .inl (.inr ⟨u, k _ _ h trivial⟩)
  · exact .inr h
mutual
def noL : PyData → Bool
  | .list _ => false
  | .tuple ds => noLs ds
  | _ => true
def noLs : List PyData → Bool
  | [] => true
  | d :: r => noL d && noLs r
end
mutual
theorem dp_keep {K : PySem.W.Frag} {H H' : Hp} (s : Keep H H') : ∀ (d : PyData) (v : V), noL d = true → Dp K H v d → Dp K H' v d
  | .none, _, _, h => by cases h; exact .non
  | .bool _, _, _, h => by cases h; exact .bl _
  | .int _, _, _, h => by cases h; exact .int _
  | .str _, _, _, h => by cases h; exact .str _
  | .list ds, _, n, h => by cases n
  | .tuple ds, _, n, h => by
    cases h with
    | tup a b => exact .tup (s.tup a) (dpAll_keep s ds _ n b)
  | .dict _, _, _, h => by cases h
theorem dpAll_keep {K : PySem.W.Frag} {H H' : Hp} (s : Keep H H') : ∀ (ds : List PyData) (vs : List V), noLs ds = true → DpAll K H vs ds → DpAll K H' vs ds
  | [], _, _, h => by cases h; exact .nil
  | d :: ds, _, n, h => by
    cases h with
    | cons a b =>
      obtain ⟨n1, n2⟩ := Bool.and_eq_true_iff.mp (show (noL d && noLs ds) = true from n)
      exact .cons (dp_keep s d _ n1 a) (dpAll_keep s ds _ n2 b)
end
theorem noLs_all : ∀ {ds : List PyData}, (∀ d ∈ ds, noL d = true) → noLs ds = true
  | [], _ => rfl
  | d :: r, h => by
    show (noL d && noLs r) = true
    rw [h d List.mem_cons_self, noLs_all fun e he => h e (List.mem_cons_of_mem _ he)]
    rfl
theorem noL_pair (p : Int × Int) : noL (pairI p) = true := rfl
theorem noLs_pairs (ps : List (Int × Int)) : noLs (ps.map pairI) = true := noLs_all fun d hd => by
  obtain ⟨p, _, rfl⟩ := List.mem_map.mp hd
  rfl
theorem noLs_ints (ns : List Int) : noLs (ns.map .int) = true := noLs_all fun d hd => by
  obtain ⟨p, _, rfl⟩ := List.mem_map.mp hd
  rfl
theorem noL_row (r : List Nat) : noL (rowI r) = true := noLs_all fun d hd => by
  obtain ⟨p, _, rfl⟩ := List.mem_map.mp hd
  rfl
theorem noL_cod (C : Cod) : noL C.dat = true := by
  show (true && (true && (noLs (C.steps.map .int) && (noLs (C.moves.map pairI) && (true && true))))) = true
  rw [noLs_ints, noLs_pairs]
  rfl
/-- an own list through a draw -/
theorem Kp.own {m l l' : Addr} {H H' : Hp} (k : Kp m l H l' H') {p : Addr} {o : HO} (h : H p = some o) (n1 : p ≠ m) (n2 : p ≠ l) : H' p = some o ∧ p ≠ l' := ⟨k.st p o h n1 n2, k.off h n2⟩
/-- a change of an own list: for what stood ahead of it -/
theorem Kp.set {m l l' : Addr} {H H' : Hp} (k : Kp m l H l' H') {p : Addr} {o : HO} (h : H p = none) : Kp m l H l' (upd H' p o) := by
  refine ⟨fun b u hb n1 n2 => ?_, k.nw, fun b hb => ?_⟩
  · rw [upd_ne (ne_of_none hb h)]
    exact k.st b u hb n1 n2
  · unfold upd at hb
    split at hb
    · cases hb
    · exact k.dm b hb
/-- a list of one's own, apart from the drawer -/
structure Own (H : Hp) (m c l p : Addr) (xs : List V) : Prop where
  st : H p = some (.lst xs)
  nm : p ≠ m
  nc : p ≠ c
  nl : p ≠ l
theorem own_mk {H : Hp} {m c l p n : Nat} {xs : List V} (D : Dr H m c l n) (hp : H p = none) : Own (upd H p (.lst xs)) m c l p xs := by
  obtain ⟨cs, ls, z, e1, e2, e3, _⟩ := D.ex
  exact ⟨upd_same, (ne_of_none e1 hp).symm, (ne_of_none e2 hp).symm, (ne_of_none e3 hp).symm⟩
theorem Own.kp {H H' : Hp} {m c l l' p : Addr} {xs : List V} (o : Own H m c l p xs) (k : Kp m l H l' H') : Own H' m c l' p xs := ⟨k.st p _ o.st o.nm o.nl, o.nm, o.nc, k.off o.st o.nl⟩
theorem Own.same {H H' : Hp} {m c l p : Addr} {xs : List V} (o : Own H m c l p xs) (s : Same H H') : Own H' m c l p xs := ⟨s _ _ o.st, o.nm, o.nc, o.nl⟩
theorem Own.set {H : Hp} {m c l p q : Addr} {xs : List V} {u : HO} (o : Own H m c l p xs) (h : p ≠ q) : Own (upd H q u) m c l p xs := ⟨(upd_ne h).trans o.st, o.nm, o.nc, o.nl⟩
theorem Own.put {H : Hp} {m c l p : Addr} {xs ys : List V} (o : Own H m c l p xs) : Own (upd H p (.lst ys)) m c l p ys := ⟨upd_same, o.nm, o.nc, o.nl⟩
theorem Dr.put {H : Hp} {m c l n p : Nat} {xs ys : List V} (D : Dr H m c l n) (o : Own H m c l p xs) : Dr (upd H p (.lst ys)) m c l n := D.set o.nm o.nc o.nl
theorem Own.ne {H : Hp} {m c l p q : Addr} {xs : List V} (o : Own H m c l p xs) (h : H q = none) : p ≠ q := ne_of_none o.st h
theorem at3 {a b c : V} {g : Int} (h0 : 0 ≤ g) (h1 : g < 3) : ∃ v, atI [a, b, c] g = some v ∧ (v = a ∨ v = b ∨ v = c) := by
  have hg : g = 0 ∨ g = 1 ∨ g = 2 := by omega
  rcases hg with e | e | e <;> subst e
  · exact ⟨a, atI_nat (j := 0) rfl, .inl rfl⟩
  · exact ⟨b, atI_nat (j := 1) rfl, .inr (.inl rfl)⟩
  · exact ⟨c, atI_nat (j := 2) rfl, .inr (.inr rfl)⟩
theorem at4 {a b c d : V} {g : Int} (h0 : 0 ≤ g) (h1 : g < 4) : ∃ v, atI [a, b, c, d] g = some v ∧ (v = a ∨ v = b ∨ v = c ∨ v = d) := by
  have hg : g = 0 ∨ g = 1 ∨ g = 2 ∨ g = 3 := by omega
  rcases hg with e | e | e | e <;> subst e
  · exact ⟨a, atI_nat (j := 0) rfl, .inl rfl⟩
  · exact ⟨b, atI_nat (j := 1) rfl, .inr (.inl rfl)⟩
  · exact ⟨c, atI_nat (j := 2) rfl, .inr (.inr (.inl rfl))⟩
  · exact ⟨d, atI_nat (j := 3) rfl, .inr (.inr (.inr rfl))⟩
section
variable {P : Program} {w : World} {K : PySem.W.Frag} {mg : Str → Option Value} {base : Heap}
theorem yes_turn {te : TE} {σ : L2.St} {H : Hp} {Q : VK} {R : Hp → Prop} (h : te σ H Q) : tYes σ H fun b H3 => if b = true then te σ H3 Q else R H3 := by
  show if true = true then te σ H Q else R H
  rw [if_pos rfl]
  exact h
/-- n draws at most, behind which z stands for something of which G holds -/
def spDraw (args : Addr → List V → Prop) (n : Nat) (G : Hp → V → Prop) : Sp := fun vs H Q _ => ∃ (m c l : Addr) (k : Nat), args m vs ∧ Dr H m c l (k + n) ∧
  ∀ z l' H', Kp m l H l' H' → Dr H' m c l' k → G H' z → Q z H'
/-- what a drawn coder is like -/
structure Small (C : Cod) (wide places codes : Int) : Prop where
  lo : -wide ≤ C.low ∧ C.low ≤ 0
  hi : 0 ≤ C.high ∧ C.high ≤ wide
  st : 1 ≤ C.steps.length ∧ (C.steps.length : Int) ≤ places
  ss : ∀ s ∈ C.steps, 1 ≤ s ∧ s ≤ 2 * wide + 2
  mv : 2 ≤ C.moves.length ∧ (C.moves.length : Int) ≤ codes
  mm : ∀ p ∈ C.moves, (-16 ≤ p.1 ∧ p.1 ≤ 16) ∧ (-2 ≤ p.2 ∧ p.2 ≤ 2)
  fd : C.fade = 0 ∨ (2 ≤ C.fade ∧ C.fade ≤ 5)
theorem Small.ok {C : Cod} {wide places codes : Int} (h : Small C wide places codes) (h1 : wide ≤ 4000) (h2 : places ≤ 16) (h3 : codes ≤ 16) : C.Ok := by
  obtain ⟨⟨a1, a2⟩, ⟨b1, b2⟩, ⟨c1, c2⟩, d, ⟨e1, e2⟩, f, g⟩ := h
  refine ⟨by omega, a2, b1, by omega, c1, by omega, fun s hs => ?_, e1, by omega, fun p hp => ?_, by omega⟩
  · have := d s hs
    omega
  · have := f p hp
    omega
def sp_law_coder (K : PySem.W.Frag) : Sp := fun vs H Q _ => ∃ (m c l : Addr) (k : Nat) (wide places codes : Int), vs = [.ref m, .int wide, .int places, .int codes] ∧ (1 ≤ wide ∧ wide ≤ 4000) ∧ (1 ≤ places ∧ places ≤ 16) ∧ (2 ≤ codes ∧ codes ≤ 16) ∧
  Dr H m c l (k + 60) ∧ ∀ z (C : Cod) l' H', Kp m l H l' H' → Dr H' m c l' k → Small C wide places codes → Dp K H' z C.dat → Q z H'
set_option maxHeartbeats 4000000 in
theorem ok_law_coder (T : Txt K mg) : FnOk P w K mg base CX0 3 T.f__law_coder T.d__law_coder ["m", "wide", "places", "codes"] (sp_law_coder K) := by
  refine T.F__law_coder.ok sc_law_coder (fun vs H Q E h => ?_) (fun cdv A outer s H vs Q E hr h => ?_)
  · obtain ⟨m, c, l, k, wide, places, codes, rfl, _⟩ := h
    rfl
  · obtain ⟨m, c, l, k, wide, places, codes, rfl, ⟨w1, w2⟩, ⟨p1, p2⟩, ⟨c1, c2⟩, D0, q⟩ := h
    refine ⟨_,
(pss_cons (ps_par (i := 4) (j := 5) (by rfl) sc_law_coder.nd rfl rfl (by decide) rfl rfl (pa_cons (pe_op op_sub pe_int (pe_call (ok_law_next T) (hr.mono (by decide)) (by rfl) T.g__law_next T.F__law_next.kp T.b__law_next .nil pass0 (pa_cons (pv 0) (pa_cons (pe_op op_add (pv 1) pe_int) pa_nil)))) (pa_cons (pe_call (ok_law_next T) (hr.mono (by decide)) (by rfl) T.g__law_next T.F__law_next.kp T.b__law_next .nil pass0 (pa_cons (pv 0) (pa_cons (pe_op op_add (pv 1) pe_int) pa_nil))) pa_nil)) (by rfl))
      (pss_cons (ps_setLc (i := 7) (own := [("k", 6)]) rfl sc_law_coder.nd rfl rfl (sw_true rfl rfl rfl (by decide +kernel)) (pi_range1 (by rfl) T.z_range (pa_cons (pe_op op_add pe_int (pe_call (ok_law_next T) (hr.mono (by decide)) (by rfl) T.g__law_next T.F__law_next.kp T.b__law_next .nil pass0 (pa_cons (pv 0) (pa_cons (pv 2) pa_nil)))) pa_nil)) (blkOk_by (own := [("k", 6)]) (N := ["m", "wide", "places", "codes", "low", "high", "k", "steps", "moves", "fade"]) (sc := defScope s_law_coder) (by decide +kernel)) (fun _ _ _ _ _ => (pg_name (i := 6) sc_law_coder.nd rfl (Or.inl rfl))) (fun _ _ _ _ _ => pts_nil) (fun _ _ _ _ _ => (pe_op op_add pe_int (pe_call (ok_law_next T) (hr.mono (by decide)) (by rfl) T.g__law_next T.F__law_next.kp T.b__law_next .nil pass0 (pa_cons (pv 0) (pa_cons (pe_op op_add (pe_op op_mul pe_int (pv 1)) pe_int) pa_nil))))))
      (pss_cons (ps_set (i := 8) sc_law_coder.nd rfl (Or.inl rfl) (pe_lst pa_nil))
      (pss_cons (ps_for PassesOwn.never rfl (pi_range1 (by rfl) T.z_range (pa_cons (pe_op op_add pe_int (pe_call (ok_law_next T) (hr.mono (by decide)) (by rfl) T.g__law_next T.F__law_next.kp T.b__law_next .nil pass0 (pa_cons (pv 0) (pa_cons (pe_op op_sub (pv 3) pe_int) pa_nil)))) pa_nil)) (pg_name (i := 6) sc_law_coder.nd rfl (Or.inl rfl)) (pss_one (ps_expr (pe_bm PySem.F.plainAttrs_list PySem.F.slot_list_append PySem.F.type_list_append mt_append (pv 8) (pa_cons (pe_tup (pa_cons (pe_op op_sub (pe_call (ok_law_next T) (hr.mono (by decide)) (by rfl) T.g__law_next T.F__law_next.kp T.b__law_next .nil pass0 (pa_cons (pv 0) (pa_cons pe_int pa_nil))) pe_int) (pa_cons (pe_op op_sub (pe_call (ok_law_next T) (hr.mono (by decide)) (by rfl) T.g__law_next T.F__law_next.kp T.b__law_next .nil pass0 (pa_cons (pv 0) (pa_cons pe_int pa_nil))) pe_int) pa_nil))) pa_nil)))))
      (pss_cons (ps_set (i := 9) sc_law_coder.nd rfl (Or.inl rfl) (pe_ix ix_list (pe_lst (pa_cons pe_int (pa_cons pe_int (pa_cons pe_int (pa_cons (pe_op op_add pe_int (pe_call (ok_law_next T) (hr.mono (by decide)) (by rfl) T.g__law_next T.F__law_next.kp T.b__law_next .nil pass0 (pa_cons (pv 0) (pa_cons pe_int pa_nil)))) pa_nil))))) (pe_call (ok_law_next T) (hr.mono (by decide)) (by rfl) T.g__law_next T.F__law_next.kp T.b__law_next .nil pass0 (pa_cons (pv 0) (pa_cons pe_int pa_nil))) (fun _ _ => rfl)))
      (pss_one (ps_ret (pe_tup (pa_cons (pv 4) (pa_cons (pv 5) (pa_cons (pe_callTy call_tuple_of (by rfl) T.z_tuple (by decide +kernel) (pa_cons (pv 7) pa_nil)) (pa_cons (pe_callTy call_tuple_of (by rfl) T.z_tuple (by decide +kernel) (pa_cons (pv 8) pa_nil)) (pa_cons (pv 9) pa_nil)))))))))))))
, ?_⟩
    -- low, high
    refine ⟨_, rfl, _, rfl, _, _, rfl, rfl, m, c, l, k + 59, wide + 1, rfl, by omega, by omega, D0, fun a l1 H1 a0 a1 kp1 D1 => ⟨0, a, rfl, rfl, ?_⟩⟩
    refine ⟨_, rfl, _, rfl, _, _, rfl, rfl, m, c, l1, k + 58, wide + 1, rfl, by omega, by omega, D1, fun b l2 H2 b0 b1 kp2 D2 => ⟨_, _, rfl, ?_⟩⟩
    have kp12 := kp1.trans kp2
    -- steps
    refine ⟨_, rfl, _, rfl, m, c, l2, k + 57, places, rfl, by omega, by omega, D2, fun np l3 H3 n0 n1 kp3 D3 => ⟨1, np, rfl, rfl, _, rfl, by omega, by omega, fun S hS => ?_⟩⟩
    have kp13 := kp12.trans kp3
    obtain ⟨cs3, ls3, z3, e31, e32, e33, _⟩ := D3.ex
    refine lc_range (lo := 0) (n := (1 + np).toNat) (fun i H' => ∃ (l' : Addr) (ss : List Int), H' S = some (.lst (ss.map V.int)) ∧ ss.length = i ∧ (∀ s ∈ ss, 1 ≤ s ∧ s ≤ 2 * wide + 2) ∧ Kp m l3 H3 l' H' ∧ Dr H' m c l' (k + 57 - i) ∧ S ≠ m ∧ S ≠ c ∧ S ≠ l')
      ⟨l3, [], upd_same, rfl, by simp, Kp.new hS, D3.new hS, (ne_of_none e31 hS).symm, (ne_of_none e32 hS).symm, (ne_of_none e33 hS).symm⟩ ?_ ?_
    · rintro i H' hi ⟨l', ss, hL, hlen, hss, kp, D, nm, nc, nl⟩
      have hi' : i < 17 := by omega
      refine ⟨rfl, yes_turn ?_⟩
      refine ⟨_, rfl, _, rfl, 2, wide, rfl, rfl, .inl ⟨by decide, by decide⟩, _, _, rfl, rfl, m, c, l', k + 57 - (i + 1), 2 * wide + 2, rfl, by omega, by omega, by
          have e : k + 57 - (i + 1) + 1 = k + 57 - i := by omega
          rw [e]; exact D, fun r l'' H'' r0 r1 kp' D' => ⟨1, r, rfl, rfl, ?_⟩⟩
      obtain ⟨hL', nl'⟩ := kp'.own hL nm nl
      refine ⟨_, hL', ?_, l'', ss ++ [1 + r], ?_, by simp [hlen], ?_, (kp.trans kp').set hS, D'.set nm nc nl', nm, nc, nl'⟩
      · rw [List.length_map]
        exact small1000 (by omega)
      · rw [upd_same, List.map_append]
        rfl
      · intro s hs
        rcases List.mem_append.mp hs with h | h
        · exact hss s h
        · rw [List.mem_singleton.mp h]
          omega
    · rintro H4 ⟨l4, ss, hL, hlen, hss, kp4, D4, nSm, nSc, nSl⟩
      have kp14 := kp13.trans kp4
      have hSm := nSm
      have len16 : (1 + np).toNat ≤ 16 := by omega
      have D4 : Dr H4 m c l4 (k + 41) := D4.less (by omega)
      refine ⟨Nat.zero_le _, fun M hM => ?_⟩
      obtain ⟨cs4, ls4, z4, e41, e42, e43, _⟩ := D4.ex
      have nMm : M ≠ m := (ne_of_none e41 hM).symm
      have nMc : M ≠ c := (ne_of_none e42 hM).symm
      have nMl : M ≠ l4 := (ne_of_none e43 hM).symm
      have nMS : S ≠ M := ne_of_none hL hM
      have hL5 := same_new (o := .lst []) hM _ _ hL
      have kp5 : Kp m l H l4 (upd H4 M (.lst [])) := kp14.trans (Kp.new hM)
      have D5 : Dr (upd H4 M (.lst [])) m c l4 (k + 41) := D4.new hM
      have hM5 : (upd H4 M (.lst [])) M = some (.lst []) := upd_same
      have hM0 : H M = none := kp14.dm M hM
      generalize upd H4 M (.lst []) = H5 at hL5 kp5 D5 hM5
      refine ⟨_, rfl, _, rfl, _, _, rfl, rfl, m, c, l4, k + 40, codes - 1, rfl, by omega, by omega, D5, fun nm l6 H6 n60 n61 kp6 D6 => ⟨2, nm, rfl, rfl, _, rfl, by omega, by omega, ?_⟩⟩
      obtain ⟨hL6, nSl6⟩ := kp6.own hL5 nSm nSl
      obtain ⟨hM6, nMl6⟩ := kp6.own hM5 nMm nMl
      refine for_range (lo := 0) (n := (2 + nm).toNat) (fun i σ H' => ∃ (y : Option V) (l' : Addr) (ms : List V) (mvs : List (Int × Int)),
          σ = [some (.ref m), some (.int wide), some (.int places), some (.int codes), some (.int (0 - a)), some (.int b), y, some (.ref S), some (.ref M), none] ∧
          H' M = some (.lst ms) ∧ DpAll K H' ms (mvs.map pairI) ∧ mvs.length = i ∧ (∀ p ∈ mvs, (-16 ≤ p.1 ∧ p.1 ≤ 16) ∧ (-2 ≤ p.2 ∧ p.2 ≤ 2)) ∧
          H' S = some (.lst (ss.map V.int)) ∧ Kp m l H l' H' ∧ Dr H' m c l' (k + 40 - 2 * i) ∧ M ≠ l' ∧ S ≠ l')
        ⟨none, l6, [], [], rfl, hM6, .nil, rfl, by simp, hL6, kp5.trans kp6, D6, nMl6, nSl6⟩ ?_ ?_
      · rintro i σ H7 hi ⟨y, l7, ms, mvs, rfl, hM7, hD7, hlen7, hb7, hS7, kp7, D7, nMl7, nSl7⟩
        have hi' : i < 16 := by omega
        have e1 : k + 40 - 2 * i = k + 40 - 2 * (i + 1) + 2 := by omega
        rw [e1] at D7
        refine ⟨.ref M, rfl, .inl ⟨rfl, _, SqL.of hM7⟩, ?_⟩
        refine ⟨_, rfl, m, c, l7, k + 40 - 2 * (i + 1) + 1, 33, rfl, by decide, by decide, D7, fun r1 l8 H8 r10 r11 kp8 D8 => ⟨r1, 16, rfl, rfl, ?_⟩⟩
        obtain ⟨hM8, nMl8⟩ := kp8.own hM7 nMm nMl7
        obtain ⟨hS8, nSl8⟩ := kp8.own hS7 nSm nSl7
        refine ⟨_, rfl, m, c, l8, k + 40 - 2 * (i + 1), 5, rfl, by decide, by decide, D8, fun r2 l9 H9 r20 r21 kp9 D9 => ⟨r2, 2, rfl, rfl, by show 2 ≤ sizeLine; decide, fun p hp => ?_⟩⟩
        obtain ⟨hM9, nMl9⟩ := kp9.own hM8 nMm nMl8
        obtain ⟨hS9, nSl9⟩ := kp9.own hS8 nSm nSl8
        have hD9 : DpAll K H9 ms (mvs.map pairI) := dpAll_keep (keep_draw kp9 D8) _ _ (noLs_pairs _) (dpAll_keep (keep_draw kp8 D7) _ _ (noLs_pairs _) hD7)
        have sp := same_new (o := .tup [.int (r1 - 16), .int (r2 - 2)]) hp
        have hM10 := sp _ _ hM9
        have hS10 := sp _ _ hS9
        refine ⟨M, ms, _, rfl, rfl, hM10, ?_, ?_⟩
        · rw [dpAll_len hD7, List.length_map, hlen7]
          exact small1000 (by omega)
        · refine ⟨_, l9, ms ++ [.ref p], mvs ++ [(r1 - 16, r2 - 2)], rfl, upd_same, ?_, by simp [hlen7], ?_, (upd_ne nMS).trans hS10, (((kp7.trans kp8).trans kp9).trans (Kp.new hp)).set hM0, (D9.new hp).set nMm nMc nMl9, nMl9, nSl9⟩
          · rw [List.map_append]
            exact dpAll_app (pairs_set hM10 (dpAll_same sp _ _ hD9)) (.cons (dp_mkpair (s := (r1 - 16, r2 - 2)) (sqt_set hM10 upd_tup)) .nil)
          · intro x hx
            rcases List.mem_append.mp hx with h | h
            · exact hb7 x h
            · rw [List.mem_singleton.mp h]
              exact ⟨⟨by show -16 ≤ r1 - 16; omega, by show r1 - 16 ≤ 16; omega⟩, by show -2 ≤ r2 - 2; omega, by show r2 - 2 ≤ 2; omega⟩
      · rintro σ H7 ⟨y, l7, ms, mvs, rfl, hM7, hD7, hlen7, hb7, hS7, kp7, D7, nMl7, nSl7⟩
        have D7 : Dr H7 m c l7 (k + 2) := D7.less (by omega)
        -- fade
        refine ⟨_, rfl, m, c, l7, k + 1, 4, rfl, by decide, by decide, D7, fun f l8 H8 f0 f1 kp8 D8 => ⟨2, f, rfl, rfl, by show 4 ≤ sizeLine; decide, fun L hL8 => ?_⟩⟩
        obtain ⟨hM8, nMl8⟩ := kp8.own hM7 nMm nMl7
        obtain ⟨hS8, nSl8⟩ := kp8.own hS7 nSm nSl7
        have hD8 : DpAll K H8 ms (mvs.map pairI) := dpAll_keep (keep_draw kp8 D7) _ _ (noLs_pairs _) hD7
        obtain ⟨cs8, ls8, z8, e81, e82, e83, _⟩ := D8.ex
        have nLm : L ≠ m := (ne_of_none e81 hL8).symm
        have nLl : L ≠ l8 := (ne_of_none e83 hL8).symm
        have sL := same_new (o := .lst [V.int 0, V.int 0, V.int 2, V.int (2 + f)]) hL8
        have D9 : Dr (upd H8 L (.lst [V.int 0, V.int 0, V.int 2, V.int (2 + f)])) m c l8 (k + 1) := D8.new hL8
        have hL9 : (upd H8 L (.lst [V.int 0, V.int 0, V.int 2, V.int (2 + f)])) L = some (.lst [V.int 0, V.int 0, V.int 2, V.int (2 + f)]) := upd_same
        have kp9 : Kp m l H l8 (upd H8 L (.lst [V.int 0, V.int 0, V.int 2, V.int (2 + f)])) := (kp7.trans kp8).trans (Kp.new hL8)
        have hM9 := sL _ _ hM8
        have hS9 := sL _ _ hS8
        have hD9 := dpAll_same sL _ _ hD8
        generalize upd H8 L (.lst [V.int 0, V.int 0, V.int 2, V.int (2 + f)]) = H9 at sL D9 hL9 kp9 hM9 hS9 hD9
        refine ⟨_, rfl, m, c, l8, k, 4, rfl, by decide, by decide, D9, fun g l10 H10 g0 g1 kp10 D10 => ?_⟩
        obtain ⟨hL10, _⟩ := kp10.own hL9 nLm nLl
        obtain ⟨hM10, nMl10⟩ := kp10.own hM9 nMm nMl8
        obtain ⟨hS10, nSl10⟩ := kp10.own hS9 nSm nSl8
        have hD10 : DpAll K H10 ms (mvs.map pairI) := dpAll_keep (keep_draw kp10 D9) _ _ (noLs_pairs _) hD9
        obtain ⟨fd, hfd, hat⟩ : ∃ fd : Int, (fd = 0 ∨ (2 ≤ fd ∧ fd ≤ 5)) ∧ atI [V.int 0, V.int 0, V.int 2, V.int (2 + f)] g = some (.int fd) := by
          have hg : g = 0 ∨ g = 1 ∨ g = 2 ∨ g = 3 := by omega
          rcases hg with e | e | e | e <;> subst e
          · exact ⟨0, .inl rfl, atI_nat (j := 0) rfl⟩
          · exact ⟨0, .inl rfl, atI_nat (j := 1) rfl⟩
          · exact ⟨2, .inr ⟨by omega, by omega⟩, atI_nat (j := 2) rfl⟩
          · exact ⟨2 + f, .inr ⟨by omega, by omega⟩, atI_nat (j := 3) rfl⟩
        refine ⟨L, _, g, .int fd, rfl, rfl, SqL.of hL10, hat, ?_⟩
        -- the tuple
        refine ⟨_, rfl, _, rfl, .ref S, rfl, S, _, rfl, .inl ⟨SqL.of hS10, fun ts hts => ?_⟩⟩
        have s11 := same_new (o := .tup (ss.map V.int)) hts
        have hM11 := s11 _ _ hM10
        have t11 : (upd H10 ts (.tup (ss.map V.int))) ts = some (.tup (ss.map V.int)) := upd_same
        have hD11 := dpAll_same s11 _ _ hD10
        have kp11 : Kp m l H l10 (upd H10 ts (.tup (ss.map V.int))) := (kp9.trans kp10).trans (Kp.new hts)
        have D11 : Dr (upd H10 ts (.tup (ss.map V.int))) m c l10 k := D10.new hts
        generalize upd H10 ts (.tup (ss.map V.int)) = H11 at hM11 t11 hD11 kp11 D11
        refine ⟨.ref M, rfl, M, _, rfl, .inl ⟨SqL.of hM11, fun tm htm => ?_⟩⟩
        have s12 := same_new (o := .tup ms) htm
        have t12 := s12 _ _ t11
        have m12 : (upd H11 tm (.tup ms)) tm = some (.tup ms) := upd_same
        have hD12 := dpAll_same s12 _ _ hD11
        have kp12' : Kp m l H l10 (upd H11 tm (.tup ms)) := kp11.trans (Kp.new htm)
        have D12 : Dr (upd H11 tm (.tup ms)) m c l10 k := D11.new htm
        generalize upd H11 tm (.tup ms) = H12 at t12 m12 hD12 kp12' D12
        refine ⟨_, rfl, by show 5 ≤ sizeLine; decide, fun p hp => ?_⟩
        have s13 := same_new (o := .tup [V.int (0 - a), V.int b, V.ref ts, V.ref tm, V.int fd]) hp
        refine q _ ⟨0 - a, b, ss, mvs, fd⟩ l10 _ (kp12'.trans (Kp.new hp)) (D12.new hp) ⟨⟨by show -wide ≤ 0 - a; omega, by show 0 - a ≤ 0; omega⟩, ⟨b0, by show b ≤ wide; omega⟩, ⟨by show 1 ≤ ss.length; omega, by show (ss.length : Int) ≤ places; omega⟩, hss, ⟨by show 2 ≤ mvs.length; omega, by show (mvs.length : Int) ≤ codes; omega⟩, hb7, hfd⟩ ?_
        refine .tup upd_tup (.cons (.int _) (.cons (.int _) (.cons ?_ (.cons ?_ (.cons (.int _) .nil)))))
        · exact dp_tints (.inl (.inl (s13 _ _ t12)))
        · exact .tup (.inl (.inl (s13 _ _ m12))) (dpAll_same s13 _ _ hD12)
end
end My

namespace My
open PySem PySem.Spec PyProof.Rows L2
/-! ### the size of what is written out -/
structure Sh (k n : Nat) (d : PyData) : Prop where
  sh : d.showable = true
  nd : d.hasDict = false
  dp : d.depth ≤ k
  le : d.shown.length ≤ n
theorem Sh.mono {k n k' n' : Nat} {d : PyData} (h : Sh k n d) (h1 : k ≤ k') (h2 : n ≤ n') : Sh k' n' d := ⟨h.sh, h.nd, Nat.le_trans h.dp h1, Nat.le_trans h.le h2⟩
theorem sh_int {i : Int} (h : i.natAbs < 2 ^ 64) : Sh 0 1921 (.int i) := by
  have hl : i.natAbs.log2 < 1920 := Nat.lt_trans (PySem.Flt.log2_lt_of (by decide) h) (by decide)
  exact ⟨decide_eq_true hl, rfl, Nat.le_refl _, int_text_len_1921 hl⟩
theorem sh_all {k n : Nat} : ∀ {ds : List PyData}, (∀ d ∈ ds, Sh k n d) → PyData.showableAll ds = true ∧ PyData.hasDictAll ds = false ∧ PyData.depthAll ds ≤ k ∧ piled (PyData.shownAll ds) ≤ ds.length * (n + 2) ∧ (PyData.shownAll ds).length = ds.length
  | [], _ => ⟨rfl, rfl, Nat.zero_le _, Nat.zero_le _, rfl⟩
  | d :: r, h => by
    obtain ⟨h1, h2, h3, h4, h5⟩ := sh_all fun e he => h e (List.mem_cons_of_mem d he)
    have hd := h d List.mem_cons_self
    refine ⟨?_, ?_, ?_, ?_, ?_⟩
    · show (d.showable && PyData.showableAll r) = true
      rw [hd.sh, h1]
      rfl
    · show (d.hasDict || PyData.hasDictAll r) = false
      rw [hd.nd, h2]
      rfl
    · show max d.depth (PyData.depthAll r) ≤ k
      exact Nat.max_le.mpr ⟨hd.dp, h3⟩
    · show piled (d.shown :: PyData.shownAll r) ≤ (r.length + 1) * (n + 2)
      rw [piled_cons, Nat.succ_mul]
      have := hd.le
      omega
    · show (PyData.shownAll r).length + 1 = r.length + 1
      rw [h5]
theorem sh_tup {k n : Nat} {ds : List PyData} (h : ∀ d ∈ ds, Sh k n d) : Sh (k + 1) (ds.length * (n + 2) + 3) (.tuple ds) := by
  obtain ⟨h1, h2, h3, h4, h5⟩ := sh_all h
  refine ⟨h1, h2, Nat.succ_le_succ h3, ?_⟩
  show (tupleText (PyData.shownAll ds)).length ≤ _
  unfold tupleText
  rw [strLen_append, strLen_append]
  have e1 : ((("(" : String) : Str)).length = 1 := rfl
  have e3 : (((if (PyData.shownAll ds).length == 1 then ",)" else ")" : String) : Str)).length ≤ 2 := by split <;> decide
  rw [e1]
  by_cases hn : PyData.shownAll ds = []
  · rw [hn] at e3 ⊢
    have : (Str.join ", " []).length = 0 := rfl
    omega
  · have := join_length_add (PyData.shownAll ds) hn
    omega
theorem sh_list2 {k n : Nat} {a b : PyData} (h1 : Sh k n a) (h2 : Sh k n b) : Sh (k + 1) (2 * n + 4) (.list [a, b]) := by
  refine ⟨?_, ?_, ?_, ?_⟩
  · show (a.showable && (b.showable && true)) = true
    rw [h1.sh, h2.sh]
    rfl
  · show (a.hasDict || (b.hasDict || false)) = false
    rw [h1.nd, h2.nd]
    rfl
  · show max a.depth (max b.depth 0) + 1 ≤ k + 1
    have := h1.dp
    have := h2.dp
    omega
  · show (listText [a.shown, b.shown]).length ≤ _
    have e : listText [a.shown, b.shown] = (((((Str.ofString "[" ++ Str.ofString "") ++ a.shown) ++ Str.ofString ", ") ++ b.shown) ++ Str.ofString "]") := rfl
    rw [e, strLen_append, strLen_append, strLen_append, strLen_append, strLen_append]
    have e0 : (Str.ofString "").length = 0 := by decide
    have e1 : (Str.ofString "[").length = 1 := by decide
    have e2 : (Str.ofString "]").length = 1 := by decide
    have e3 : (Str.ofString ", ").length = 2 := by decide
    have := h1.le
    have := h2.le
    omega
theorem sh_ints {ns : List Int} (h : ∀ z ∈ ns, z.natAbs < 2 ^ 64) : Sh 1 (ns.length * 1923 + 3) (.tuple (ns.map .int)) := by
  have := sh_tup (k := 0) (n := 1921) (ds := ns.map .int) fun d hd => by
    obtain ⟨z, hz, rfl⟩ := List.mem_map.mp hd
    exact sh_int (h z hz)
  rw [List.length_map] at this
  exact this
theorem sh_pair {s : Int × Int} (h1 : s.1.natAbs < 2 ^ 64) (h2 : s.2.natAbs < 2 ^ 64) : Sh 1 4000 (pairI s) :=
  (sh_tup (k := 0) (n := 1921) (ds := [.int s.1, .int s.2]) fun d hd => by
    rcases List.mem_cons.mp hd with e | e
    · rw [e]; exact sh_int h1
    · rw [List.mem_singleton.mp e]; exact sh_int h2).mono (Nat.le_refl _) (by simp)
theorem sz_line {n : Nat} (h : n ≤ 1000000) : n ≤ sizeLine := Nat.le_trans h (by decide)
/-! ### slices and sums of tuples -/
theorem cut_take {xs : List V} {n : Nat} (h : n ≤ xs.length) : cutV xs none (some (n : Int)) = xs.take n := by
  unfold cutV
  rw [HT.sIx_none, HT.sIx_nat, Nat.min_eq_left h]
  rfl
theorem cut_drop {xs : List V} {n : Nat} (h : n ≤ xs.length) : cutV xs (some (n : Int)) none = xs.drop n := by
  unfold cutV
  rw [HT.sIx_none, HT.sIx_nat, Nat.min_eq_left h]
  exact List.take_of_length_le (by simp)
theorem dp_row {K : PySem.W.Frag} {H : Hp} {a : Addr} {r : List Nat} (h : SqT K H a (rowV r)) : Dp K H (.ref a) (rowI r) := by
  refine .tup h ?_
  clear h
  induction r with
  | nil => exact .nil
  | cons n r ih => exact .cons (.int n) ih
theorem sl_take {K : PySem.W.Frag} {H : Hp} {a : Addr} {r : List Nat} {n : Nat} {Q : VK} (h : SqT K H a (rowV r)) (hn : n ≤ r.length) (k : ∀ v H', Same H H' → Dp K H' v (rowI (r.take n)) → Q v H') :
    rSlA K (.ref a) none (some (n : Int)) H Q := by
  have hl : (rowV r).length = r.length := List.length_map ..
  refine ⟨a, rowV r, rfl, h, fun ⟨_, e⟩ => ?_, fun _ p hp => ?_⟩
  · rw [HT.sIx_nat, hl, Nat.min_eq_left hn] at e
    refine k _ H (Same.refl H) ?_
    rw [e, List.take_length]
    exact dp_row h
  · refine k _ _ (same_new hp) ?_
    rw [cut_take (by omega), show (rowV r).take n = rowV (r.take n) from List.map_take.symm]
    exact dp_row upd_tup
theorem sl_drop {K : PySem.W.Frag} {H : Hp} {a : Addr} {r : List Nat} {n : Nat} {Q : VK} (h : SqT K H a (rowV r)) (hn : n ≤ r.length) (k : ∀ v H', Same H H' → Dp K H' v (rowI (r.drop n)) → Q v H') :
    rSlA K (.ref a) (some (n : Int)) none H Q := by
  have hl : (rowV r).length = r.length := List.length_map ..
  refine ⟨a, rowV r, rfl, h, fun ⟨e, _⟩ => ?_, fun _ p hp => ?_⟩
  · rw [HT.sIx_nat, hl, Nat.min_eq_left hn] at e
    refine k _ H (Same.refl H) ?_
    rw [e]
    exact dp_row h
  · refine k _ _ (same_new hp) ?_
    rw [cut_drop (by omega), show (rowV r).drop n = rowV (r.drop n) from List.map_drop.symm]
    exact dp_row upd_tup
theorem cat_ints {K : PySem.W.Frag} {H : Hp} {a b : Addr} {ns ms : List Int} {Q : VK} (ha : SqT K H a (ns.map V.int)) (hb : SqT K H b (ms.map V.int)) (hl : ns.length + ms.length ≤ sizeLine)
    (k : ∀ v H', Same H H' → Dp K H' v (.tuple ((ns ++ ms).map .int)) → Q v H') : rCatA K (.ref a) (.ref b) H Q := by
  refine ⟨a, b, _, _, rfl, rfl, ha, hb, by rw [List.length_map, List.length_map]; exact hl, fun e => ?_, fun _ e => ?_, fun _ _ p hp => ?_⟩
  · have e' : ns = [] := List.map_eq_nil_iff.mp e
    refine k _ H (Same.refl H) ?_
    rw [e']
    exact dp_tints hb
  · have e' : ms = [] := List.map_eq_nil_iff.mp e
    refine k _ H (Same.refl H) ?_
    rw [e', List.append_nil]
    exact dp_tints ha
  · refine k _ _ (same_new hp) (dp_tints ?_)
    rw [List.map_append]
    exact upd_tup
theorem dp_last {K : PySem.W.Frag} {H : Hp} {xs : List V} {ps : List (Int × Int)} {s : Int × Int} (h : DpAll K H xs ((ps ++ [s]).map pairI)) : ∃ ys z, xs = ys ++ [z] ∧ Dp K H z (pairI s) := by
  have hl := dpAll_len h
  have hne : xs ≠ [] := by
    intro e
    rw [e] at hl
    simp at hl
  obtain ⟨z, hz, hd⟩ := dpAll_get' h (i := ps.length) (d := pairI s) (by rw [List.map_append, List.getElem?_append_right (by simp)]; simp)
  refine ⟨xs.dropLast, z, ?_, hd⟩
  have hxl : xs.length = ps.length + 1 := by rw [hl]; simp
  have : xs.getLast hne = z := by
    rw [List.getLast_eq_getElem]
    have e : xs[xs.length - 1]? = some z := by rw [hxl]; exact hz
    exact (List.getElem?_eq_some_iff.mp e).2
  rw [← this]
  exact (List.dropLast_concat_getLast hne).symm
/-- repr(..) of data that is small -/
theorem rr {K : PySem.W.Frag} {H : Hp} {v : V} {d : PyData} {k n : Nat} {Q : VK} (h : Dp K H v d) (s : Sh k n d) (hk : k ≤ 60) (hn : n ≤ 1000000) (q : Q (.str d.shown) H) : rRepr K [v] H Q :=
  ⟨v, d, rfl, h, s.sh, s.nd, Nat.le_trans s.dp hk, sz_line (Nat.le_trans s.le hn), q⟩
/-- x != y of equal texts -/
theorem ne_same {x : Str} {A B : Hp → Prop} {H : Hp} (q : B H) : rNe (.str x) (.str x) H fun v H' => ∃ c, v = .bl c ∧ if c = true then A H' else B H' := by
  refine ⟨rfl, false, ?_, iteF q⟩
  show V.bl (!decide (V.str x = V.str x)) = V.bl false
  rw [decide_eq_true rfl]
  rfl
theorem eq_same {x : Str} {H : Hp} {Q : VK} (q : Q (.bl true) H) : rEq (.str x) (.str x) H Q := by
  refine ⟨rfl, ?_⟩
  rw [decide_eq_true rfl]
  exact q
section
variable {P : Program} {w : World} {K : PySem.W.Frag} {mg : Str → Option Value} {base : Heap}
def sp_law_row (K : PySem.W.Frag) : Sp := fun vs H Q _ => ∃ (m c l : Addr) (k : Nat) (x : V) (C : Cod) (many : Nat), vs = [.ref m, x, .int many] ∧ many ≤ 900 ∧ C.Ok ∧ Dp K H x C.dat ∧ Dr H m c l (k + many + 1) ∧
  ∀ z row l' H', Kp m l H l' H' → Dr H' m c l' k → C.Row row → row.length ≤ many → Dp K H' z (rowI row) → Q z H'
theorem ok_law_row (T : Txt K mg) : FnOk P w K mg base CX0 3 T.f__law_row T.d__law_row ["m", "coder", "many"] (sp_law_row K) := by
  refine T.F__law_row.ok sc_law_row (fun vs H Q E h => ?_) (fun cdv A outer s H vs Q E hr h => ?_)
  · obtain ⟨m, c, l, k, x, C, many, rfl, _⟩ := h
    rfl
  · obtain ⟨m, c, l, k, x, C, many, rfl, hmany, O, hc, D, q⟩ := h
    obtain ⟨a, s, mm, ms, rfl, ha, hs, hm, hmd⟩ := cod_at hc
    have := O.m1
    have := O.m2
    refine ⟨_,
(pss_one (ps_ret (pe_callTy call_tuple_of (by rfl) T.z_tuple (by decide +kernel) (pa_cons (pe_lc (own := [("k", 3)]) rfl sc_law_row.nd (pi_range1 (by rfl) T.z_range (pa_cons (pe_call (ok_law_next T) (hr.mono (by decide)) (by rfl) T.g__law_next T.F__law_next.kp T.b__law_next .nil pass0 (pa_cons (pv 0) (pa_cons (pe_op op_add (pv 2) pe_int) pa_nil))) pa_nil)) (blkOk_by (own := [("k", 3)]) (N := ["m", "coder", "many", "k"]) (sc := defScope s_law_row) (by decide +kernel)) (fun _ _ _ _ _ => (pg_name (i := 3) sc_law_row.nd rfl (Or.inl rfl))) (fun _ _ _ _ _ => pts_nil) (fun _ _ _ _ _ => (pe_call (ok_law_next T) (hr.mono (by decide)) (by rfl) T.g__law_next T.F__law_next.kp T.b__law_next .nil pass0 (pa_cons (pv 0) (pa_cons (pe_callB (My.call_lenK (K := K)) (by rfl) T.z_len (by decide +kernel) (pa_cons (pe_ix (My.ix_tupK (K := K)) (pv 1) pe_int (fun _ _ => rfl)) pa_nil)) pa_nil))))) pa_nil))))
, ?_⟩
    refine ⟨_, rfl, _, rfl, _, _, rfl, rfl, m, c, l, k + many, (many : Int) + 1, rfl, by omega, by omega, D, fun n l1 H1 n0 n1 kp1 D1 => ⟨n, rfl, by omega, by omega, fun S hS => ?_⟩⟩
    have K1 := keep_draw kp1 D
    obtain ⟨cs3, ls3, z3, e31, e32, e33, _⟩ := D1.ex
    have hml : ms.length = C.moves.length := by rw [dpAll_len hmd, List.length_map]
    refine lc_range (lo := 0) (n := n.toNat) (fun i H' => ∃ (l' : Addr) (rs : List Nat), H' S = some (.lst (rowV rs)) ∧ rs.length = i ∧ (∀ r ∈ rs, r < C.moves.length) ∧ Kp m l1 H1 l' H' ∧ Keep H1 H' ∧ Dr H' m c l' (k + many - i) ∧ S ≠ m ∧ S ≠ c ∧ S ≠ l')
      ⟨l1, [], upd_same, rfl, by simp, Kp.new hS, keep_same (same_new hS), D1.new hS, (ne_of_none e31 hS).symm, (ne_of_none e32 hS).symm, (ne_of_none e33 hS).symm⟩ ?_ ?_
    · rintro i H' hi ⟨l', rs, hL, hlen, hrs, kp, kk, D2, nm, nc, nl⟩
      refine ⟨rfl, yes_turn ?_⟩
      have kt := K1.trans kk
      refine ⟨_, rfl, _, rfl, a, _, 3, _, rfl, rfl, kt.tup ha, atI_nat (j := 3) rfl, mm, _, rfl, .inr (kt.tup hm), m, c, l', k + many - (i + 1), (ms.length : Int), rfl, by omega, by omega, ?_, fun r l'' H'' r0 r1 kp' D' => ?_⟩
      · have e : k + many - (i + 1) + 1 = k + many - i := by omega
        rw [e]
        exact D2
      obtain ⟨hL', nl'⟩ := kp'.own hL nm nl
      refine ⟨_, hL', ?_, l'', rs ++ [r.toNat], ?_, by simp [hlen], ?_, (kp.trans kp').set hS, (kk.trans (keep_draw kp' D2)).trans (keep_set hL'), D'.set nm nc nl', nm, nc, nl'⟩
      · show (rs.map _).length < _
        rw [List.length_map]
        exact small1000 (by omega)
      · rw [upd_same]
        unfold rowV
        rw [List.map_append]
        have e : r = ((r.toNat : Nat) : Int) := by omega
        show _ = some (HO.lst (_ ++ [V.int ((r.toNat : Nat) : Int)]))
        rw [← e]
      · intro z hz
        rcases List.mem_append.mp hz with h | h
        · exact hrs z h
        · rw [List.mem_singleton.mp h]
          omega
    · rintro H4 ⟨l4, rs, hL, hlen, hrs, kp4, kk, D4, nm, nc, nl⟩
      refine ⟨S, _, rfl, .inl ⟨SqL.of hL, fun t ht => ?_⟩⟩
      exact q _ rs l4 _ ((kp1.trans kp4).trans (Kp.new ht)) ((D4.less (by omega)).new ht) ⟨by omega, hrs⟩ (by omega) (dp_row upd_tup)
end
end My

namespace My
open PySem PySem.Spec PyProof.Rows L2
section
variable {P : Program} {w : World} {K : PySem.W.Frag} {mg : Str → Option Value} {base : Heap}
theorem ok_law_parted (T : Txt K mg) : FnOk P w K mg base CX0 2 T.f__law_parted T.d__law_parted ["number", "by"] sp_rounded := by
  refine T.F__law_parted.ok sc_law_parted (fun vs H Q E h => ?_) (fun cdv A outer s H vs Q E hr h => ?_)
  · obtain ⟨n, d, rfl, _⟩ := h
    rfl
  · obtain ⟨n, d, rfl, h1, h2, q⟩ := h
    have q' : ∀ z, rnd n d = z → Q (.int z) H := fun z e => e ▸ q
    refine ⟨_,
(pss_one (ps_ret (pe_ifExp (pt_cmpR op_ge (pv 0) pe_int (nomark _)) (pe_op op_fdivN (pv 0) (pv 1)) (pe_op op_sub pe_int (pe_op op_fdivN (pe_op op_sub pe_int (pv 0)) (pv 1))))))
, ?_⟩
    refine ⟨_, rfl, n, 0, rfl, rfl, _, rfl, ?_⟩
    refine ite2 (fun e => ?_) (fun e => ?_)
    · have e := of_decide_eq_true e
      refine ⟨_, rfl, _, rfl, n, d, rfl, rfl, ⟨by omega, by omega⟩, q' _ ?_⟩
      unfold rnd
      rw [if_neg (by omega)]
    · have e : ¬ 0 ≤ n := fun z => e (decide_eq_true z)
      refine ⟨_, rfl, 0, n, rfl, rfl, _, rfl, _, d, rfl, rfl, ⟨by omega, by omega⟩, 0, _, rfl, rfl, q' _ ?_⟩
      unfold rnd
      rw [if_pos (by omega), Int.zero_sub, Int.zero_sub]
theorem ok_law_limited (T : Txt K mg) : FnOk P w K mg base CX0 2 T.f__law_limited T.d__law_limited ["number", "least", "most"] sp_limited := by
  refine T.F__law_limited.ok sc_law_limited (fun vs H Q E h => ?_) (fun cdv A outer s H vs Q E hr h => ?_)
  · obtain ⟨n, lo, hi, rfl, _⟩ := h
    rfl
  · obtain ⟨n, lo, hi, rfl, h1, q⟩ := h
    have q' : ∀ z, lim n lo hi = z → Q (.int z) H := fun z e => e ▸ q
    refine ⟨_,
(pss_one (ps_ret (pe_ifExp (pt_cmpR op_lt (pv 0) (pv 1) (nomark _)) (pv 1) (pe_ifExp (pt_cmpR op_gt (pv 0) (pv 2) (nomark _)) (pv 2) (pv 0)))))
, ?_⟩
    refine ⟨_, rfl, _, rfl, n, lo, rfl, rfl, _, rfl, ?_⟩
    refine ite2 (fun e => ?_) (fun e => ?_)
    · have e := of_decide_eq_true e
      refine ⟨_, rfl, q' _ ?_⟩
      unfold lim
      rw [if_pos e]
    · have e : ¬ n < lo := fun z => e (decide_eq_true z)
      refine ⟨_, rfl, _, rfl, n, hi, rfl, rfl, _, rfl, ?_⟩
      refine ite2 (fun e' => ?_) (fun e' => ?_)
      · have e' := of_decide_eq_true e'
        refine ⟨_, rfl, q' _ ?_⟩
        unfold lim
        rw [if_neg e, if_pos (by omega)]
      · have e' : ¬ hi < n := fun z => e' (decide_eq_true z)
        refine ⟨_, rfl, q' _ ?_⟩
        unfold lim
        rw [if_neg e, if_neg (by omega)]
set_option maxHeartbeats 4000000 in
theorem ok_law_led (T : Txt K mg) : FnOk P w K mg base CX0 3 T.f__law_led T.d__law_led ["coder", "here", "code"] (sp_state_behind K) := by
  refine T.F__law_led.ok sc_law_led (fun vs H Q E h => ?_) (fun cdv A outer s H vs Q E hr h => ?_)
  · obtain ⟨c, x, C, s, k, rfl, _⟩ := h
    rfl
  · obtain ⟨c, x, C, st, k, rfl, O, hc, hx, hst, hk, q⟩ := h
    obtain ⟨a, s, m, ms, rfl, ha, hs, hm, hmd⟩ := cod_at hc
    obtain ⟨t, ht, hT⟩ := move_at hmd hk
    obtain ⟨b, rfl, hb⟩ := dp_pair hx
    obtain ⟨i1, i2, i3, i4⟩ := hst
    have e2 : st.2 = (st.2.toNat : Int) := by omega
    refine ⟨_,
(pss_cons (ps_asg (pe_ix ix_tup (pe_ix ix_tup (pv 0) pe_int (fun _ _ => rfl)) (pv 2) (fun _ _ => rfl)) (pg_tup (by rfl) (pgs_cons (pg_name (i := 3) sc_law_led.nd rfl (Or.inl rfl)) (pgs_cons (pg_name (i := 4) sc_law_led.nd rfl (Or.inl rfl)) pgs_nil))))
      (pss_cons (ps_set (i := 5) sc_law_led.nd rfl (Or.inl rfl) (pe_ix ix_tup (pv 1) pe_int (fun _ _ => rfl)))
      (pss_cons (ps_if (pt_cmpR op_ne (pe_ix ix_tup (pv 0) pe_int (fun _ _ => rfl)) pe_int (nomark _)) (pss_one (ps_set (i := 5) sc_law_led.nd rfl (Or.inl rfl) (pe_op op_sub (pv 5) (pe_call (ok_law_parted T) (hr.mono (by decide)) (by rfl) T.g__law_parted T.F__law_parted.kp T.b__law_parted .nil pass0 (pa_cons (pv 5) (pa_cons (pe_ix ix_tup (pv 0) pe_int (fun _ _ => rfl)) pa_nil)))))) pss_nil)
      (pss_cons (ps_set (i := 5) sc_law_led.nd rfl (Or.inl rfl) (pe_op op_add (pv 5) (pe_call (ok_law_parted T) (hr.mono (by decide)) (by rfl) T.g__law_parted T.F__law_parted.kp T.b__law_parted .nil pass0 (pa_cons (pe_op op_mul (pv 3) (pe_ix ix_tup (pe_ix ix_tup (pv 0) pe_int (fun _ _ => rfl)) (pe_ix ix_tup (pv 1) pe_int (fun _ _ => rfl)) (fun _ _ => rfl))) (pa_cons pe_int pa_nil)))))
      (pss_one (ps_ret (pe_tup (pa_cons (pe_call (ok_law_limited T) (hr.mono (by decide)) (by rfl) T.g__law_limited T.F__law_limited.kp T.b__law_limited .nil pass0 (pa_cons (pv 5) (pa_cons (pe_ix ix_tup (pv 0) pe_int (fun _ _ => rfl)) (pa_cons (pe_ix ix_tup (pv 0) pe_int (fun _ _ => rfl)) pa_nil)))) (pa_cons (pe_call (ok_law_limited T) (hr.mono (by decide)) (by rfl) T.g__law_limited T.F__law_limited.kp T.b__law_limited .nil pass0 (pa_cons (pe_op op_add (pe_ix ix_tup (pv 1) pe_int (fun _ _ => rfl)) (pv 4)) (pa_cons pe_int (pa_cons (pe_op op_sub (pe_callB call_len_seq (by rfl) T.z_len (by decide +kernel) (pa_cons (pe_ix ix_tup (pv 0) pe_int (fun _ _ => rfl)) pa_nil)) pe_int) pa_nil)))) pa_nil)))))))))
, ?_⟩
    refine ⟨_, rfl, a, _, 3, _, rfl, rfl, ha, atI_nat (j := 3) rfl, _, rfl, m, _, k, _, rfl, rfl, hm, atI_nat ht, t, _, rfl, hT, rfl, _, _, rfl, _, _, rfl, rfl, ?_⟩
    refine ⟨_, rfl, b, _, 0, _, rfl, rfl, hb, atI_nat (j := 0) rfl, ?_⟩
    dsimp only
    refine st_tail (fun σ H' => σ = [some (.ref a), some (.ref b), some (.int k), some (.int (C.moves.getD k (0, 0)).1), some (.int (C.moves.getD k (0, 0)).2), some (.int (fdd st.1 C.fade))] ∧ H' = H) ?_ fun tail => ?_
    · rintro σ H' ⟨rfl, rfl⟩
      refine ⟨_, rfl, _, rfl, .ref a, rfl, a, _, 2, _, rfl, rfl, ha, atI_nat (j := 2) rfl, _, rfl, b, _, 1, _, rfl, rfl, hb, atI_nat (j := 1) rfl, s, _, st.2, .int (C.steps.getD st.2.toNat 0), rfl, rfl, hs, ?_, _, _, rfl, rfl, ?_, ?_⟩
      · rw [e2]
        exact atI_nat (step_at (by omega))
      · have hm3 : (C.moves.getD k (0, 0)) ∈ C.moves := by
          rw [List.getD_eq_getElem?_getD, List.getElem?_eq_getElem hk]
          exact List.getElem_mem hk
        have := O.m3 _ hm3
        exact .inl ⟨by omega, by omega⟩
      refine ⟨_, 8, rfl, by decide, by decide, _, _, rfl, rfl, ?_⟩
      refine ⟨_, rfl, _, rfl, a, _, 0, _, rfl, rfl, ha, atI_nat (j := 0) rfl, _, rfl, a, _, 1, _, rfl, rfl, ha, atI_nat (j := 1) rfl, _, _, _, rfl, by have := O.l2; have := O.h1; omega, ?_⟩
      refine ⟨_, rfl, b, _, 1, _, rfl, rfl, hb, atI_nat (j := 1) rfl, .int (C.moves.getD k (0, 0)).2, rfl, _, _, rfl, rfl, .ref a, rfl, a, _, 2, _, rfl, rfl, ha, atI_nat (j := 2) rfl, s, C.steps.map V.int, rfl, .inr hs, ((C.steps.map V.int).length : Int), 1, rfl, rfl, ?_⟩
      refine ⟨st.2 + (C.moves.getD k (0, 0)).2, 0, ((C.steps.map V.int).length : Int) - 1, rfl, ?_, ?_⟩
      · show (0 : Int) ≤ ((C.steps.map V.int).length : Int) - 1
        rw [List.length_map]
        have := O.s1
        omega
      refine ⟨by show 2 ≤ sizeLine; decide, fun p hp => ?_⟩
      have := q p hp
      unfold Cod.led at this
      have e : ((C.steps.map V.int).length : Int) = (C.steps.length : Int) := by rw [List.length_map]
      rw [← e] at this
      exact this
    · refine ⟨_, rfl, a, _, 4, _, rfl, rfl, ha, atI_nat (j := 4) rfl, rfl, _, rfl, ?_⟩
      show if (!decide (V.int C.fade = V.int 0)) = true then _ else _
      by_cases e : C.fade = 0
      · rw [e]
        refine iteF ?_
        refine tail _ _ ⟨?_, rfl⟩
        unfold fdd
        rw [if_pos e]
        rfl
      · have e' : decide (V.int C.fade = V.int 0) = false := decide_eq_false fun z => e (V.int.inj z)
        rw [e']
        refine iteT ?_
        refine ⟨.int st.1, rfl, .int st.1, rfl, .ref a, rfl, a, _, 4, _, rfl, rfl, ha, atI_nat (j := 4) rfl, st.1, C.fade, rfl, by have := O.f1; omega, by have := O.f1; omega, st.1, rnd st.1 C.fade, rfl, rfl, ?_⟩
        refine tail _ _ ⟨?_, rfl⟩
        unfold fdd
        rw [if_neg e]
        rfl
/-- the states of a row, the beginning one too -/
def Cod.path (C : Cod) (s : Int × Int) : List Nat → List (Int × Int)
  | [] => [s]
  | k :: r => s :: Cod.path C (C.led s k) r
theorem path_snoc {C : Cod} : ∀ (r : List Nat) (s : Int × Int) (k : Nat), C.path s (r ++ [k]) = C.path s r ++ [C.led (C.run s r) k]
  | [], _, _ => rfl
  | j :: r, s, k => by
    show s :: C.path (C.led s j) (r ++ [k]) = _
    rw [path_snoc r (C.led s j) k]
    rfl
theorem path_last {C : Cod} : ∀ (r : List Nat) (s : Int × Int), ∃ l, C.path s r = l ++ [C.run s r]
  | [], s => ⟨[], rfl⟩
  | j :: r, s => by
    obtain ⟨l, e⟩ := path_last r (C.led s j)
    exact ⟨s :: l, by show s :: C.path (C.led s j) r = _; rw [e]; rfl⟩
theorem path_len {C : Cod} : ∀ (r : List Nat) (s : Int × Int), (C.path s r).length = r.length + 1
  | [], _ => rfl
  | j :: r, s => congrArg (· + 1) (path_len r (C.led s j))
theorem path_get {C : Cod} : ∀ (r : List Nat) (s : Int × Int) (i : Nat), i ≤ r.length → (C.path s r)[i]? = some (C.run s (r.take i))
  | [], _, 0, _ => rfl
  | [], _, i + 1, h => by simp at h
  | j :: r, s, 0, _ => rfl
  | j :: r, s, i + 1, h => by
    show (C.path (C.led s j) r)[i]? = _
    exact path_get r _ i (by simpa using h)
theorem path_tail {C : Cod} : ∀ (r : List Nat) (s : Int × Int), ((C.path s r).drop 1).map (·.1) = C.lev s r
  | [], _ => rfl
  | [k], _ => rfl
  | k :: j :: r, s => by
    have ih := path_tail (C := C) (j :: r) (C.led s k)
    show (C.path (C.led s k) (j :: r)).map (·.1) = (C.led s k).1 :: C.lev (C.led s k) (j :: r)
    rw [← ih]
    rfl
def sp_law_walked (K : PySem.W.Frag) : Sp := fun vs H Q _ => ∃ (c x r : V) (C : Cod) (row : List Nat) (s : Int × Int), vs = [c, x, r] ∧ C.Ok ∧ Dp K H c C.dat ∧ Dp K H r (rowI row) ∧ C.Row row ∧ Dp K H x (pairI s) ∧ C.St s ∧
  ∀ p xs H', Same H H' → H p = none → H' p = some (.lst xs) → DpAll K H' xs ((C.path s row).map pairI) → Q (.ref p) H'
theorem ok_law_walked (T : Txt K mg) : FnOk P w K mg base CX0 4 T.f__law_walked T.d__law_walked ["coder", "here", "row"] (sp_law_walked K) := by
  refine T.F__law_walked.ok sc_law_walked (fun vs H Q E h => ?_) (fun cdv A outer s H vs Q E hr h => ?_)
  · obtain ⟨c, x, r, C, row, s, rfl, _⟩ := h
    rfl
  · obtain ⟨c, x, r, C, row, st, rfl, O, hc, hrow, R, hx, hst, q⟩ := h
    refine ⟨_,
(pss_cons (ps_set (i := 3) sc_law_walked.nd rfl (Or.inl rfl) (pe_lst (pa_cons (pv 1) pa_nil)))
      (pss_cons (ps_for PassesOwn.never rfl (pi_tup (pv 2)) (pg_name (i := 4) sc_law_walked.nd rfl (Or.inl rfl)) (pss_one (ps_expr (pe_bm PySem.F.plainAttrs_list PySem.F.slot_list_append PySem.F.type_list_append mt_append (pv 3) (pa_cons (pe_call (ok_law_led T) (hr.mono (by decide)) (by rfl) T.g__law_led T.F__law_led.kp T.b__law_led .nil pass0 (pa_cons (pv 0) (pa_cons (pe_ix ix_list (pv 3) (pe_un un_neg pe_int) (fun _ _ => rfl)) (pa_cons (pv 4) pa_nil)))) pa_nil)))))
      (pss_one (ps_ret (pv 3)))))
, ?_⟩
    refine ⟨x, rfl, by show 1 ≤ sizeLine; decide, fun l hl => ?_⟩
    have s1 := same_new (o := .lst [x]) hl
    obtain ⟨a, rfl, ha⟩ := row_at hrow
    refine ⟨.ref a, rfl, a, rfl, ⟨_, same_tup s1 ha⟩, ?_⟩
    refine for_tup (K := K) (a := a) (xs := rowV row) (fun i σ H' => ∃ xs y, σ = [some c, some x, some (.ref a), some (.ref l), y] ∧ Same H H' ∧ H' l = some (.lst xs) ∧ DpAll K H' xs ((C.path st (row.take i)).map pairI))
      ⟨[x], none, rfl, s1, upd_same, .cons (dp_same s1 _ _ hx) .nil⟩ ?_ ?_ ?_
    · rintro i σ H' _ ⟨_, _, _, s2, _⟩
      exact same_tup s2 ha
    · rintro i v σ H' hi ⟨xs, y, rfl, s2, hL, hD⟩
      obtain ⟨k, hk, rfl⟩ := rowV_get hi
      obtain ⟨ps, hps⟩ := path_last (C := C) (row.take i) st
      obtain ⟨x1, x2, rfl, z, e2, hz⟩ : ∃ x1 x2, xs = x1 ++ x2 ∧ ∃ z, x2 = [z] ∧ Dp K H' z (pairI (C.run st (row.take i))) := by
        have hl2 := dpAll_len hD
        rw [hps] at hD hl2
        have hne : xs ≠ [] := by
          intro e
          rw [e] at hl2
          simp at hl2
        refine ⟨xs.dropLast, [xs.getLast hne], (List.dropLast_concat_getLast hne).symm, _, rfl, ?_⟩
        obtain ⟨z, hz, hd⟩ := dpAll_get' hD (i := ps.length) (d := pairI (C.run st (row.take i))) (by rw [List.map_append, List.getElem?_append_right (by simp)]; simp)
        have hxl : xs.length = ps.length + 1 := by rw [hl2]; simp
        have : xs.getLast hne = z := by
          rw [List.getLast_eq_getElem]
          have e : xs[xs.length - 1]? = some z := by rw [hxl]; exact hz
          exact (List.getElem?_eq_some_iff.mp e).2
        rw [this]
        exact hd
      subst e2
      have hlen : i < 2000 := by
        have h1 := (List.getElem?_eq_some_iff.mp hk).1
        have := R.len
        omega
      refine ⟨.ref l, rfl, .inl ⟨rfl, _, SqL.of hL⟩, c, rfl, .ref l, rfl, 1, rfl, l, _, -1, z, rfl, rfl, SqL.of hL, atI_last _ _, .int k, rfl, c, z, C, _, k, rfl, O, dp_same s2 _ _ hc, hz, run_St O _ hst, R.lt k (List.mem_of_getElem? hk), fun p hp => ?_⟩
      have s3 := s2.trans (same_new (o := .tup [.int (C.led (C.run st (row.take i)) k).1, .int (C.led (C.run st (row.take i)) k).2]) hp)
      have hL3 := same_new (o := .tup [.int (C.led (C.run st (row.take i)) k).1, .int (C.led (C.run st (row.take i)) k).2]) hp _ _ hL
      have hD3 := dpAll_same (same_new (o := .tup [.int (C.led (C.run st (row.take i)) k).1, .int (C.led (C.run st (row.take i)) k).2]) hp) _ _ hD
      refine ⟨l, _, _, rfl, rfl, hL3, ?_, ?_⟩
      · rw [dpAll_len hD, List.length_map, path_len, List.length_take]
        exact Nat.lt_of_le_of_lt (Nat.add_le_add_right (Nat.min_le_left _ _) 1) (by have : i + 1 ≤ 2000 := hlen; exact Nat.lt_of_le_of_lt this (by decide))
      · refine ⟨_, _, rfl, fun b o hb => ?_, upd_same, ?_⟩
        · rw [upd_ne (ne_of_none hb hl)]
          exact s3 b o hb
        · rw [take_snoc hk, path_snoc, List.map_append]
          exact dpAll_app (pairs_set hL3 hD3) (.cons (dp_mkpair (sqt_set hL3 upd_tup)) .nil)
    · rintro σ H' ⟨xs, y, rfl, s2, hL, hD⟩
      have e : row.take (rowV row).length = row := by
        unfold rowV
        rw [List.length_map, List.take_length]
      rw [e] at hD
      exact ⟨.ref l, rfl, q l xs H' s2 hl hL hD⟩
end
end My

namespace My
open PySem PySem.Spec PyProof.Rows L2
/-! ### what rows do to places and levels -/
def Cod.plc (C : Cod) (p : Int) (k : Nat) : Int := lim (p + (C.moves.getD k (0, 0)).2) 0 ((C.steps.length : Int) - 1)
def Cod.pl (C : Cod) (p : Int) : List Nat → Int
  | [] => p
  | k :: r => Cod.pl C (C.plc p k) r
def Cod.chs (C : Cod) (p : Int) : List Nat → List Int
  | [] => []
  | k :: r => C.chg k p.toNat :: Cod.chs C (C.plc p k) r
def Cod.lvc (C : Cod) (l c : Int) : Int := lim (fdd l C.fade + c) C.low C.high
def Cod.lv (C : Cod) (l : Int) : List Int → Int
  | [] => l
  | c :: r => Cod.lv C (C.lvc l c) r
theorem run_split {C : Cod} : ∀ (row : List Nat) (l p : Int), C.run (l, p) row = (C.lv l (C.chs p row), C.pl p row)
  | [], _, _ => rfl
  | k :: r, l, p => run_split r (C.lvc l (C.chg k p.toNat)) (C.plc p k)
theorem run_eq {C : Cod} (row : List Nat) (s : Int × Int) : C.run s row = (C.lv s.1 (C.chs s.2 row), C.pl s.2 row) := run_split row s.1 s.2
theorem pl_snoc {C : Cod} : ∀ (r : List Nat) (p : Int) (k : Nat), C.pl p (r ++ [k]) = C.plc (C.pl p r) k
  | [], _, _ => rfl
  | j :: r, p, k => pl_snoc r (C.plc p j) k
theorem chs_snoc {C : Cod} : ∀ (r : List Nat) (p : Int) (k : Nat), C.chs p (r ++ [k]) = C.chs p r ++ [C.chg k (C.pl p r).toNat]
  | [], _, _ => rfl
  | j :: r, p, k => congrArg (C.chg j p.toNat :: ·) (chs_snoc r (C.plc p j) k)
theorem chs_len {C : Cod} : ∀ (r : List Nat) (p : Int), (C.chs p r).length = r.length
  | [], _ => rfl
  | _ :: r, _ => congrArg (· + 1) (chs_len r _)
theorem lv_snoc {C : Cod} : ∀ (r : List Int) (l c : Int), C.lv l (r ++ [c]) = C.lvc (C.lv l r) c
  | [], _, _ => rfl
  | j :: r, l, c => lv_snoc r (C.lvc l j) c
def Cod.pIn (C : Cod) (p : Int) : Prop := 0 ≤ p ∧ p ≤ (C.steps.length : Int) - 1
def Cod.lIn (C : Cod) (l : Int) : Prop := C.low ≤ l ∧ l ≤ C.high
theorem plc_in {C : Cod} (O : C.Ok) (p : Int) (k : Nat) : C.pIn (C.plc p k) := lim_in (by have := O.s1; omega)
theorem lvc_in {C : Cod} (O : C.Ok) (l c : Int) : C.lIn (C.lvc l c) := lim_in (by have := O.l2; have := O.h1; omega)
theorem pl_in {C : Cod} (O : C.Ok) : ∀ (r : List Nat) {p : Int}, C.pIn p → C.pIn (C.pl p r)
  | [], _, h => h
  | k :: r, p, _ => pl_in O r (plc_in O p k)
theorem lv_in {C : Cod} (O : C.Ok) : ∀ (r : List Int) {l : Int}, C.lIn l → C.lIn (C.lv l r)
  | [], _, h => h
  | c :: r, l, _ => lv_in O r (lvc_in O l c)
theorem lim_mono {a b lo hi : Int} (h : a ≤ b) (hl : lo ≤ hi) : lim a lo hi ≤ lim b lo hi := by
  unfold lim
  split <;> split <;> (try split) <;> omega
theorem lim_step {a b lo hi : Int} (h : a ≤ b) (h1 : b ≤ a + 1) (hl : lo ≤ hi) : lim b lo hi ≤ lim a lo hi + 1 := by
  unfold lim
  split <;> split <;> (try split) <;> omega
theorem div_next {a f : Int} (hf : 2 ≤ f) : (a + 1) / f ≤ a / f + 1 := by
  have h : (a + f) / f = a / f + 1 := Int.add_ediv_of_dvd_right (Int.dvd_refl f) |>.trans (by rw [Int.ediv_self (by omega)])
  rw [← h]
  exact Int.ediv_le_ediv (by omega) (by omega)
theorem rnd_next {a f : Int} (hf : 2 ≤ f) : rnd a f ≤ rnd (a + 1) f ∧ rnd (a + 1) f ≤ rnd a f + 1 := by
  unfold rnd
  split
  · rename_i h
    rw [Int.fdiv_eq_ediv_of_nonneg _ (by omega)]
    split
    · rw [Int.fdiv_eq_ediv_of_nonneg _ (by omega)]
      have h1 := div_next (a := -(a + 1)) hf
      have h2 : -(a + 1) / f ≤ -a / f := Int.ediv_le_ediv (by omega) (by omega)
      rw [show -(a + 1) + 1 = -a by omega] at h1
      omega
    · rw [Int.fdiv_eq_ediv_of_nonneg _ (by omega)]
      have e : a = -1 := by omega
      subst e
      have h0 : (0 : Int) / f = 0 := Int.zero_ediv f
      have h1 : (1 : Int) / f = 0 := Int.ediv_eq_zero_of_lt (by omega) (by omega)
      simp [h0, h1]
  · rename_i h
    rw [if_neg (by omega), Int.fdiv_eq_ediv_of_nonneg _ (by omega), Int.fdiv_eq_ediv_of_nonneg _ (by omega)]
    exact ⟨Int.ediv_le_ediv (by omega) (by omega), div_next hf⟩
theorem fdd_next {a f : Int} (hf : f = 0 ∨ 2 ≤ f) : fdd a f ≤ fdd (a + 1) f ∧ fdd (a + 1) f ≤ fdd a f + 1 := by
  unfold fdd
  split
  · omega
  · have := rnd_next (a := a) (f := f) (by omega)
    omega
theorem lvc_next {C : Cod} (O : C.Ok) (l c : Int) : C.lvc l c ≤ C.lvc (l + 1) c ∧ C.lvc (l + 1) c ≤ C.lvc l c + 1 := by
  have h := fdd_next (a := l) (f := C.fade) (by have := O.f1; omega)
  have hl : C.low ≤ C.high := by have := O.l2; have := O.h1; omega
  exact ⟨lim_mono (by omega) hl, lim_step (by omega) (by omega) hl⟩
theorem mono_of_next {f : Int → Int} (h : ∀ a, f a ≤ f (a + 1)) {a b : Int} (hab : a ≤ b) : f a ≤ f b := by
  obtain ⟨n, rfl⟩ : ∃ n : Nat, b = a + n := ⟨(b - a).toNat, by omega⟩
  clear hab
  induction n with
  | zero => simp
  | succ n ih =>
    have := h (a + n)
    rw [show a + ((n + 1 : Nat) : Int) = a + n + 1 by omega]
    omega
theorem lv_next {C : Cod} (O : C.Ok) : ∀ (r : List Int) (l m : Int), l ≤ m → m ≤ l + 1 → C.lv l r ≤ C.lv m r ∧ C.lv m r ≤ C.lv l r + 1
  | [], l, m, h1, h2 => ⟨h1, h2⟩
  | c :: r, l, m, h1, h2 => by
    have h : m = l ∨ m = l + 1 := by omega
    rcases h with e | e
    · subst e
      exact ⟨Int.le_refl _, by omega⟩
    · subst e
      have := lvc_next O l c
      exact lv_next O r _ _ this.1 this.2
theorem lv_mono {C : Cod} (O : C.Ok) (r : List Int) {a b : Int} (h : a ≤ b) : C.lv a r ≤ C.lv b r :=
  mono_of_next (f := fun l => C.lv l r) (fun a => (lv_next O r a (a + 1) (by omega) (by omega)).1) h
theorem pl_mono {C : Cod} (O : C.Ok) : ∀ (r : List Nat) {a b : Int}, a ≤ b → C.pl a r ≤ C.pl b r
  | [], _, _, h => h
  | k :: r, a, b, h => pl_mono O r (lim_mono (by omega) (by have := O.s1; omega))
/-- without a fade: three integers tell the map -/
theorem lv_limits {C : Cod} (O : C.Ok) (h0 : C.fade = 0) (l : Int) (hl : C.lIn l) : ∀ (r : List Int),
    C.lv l r = lim (l + r.sum) (C.lv C.low r) (C.lv C.high r) := by
  have key : ∀ (n : Nat) (r : List Int), r.length = n → C.lv l r = lim (l + r.sum) (C.lv C.low r) (C.lv C.high r) ∧ C.lv C.low r ≤ C.lv C.high r := by
    intro n
    induction n with
    | zero =>
      intro r hr
      have e : r = [] := List.length_eq_zero_iff.mp hr
      subst e
      have := hl.1
      have := hl.2
      refine ⟨?_, by show C.low ≤ C.high; omega⟩
      show l = lim (l + 0) C.low C.high
      unfold lim
      rw [if_neg (by omega), if_neg (by omega)]
      omega
    | succ n ih =>
      intro r hr
      obtain ⟨q, c, rfl⟩ : ∃ q c, r = q ++ [c] := ⟨r.dropLast, r.getLast (by intro e; rw [e] at hr; cases hr), (List.dropLast_concat_getLast _).symm⟩
      have hq : q.length = n := by simp at hr; exact hr
      obtain ⟨e, hle⟩ := ih q hq
      rw [lv_snoc, lv_snoc, lv_snoc, e]
      have hs : (q ++ [c]).sum = q.sum + c := by simp
      rw [hs]
      unfold Cod.lvc fdd
      rw [if_pos h0, if_pos h0, if_pos h0]
      have hlh : C.low ≤ C.high := by have := O.l2; have := O.h1; omega
      generalize C.lv C.low q = A at *
      generalize C.lv C.high q = B at *
      generalize q.sum = S
      refine ⟨?_, lim_mono (by omega) hlh⟩
      unfold lim
      (repeat' split) <;> omega
  exact fun r => (key r.length r rfl).1
theorem lv_lim_le {C : Cod} (O : C.Ok) (r : List Int) : C.lv C.low r ≤ C.lv C.high r := lv_mono O r (by have := O.l2; have := O.h1; omega)
/-! ### repetitions -/
def itr (f : Int → Int) : Nat → Int → Int
  | 0, x => x
  | n + 1, x => f (itr f n x)
theorem itr_in {f : Int → Int} {lo hi x : Int} (hf : ∀ y, lo ≤ y ∧ y ≤ hi → lo ≤ f y ∧ f y ≤ hi) (hx : lo ≤ x ∧ x ≤ hi) : ∀ n, lo ≤ itr f n x ∧ itr f n x ≤ hi
  | 0 => hx
  | n + 1 => hf _ (itr_in hf hx n)
theorem itr_le {f : Int → Int} {lo hi x : Int} (hf : ∀ y, lo ≤ y ∧ y ≤ hi → lo ≤ f y ∧ f y ≤ hi) (hm : ∀ a b, a ≤ b → f a ≤ f b) (hx : lo ≤ x ∧ x ≤ hi)
    {n : Nat} (h : ∀ j < n, itr f (j + 1) x ≠ itr f j x) : (n : Int) ≤ hi - lo := by
  rcases Int.le_total x (f x) with hd | hd
  · have up : ∀ j, itr f j x ≤ itr f (j + 1) x := by
      intro j
      induction j with
      | zero => exact hd
      | succ j ih => exact hm _ _ ih
    have : ∀ j ≤ n, x + (j : Int) ≤ itr f j x := by
      intro j
      induction j with
      | zero => intro _; show x + 0 ≤ x; omega
      | succ j ih =>
        intro hj
        have h1 := ih (by omega)
        have h2 := up j
        have h3 := h j (by omega)
        omega
    have h1 := this n (Nat.le_refl _)
    have h2 := itr_in hf hx n
    omega
  · have dn : ∀ j, itr f (j + 1) x ≤ itr f j x := by
      intro j
      induction j with
      | zero => exact hd
      | succ j ih => exact hm _ _ ih
    have : ∀ j ≤ n, itr f j x ≤ x - (j : Int) := by
      intro j
      induction j with
      | zero => intro _; show x ≤ x - 0; omega
      | succ j ih =>
        intro hj
        have h1 := ih (by omega)
        have h2 := dn j
        have h3 := h j (by omega)
        omega
    have h1 := this n (Nat.le_refl _)
    have h2 := itr_in hf hx n
    omega
theorem itr_rest {f : Int → Int} {x : Int} {n : Nat} (h : itr f (n + 1) x = itr f n x) : ∀ k, itr f (n + k) x = itr f n x
  | 0 => rfl
  | k + 1 => by
    show f (itr f (n + k) x) = _
    rw [itr_rest h k]
    exact h
def Cod.rep (C : Cod) (row : List Nat) (s : Int × Int) : Nat → Int × Int
  | 0 => s
  | n + 1 => C.run (Cod.rep C row s n) row
theorem rep_St {C : Cod} (O : C.Ok) {row : List Nat} {s : Int × Int} (h : C.St s) : ∀ n, C.St (C.rep row s n)
  | 0 => h
  | n + 1 => run_St O row (rep_St O h n)
theorem rep_pl {C : Cod} {row : List Nat} {s : Int × Int} : ∀ n, (C.rep row s n).2 = itr (fun p => C.pl p row) n s.2
  | 0 => rfl
  | n + 1 => by
    show (C.run (C.rep row s n) row).2 = C.pl (itr (fun p => C.pl p row) n s.2) row
    rw [run_eq, ← rep_pl n]
theorem rep_lv {C : Cod} {row : List Nat} {s : Int × Int} {P : Nat} (hP : (C.rep row s (P + 1)).2 = (C.rep row s P).2) :
    ∀ j, C.rep row s (P + j) = (itr (fun l => C.lv l (C.chs (C.rep row s P).2 row)) j (C.rep row s P).1, (C.rep row s P).2)
  | 0 => rfl
  | j + 1 => by
    show C.run (C.rep row s (P + j)) row = _
    rw [rep_lv hP j, run_eq]
    have e : C.pl (C.rep row s P).2 row = (C.rep row s P).2 := by
      have : (C.run (C.rep row s P) row).2 = (C.rep row s P).2 := hP
      rw [run_eq] at this
      exact this
    rw [e]
    rfl
theorem rep_rest {C : Cod} {row : List Nat} {s : Int × Int} {T : Nat} (h : C.rep row s (T + 1) = C.rep row s T) : ∀ k, C.rep row s (T + k) = C.rep row s T
  | 0 => rfl
  | k + 1 => by
    show C.run (C.rep row s (T + k)) row = _
    rw [rep_rest h k]
    exact h
/-- the places come to rest behind just P repetitions -/
structure Rests (C : Cod) (row : List Nat) (s : Int × Int) (P : Nat) : Prop where
  mv : ∀ j < P, (C.rep row s (j + 1)).2 ≠ (C.rep row s j).2
  st : (C.rep row s (P + 1)).2 = (C.rep row s P).2
/-- the row settles behind just T repetitions, the place with P of them -/
structure Settles (C : Cod) (row : List Nat) (s : Int × Int) (T P : Nat) : Prop where
  mv : ∀ j < T, C.rep row s (j + 1) ≠ C.rep row s j
  st : C.rep row s (T + 1) = C.rep row s T
  pl : (C.rep row s (P + 1)).2 = (C.rep row s P).2
  pT : P ≤ T
  pm : (P : Int) ≤ (C.steps.length : Int) - 1
  tm : (T : Int) ≤ (C.steps.length : Int) - 1 + (C.high - C.low)
theorem places_le {C : Cod} (O : C.Ok) {row : List Nat} {s : Int × Int} (hs : C.St s) {n : Nat} (h : ∀ j < n, (C.rep row s (j + 1)).2 ≠ (C.rep row s j).2) : (n : Int) ≤ (C.steps.length : Int) - 1 := by
  have := itr_le (f := fun p => C.pl p row) (lo := 0) (hi := (C.steps.length : Int) - 1) (x := s.2) (fun y hy => pl_in O row hy) (fun a b hab => pl_mono O row hab) ⟨hs.2.2.1, by have := hs.2.2.2; omega⟩
    (n := n) (fun j hj => by rw [← rep_pl, ← rep_pl]; exact h j hj)
  omega
theorem levels_le {C : Cod} (O : C.Ok) {cs : List Int} {l : Int} (hl : C.lIn l) {n : Nat} (h : ∀ j < n, itr (fun l => C.lv l cs) (j + 1) l ≠ itr (fun l => C.lv l cs) j l) : (n : Int) ≤ C.high - C.low :=
  itr_le (f := fun l => C.lv l cs) (fun _ hy => lv_in O cs hy) (fun _ _ hab => lv_mono O cs hab) hl h
theorem settles_of {C : Cod} (O : C.Ok) {row : List Nat} {s : Int × Int} (hs : C.St s) {P Q : Nat} (r : Rests C row s P)
    (mv : ∀ j < Q, itr (fun l => C.lv l (C.chs (C.rep row s P).2 row)) (j + 1) (C.rep row s P).1 ≠ itr (fun l => C.lv l (C.chs (C.rep row s P).2 row)) j (C.rep row s P).1)
    (st : itr (fun l => C.lv l (C.chs (C.rep row s P).2 row)) (Q + 1) (C.rep row s P).1 = itr (fun l => C.lv l (C.chs (C.rep row s P).2 row)) Q (C.rep row s P).1) : Settles C row s (P + Q) P := by
  have h1 := places_le O hs r.mv
  have hS := rep_St O (row := row) hs P
  have h2 := levels_le O ⟨hS.1, hS.2.1⟩ mv
  refine ⟨fun j hj e => ?_, ?_, r.st, by omega, h1, by omega⟩
  · rcases Nat.lt_or_ge j P with h | h
    · exact r.mv j h (by rw [e])
    · obtain ⟨i, rfl⟩ : ∃ i, j = P + i := ⟨j - P, by omega⟩
      have e' : C.rep row s (P + (i + 1)) = C.rep row s (P + i) := e
      rw [rep_lv r.st, rep_lv r.st] at e'
      exact mv i (by omega) (congrArg Prod.fst e')
  · show C.rep row s (P + (Q + 1)) = _
    rw [rep_lv r.st, rep_lv r.st, st]
end My

namespace My
open PySem PySem.Spec PyProof.Rows L2
theorem same_put {H H' : Hp} {p : Addr} {o : HO} (s : Same H H') (h : H p = none) : Same H (upd H' p o) := fun b u e => by
  rw [upd_ne (ne_of_none e h)]
  exact s b u e
theorem cut2 (a b c d e : V) : cutV [a, b, c, d, e] none (some 2) = [a, b] := rfl
theorem cut3 (a b c d e : V) : cutV [a, b, c, d, e] none (some 3) = [a, b, c] := rfl
def Cod.reps (C : Cod) (row : List Nat) (s : Int × Int) (n : Nat) : List (Int × Int) := (List.range n).map (C.rep row s)
theorem reps_succ {C : Cod} {row : List Nat} {s : Int × Int} (n : Nat) : C.reps row s (n + 1) = C.reps row s n ++ [C.rep row s n] := by
  unfold Cod.reps
  rw [List.range_succ, List.map_append]
  rfl
theorem reps_len {C : Cod} {row : List Nat} {s : Int × Int} (n : Nat) : (C.reps row s n).length = n := by
  unfold Cod.reps
  rw [List.length_map, List.length_range]
/-- what one more repetition makes of a level, without a fade by three integers -/
def Cod.lim3 (C : Cod) (cs : List Int) : Int × Int × Int := (cs.sum, C.lv C.low cs, C.lv C.high cs)
section
variable {P : Program} {w : World} {K : PySem.W.Frag} {mg : Str → Option Value} {base : Heap}
def sp_changes (K : PySem.W.Frag) : Sp := fun vs H Q _ => ∃ (c r : V) (C : Cod) (row : List Nat) (p : Int), vs = [c, r, .int p] ∧ C.Ok ∧ Dp K H c C.dat ∧ Dp K H r (rowI row) ∧ C.Row row ∧ C.pIn p ∧
  ∀ t l H', Same H H' → H l = none → H' l = some (.lst ((C.chs p row).map V.int)) → SqT K H' t [.ref l, .int (C.pl p row)] → Q (.ref t) H'
theorem ok_changes_along (T : Txt K mg) : FnOk P w K mg base CX0 4 T.f_changes_along T.d_changes_along ["coder", "row", "place"] (sp_changes K) := by
  refine T.F_changes_along.ok sc_changes_along (fun vs H Q E h => ?_) (fun cdv A outer s H vs Q E hr h => ?_)
  · obtain ⟨c, r, C, row, p, rfl, _⟩ := h
    rfl
  · obtain ⟨c, r, C, row, p, rfl, O, hc, hrow, R, hp, q⟩ := h
    refine ⟨_,
(pss_cons (ps_set (i := 3) sc_changes_along.nd rfl (Or.inl rfl) (pe_op op_sub (pe_callB call_len_seq (by rfl) T.z_len (by decide +kernel) (pa_cons (pe_ix ix_tup (pv 0) pe_int (fun _ _ => rfl)) pa_nil)) pe_int))
      (pss_cons (ps_set (i := 4) sc_changes_along.nd rfl (Or.inl rfl) (pe_lst pa_nil))
      (pss_cons (ps_set (i := 5) sc_changes_along.nd rfl (Or.inl rfl) (pv 2))
      (pss_cons (ps_for PassesOwn.never rfl (pi_tup (pv 1)) (pg_name (i := 6) sc_changes_along.nd rfl (Or.inl rfl)) (pss_cons (ps_expr (pe_bm PySem.F.plainAttrs_list PySem.F.slot_list_append PySem.F.type_list_append mt_append (pv 4) (pa_cons (pe_call (ok_change_at T) (hr.mono (by decide)) (by rfl) T.g_change_at T.F_change_at.kp T.b_change_at .nil pass0 (pa_cons (pv 0) (pa_cons (pv 6) (pa_cons (pv 5) pa_nil)))) pa_nil)))
      (pss_one (ps_set (i := 5) sc_changes_along.nd rfl (Or.inl rfl) (pe_call (ok_limited T) (hr.mono (by decide)) (by rfl) T.g_limited T.F_limited.kp T.b_limited .nil pass0 (pa_cons (pe_op op_add (pv 5) (pe_ix ix_tup (pe_ix ix_tup (pe_ix ix_tup (pv 0) pe_int (fun _ _ => rfl)) (pv 6) (fun _ _ => rfl)) pe_int (fun _ _ => rfl))) (pa_cons pe_int (pa_cons (pv 3) pa_nil))))))))
      (pss_one (ps_ret (pe_tup (pa_cons (pv 4) (pa_cons (pv 5) pa_nil)))))))))
, ?_⟩
    have hc' := hc
    obtain ⟨a, s, m, ms, rfl, ha, hs, hm, hmd⟩ := cod_at hc
    obtain ⟨ra, rfl, hra⟩ := row_at hrow
    refine ⟨_, rfl, a, _, 2, .ref s, rfl, rfl, ha, atI_nat (j := 2) rfl, s, _, rfl, .inr hs, _, _, rfl, rfl, ?_⟩
    refine ⟨Nat.zero_le _, fun l hl => ?_⟩
    have s1 := same_new (o := .lst []) hl
    refine ⟨_, rfl, .ref ra, rfl, ra, rfl, ⟨_, same_tup s1 hra⟩, ?_⟩
    have el : ((C.steps.map V.int).length : Int) = (C.steps.length : Int) := by rw [List.length_map]
    refine for_tup (K := K) (a := ra) (xs := rowV row) (fun i σ H' => ∃ y, σ = [some (.ref a), some (.ref ra), some (.int p), some (.int (((C.steps.map V.int).length : Int) - 1)), some (.ref l), some (.int (C.pl p (row.take i))), y] ∧ Same H H' ∧
      H' l = some (.lst ((C.chs p (row.take i)).map V.int))) ⟨none, rfl, s1, upd_same⟩ ?_ ?_ ?_
    · rintro i σ H' _ ⟨_, _, s2, _⟩
      exact same_tup s2 hra
    · rintro i v σ H' hi ⟨y, rfl, s2, hL⟩
      obtain ⟨k, hk, rfl⟩ := rowV_get hi
      have hkm := R.lt k (List.mem_of_getElem? hk)
      have hq := pl_in O (row.take i) hp
      have hlen : i < 2000 := by
        have h1 := (List.getElem?_eq_some_iff.mp hk).1
        have := R.len
        omega
      generalize hP : C.pl p (row.take i) = pp at hq
      obtain ⟨q1, q2⟩ := hq
      have ep : pp = (pp.toNat : Int) := by omega
      obtain ⟨t, ht, hT⟩ := move_at hmd hkm
      refine ⟨.ref l, rfl, .inl ⟨rfl, _, SqL.of hL⟩, .ref a, rfl, .int k, rfl, .int pp, rfl, .ref a, C, k, pp.toNat, by show [V.ref a, V.int (k : Int), V.int pp] = _; rw [← ep], O, dp_same s2 _ _ hc', hkm, by omega, l, _, _, rfl, rfl, hL, ?_, ?_⟩
      · rw [List.length_map, chs_len, List.length_take]
        exact Nat.lt_of_le_of_lt (Nat.min_le_left _ _) (Nat.lt_trans hlen (by decide))
      have s3 := same_put (o := .lst ((C.chs p (row.take i)).map V.int ++ [V.int (C.chg k pp.toNat)])) s2 hl
      refine ⟨_, rfl, _, rfl, a, _, 3, _, rfl, rfl, same_tup s3 ha, atI_nat (j := 3) rfl, _, rfl, m, _, k, _, rfl, rfl, same_tup s3 hm, atI_nat ht, t, _, 1, _, rfl, rfl, same_tup s3 hT, atI_nat (j := 1) rfl, _, _, rfl, rfl, _, rfl, _, _, _, rfl, ?_, ?_⟩
      · have := O.s1
        omega
      · refine ⟨some (.int k), ?_, s3, ?_⟩
        · rw [take_snoc hk, pl_snoc, hP, el]
          rfl
        · rw [upd_same, take_snoc hk, chs_snoc, hP, List.map_append]
          rfl
    · rintro σ H' ⟨y, rfl, s2, hL⟩
      have e : row.take (rowV row).length = row := by
        unfold rowV
        rw [List.length_map, List.take_length]
      rw [e] at hL ⊢
      refine ⟨_, rfl, _, rfl, by show 2 ≤ sizeLine; decide, fun t ht => ?_⟩
      have s3 := same_new (o := .tup [.ref l, .int (C.pl p row)]) ht
      exact q t l _ (s2.trans s3) hl (s3 _ _ hL) upd_tup
def sp_level (K : PySem.W.Frag) : Sp := fun vs H Q _ => ∃ (c : V) (l : Addr) (C : Cod) (cs : List Int) (x : Int), vs = [c, .ref l, .int x] ∧ C.Ok ∧ Dp K H c C.dat ∧ SqL K H l (cs.map V.int) ∧
  ∀ H', Same H H' → Q (.int (C.lv x cs)) H'
theorem ok_level_behind (T : Txt K mg) : FnOk P w K mg base CX0 4 T.f_level_behind T.d_level_behind ["coder", "changes", "level"] (sp_level K) := by
  refine T.F_level_behind.ok sc_level_behind (fun vs H Q E h => ?_) (fun cdv A outer s H vs Q E hr h => ?_)
  · obtain ⟨c, l, C, cs, x, rfl, _⟩ := h
    rfl
  · obtain ⟨c, l, C, cs, x, rfl, O, hc, hL, q⟩ := h
    refine ⟨_,
(pss_cons (ps_par3 (i := 3) (j := 4) (l := 5) (by rfl) sc_level_behind.nd rfl rfl rfl (by decide) (by decide) (by decide) rfl rfl rfl (pa_cons (pe_ix ix_tup (pv 0) pe_int (fun _ _ => rfl)) (pa_cons (pe_ix ix_tup (pv 0) pe_int (fun _ _ => rfl)) (pa_cons (pe_ix ix_tup (pv 0) pe_int (fun _ _ => rfl)) pa_nil))) (by rfl))
      (pss_cons (ps_set (i := 6) sc_level_behind.nd rfl (Or.inl rfl) (pv 2))
      (pss_cons (ps_for PassesOwn.never rfl (pi_list (pv 1)) (pg_name (i := 7) sc_level_behind.nd rfl (Or.inl rfl)) (pss_one (ps_set (i := 6) sc_level_behind.nd rfl (Or.inl rfl) (pe_call (ok_limited T) (hr.mono (by decide)) (by rfl) T.g_limited T.F_limited.kp T.b_limited .nil pass0 (pa_cons (pe_op op_add (pe_call (ok_faded T) (hr.mono (by decide)) (by rfl) T.g_faded T.F_faded.kp T.b_faded .nil pass0 (pa_cons (pv 6) (pa_cons (pv 5) pa_nil))) (pv 7)) (pa_cons (pv 3) (pa_cons (pv 4) pa_nil)))))))
      (pss_one (ps_ret (pv 6))))))
, ?_⟩
    obtain ⟨a, s, m, ms, rfl, ha, hs, hm, hmd⟩ := cod_at hc
    refine ⟨_, rfl, a, _, 0, _, rfl, rfl, ha, atI_nat (j := 0) rfl, _, rfl, a, _, 1, _, rfl, rfl, ha, atI_nat (j := 1) rfl, _, rfl, a, _, 4, _, rfl, rfl, ha, atI_nat (j := 4) rfl, _, _, _, rfl, ?_⟩
    refine ⟨_, rfl, .ref l, rfl, l, rfl, ⟨_, hL⟩, ?_⟩
    refine for_list (K := K) (a := l) (xs := cs.map V.int) (fun i σ H' => ∃ y, σ = [some (.ref a), some (.ref l), some (.int x), some (.int C.low), some (.int C.high), some (.int C.fade), some (.int (C.lv x (cs.take i))), y] ∧ Same H H') ⟨none, rfl, Same.refl H⟩ ?_ ?_ ?_
    · rintro i σ H' _ ⟨_, _, s2⟩
      exact s2.seq hL
    · rintro i v σ H' hi ⟨y, rfl, s2⟩
      obtain ⟨d, hd, rfl⟩ : ∃ d, cs[i]? = some d ∧ v = .int d := by
        rw [List.getElem?_map] at hi
        cases e : cs[i]? with
        | none => rw [e] at hi; cases hi
        | some d => rw [e] at hi; exact ⟨d, rfl, (Option.some.inj hi).symm⟩
      refine ⟨_, rfl, _, rfl, _, C.fade, rfl, O.f1, _, rfl, _, _, rfl, rfl, _, rfl, _, rfl, _, _, _, rfl, ?_, ?_⟩
      · have := O.l2
        have := O.h1
        omega
      · refine ⟨some (.int d), ?_, s2⟩
        rw [take_snoc hd, lv_snoc]
        rfl
    · rintro σ H' ⟨y, rfl, s2⟩
      have e : cs.take (cs.map V.int).length = cs := by rw [List.length_map, List.take_length]
      rw [e]
      exact ⟨_, rfl, q H' s2⟩
def sp_limits (K : PySem.W.Frag) : Sp := fun vs H Q _ => ∃ (c : V) (l : Addr) (C : Cod) (cs : List Int), vs = [c, .ref l] ∧ C.Ok ∧ Dp K H c C.dat ∧ SqL K H l (cs.map V.int) ∧
  ∀ t H', Same H H' → SqT K H' t [.int cs.sum, .int (C.lv C.low cs), .int (C.lv C.high cs)] → Q (.ref t) H'
theorem ok_limits_behind (T : Txt K mg) : FnOk P w K mg base CX0 5 T.f_limits_behind T.d_limits_behind ["coder", "changes"] (sp_limits K) := by
  refine T.F_limits_behind.ok sc_limits_behind (fun vs H Q E h => ?_) (fun cdv A outer s H vs Q E hr h => ?_)
  · obtain ⟨c, l, C, cs, rfl, _⟩ := h
    rfl
  · obtain ⟨c, l, C, cs, rfl, O, hc, hL, q⟩ := h
    refine ⟨_,
(pss_cons (ps_asg (pe_slice sl_tupA (pv 0) po_none (po_some pe_int)) (pg_tup (by rfl) (pgs_cons (pg_name (i := 2) sc_limits_behind.nd rfl (Or.inl rfl)) (pgs_cons (pg_name (i := 3) sc_limits_behind.nd rfl (Or.inl rfl)) pgs_nil))))
      (pss_one (ps_ret (pe_tup (pa_cons (pe_callB ((cr_sum rfl)) (by rfl) T.z_sum (by decide +kernel) (pa_cons (pv 1) pa_nil)) (pa_cons (pe_call (ok_level_behind T) (hr.mono (by decide)) (by rfl) T.g_level_behind T.F_level_behind.kp T.b_level_behind .nil pass0 (pa_cons (pv 0) (pa_cons (pv 1) (pa_cons (pv 2) pa_nil)))) (pa_cons (pe_call (ok_level_behind T) (hr.mono (by decide)) (by rfl) T.g_level_behind T.F_level_behind.kp T.b_level_behind .nil pass0 (pa_cons (pv 0) (pa_cons (pv 1) (pa_cons (pv 3) pa_nil)))) pa_nil)))))))
, ?_⟩
    have hc' := hc
    obtain ⟨a, s, m, ms, rfl, ha, hs, hm, hmd⟩ := cod_at hc
    refine ⟨_, rfl, 2, rfl, a, _, rfl, ha, fun hw => absurd (show (2 : Nat) = 5 from hw.2) (by decide), fun _ p hp => ?_⟩
    rw [cut2]
    have s1 := same_new (o := .tup [V.int C.low, V.int C.high]) hp
    refine ⟨p, _, rfl, upd_tup, rfl, _, _, rfl, _, _, rfl, rfl, ?_⟩
    generalize upd H p (.tup [V.int C.low, V.int C.high]) = H1 at s1
    refine ⟨_, rfl, l, cs, rfl, s1.seq hL, ?_⟩
    refine ⟨_, rfl, _, rfl, _, rfl, _, l, C, cs, C.low, rfl, O, dp_same s1 _ _ hc', s1.seq hL, fun H2 s2 => ?_⟩
    have s12 := s1.trans s2
    refine ⟨_, rfl, _, rfl, _, rfl, _, l, C, cs, C.high, rfl, O, dp_same s12 _ _ hc', s12.seq hL, fun H3 s3 => ?_⟩
    refine ⟨by show 3 ≤ sizeLine; decide, fun t ht => ?_⟩
    exact q t _ ((s12.trans s3).trans (same_new ht)) upd_tup
end
end My

set_option pp.maxSteps 600
namespace My
open PySem PySem.Spec PyProof.Rows L2
/-! ### the map of a row -/
def Cod.wd (C : Cod) : Nat := (C.high + 1 - C.low).toNat
def upto (f : Nat → Int) (n : Nat) : List Int := (List.range n).map f
theorem upto_succ (f : Nat → Int) (n : Nat) : upto f (n + 1) = upto f n ++ [f n] := by
  unfold upto
  rw [List.range_succ, List.map_append]
  rfl
theorem upto_len (f : Nat → Int) (n : Nat) : (upto f n).length = n := by
  unfold upto
  rw [List.length_map, List.length_range]
theorem upto_get {f : Nat → Int} {n i : Nat} {x : Int} (h : (upto f n)[i]? = some x) : i < n ∧ x = f i := by
  have hi : i < n := by
    have := (List.getElem?_eq_some_iff.mp h).1
    rw [upto_len] at this
    exact this
  unfold upto at h
  rw [List.getElem?_map, List.getElem?_range hi] at h
  exact ⟨hi, (Option.some.inj h).symm⟩
theorem upto_at {f : Nat → Int} {n i : Nat} (h : i < n) : ((upto f n).map V.int)[i]? = some (V.int (f i)) := by
  unfold upto
  rw [List.getElem?_map, List.getElem?_map, List.getElem?_range h]
  rfl
def Cod.mapL (C : Cod) (cs : List Int) : List Int := upto (fun i => C.lv (C.low + (i : Int)) cs) C.wd
theorem int_at {zs : List Int} {i : Nat} {v : V} (h : (zs.map V.int)[i]? = some v) : ∃ z, zs[i]? = some z ∧ v = .int z := by
  rw [List.getElem?_map] at h
  cases e : zs[i]? with
  | none => rw [e] at h; cases h
  | some z => rw [e] at h; exact ⟨z, rfl, (Option.some.inj h).symm⟩
theorem wd_in {C : Cod} {i : Nat} (h : i < C.wd) : C.lIn (C.low + (i : Int)) := by
  unfold Cod.wd at h
  exact ⟨by omega, by omega⟩
theorem wd_le {C : Cod} (O : C.Ok) : C.wd ≤ 65536 := by
  unfold Cod.wd
  have := O.l1
  have := O.h2
  omega
section
variable {P : Program} {w : World} {K : PySem.W.Frag} {mg : Str → Option Value} {base : Heap}
def sp_levels_behind (K : PySem.W.Frag) : Sp := fun vs H Q _ => ∃ (c : V) (l : Addr) (C : Cod) (cs : List Int), vs = [c, .ref l] ∧ C.Ok ∧ Dp K H c C.dat ∧ SqL K H l (cs.map V.int) ∧ cs.length ≤ 63 ∧
  ∀ p H', Same H H' → H p = none → H' p = some (.lst ((C.mapL cs).map V.int)) → Q (.ref p) H'
set_option maxHeartbeats 4000000 in
theorem ok_levels_behind (T : Txt K mg) : FnOk P w K mg base CX0 6 T.f_levels_behind T.d_levels_behind ["coder", "changes"] (sp_levels_behind K) := by
  refine T.F_levels_behind.ok sc_levels_behind (fun vs H Q E h => ?_) (fun cdv A outer s H vs Q E hr h => ?_)
  · obtain ⟨c, l, C, cs, rfl, _⟩ := h
    rfl
  · obtain ⟨c, l, C, cs, rfl, O, hc, hL, few, q⟩ := h
    have hu := hu_of hr
    refine ⟨_,
(pss_cons (ps_asg (pe_tup (pa_cons (pe_ix ix_tup (pv 0) pe_int (fun _ _ => rfl)) (pa_cons (pe_ix ix_tup (pv 0) pe_int (fun _ _ => rfl)) (pa_cons (pe_ix ix_tup (pv 0) pe_int (fun _ _ => rfl)) pa_nil)))) (pg_tup (by rfl) (pgs_cons (pg_name (i := 2) sc_levels_behind.nd rfl (Or.inr rfl)) (pgs_cons (pg_name (i := 3) sc_levels_behind.nd rfl (Or.inr rfl)) (pgs_cons (pg_name (i := 4) sc_levels_behind.nd rfl (Or.inr rfl)) pgs_nil)))))
      (pss_cons (ps_if (pt_cmpR op_eq (pv 4) pe_int (nomark _)) (pss_cons (ps_asg (pe_call (ok_limits_behind T) (hr.mono (by decide)) (by rfl) T.g_limits_behind T.F_limits_behind.kp T.b_limits_behind .nil pass0 (pa_cons (pv 0) (pa_cons (pv 1) pa_nil))) (pg_tup (by rfl) (pgs_cons (pg_name (i := 5) sc_levels_behind.nd rfl (Or.inr rfl)) (pgs_cons (pg_name (i := 6) sc_levels_behind.nd rfl (Or.inr rfl)) (pgs_cons (pg_name (i := 7) sc_levels_behind.nd rfl (Or.inr rfl)) pgs_nil)))))
      (pss_one (ps_ret (pe_lc (own := [("level", 13)]) rfl sc_levels_behind.nd (pi_range2 (by rfl) T.z_range (pa_cons (pv 2) (pa_cons (pe_op op_add (pv 3) pe_int) pa_nil))) (blkOk_by (own := [("level", 13)]) (N := ["coder", "changes", "low", "high", "fade", "total", "least", "most", "left", "led", "change", "indexes", "behind", "level", "index"]) (sc := defScope s_levels_behind) (by decide +kernel)) (fun _ _ _ _ _ => (pg_name (i := 13) sc_levels_behind.nd rfl (Or.inl rfl))) (fun _ _ _ _ _ => pts_nil) (fun _ _ _ _ _ => (pe_call (ok_limited T) (hr.mono (by decide)) (by rfl) T.g_limited T.F_limited.kp T.b_limited .nil pass0 (pa_cons (pe_op op_add (pv 13) (pv 5)) (pa_cons (pv 6) (pa_cons (pv 7) pa_nil))))))))) pss_nil)
      (pss_cons (ps_setLc (i := 8) (own := [("level", 13)]) rfl sc_levels_behind.nd rfl rfl (sw_true rfl rfl rfl (by decide +kernel)) (pi_range2 (by rfl) T.z_range (pa_cons (pv 2) (pa_cons (pe_op op_add (pv 3) pe_int) pa_nil))) (blkOk_by (own := [("level", 13)]) (N := ["coder", "changes", "low", "high", "fade", "total", "least", "most", "left", "led", "change", "indexes", "behind", "level", "index"]) (sc := defScope s_levels_behind) (by decide +kernel)) (fun _ _ _ _ _ => (pg_name (i := 13) sc_levels_behind.nd rfl (Or.inl rfl))) (fun _ _ _ _ _ => pts_nil) (fun _ _ _ _ _ => (pe_call (ok_faded T) (hr.mono (by decide)) (by rfl) T.g_faded T.F_faded.kp T.b_faded .nil pass0 (pa_cons (pv 13) (pa_cons (pv 4) pa_nil)))))
      (pss_cons (ps_set (i := 9) sc_levels_behind.nd rfl (Or.inl rfl) pe_dnewK)
      (pss_cons (ps_for PassesOwn.never rfl (pi_list (pe_callB ((cr_sortedSet rfl)) (by rfl) T.z_sorted (by decide +kernel) (pa_cons (pe_callTy (My.cr_setL rfl) (by rfl) T.z_set (by decide +kernel) (pa_cons (pv 1) pa_nil)) pa_nil))) (pg_name (i := 10) sc_levels_behind.nd rfl (Or.inr rfl)) (pss_one (ps_dput hu (pv 9) (pv 10) (pe_lc (own := [("level", 13)]) rfl sc_levels_behind.nd (pi_list (pv 8)) (blkOk_by (own := [("level", 13)]) (N := ["coder", "changes", "low", "high", "fade", "total", "least", "most", "left", "led", "change", "indexes", "behind", "level", "index"]) (sc := defScope s_levels_behind) (by decide +kernel)) (fun _ _ _ _ _ => (pg_name (i := 13) sc_levels_behind.nd rfl (Or.inl rfl))) (fun _ _ _ _ _ => pts_nil) (fun _ _ _ _ _ => (pe_op op_sub (pe_call (ok_limited T) (hr.mono (by decide)) (by rfl) T.g_limited T.F_limited.kp T.b_limited .nil pass0 (pa_cons (pe_op op_add (pv 13) (pv 10)) (pa_cons (pv 2) (pa_cons (pv 3) pa_nil)))) (pv 2)))) rfl)))
      (pss_cons (ps_set (i := 11) sc_levels_behind.nd rfl (Or.inl rfl) (pe_listRg rfl (by rfl) T.z_list (prg_1 (by rfl) T.z_range (pe_callB call_len_seq (by rfl) T.z_len (by decide +kernel) (pa_cons (pv 8) pa_nil)))))
      (pss_cons (ps_for PassesOwn.never rfl (pi_list (pv 1)) (pg_name (i := 10) sc_levels_behind.nd rfl (Or.inr rfl)) (pss_cons (ps_set (i := 12) sc_levels_behind.nd rfl (Or.inr rfl) (pe_dget hu (pv 9) (pv 10) (fun _ _ => rfl)))
      (pss_one (ps_setLc (i := 11) (own := [("index", 14)]) rfl sc_levels_behind.nd rfl rfl (sw_true rfl rfl rfl (by decide +kernel)) (pi_list (pv 11)) (blkOk_by (own := [("index", 14)]) (N := ["coder", "changes", "low", "high", "fade", "total", "least", "most", "left", "led", "change", "indexes", "behind", "level", "index"]) (sc := defScope s_levels_behind) (by decide +kernel)) (fun _ _ _ _ _ => (pg_name (i := 14) sc_levels_behind.nd rfl (Or.inl rfl))) (fun _ _ _ _ _ => pts_nil) (fun _ _ _ _ _ => (pe_ix (My.ix_listK (K := K)) (pv 12) (pv 14) (fun _ _ => rfl)))))))
      (pss_one (ps_ret (pe_lc (own := [("index", 14)]) rfl sc_levels_behind.nd (pi_list (pv 11)) (blkOk_by (own := [("index", 14)]) (N := ["coder", "changes", "low", "high", "fade", "total", "least", "most", "left", "led", "change", "indexes", "behind", "level", "index"]) (sc := defScope s_levels_behind) (by decide +kernel)) (fun _ _ _ _ _ => (pg_name (i := 14) sc_levels_behind.nd rfl (Or.inl rfl))) (fun _ _ _ _ _ => pts_nil) (fun _ _ _ _ _ => (pe_op op_add (pv 2) (pv 14)))))))))))))
, ?_⟩
    have hc' := hc
    obtain ⟨a, s, m, ms, rfl, ha, hs, hm, hmd⟩ := cod_at hc
    have l1 := O.l1
    have l2 := O.l2
    have h1 := O.h1
    have h2 := O.h2
    have wl := wd_le O
    refine ⟨_, rfl, a, _, 0, _, rfl, rfl, ha, atI_nat (j := 0) rfl, _, rfl, a, _, 1, _, rfl, rfl, ha, atI_nat (j := 1) rfl, _, rfl, a, _, 4, _, rfl, rfl, ha, atI_nat (j := 4) rfl, by show 3 ≤ sizeLine; decide, fun t ht => ?_⟩
    have s1 := same_new (o := .tup [.int C.low, .int C.high, .int C.fade]) ht
    refine ⟨t, _, rfl, upd_tup, rfl, _, _, rfl, _, _, rfl, _, _, rfl, rfl, ?_⟩
    generalize upd H t (.tup [.int C.low, .int C.high, .int C.fade]) = H1 at s1
    refine ⟨_, rfl, rfl, _, rfl, ?_⟩
    refine ite2 (fun e => ?_) (fun e => ?_)
    · have f0 : C.fade = 0 := V.int.inj (of_decide_eq_true e)
      refine ⟨_, rfl, _, rfl, .ref a, l, C, cs, rfl, O, dp_same s1 _ _ hc', s1.seq hL, fun t2 H2 s2 ht2 => ?_⟩
      refine ⟨t2, _, rfl, ht2, rfl, _, _, rfl, _, _, rfl, _, _, rfl, rfl, ?_⟩
      have s12 := s1.trans s2
      refine ⟨_, rfl, _, rfl, _, _, rfl, rfl, _, _, rfl, ⟨by omega, by omega, by omega, by omega⟩, fun D hD => ?_⟩
      have hD0 := s12.free hD
      refine lc_range (lo := C.low) (n := (C.high + 1 - C.low).toNat) (fun i H' => H' D = some (.lst ((upto (fun i => C.lv (C.low + (i : Int)) cs) i).map V.int)) ∧ Same H2 H') ⟨upd_same, same_new hD⟩ ?_ ?_
      · rintro i H3 hi ⟨hD3, s3⟩
        refine ⟨rfl, yes_turn ?_⟩
        refine ⟨_, rfl, _, rfl, _, _, rfl, rfl, _, rfl, _, rfl, _, _, _, rfl, lv_lim_le O cs, ?_⟩
        rw [← lv_limits O f0 _ (wd_in hi) cs]
        refine ⟨_, hD3, ?_, ?_, same_put s3 hD⟩
        · rw [List.length_map, upto_len]
          exact Nat.lt_of_lt_of_le (Nat.lt_of_lt_of_le hi wl) (by decide)
        · rw [upd_same, upto_succ, List.map_append]
          rfl
      · rintro H3 ⟨hD3, s3⟩
        exact q D H3 (s12.trans s3) hD0 hD3
    · -- left
      refine ⟨_, rfl, _, rfl, _, _, rfl, rfl, _, _, rfl, ⟨by omega, by omega, by omega, by omega⟩, fun L hLn => ?_⟩
      refine lc_range (lo := C.low) (n := (C.high + 1 - C.low).toNat) (fun i H' => H' L = some (.lst ((upto (fun i => fdd (C.low + (i : Int)) C.fade) i).map V.int)) ∧ Same H1 H') ⟨upd_same, same_new hLn⟩ ?_ ?_
      · rintro i H3 hi ⟨hD3, s3⟩
        refine ⟨rfl, yes_turn ?_⟩
        refine ⟨_, rfl, _, rfl, _, C.fade, rfl, O.f1, ?_⟩
        refine ⟨_, hD3, ?_, ?_, same_put s3 hLn⟩
        · rw [List.length_map, upto_len]
          exact Nat.lt_of_lt_of_le (Nat.lt_of_lt_of_le hi wl) (by decide)
        · rw [upd_same, upto_succ, List.map_append]
          rfl
      rintro H2 ⟨hL2, s2⟩
      have s12 := s1.trans s2
      change H2 L = some (.lst ((upto (fun i => fdd (C.low + (i : Int)) C.fade) C.wd).map V.int)) at hL2
      -- led
      intro d hd
      have s3 := same_new (o := .dK []) hd
      have hL3 := s3 _ _ hL2
      have hd3 : (upd H2 d (.dK [])) d = some (.dK []) := upd_same
      have s13 := s12.trans s3
      have hd0 := s12.free hd
      generalize upd H2 d (.dK []) = H3 at s3 hL3 hd3 s13
      clear s3 hL2 s2 s12
      refine ⟨_, rfl, l, cs, rfl, s13.seq hL, by omega, fun p cn hp hcn => ?_⟩
      refine ⟨p, _, cn, rfl, upd_same, by omega, fun ns g pw mem len hg => ?_⟩
      generalize hH5 : upd _ g _ = H5
      have hg5 : H5 g = some (.lst (ns.map V.int)) := by
        rw [← hH5]
        exact upd_same
      have s35 : Same H3 H5 := by
        rw [← hH5]
        exact (same_new hp).trans (same_new hg)
      have hL5 := s35 _ _ hL3
      have hd5 := s35 _ _ hd3
      have s15 := s13.trans s35
      clear hH5 s35 hL3 hd3 s13
      refine ⟨g, rfl, ⟨_, SqL.of hg5⟩, ?_⟩
      refine for_list (K := K) (a := g) (xs := ns.map V.int) (fun i σ H' => ∃ kvs y10, σ = [some (.ref a), some (.ref l), some (.int C.low), some (.int C.high), some (.int C.fade), none, none, none, some (.ref L), some (.ref d), y10, none, none, none, none] ∧
          H' d = some (.dK kvs) ∧ kvs.length ≤ i ∧ H' L = some (.lst ((upto (fun i => fdd (C.low + (i : Int)) C.fade) C.wd).map V.int)) ∧ H' g = some (.lst (ns.map V.int)) ∧ Same H H' ∧
          (∀ j z, j < i → ns[j]? = some z → ∃ b, valV kvs (.inl z) = some (.ref b) ∧ b ≠ d ∧ H' b = some (.lst ((upto (fun i => C.lvc (C.low + (i : Int)) z - C.low) C.wd).map V.int))))
        ⟨[], none, rfl, hd5, Nat.le_refl _, hL5, hg5, s15, fun j z hj => absurd hj (Nat.not_lt_zero _)⟩ ?_ ?_ ?_
      · rintro i σ H' _ ⟨_, _, _, _, _, _, hg', _⟩
        exact SqL.of hg'
      · rintro i v σ H6 hi ⟨kvs, y10, rfl, hd6, hk6, hL6, hg6, s6, all6⟩
        obtain ⟨z, hz, rfl⟩ := int_at hi
        have hin : i < ns.length := (List.getElem?_eq_some_iff.mp hz).1
        refine ⟨_, rfl, L, rfl, ⟨_, SqL.of hL6⟩, fun D hD => ?_⟩
        refine lc_list (K := K) (a := L) (xs := (upto (fun i => fdd (C.low + (i : Int)) C.fade) C.wd).map V.int) (fun i H' => H' D = some (.lst ((upto (fun i => C.lvc (C.low + (i : Int)) z - C.low) i).map V.int)) ∧ Same H6 H') ⟨upd_same, same_new hD⟩ ?_ ?_ ?_
        · rintro i H' _ ⟨_, s7⟩
          exact SqL.of (s7 _ _ hL6)
        · rintro i v H7 hi ⟨hD7, s7⟩
          obtain ⟨x, hx, rfl⟩ := int_at hi
          obtain ⟨hiw, rfl⟩ := upto_get hx
          refine ⟨rfl, yes_turn ?_⟩
          refine ⟨_, rfl, _, rfl, _, _, rfl, rfl, _, rfl, _, rfl, _, _, _, rfl, by omega, _, rfl, _, _, rfl, rfl, _, hD7, ?_, ?_, same_put s7 hD⟩
          · rw [List.length_map, upto_len]
            exact Nat.lt_of_lt_of_le (Nat.lt_of_lt_of_le hiw wl) (by decide)
          · rw [upd_same, upto_succ, List.map_append]
            rfl
        · rintro H7 ⟨hD7, s7⟩
          rw [List.length_map, upto_len] at hD7
          have hd7 := s7 _ _ hd6
          have nDd : D ≠ d := (ne_of_none hd6 hD).symm
          have nLd : L ≠ d := ne_of hL6 hd6 nofun
          have ngd : g ≠ d := ne_of hg6 hd6 nofun
          refine ⟨_, rfl, _, rfl, d, _, rfl, DPut.k (k := .inl z) hd7 (Nat.lt_of_le_of_lt (m := 70) (by omega) (by decide)), ?_⟩
          refine ⟨_, _, rfl, upd_same, ?_, (upd_ne nLd).trans (s7 _ _ hL6), (upd_ne ngd).trans (s7 _ _ hg6), same_put (s6.trans s7) hd0, fun j z' hj hz' => ?_⟩
          · have := length_putK kvs (.inl z) (V.ref D)
            omega
          · rw [valV_put]
            by_cases hzz : z' = z
            · subst hzz
              rw [if_pos rfl]
              exact ⟨D, rfl, nDd, (upd_ne nDd).trans hD7⟩
            · have hjn : j ≠ i := fun e => hzz (by rw [e, hz] at hz'; exact (Option.some.inj hz').symm)
              rw [if_neg (fun e => hzz (Sum.inl.inj e))]
              obtain ⟨b, hb1, hb2, hb3⟩ := all6 j z' (by omega) hz'
              exact ⟨b, hb1, hb2, (upd_ne hb2).trans (s7 _ _ hb3)⟩
      rintro σ H6 ⟨kvs, y10, rfl, hd6, hk6, hL6, hg6, s6, all6⟩
      rw [List.length_map] at all6
      have every : ∀ z ∈ cs, ∃ b, valV kvs (.inl z) = some (.ref b) ∧ H6 b = some (.lst ((upto (fun i => C.lvc (C.low + (i : Int)) z - C.low) C.wd).map V.int)) := fun z hz => by
        have hzn : z ∈ ns := (mem z).mpr (decide_eq_true hz)
        obtain ⟨j, hj, e⟩ := List.getElem_of_mem hzn
        obtain ⟨b, hb1, _, hb3⟩ := all6 j z hj (by rw [List.getElem?_eq_getElem hj, e])
        exact ⟨b, hb1, hb3⟩
      clear all6 hg6 hk6 hL5 hd5 hg5 s15
      -- indexes
      refine ⟨_, rfl, L, _, rfl, .inl (SqL.of hL6), _, rfl, RgOk.of_le (by decide) (by rw [List.length_map, upto_len]; omega) (by decide) (by omega), fun ix hix => ?_⟩
      have s7 := same_new (o := .lst (rgV 0 ((((upto (fun i => fdd (C.low + (i : Int)) C.fade) C.wd).map V.int).length : Nat) : Int))) hix
      have hix7 : (upd H6 ix (.lst (rgV 0 ((((upto (fun i => fdd (C.low + (i : Int)) C.fade) C.wd).map V.int).length : Nat) : Int)))) ix = some (.lst ((upto (fun i => C.lv (C.low + (i : Int)) (cs.take 0) - C.low) C.wd).map V.int)) := by
        rw [upd_same, List.length_map, upto_len]
        congr 2
        unfold rgV upto
        rw [List.map_map, show (((C.wd : Nat) : Int) - 0).toNat = C.wd by omega]
        refine List.map_congr_left fun i _ => ?_
        show V.int (0 + (i : Int)) = V.int (C.low + (i : Int) - C.low)
        congr 1
        omega
      generalize upd H6 ix (.lst (rgV 0 ((((upto (fun i => fdd (C.low + (i : Int)) C.fade) C.wd).map V.int).length : Nat) : Int))) = H7 at s7 hix7
      have s17 := s6.trans s7
      refine ⟨_, rfl, l, rfl, ⟨_, s17.seq hL⟩, ?_⟩
      refine for_list (K := K) (a := l) (xs := cs.map V.int) (fun j σ H' => ∃ ix y10 y12, σ = [some (.ref a), some (.ref l), some (.int C.low), some (.int C.high), some (.int C.fade), none, none, none, some (.ref L), some (.ref d), y10, some (.ref ix), y12, none, none] ∧
          Same H7 H' ∧ H' ix = some (.lst ((upto (fun i => C.lv (C.low + (i : Int)) (cs.take j) - C.low) C.wd).map V.int))) ⟨ix, _, none, rfl, Same.refl H7, hix7⟩ ?_ ?_ ?_
      · rintro i σ H' _ ⟨_, _, _, _, s8, _⟩
        exact (s17.trans s8).seq hL
      · rintro j v σ H8 hj ⟨ix8, y10, y12, rfl, s8, hix8⟩
        obtain ⟨z, hz, rfl⟩ := int_at hj
        obtain ⟨b, hb1, hb2⟩ := every z (List.mem_of_getElem? hz)
        have hd8 := (s7.trans s8) _ _ hd6
        have hb8 := (s7.trans s8) _ _ hb2
        have hget : DGet H8 d (.int z) (some (.ref b)) := by
          have := DGet.k (k := .inl z) hd8
          rw [hb1] at this
          exact this
        refine ⟨_, rfl, _, rfl, d, .ref b, rfl, hget, ?_⟩
        refine ⟨_, rfl, ix8, rfl, ⟨_, SqL.of hix8⟩, fun D hD => ?_⟩
        refine lc_list (K := K) (a := ix8) (xs := (upto (fun i => C.lv (C.low + (i : Int)) (cs.take j) - C.low) C.wd).map V.int) (fun i H' => H' D = some (.lst ((upto (fun i => C.lv (C.low + (i : Int)) (cs.take (j + 1)) - C.low) i).map V.int)) ∧ Same H8 H') ⟨upd_same, same_new hD⟩ ?_ ?_ ?_
        · rintro i H' _ ⟨_, s9⟩
          exact SqL.of (s9 _ _ hix8)
        · rintro i v H9 hi ⟨hD9, s9⟩
          obtain ⟨x, hx, rfl⟩ := int_at hi
          obtain ⟨hiw, rfl⟩ := upto_get hx
          have hin := lv_in O (cs.take j) (wd_in hiw)
          obtain ⟨n, hn⟩ : ∃ n : Nat, C.lv (C.low + (i : Int)) (cs.take j) - C.low = (n : Int) := ⟨(C.lv (C.low + (i : Int)) (cs.take j) - C.low).toNat, by have := hin.1; omega⟩
          have hnw : n < C.wd := by
            have := hin.2
            unfold Cod.wd
            omega
          refine ⟨rfl, yes_turn ?_⟩
          refine ⟨_, rfl, _, rfl, b, _, _, _, rfl, rfl, SqL.of (s9 _ _ hb8), by rw [hn]; exact atI_nat (upto_at hnw), _, hD9, ?_, ?_, same_put s9 hD⟩
          · rw [List.length_map, upto_len]
            exact Nat.lt_of_lt_of_le (Nat.lt_of_lt_of_le hiw wl) (by decide)
          · rw [upd_same, upto_succ, List.map_append]
            have e : C.lvc (C.low + (n : Int)) z - C.low = C.lv (C.low + (i : Int)) (cs.take (j + 1)) - C.low := by
              rw [take_snoc hz, lv_snoc, ← hn]
              congr 2
              omega
            rw [e]
            rfl
        · rintro H9 ⟨hD9, s9⟩
          rw [List.length_map, upto_len] at hD9
          exact ⟨D, _, _, rfl, s8.trans s9, hD9⟩
      · rintro σ H8 ⟨ix8, y10, y12, rfl, s8, hix8⟩
        have ecs : cs.take (cs.map V.int).length = cs := by rw [List.length_map, List.take_length]
        rw [ecs] at hix8
        refine ⟨_, rfl, ix8, rfl, ⟨_, SqL.of hix8⟩, fun D hD => ?_⟩
        have hD0 := (s17.trans s8).free hD
        refine lc_list (K := K) (a := ix8) (xs := (upto (fun i => C.lv (C.low + (i : Int)) cs - C.low) C.wd).map V.int) (fun i H' => H' D = some (.lst ((upto (fun i => C.lv (C.low + (i : Int)) cs) i).map V.int)) ∧ Same H8 H') ⟨upd_same, same_new hD⟩ ?_ ?_ ?_
        · rintro i H' _ ⟨_, s9⟩
          exact SqL.of (s9 _ _ hix8)
        · rintro i v H9 hi ⟨hD9, s9⟩
          obtain ⟨x, hx, rfl⟩ := int_at hi
          obtain ⟨hiw, rfl⟩ := upto_get hx
          refine ⟨rfl, yes_turn ?_⟩
          refine ⟨_, rfl, _, rfl, _, _, rfl, rfl, _, hD9, ?_, ?_, same_put s9 hD⟩
          · rw [List.length_map, upto_len]
            exact Nat.lt_of_lt_of_le (Nat.lt_of_lt_of_le hiw wl) (by decide)
          · rw [upd_same, upto_succ, List.map_append]
            have e : C.low + (C.lv (C.low + (i : Int)) cs - C.low) = C.lv (C.low + (i : Int)) cs := by omega
            show some (HO.lst (_ ++ [V.int (C.low + (C.lv (C.low + (i : Int)) cs - C.low))])) = _
            rw [e]
            rfl
        · rintro H9 ⟨hD9, s9⟩
          rw [List.length_map, upto_len] at hD9
          exact q D H9 ((s17.trans s8).trans s9) hD0 hD9
end
end My

namespace My
open PySem PySem.Spec PyProof.Rows L2
/-! ### calls with keywords of defs that raise, within a try -/
def tCallNS (n m : Nat) (sp : Sp) (gV : List V → List V → List V) (E : L2.St → XK) (t tk : TA) : TE := fun σ H Q => t σ H fun vs H1 => tk σ H1 fun zs H2 =>
  vs.length = n ∧ zs.length = m ∧ sp (gV vs zs) H2 Q (E σ)
section
variable {X : Cx} {CX : CXT} {k n : Nat} {f : Addr} {fd : FuncData} {ps ks : List Str} {sp : Sp} {E : L2.St → XK} {x : Str} {p pos : Pos} {e : Expr} {es : List Expr} {kws : List Keyword} {t tk : TA} {g : List Value → List Value → List Value} {gV : List V → List V → List V}
theorem pe_callNS (F : FnOk X.prog X.w X.K X.mg X.base CX k f fd ps sp) (hr : Room k X.A) (hg : Gl X x) (hm : X.mg x = some (.ref f)) (hk : PySem.W.keepIn X.K (.ref f) = true) (hb : KBn X.K fd ps n ks g gV)
    (hx : ∀ σ, PassesAt CX X σ (E σ)) (ha : PA X (e :: es) t) (hkw : PK X kws tk) (hall : (backToKw pos (keywordEach kws X.env)).all (·.1.isSome) = true := by rfl)
    (hks : (backToKw pos (keywordEach kws X.env)).filterMap (·.1) = ks := by rfl) (hdb : (x == ("__debug__" : Str)) = false := by decide)
    (he : starEach (e :: es) X.env = (false, eval e X.env) :: starEach es X.env := by rfl)
    (hpl : ((backTo pos (starEach (e :: es) X.env)).any (·.1) || (backToKw pos (keywordEach kws X.env)).any (·.1.isNone)) = false := by rfl) :
    PE X (.Call (.Name x p) (e :: es) kws pos) (tCallNS n ks.length sp gV E t tk) := by
  refine ⟨fun pins s σ H Q I h => wpAny_Call_Name_kw (ld_glob I hg hm ?_ hdb)⟩
  refine PySem.W.callWith_KW (h₀ := X.base) I.ok.mod.kin hk hall
    (thn (ha.run pos pins s σ H _ I h) fun us s1 ⟨vs, H1, I1, r, q⟩ => ?_) hpl he
  refine thn (hkw.run pos pins s1 σ H1 _ I1 q) fun ws s2 ⟨zs, H2, I2, rz, l1, l2, q2⟩ => ⟨I2.kIn, ?_⟩
  rw [hks]
  have rel := hb.rel r rz
  have binds := hb.to s2 us ws I2.kIn (r.length.symm.trans l1) (rz.length.symm.trans l2)
  refine wpAny_call (codeAny_mono (F.run X.A X.stack s2 H2 ⟨us, ks.zip ws⟩ (g us ws) (gV vs zs) Q (E σ) hr I2.env0 binds rel q2) ?_)
  intro res s' hq
  match res, hq with
  | .error e, hq => exact hx σ pins H2 s2 e s' I2 hq
  | .ok (.ret u), hq => exact I2.after hq
end
/-- a thing handed in as a row: a tuple of data, or anything but a tuple -/
def Th (K : PySem.W.Frag) (H : Hp) (x : V) : Option (List PyData) → Prop
  | none => ∃ T : String, TyX K H x (.type T) ∧ PySem.W.kitOne K (.type T) (.type "tuple") = some false
  | some ds => Dp K H x (.tuple ds)
theorem Th.same {K : PySem.W.Frag} {H H' : Hp} {x : V} {r : Option (List PyData)} (s : Same H H') (h : Th K H x r) : Th K H' x r := by
  cases r with
  | some ds => exact dp_same s _ _ h
  | none =>
    obtain ⟨T, h1, h2⟩ := h
    refine ⟨T, ?_, h2⟩
    cases h1 with
    | base h =>
      cases h with
      | non => exact .base .non
      | bl b => exact .base (.bl b)
      | int i => exact .base (.int i)
      | str x => exact .base (.str x)
      | flt x => exact .base (.flt x)
      | lst e => exact .base (.lst (s _ _ e))
      | frz e => exact .base (.frz (s _ _ e))
      | tup e => exact .base (.tup (s _ _ e))
      | dK e => exact .base (.dK (s _ _ e))
      | dT e => exact .base (.dT (s _ _ e))
    | byt b => exact .byt b
    | set e => exact .set (s _ _ e)
    | kList e c => exact .kList e c
    | kTuple e c => exact .kTuple e c
    | kDict e c => exact .kDict e c
    | fTuple e => exact .fTuple (s _ _ e)
    | fDict e => exact .fDict (s _ _ e)
def codeD (C : Cod) (d : PyData) : Bool := btw d 0 ((C.moves.length : Int) - 1)
/-- the place of the first thing that cannot stand in a row -/
def rowBad (C : Cod) : Nat → List PyData → Option Nat
  | _, [] => none
  | i, d :: r => if (decide (i = 2000) || !codeD C d) = true then some i else rowBad C (i + 1) r
theorem rowBad_step {C : Cod} {ds : List PyData} {i : Nat} {d : PyData} (h : ds[i]? = some d) : rowBad C i (ds.drop i) = if (decide (i = 2000) || !codeD C d) = true then some i else rowBad C (i + 1) (ds.drop (i + 1)) := by
  have hi := (List.getElem?_eq_some_iff.mp h).1
  have e : ds.drop i = d :: ds.drop (i + 1) := by
    rw [List.drop_eq_getElem_cons hi]
    rw [List.getElem?_eq_getElem hi] at h
    rw [Option.some.inj h]
  rw [e]
  rfl
def rowRes (C : Cod) : Option (List PyData) → Option (Int × Int)
  | none => some (0, 0)
  | some ds => (rowBad C 0 ds).map fun (i : Nat) => ((1 : Int), (i : Int) + 1)
theorem rowRes_bad {C : Cod} {ds : List PyData} {i : Nat} (h : rowBad C 0 ds = some i) : rowRes C (some ds) = some (1, (i : Int) + 1) := by
  show (rowBad C 0 ds).map _ = _
  rw [h]
  rfl
theorem rowRes_ok {C : Cod} {ds : List PyData} (h : rowBad C 0 ds = none) : rowRes C (some ds) = none := by
  show (rowBad C 0 ds).map _ = _
  rw [h]
  rfl
section
variable {P : Program} {w : World} {K : PySem.W.Frag} {mg : Str → Option Value} {base : Heap}
def sp_init0 (K : PySem.W.Frag) (C : Addr) : Sp := fun vs H Q _ => ∃ (a : Addr) (t : Str), vs = [.ref a, .str t] ∧ H a = some (exo a C none) ∧ Q .non H
theorem oki_OutOfPlace (T : Txt K mg) : FnOk P w K mg base CX0 2 T.fi_OutOfPlace T.di_OutOfPlace ["self", "text"] (sp_init0 K T.C_OutOfPlace) := by
  refine T.Fi_OutOfPlace.ok sci_OutOfPlace (fun vs H Q E h => ?_) (fun cdv A outer s H vs Q E hr h => ?_)
  · obtain ⟨a, t, rfl, _⟩ := h
    rfl
  · obtain ⟨a, t, rfl, ha, q⟩ := h
    refine ⟨_, pss_one (ps_expr (pe_veinit (by rfl) T.zV T.vV (pa_cons (pv 0) (pa_cons (pv 1) pa_nil)))), ?_⟩
    exact ⟨_, rfl, _, rfl, a, T.C_OutOfPlace, [.str t], rfl, by show 1 ≤ 1000; decide, T.o_OutOfPlace, ha, q⟩
/-- two fields stored one behind the other -/
def sp_init2 (C : Addr) (f1 f2 : Str) : Sp := fun vs H Q _ => ∃ (a : Addr) (x y : V), vs = [.ref a, x, y] ∧ H a = some (exo a C none) ∧
  ∀ dx, H dx = none → dx ≠ a → Q .non (upd (upd (upd H dx (exd dx [(f1, x)])) a (exo a C (some dx))) dx (exd dx [(f2, y), (f1, x)]))
theorem oki_BadRow (T : Txt K mg) : FnOk P w K mg base CX0 2 T.fi_BadRow T.di_BadRow ["self", "row", "word"] (sp_init2 T.C_BadRow "row" "word") := by
  refine T.Fi_BadRow.ok sci_BadRow (fun vs H Q E h => ?_) (fun cdv A outer s H vs Q E hr h => ?_)
  · obtain ⟨a, x, y, rfl, _⟩ := h
    rfl
  · obtain ⟨a, x, y, rfl, ha, q⟩ := h
    refine ⟨_, pss_cons (ps_ost (pv 0) (pv 1)) (pss_one (ps_ost (pv 0) (pv 2))), ?_⟩
    refine ⟨_, rfl, _, rfl, a, T.C_BadRow, rfl, T.o_BadRow, T.n_BadRow_row, .inl ⟨ha, fun dx hdx ne => ?_⟩⟩
    refine ⟨_, rfl, _, rfl, a, T.C_BadRow, rfl, T.o_BadRow, T.n_BadRow_word, .inr ⟨dx, _, upd_same, (upd_ne ne).trans upd_same, by show 1 ≤ 900; decide, q dx hdx ne⟩⟩
theorem made2 {H : Hp} {a d : Addr} {o1 o2 o3 o4 o5 : HO} (h : H a = none) (n : d ≠ a) : upd (del (upd (upd (upd (upd H a o1) d o2) a o3) d o4) a) d o5 = upd H d o5 := by
  funext b
  show (if b = d then some o5 else if b = a then none else if b = d then some o4 else if b = a then some o3 else if b = d then some o2 else if b = a then some o1 else H b) = if b = d then some o5 else H b
  by_cases e : b = d
  · rw [if_pos e, if_pos e]
  · rw [if_neg e, if_neg e]
    by_cases e2 : b = a
    · rw [if_pos e2, e2, h, if_neg (fun z => e (e2.trans z))]
    · rw [if_neg e2, if_neg e, if_neg e2, if_neg e, if_neg e2]
/-- a refusal with BadRow(i, j): a new dict, all else stands -/
def RowE (C : Addr) (H : Hp) (E : XK) (i j : Int) : Prop := ∀ d H', Same H H' → H' d = some (.xd [("word", V.int j), ("row", V.int i)]) → E (.ref C) (some d) H'
theorem RowE.same {C : Addr} {H H' : Hp} {E : XK} {i j : Int} (s : Same H H') (h : RowE C H E i j) : RowE C H' E i j := fun d H'' s' hd => h d H'' (s.trans s') hd
theorem rowE_mk {C : Addr} {H : Hp} {E : XK} {i j : Int} (h : RowE C H E i j) {a d : Addr} {o1 o2 o3 o4 : HO} (ha : H a = none) (hd : upd H a o1 d = none) (n : d ≠ a) :
    E (.ref C) (some d) (upd (del (upd (upd (upd (upd H a o1) d o2) a o3) d o4) a) d (.xd [("word", V.int j), ("row", V.int i)])) := by
  rw [made2 ha n]
  have h0 : H d = none := (upd_ne n).symm.trans hd
  exact h d _ (same_new h0) upd_same
def sp_need_row (K : PySem.W.Frag) (BR : Addr) : Sp := fun vs H Q E => ∃ (c x : V) (C : Cod) (r : Option (List PyData)), vs = [c, x] ∧ Dp K H c C.dat ∧ Th K H x r ∧
  (rowRes C r = none → ∀ H', Same H H' → Q .non H') ∧ (∀ i j, rowRes C r = some (i, j) → RowE BR H E i j)
theorem ok_need_row (T : Txt K mg) : FnOk P w K mg base (L2.CX P w) 4 T.f_need_row T.d_need_row ["coder", "thing"] (sp_need_row K T.C_BadRow) := by
  refine T.F_need_row.okX sc_need_row (fun vs H Q E h => ?_) (fun cdv A outer s H vs Q E hr h => ?_)
  · obtain ⟨c, x, C, r, rfl, _⟩ := h
    rfl
  · obtain ⟨c, x, C, r, rfl, hc, hx, q1, q2⟩ := h
    refine ⟨_,
(pss_cons (ps_if (pt_not (pt_val (pe_callB call_isi (by rfl) T.z_isinstance (by decide +kernel) (pa_cons (pv 1) (pa_cons (pe_bltn (v := .ty "tuple") (by rfl) T.z_tuple (by decide +kernel) rfl) pa_nil))))) (pss_one (ps_raise rfl (takes_of rfl rfl rfl rfl) (pmk_oex T.o_BadRow T.i_BadRow T.t_BadRow (oki_BadRow T) (hr.mono (by decide)) T.bi_BadRow .nil pass0 (by rfl) T.g_BadRow (pa_cons pe_int (pa_cons pe_int pa_nil))))) pss_nil)
      (pss_one (ps_for (passes_of rfl) rfl (My.pi_enumT (by rfl) T.z_enumerate (pa_cons (pv 1) pa_nil)) (pg_tup (by rfl) (pgs_cons (pg_name (i := 2) sc_need_row.nd rfl (Or.inl rfl)) (pgs_cons (pg_name (i := 3) sc_need_row.nd rfl (Or.inl rfl)) pgs_nil))) (pss_one (ps_if (PW.pt (pw_or (pt_cmpR op_eq (pv 2) (pe_glob (v := .int 2000) (by rfl) T.g_MOST_CODES ⟨_, rfl⟩) (nomark _)) (pw_or1 (pt_not (pt_val (pe_call (ok_is_code T) (hr.mono (by decide)) (by rfl) T.g_is_code T.F_is_code.kp T.b_is_code .nil pass0 (pa_cons (pv 0) (pa_cons (pv 3) pa_nil)))))))) (pss_one (ps_raise rfl (takes_of rfl rfl rfl rfl) (pmk_oex T.o_BadRow T.i_BadRow T.t_BadRow (oki_BadRow T) (hr.mono (by decide)) T.bi_BadRow .nil pass0 (by rfl) T.g_BadRow (pa_cons pe_int (pa_cons (pe_op op_add (pv 2) pe_int) pa_nil))))) pss_nil)))))
, ?_⟩
    cases r with
    | none =>
      obtain ⟨TT, t1, t2⟩ := hx
      refine ⟨x, rfl, x, .ty "tuple", _, _, _, rfl, .ty _, t1, t2, _, rfl, ?_⟩
      refine iteT ?_
      refine ⟨by decide, fun a ha => ⟨a, .int 0, .int 0, rfl, upd_same, fun d hd n => ⟨rfl, d, _, (upd_ne n.symm).trans upd_same, upd_same, (upd_ne n).symm.trans hd, rowE_mk (q2 0 0 rfl) ha hd n⟩⟩⟩
    | some ds =>
      have hd : Dp K H x (.tuple ds) := hx
      refine ⟨x, rfl, x, .ty "tuple", _, _, _, rfl, .ty _, tyx hd, kitT _, _, rfl, ?_⟩
      refine iteF ?_
      obtain ⟨a, xs, rfl, ha, hds⟩ := dp_tup hd
      have hlx := dpAll_len hds
      refine ⟨.ref a, rfl, a, xs, rfl, ha, ?_⟩
      refine for_enumT (K := K) (a := a) (xs := xs) (fun i σ H' => ∃ y1 y2, σ = [some c, some (.ref a), y1, y2] ∧ Same H H' ∧ rowBad C 0 ds = rowBad C i (ds.drop i)) ⟨none, none, rfl, Same.refl H, rfl⟩ ?_ ?_ ?_
      · rintro i σ H' _ ⟨_, _, _, s2, _⟩
        exact same_tup s2 ha
      · rintro i v σ H' p hi ⟨y1, y2, rfl, s2, hbad⟩ hp
        obtain ⟨dv, hdv, hv⟩ := dpAll_get hds hi
        rw [rowBad_step hdv] at hbad
        have s3 := s2.trans (same_new (o := .tup [.int (i : Nat), v]) hp)
        refine ⟨p, _, rfl, upd_tup, rfl, _, _, rfl, _, _, rfl, rfl, ?_⟩
        generalize upd H' p (.tup [.int (i : Nat), v]) = H2 at s3
        have raise : ∀ H3, Same H H3 → rowBad C 0 ds = some i → (([V.int 1, V.int ((i : Int) + 1)] : List V).length ≤ 1000 ∧ ∀ a', H3 a' = none →
            sp_init2 T.C_BadRow "row" "word" (.ref a' :: ([V.int 1, V.int ((i : Int) + 1)] ++ [])) (upd H3 a' (exo a' T.C_BadRow none)) (fun v H2 => v = .non ∧ ∃ (d : Addr) (fs : List (Str × V)), H2 a' = some (exo a' T.C_BadRow (some d)) ∧ H2 d = some (exd d fs) ∧ H3 d = none ∧
              E (.ref T.C_BadRow) (some d) (upd (del H2 a') d (.xd fs))) (fun _ _ _ => False)) := fun H3 s3 hb =>
          ⟨by show 2 ≤ 1000; decide, fun a' ha' => ⟨a', .int 1, .int ((i : Int) + 1), rfl, upd_same, fun d hd n => ⟨rfl, d, _, (upd_ne n.symm).trans upd_same, upd_same, (upd_ne n).symm.trans hd, rowE_mk ((q2 1 ((i : Int) + 1) (rowRes_bad hb)).same s3) ha' hd n⟩⟩⟩
        refine ⟨_, rfl, rfl, _, rfl, ?_⟩
        show if decide (V.int (i : Int) = V.int 2000) = true then _ else _
        by_cases e : i = 2000
        · have e1 : decide (V.int (i : Int) = V.int 2000) = true := by rw [e]; rfl
          rw [e1]
          refine iteT (iteT ?_)
          refine ⟨_, rfl, _, _, rfl, rfl, raise H2 s3 ?_⟩
          rw [hbad, decide_eq_true e]
          rfl
        · have e1 : decide (V.int (i : Int) = V.int 2000) = false := decide_eq_false fun z => by
            have := V.int.inj z
            omega
          rw [e1]
          refine iteF ?_
          refine ⟨_, rfl, _, rfl, c, v, C, dv, rfl, dp_same s3 _ _ hc, dp_same s3 _ _ hv, fun H3 s4 => ⟨_, rfl, ?_⟩⟩
          rw [decide_eq_false e, Bool.false_or] at hbad
          cases hg : codeD C dv with
          | true =>
            rw [hg] at hbad
            have hg' : btw dv 0 ((C.moves.length : Int) - 1) = true := hg
            rw [hg']
            refine iteF ?_
            exact ⟨_, _, rfl, s3.trans s4, hbad⟩
          | false =>
            rw [hg] at hbad
            have hg' : btw dv 0 ((C.moves.length : Int) - 1) = false := hg
            rw [hg']
            refine iteT ?_
            exact ⟨_, rfl, _, _, rfl, rfl, raise H3 (s3.trans s4) hbad⟩
      · rintro σ H' ⟨_, _, rfl, s2, hbad⟩
        refine q1 (rowRes_ok ?_) H' s2
        rw [hbad, hlx, List.drop_length]
        rfl
end
end My

namespace My
open PySem PySem.Spec PyProof.Rows L2
theorem codeD_out {C : Cod} {d : PyData} (h : codeD C d = true) : ∃ k : Nat, d = .int (k : Int) ∧ k < C.moves.length := by
  cases d with
  | int n =>
    obtain ⟨a, b⟩ := Bool.and_eq_true_iff.mp (show (decide (0 ≤ n) && decide (n ≤ (C.moves.length : Int) - 1)) = true from h)
    have a := of_decide_eq_true a
    have b := of_decide_eq_true b
    exact ⟨n.toNat, by congr 1; omega, by omega⟩
  | _ => cases h
theorem rowBad_none {C : Cod} : ∀ {ds : List PyData} {i : Nat}, i ≤ 2000 → rowBad C i ds = none → i + ds.length ≤ 2000 ∧ ∃ row : List Nat, ds = row.map (fun k : Nat => PyData.int (k : Int)) ∧ ∀ k ∈ row, k < C.moves.length
  | [], i, hi, _ => ⟨hi, [], rfl, fun _ h => by cases h⟩
  | d :: r, i, hi, h => by
    replace h : (if (decide (i = 2000) || !codeD C d) = true then some i else rowBad C (i + 1) r) = none := h
    by_cases e : (decide (i = 2000) || !codeD C d) = true
    · rw [if_pos e] at h
      cases h
    · rw [if_neg e] at h
      have e : (decide (i = 2000) || !codeD C d) = false := by
        cases hb : (decide (i = 2000) || !codeD C d) with
        | true => exact absurd hb e
        | false => rfl
      obtain ⟨e1, e2⟩ := Bool.or_eq_false_iff.mp e
      have e1 := of_decide_eq_false e1
      have e2 : codeD C d = true := by
        cases hb : codeD C d with
        | true => rfl
        | false => rw [hb] at e2; cases e2
      obtain ⟨k, rfl, hk⟩ := codeD_out e2
      obtain ⟨h1, row, rfl, h2⟩ := rowBad_none (by omega) h
      refine ⟨by rw [List.length_cons]; omega, k :: row, rfl, fun j hj => ?_⟩
      rcases List.mem_cons.mp hj with z | z
      · rw [z]; exact hk
      · exact h2 j z
theorem rowRes_row {C : Cod} {r : Option (List PyData)} (h : rowRes C r = none) : ∃ row : List Nat, r = some (row.map (fun k : Nat => PyData.int (k : Int))) ∧ C.Row row := by
  cases r with
  | none => cases h
  | some ds =>
    have h : (rowBad C 0 ds).map (fun (i : Nat) => ((1 : Int), (i : Int) + 1)) = none := h
    cases e : rowBad C 0 ds with
    | some i => rw [e] at h; cases h
    | none =>
      obtain ⟨h1, row, rfl, h2⟩ := rowBad_none (by omega) e
      rw [List.length_map] at h1
      exact ⟨row, rfl, by omega, h2⟩
theorem btw_out {d : PyData} {lo hi : Int} (h : btw d lo hi = true) : ∃ n, d = .int n ∧ lo ≤ n ∧ n ≤ hi := by
  cases d with
  | int n =>
    obtain ⟨a, b⟩ := Bool.and_eq_true_iff.mp (show (decide (lo ≤ n) && decide (n ≤ hi)) = true from h)
    exact ⟨n, rfl, of_decide_eq_true a, of_decide_eq_true b⟩
  | _ => cases h
theorem stateD_out {C : Cod} {d : PyData} (h : stateD C d = true) : ∃ s, d = pairI s ∧ C.St s := by
  cases d with
  | tuple ds =>
    match ds, h with
    | [a, b], h =>
      obtain ⟨h1, h2⟩ := Bool.and_eq_true_iff.mp (show (btw a C.low C.high && btw b 0 ((C.steps.length : Int) - 1)) = true from h)
      obtain ⟨n, rfl, a1, a2⟩ := btw_out h1
      obtain ⟨p, rfl, b1, b2⟩ := btw_out h2
      exact ⟨(n, p), rfl, a1, a2, b1, by show p < C.steps.length; omega⟩
  | _ => cases h
section
variable {P : Program} {w : World} {K : PySem.W.Frag} {mg : Str → Option Value} {base : Heap}
theorem okDX {x qual : Str} {params : Arguments} {body : List Stmt} {scope : Scope} {f : Addr} {fd : FuncData} {N ps : List Str} {k : Nat} {sp : Sp}
    (F : ∃ q, FunD K x qual params body scope [] [("state", V.ref q)] f fd) (S : FnScope N ps scope) (len : ∀ vs H Q E, sp vs H Q E → vs.length = ps.length)
    (hbody : ∀ (cdv : Value) (A : Around) (outer : List Env) (s : Shared) (H : Hp) (vs : List V) (Q : VK) (E : XK), Room k (A.deeper (envOfC qual scope s.heap.objs.size f cdv)) → sp vs H Q E →
      ∃ t, PSs (cxOf (L2.CX P w) P w K mg base N qual scope f cdv A outer s H E) body t ∧ t { nx := fun _ H' => Q .non H', rt := Q } (start N vs) H) : FnOk P w K mg base (L2.CX P w) (k + 1) f fd ps sp := by
  obtain ⟨q, F⟩ := F
  exact F.ok S len hbody
/-- a refusal with OutOfPlace: the heap stands -/
def spNeed (K : PySem.W.Frag) (O : Addr) (f : Cod → PyData → Bool) : Sp := fun vs H Q E => ∃ (c x : V) (C : Cod) (d : PyData), vs = [c, x] ∧ Dp K H c C.dat ∧ Dp K H x d ∧
  (f C d = true → ∀ H', Same H H' → Q .non H') ∧ (f C d = false → ∀ H', Same H H' → E (.ref O) none H')
end
end My

namespace My
open PySem PySem.Spec PyProof.Rows L2
def Cod.cnt (C : Cod) : Int := (C.high - C.low + 1) * (C.steps.length : Int)
theorem made1 {H : Hp} {a d : Addr} {o1 o2 o3 o5 : HO} (h : H a = none) (n : d ≠ a) : upd (del (upd (upd (upd H a o1) d o2) a o3) a) d o5 = upd H d o5 := by
  funext b
  show (if b = d then some o5 else if b = a then none else if b = a then some o3 else if b = d then some o2 else if b = a then some o1 else H b) = if b = d then some o5 else H b
  by_cases e : b = d
  · rw [if_pos e, if_pos e]
  · simp only [if_neg e]
    by_cases e2 : b = a
    · simp only [if_pos e2]
      rw [e2, h]
    · simp only [if_neg e2]
/-- a refusal with one field: a new dict, all else stands -/
def OneE (C : Addr) (f : Str) (H : Hp) (E : XK) (x : V) : Prop := ∀ d H', Same H H' → H' d = some (.xd [(f, x)]) → E (.ref C) (some d) H'
theorem OneE.same {C : Addr} {f : Str} {H H' : Hp} {E : XK} {x : V} (s : Same H H') (h : OneE C f H E x) : OneE C f H' E x := fun d H'' s' hd => h d H'' (s.trans s') hd
theorem oneE_mk {C : Addr} {f : Str} {H : Hp} {E : XK} {x : V} (h : OneE C f H E x) {a d : Addr} {o1 o2 o3 : HO} (ha : H a = none) (hd : upd H a o1 d = none) (n : d ≠ a) :
    E (.ref C) (some d) (upd (del (upd (upd (upd H a o1) d o2) a o3) a) d (.xd [(f, x)])) := by
  rw [made1 ha n]
  have h0 : H d = none := (upd_ne n).symm.trans hd
  exact h d _ (same_new h0) upd_same
section
variable {P : Program} {w : World} {K : PySem.W.Frag} {mg : Str → Option Value} {base : Heap}
def sp_init1 (C : Addr) (f : Str) : Sp := fun vs H Q _ => ∃ (a : Addr) (x : V), vs = [.ref a, x] ∧ H a = some (exo a C none) ∧
  ∀ dx, H dx = none → dx ≠ a → Q .non (upd (upd H dx (exd dx [(f, x)])) a (exo a C (some dx)))
theorem oki_TooGreat (T : Txt K mg) : FnOk P w K mg base CX0 2 T.fi_TooGreat T.di_TooGreat ["self", "most"] (sp_init1 T.C_TooGreat "most") := by
  refine T.Fi_TooGreat.ok sci_TooGreat (fun vs H Q E h => ?_) (fun cdv A outer s H vs Q E hr h => ?_)
  · obtain ⟨a, x, rfl, _⟩ := h
    rfl
  · obtain ⟨a, x, rfl, ha, q⟩ := h
    refine ⟨_, pss_one (ps_put (pv 0) (pv 1)), ?_⟩
    exact ⟨_, rfl, _, rfl, a, T.C_TooGreat, rfl, T.o_TooGreat, T.n_TooGreat_most, ha, q⟩
def sp_need_few (K : PySem.W.Frag) (TG : Addr) : Sp := fun vs H Q E => ∃ (c : V) (C : Cod) (most : Int), vs = [c, .int most] ∧ C.Ok ∧ Dp K H c C.dat ∧
  (C.cnt ≤ most → ∀ H', Same H H' → Q .non H') ∧ (most < C.cnt → OneE TG "most" H E (.int most))
theorem ok_need_few_states (T : Txt K mg) : FnOk P w K mg base (L2.CX P w) 4 T.f_need_few_states T.d_need_few_states ["coder", "most"] (sp_need_few K T.C_TooGreat) := by
  refine T.F_need_few_states.okX sc_need_few_states (fun vs H Q E h => ?_) (fun cdv A outer s H vs Q E hr h => ?_)
  · obtain ⟨c, C, most, rfl, _⟩ := h
    rfl
  · obtain ⟨c, C, most, rfl, O, hc, q1, q2⟩ := h
    obtain ⟨a, s, mm, ms, rfl, ha, hs, hm, hmd⟩ := cod_at hc
    refine ⟨_,
(pss_cons (ps_asg (pe_slice sl_tupA (pv 0) po_none (po_some pe_int)) (pg_tup (by rfl) (pgs_cons (pg_name (i := 2) sc_need_few_states.nd rfl (Or.inl rfl)) (pgs_cons (pg_name (i := 3) sc_need_few_states.nd rfl (Or.inl rfl)) (pgs_cons (pg_name (i := 4) sc_need_few_states.nd rfl (Or.inl rfl)) pgs_nil)))))
      (pss_one (ps_if (pt_cmpR op_gt (pe_op op_mul (pe_op op_add (pe_op op_sub (pv 3) (pv 2)) pe_int) (pe_callB call_len_seq (by rfl) T.z_len (by decide +kernel) (pa_cons (pv 4) pa_nil))) (pv 1) (nomark _)) (pss_one (ps_raise rfl (takes_of rfl rfl rfl rfl) (My.pmk_tg T.o_TooGreat T.i_TooGreat T.t_TooGreat (oki_TooGreat T) (hr.mono (by decide)) T.bi_TooGreat .nil pass0 (by rfl) T.g_TooGreat (pa_cons (pv 1) pa_nil)))) pss_nil)))
, ?_⟩
    refine ⟨_, rfl, 3, rfl, a, _, rfl, ha, fun hw => absurd (show (3 : Nat) = 5 from hw.2) (by decide), fun _ p hp => ?_⟩
    rw [cut3]
    have s1 := same_new (o := .tup [V.int C.low, V.int C.high, V.ref s]) hp
    refine ⟨p, _, rfl, upd_tup, rfl, _, _, rfl, _, _, rfl, _, _, rfl, rfl, ?_⟩
    generalize upd H p (.tup [V.int C.low, V.int C.high, V.ref s]) = H1 at s1
    have l1 := O.l1
    have l2 := O.l2
    have h1 := O.h1
    have h2 := O.h2
    refine ⟨_, rfl, _, rfl, _, _, rfl, rfl, _, _, rfl, rfl, _, rfl, s, _, rfl, .inr (same_tup s1 hs), _, _, rfl, rfl, .inl ⟨by omega, by omega⟩, _, rfl, _, _, rfl, rfl, _, rfl, ?_⟩
    have ec : (C.high - C.low + 1) * (((C.steps.map V.int).length : Nat) : Int) = C.cnt := by rw [List.length_map]; rfl
    rw [ec]
    refine ite2 (fun e => ?_) (fun e => ?_)
    · have e := of_decide_eq_true e
      have q2 := q2 (by omega)
      refine ⟨_, rfl, by show 1 ≤ 1000; decide, fun b hb => ⟨b, .int most, rfl, upd_same, fun d hd n => ⟨rfl, d, _, upd_same, (upd_ne n).trans upd_same, (upd_ne n).symm.trans hd, oneE_mk (q2.same s1) hb hd n⟩⟩⟩
    · exact q1 (by
        have e := of_decide_eq_false (Bool.not_eq_true _ ▸ e)
        omega) _ s1
/-- the same of a thing alone -/
def spNeed1 (K : PySem.W.Frag) (O : Addr) (f : PyData → Bool) : Sp := fun vs H Q E => ∃ (x : V) (d : PyData), vs = [x] ∧ Dp K H x d ∧
  (f d = true → ∀ H', Same H H' → Q .non H') ∧ (f d = false → ∀ H', Same H H' → E (.ref O) none H')
def timesD (d : PyData) : Bool := btw d 0 (10 ^ 30)
end
end My

namespace My
open PySem PySem.Spec PyProof.Rows L2
/-! ### how calls are refused -/
inductive Out where
  | great
  | row (i j : Int)
  | place
  | fine
def Out.data : Out → PyData
  | .great => .int 4096
  | .row i j => .tuple [.int i, .int j]
  | .place => .str "place"
  | .fine => .none
/-- b: what is asked behind the row -/
def outB (C : Cod) (d : Option (List PyData)) (b : Bool) : Out :=
  if 4096 < C.cnt then .great else match rowRes C d with
    | some (i, j) => .row i j
    | none => if b = true then .fine else .place
def Err (TG BR O : Addr) (H : Hp) (E : XK) : Out → Prop
  | .great => OneE TG "most" H E (.int 4096)
  | .row i j => RowE BR H E i j
  | .place => ∀ H', Same H H' → E (.ref O) none H'
  | .fine => True
theorem Err.same {TG BR O : Addr} {H H' : Hp} {E : XK} (s : Same H H') : ∀ {o : Out}, Err TG BR O H E o → Err TG BR O H' E o
  | .great, h => OneE.same s h
  | .row _ _, h => RowE.same s h
  | .place, h => fun H2 s2 => h H2 (s.trans s2)
  | .fine, _ => trivial
theorem outB_great {C : Cod} {d : Option (List PyData)} {b : Bool} (h : 4096 < C.cnt) : outB C d b = .great := if_pos h
theorem outB_row {C : Cod} {d : Option (List PyData)} {b : Bool} {i j : Int} (h : C.cnt ≤ 4096) (h1 : rowRes C d = some (i, j)) : outB C d b = .row i j := by
  unfold outB
  rw [if_neg (by omega), h1]
theorem outB_place {C : Cod} {d : Option (List PyData)} {b : Bool} (h : C.cnt ≤ 4096) (h1 : rowRes C d = none) (h2 : b = false) : outB C d b = .place := by
  unfold outB
  rw [if_neg (by omega), h1, h2]
  rfl
theorem outB_fine {C : Cod} {d : Option (List PyData)} {b : Bool} (h : C.cnt ≤ 4096) (h1 : rowRes C d = none) (h2 : b = true) : outB C d b = .fine := by
  unfold outB
  rw [if_neg (by omega), h1, h2]
  rfl
/-- what is asked of the row and of the coder -/
structure Asks (K : PySem.W.Frag) (H : Hp) (c r : V) (C : Cod) (d : Option (List PyData)) : Prop where
  ok : C.Ok
  cod : Dp K H c C.dat
  row : Th K H r d
theorem Asks.same {K : PySem.W.Frag} {H H' : Hp} {c r : V} {C : Cod} {d : Option (List PyData)} (s : Same H H') (h : Asks K H c r C d) : Asks K H' c r C d := ⟨h.ok, dp_same s _ _ h.cod, h.row.same s⟩
end My

namespace My
open PySem PySem.Spec PyProof.Rows L2
theorem rowBad_pre {C : Cod} : ∀ {pre : List PyData} {r : List PyData} {i : Nat}, (∀ d ∈ pre, codeD C d = true) → i + pre.length ≤ 2000 → rowBad C i (pre ++ r) = rowBad C (i + pre.length) r
  | [], _, _, _, _ => rfl
  | d :: pre, r, i, h, hl => by
    rw [List.length_cons] at hl
    show (if (decide (i = 2000) || !codeD C d) = true then some i else rowBad C (i + 1) (pre ++ r)) = _
    rw [h d List.mem_cons_self, decide_eq_false (by omega), if_neg (by decide), rowBad_pre (fun e he => h e (List.mem_cons_of_mem d he)) (by omega), List.length_cons]
    congr 1
    omega
theorem codeD_in {C : Cod} {k : Nat} (h : k < C.moves.length) : codeD C (.int (k : Int)) = true := btw_in (by omega) (by omega)
theorem codes_in {C : Cod} {row : List Nat} (h : ∀ k ∈ row, k < C.moves.length) : ∀ d ∈ row.map (fun k : Nat => PyData.int (k : Int)), codeD C d = true := fun d hd => by
  obtain ⟨k, hk, rfl⟩ := List.mem_map.mp hd
  exact codeD_in (h k hk)
theorem row_ok {C : Cod} {d : Option (List PyData)} {row : List Nat} (e : d = some (row.map (fun k : Nat => PyData.int (k : Int)))) (R : C.Row row) : rowRes C d = none := by
  rw [e]
  refine rowRes_ok ?_
  have h := rowBad_pre (C := C) (r := []) (i := 0) (codes_in R.lt) (by rw [List.length_map]; have := R.len; omega)
  rw [List.append_nil] at h
  rw [h]
  rfl
/-- the first thing that is no code, behind codes -/
theorem rowBad_at {C : Cod} {pre : List PyData} {d : PyData} {r : List PyData} (h : ∀ e ∈ pre, codeD C e = true) (hl : pre.length ≤ 2000) (hd : codeD C d = false) : rowBad C 0 (pre ++ d :: r) = some pre.length := by
  rw [rowBad_pre h (by omega), Nat.zero_add]
  show (if (decide (pre.length = 2000) || !codeD C d) = true then some pre.length else _) = _
  rw [hd, if_pos (by rw [Bool.not_false, Bool.or_true])]
theorem rowBad_long {C : Cod} {pre : List PyData} {d : PyData} {r : List PyData} (h : ∀ e ∈ pre, codeD C e = true) (hl : pre.length = 2000) : rowBad C 0 (pre ++ d :: r) = some 2000 := by
  rw [rowBad_pre h (by omega), Nat.zero_add, hl]
  rfl
theorem sl_takeV {K : PySem.W.Frag} {H : Hp} {a : Addr} {xs : List V} {n : Nat} {Q : VK} (h : SqT K H a xs) (hn : n ≤ xs.length) (k : ∀ b H', Same H H' → SqT K H' b (xs.take n) → Q (.ref b) H') :
    rSlA K (.ref a) none (some (n : Int)) H Q := by
  refine ⟨a, xs, rfl, h, fun ⟨_, e⟩ => ?_, fun _ p hp => ?_⟩
  · rw [HT.sIx_nat, Nat.min_eq_left hn] at e
    refine k _ H (Same.refl H) ?_
    rw [e, List.take_length]
    exact h
  · refine k _ _ (same_new hp) ?_
    rw [cut_take (by omega)]
    exact upd_tup
theorem sl_dropV {K : PySem.W.Frag} {H : Hp} {σ : L2.St} {a : Addr} {xs : List V} {n : Nat} {Q : VK} (h : SqT K H a xs) (hn : n ≤ xs.length) (k : ∀ b H', Same H H' → SqT K H' b (xs.drop n) → Q (.ref b) H') :
    tNoPart σ H fun u H3 => rSlA K (.ref a) (some (n : Int)) u H3 Q := by
  refine ⟨a, xs, rfl, h, fun ⟨e, _⟩ => ?_, fun _ p hp => ?_⟩
  · rw [HT.sIx_nat, Nat.min_eq_left hn] at e
    refine k _ H (Same.refl H) ?_
    rw [e]
    exact h
  · refine k _ _ (same_new hp) ?_
    rw [cut_drop (by omega)]
    exact upd_tup
theorem catV {K : PySem.W.Frag} {H : Hp} {a b : Addr} {xs ys : List V} {Q : VK} (ha : SqT K H a xs) (hb : SqT K H b ys) (hl : xs.length + ys.length ≤ sizeLine)
    (k : ∀ p H', Same H H' → SqT K H' p (xs ++ ys) → Q (.ref p) H') : rCatA K (.ref a) (.ref b) H Q := by
  refine ⟨a, b, _, _, rfl, rfl, ha, hb, hl, fun e => ?_, fun _ e => ?_, fun _ _ p hp => ?_⟩
  · refine k _ H (Same.refl H) ?_
    rw [e]
    exact hb
  · refine k _ H (Same.refl H) ?_
    rw [e, List.append_nil]
    exact ha
  · exact k _ _ (same_new hp) upd_tup
theorem dpAll_rowV {K : PySem.W.Frag} {H : Hp} : ∀ r : List Nat, DpAll K H (rowV r) (r.map fun k : Nat => PyData.int (k : Int))
  | [] => .nil
  | k :: r => .cons (.int _) (dpAll_rowV r)
def rowL (r : List Nat) : List PyData := r.map fun k : Nat => PyData.int (k : Int)
theorem th_of {K : PySem.W.Frag} {H : Hp} {x : V} {T : String} (h : TyOf K H x (.type T)) (e : kitB T "tuple" = some false) : Th K H x none := ⟨T, .base h, kit_ty e⟩
theorem stateD_no {C : Cod} {p : Int} : stateD C (pairI (C.high + 1, p)) = false := by
  show (btw (.int (C.high + 1)) C.low C.high && _) = false
  have e : btw (.int (C.high + 1)) C.low C.high = false := by
    show (decide _ && decide _) = false
    rw [decide_eq_false (p := C.high + 1 ≤ C.high) (by omega), Bool.and_false]
  rw [e]
  rfl
theorem rowV_rep (n k : Nat) : rowV (List.replicate n k) = List.replicate n (V.int (k : Int)) := List.map_replicate ..
theorem row_rep {C : Cod} {n k : Nat} (hn : n ≤ 2000) (hk : k < C.moves.length) : C.Row (List.replicate n k) := ⟨by rw [List.length_replicate]; exact hn, fun j hj => by rw [(List.mem_replicate.mp hj).2]; exact hk⟩
theorem rep_rep {n m : Nat} {α : Type} (x : α) : List.replicate (n + m) x = List.replicate n x ++ List.replicate m x := by rw [List.replicate_append_replicate]
theorem codes_rep {C : Cod} {n k : Nat} (hk : k < C.moves.length) : ∀ d ∈ rowL (List.replicate n k), codeD C d = true := codes_in fun j hj => by rw [(List.mem_replicate.mp hj).2]; exact hk
theorem long_bad {C : Cod} {g k : Nat} (hk : k < C.moves.length) : rowRes C (some (rowL (List.replicate (2001 + g) k))) = some (1, 2001) := by
  have e : rowL (List.replicate (2001 + g) k) = rowL (List.replicate 2000 k) ++ .int (k : Int) :: rowL (List.replicate g k) := by
    unfold rowL
    rw [show 2001 + g = 2000 + (g + 1) by omega, rep_rep, List.map_append, List.replicate_succ]
    rfl
  rw [e]
  exact rowRes_bad (rowBad_long (codes_rep hk) (by unfold rowL; rw [List.length_map, List.length_replicate]))
theorem op_catAK {X : Cx} {K : PySem.W.Frag} (h : X.K = K := by rfl) : OpR X (binaryOp .Add) (rCatA K) := by
  subst h
  exact op_catA
theorem cat_rows {K : PySem.W.Frag} {H : Hp} {a b : Addr} {r q : List Nat} {Q : VK} (ha : SqT K H a (rowV r)) (hb : SqT K H b (rowV q)) (hl : r.length + q.length ≤ sizeLine)
    (k : ∀ v H', Same H H' → Dp K H' v (rowI (r ++ q)) → Q v H') : rCatA K (.ref a) (.ref b) H Q := by
  refine ⟨a, b, _, _, rfl, rfl, ha, hb, by unfold rowV; rw [List.length_map, List.length_map]; exact hl, fun e => ?_, fun _ e => ?_, fun _ _ p hp => ?_⟩
  · have e' : r = [] := List.map_eq_nil_iff.mp e
    refine k _ H (Same.refl H) ?_
    rw [e']
    exact dp_row hb
  · have e' : q = [] := List.map_eq_nil_iff.mp e
    refine k _ H (Same.refl H) ?_
    rw [e', List.append_nil]
    exact dp_row ha
  · refine k _ _ (same_new hp) (dp_row ?_)
    have e : rowV (r ++ q) = rowV r ++ rowV q := List.map_append
    rw [e]
    exact upd_tup
theorem Small.few {C : Cod} {w p c : Int} (h : Small C w p c) (hw : 0 ≤ w) (hp : 0 ≤ p) : C.cnt ≤ (2 * w + 1) * p := by
  obtain ⟨⟨a1, a2⟩, ⟨b1, b2⟩, ⟨c1, c2⟩, _⟩ := h
  exact Int.mul_le_mul (by omega) c2 (by omega) (by omega)
theorem row0 {C : Cod} (O : C.Ok) {row : List Nat} (R : C.Row row) (h : row.length ≤ 1999) : C.Row (row ++ [0]) := ⟨by simp; omega, fun k hk => by
  rcases List.mem_append.mp hk with e | e
  · exact R.lt k e
  · rw [List.mem_singleton.mp e]
    have := O.m1
    omega⟩
/-- n times the same -/
theorem reps_dp {K : PySem.W.Frag} {H : Hp} {v : V} {d : PyData} (h : Dp K H v d) : ∀ n, DpAll K H (List.replicate n v) (List.replicate n d)
  | 0 => .nil
  | n + 1 => .cons h (reps_dp h n)
theorem flat_rep {v : V} (n : Nat) : (List.replicate n [v]).flatten = List.replicate n v := rep_flat1 v n
end My

namespace My
open PySem PySem.Spec PyProof.Rows L2
def placeD (C : Cod) (d : PyData) : Bool := btw d 0 ((C.steps.length : Int) - 1)
theorem placeD_out {C : Cod} {d : PyData} (h : placeD C d = true) : ∃ k, d = .int k ∧ C.pIn k := by
  obtain ⟨n, e, h1, h2⟩ := btw_out h
  exact ⟨n, e, h1, h2⟩
theorem placeD_in {C : Cod} {k : Int} (h : C.pIn k) : placeD C (.int k) = true := btw_in h.1 h.2
/-- with a fade it is refused, ahead of the row -/
def outF (C : Cod) (d : Option (List PyData)) (b : Bool) : Out :=
  if C.fade = 0 then (match rowRes C d with
    | some (i, j) => .row i j
    | none => if b = true then .fine else .place) else .place
theorem outF_fade {C : Cod} {d : Option (List PyData)} {b : Bool} (h : ¬ C.fade = 0) : outF C d b = .place := if_neg h
theorem outF_row {C : Cod} {d : Option (List PyData)} {b : Bool} {i j : Int} (h : C.fade = 0) (h1 : rowRes C d = some (i, j)) : outF C d b = .row i j := by
  unfold outF
  rw [if_pos h, h1]
theorem outF_place {C : Cod} {d : Option (List PyData)} {b : Bool} (h : C.fade = 0) (h1 : rowRes C d = none) (h2 : b = false) : outF C d b = .place := by
  unfold outF
  rw [if_pos h, h1, h2]
  rfl
theorem outF_fine {C : Cod} {d : Option (List PyData)} {b : Bool} (h : C.fade = 0) (h1 : rowRes C d = none) (h2 : b = true) : outF C d b = .fine := by
  unfold outF
  rw [if_pos h, h1, h2]
  rfl
section
variable {P : Program} {w : World} {K : PySem.W.Frag} {mg : Str → Option Value} {base : Heap}
theorem ok_need_place (T : Txt K mg) : FnOk P w K mg base (L2.CX P w) 4 T.f_need_place T.d_need_place ["coder", "thing"] (spNeed K T.C_OutOfPlace placeD) := by
  refine T.F_need_place.okX sc_need_place (fun vs H Q E h => ?_) (fun cdv A outer s H vs Q E hr h => ?_)
  · obtain ⟨c, x, C, d, rfl, _⟩ := h
    rfl
  · obtain ⟨c, x, C, d, rfl, hc, hd, q1, q2⟩ := h
    refine ⟨_,
(pss_one (ps_if (pt_not (pt_val (pe_call (ok_is_place T) (hr.mono (by decide)) (by rfl) T.g_is_place T.F_is_place.kp T.b_is_place .nil pass0 (pa_cons (pv 0) (pa_cons (pv 1) pa_nil))))) (pss_one (ps_raise rfl (takes_of rfl rfl rfl rfl) (My.pmk0 T.o_OutOfPlace T.i_OutOfPlace T.t_OutOfPlace (oki_OutOfPlace T) (hr.mono (by decide)) T.bi_OutOfPlace T.g_OutOfPlace (pa_cons pe_str pa_nil)))) pss_nil))
, ?_⟩
    refine ⟨_, rfl, _, rfl, c, x, C, d, rfl, hc, hd, fun H1 s1 => ⟨_, rfl, ?_⟩⟩
    cases h0 : btw d 0 ((C.steps.length : Int) - 1) with
    | true => exact iteF (q1 h0 H1 s1)
    | false =>
      refine iteT ?_
      refine ⟨by decide, fun a ha => ⟨a, _, rfl, upd_same, rfl, upd_same, ?_⟩⟩
      rw [del_new ha]
      exact q2 h0 H1 s1
def sp_row_map (K : PySem.W.Frag) (TG BR O : Addr) : Sp := fun vs H Q E => ∃ (c r p : V) (C : Cod) (d : Option (List PyData)) (dp : PyData), vs = [c, r, p] ∧ Asks K H c r C d ∧ Dp K H p dp ∧
  (outB C d (placeD C dp) ≠ .fine → Err TG BR O H E (outB C d (placeD C dp))) ∧
  (outB C d (placeD C dp) = .fine → ∀ row (k : Int), d = some (row.map (fun k : Nat => PyData.int (k : Int))) → dp = .int k → C.Row row → C.pIn k → row.length ≤ 63 ∧
    ∀ t u H', Same H H' → SqT K H' t [.ref u, .int (C.pl k row)] → SqT K H' u ((C.mapL (C.chs k row)).map V.int) → Q (.ref t) H')
theorem ok_row_map (T : Txt K mg) : FnOk P w K mg base (L2.CX P w) 9 T.f_row_map T.d_row_map ["coder", "row", "place"] (sp_row_map K T.C_TooGreat T.C_BadRow T.C_OutOfPlace) := by
  refine T.F_row_map.okX sc_row_map (fun vs H Q E h => ?_) (fun cdv A outer s H vs Q E hr h => ?_)
  · obtain ⟨c, r, p, C, d, dp, rfl, _⟩ := h
    rfl
  · obtain ⟨c, r, p, C, d, dp, rfl, a, hp, e, q⟩ := h
    refine ⟨_,
(pss_cons (ps_expr (pe_call (ok_need_coder T) (hr.mono (by decide)) (by rfl) T.g_need_coder T.F_need_coder.kp T.b_need_coder .nil pass0 (pa_cons (pv 0) pa_nil)))
      (pss_cons (ps_expr (pe_call (ok_need_few_states T) (hr.mono (by decide)) (by rfl) T.g_need_few_states T.F_need_few_states.kp T.b_need_few_states .nil (passes_call (takes_of rfl rfl rfl rfl) (fun _ _ _ _ h => h)) (pa_cons (pv 0) (pa_cons pe_int pa_nil))))
      (pss_cons (ps_expr (pe_call (ok_need_row T) (hr.mono (by decide)) (by rfl) T.g_need_row T.F_need_row.kp T.b_need_row .nil (passes_call (takes_of rfl rfl rfl rfl) (fun _ _ _ _ h => h)) (pa_cons (pv 0) (pa_cons (pv 1) pa_nil))))
      (pss_cons (ps_expr (pe_call (ok_need_place T) (hr.mono (by decide)) (by rfl) T.g_need_place T.F_need_place.kp T.b_need_place .nil (passes_call (takes_of rfl rfl rfl rfl) (fun _ _ _ _ h => h)) (pa_cons (pv 0) (pa_cons (pv 2) pa_nil))))
      (pss_cons (ps_asg (pe_call (ok_changes_along T) (hr.mono (by decide)) (by rfl) T.g_changes_along T.F_changes_along.kp T.b_changes_along .nil pass0 (pa_cons (pv 0) (pa_cons (pv 1) (pa_cons (pv 2) pa_nil)))) (pg_tup (by rfl) (pgs_cons (pg_name (i := 3) sc_row_map.nd rfl (Or.inl rfl)) (pgs_cons (pg_name (i := 4) sc_row_map.nd rfl (Or.inl rfl)) pgs_nil))))
      (pss_one (ps_ret (pe_tup (pa_cons (pe_callTy call_tuple_of (by rfl) T.z_tuple (by decide +kernel) (pa_cons (pe_call (ok_levels_behind T) (hr.mono (by decide)) (by rfl) T.g_levels_behind T.F_levels_behind.kp T.b_levels_behind .nil pass0 (pa_cons (pv 0) (pa_cons (pv 3) pa_nil))) pa_nil)) (pa_cons (pv 4) pa_nil))))))))))
, ?_⟩
    have O := a.ok
    have hc := a.cod
    refine ⟨_, rfl, c, C.dat, rfl, hc, O.first, fun H1 s1 => ?_⟩
    refine ⟨_, rfl, c, C, 4096, rfl, O, dp_same s1 _ _ hc, fun few H2 s2 => ?_, fun many => ?_⟩
    · have s12 := s1.trans s2
      refine ⟨_, rfl, _, rfl, c, r, C, d, rfl, dp_same s12 _ _ hc, a.row.same s12, fun h0 H3 s3 => ?_, fun i j h0 => ?_⟩
      · have s13 := s12.trans s3
        refine ⟨_, rfl, _, rfl, c, p, C, dp, rfl, dp_same s13 _ _ hc, dp_same s13 _ _ hp, fun h1 H4 s4 => ?_, fun h1 H4 s4 => ?_⟩
        · have s14 := s13.trans s4
          obtain ⟨row, rfl, R⟩ := rowRes_row h0
          obtain ⟨k, rfl, hk⟩ := placeD_out h1
          obtain ⟨short, q⟩ := q (outB_fine few h0 h1) row k rfl rfl R hk
          cases hp
          have hrow : Dp K H r (rowI row) := a.row
          refine ⟨_, rfl, _, rfl, _, rfl, c, r, C, row, k, rfl, O, dp_same s14 _ _ hc, dp_same s14 _ _ hrow, R, hk, fun t l H5 s5 hl0 hl ht => ?_⟩
          refine ⟨t, _, rfl, ht, rfl, _, _, rfl, _, _, rfl, rfl, ?_⟩
          have s15 := s14.trans s5
          refine ⟨_, rfl, _, rfl, c, l, C, _, rfl, O, dp_same s15 _ _ hc, SqL.of hl, by rw [chs_len]; exact short, fun b H6 s6 hb0 hb => ?_⟩
          refine ⟨b, _, rfl, .inl ⟨SqL.of hb, fun u hu => ?_⟩⟩
          have s7 := same_new (o := .tup ((C.mapL (C.chs k row)).map V.int)) hu
          refine ⟨_, rfl, by show 2 ≤ sizeLine; decide, fun t2 ht2 => ?_⟩
          have s8 := same_new (o := .tup [.ref u, .int (C.pl k row)]) ht2
          exact q t2 u _ ((s15.trans s6).trans (s7.trans s8)) upd_tup (.inl (.inl (s8 _ _ upd_same)))
        · have := e (by rw [outB_place few h0 h1]; exact fun z => by cases z)
          rw [outB_place few h0 h1] at this
          exact this H4 (s13.trans s4)
      · have := e (by rw [outB_row few h0]; exact fun z => by cases z)
        rw [outB_row few h0] at this
        exact RowE.same s12 this
    · have := e (by rw [outB_great many]; exact fun z => by cases z)
      rw [outB_great many] at this
      exact OneE.same s1 this
def sp_limits_of (K : PySem.W.Frag) (TG BR O : Addr) : Sp := fun vs H Q E => ∃ (c r p : V) (C : Cod) (d : Option (List PyData)) (dp : PyData), vs = [c, r, p] ∧ Asks K H c r C d ∧ Dp K H p dp ∧
  (outF C d (placeD C dp) ≠ .fine → Err TG BR O H E (outF C d (placeD C dp))) ∧
  (outF C d (placeD C dp) = .fine → ∀ row (k : Int), d = some (row.map (fun k : Nat => PyData.int (k : Int))) → dp = .int k → C.Row row → C.pIn k →
    ∀ t H', Same H H' → SqT K H' t [.int (C.chs k row).sum, .int (C.lv C.low (C.chs k row)), .int (C.lv C.high (C.chs k row)), .int (C.pl k row)] → Q (.ref t) H')
theorem ok_limits_of (T : Txt K mg) : FnOk P w K mg base (L2.CX P w) 9 T.f_limits_of T.d_limits_of ["coder", "row", "place"] (sp_limits_of K T.C_TooGreat T.C_BadRow T.C_OutOfPlace) := by
  refine T.F_limits_of.okX sc_limits_of (fun vs H Q E h => ?_) (fun cdv A outer s H vs Q E hr h => ?_)
  · obtain ⟨c, r, p, C, d, dp, rfl, _⟩ := h
    rfl
  · obtain ⟨c, r, p, C, d, dp, rfl, a, hp, e, q⟩ := h
    refine ⟨_,
(pss_cons (ps_expr (pe_call (ok_need_coder T) (hr.mono (by decide)) (by rfl) T.g_need_coder T.F_need_coder.kp T.b_need_coder .nil pass0 (pa_cons (pv 0) pa_nil)))
      (pss_cons (ps_if (pt_cmpR op_ne (pe_ix ix_tup (pv 0) pe_int (fun _ _ => rfl)) pe_int (nomark _)) (pss_one (ps_raise rfl (takes_of rfl rfl rfl rfl) (My.pmk0 T.o_OutOfPlace T.i_OutOfPlace T.t_OutOfPlace (oki_OutOfPlace T) (hr.mono (by decide)) T.bi_OutOfPlace T.g_OutOfPlace (pa_cons pe_str pa_nil)))) pss_nil)
      (pss_cons (ps_expr (pe_call (ok_need_row T) (hr.mono (by decide)) (by rfl) T.g_need_row T.F_need_row.kp T.b_need_row .nil (passes_call (takes_of rfl rfl rfl rfl) (fun _ _ _ _ h => h)) (pa_cons (pv 0) (pa_cons (pv 1) pa_nil))))
      (pss_cons (ps_expr (pe_call (ok_need_place T) (hr.mono (by decide)) (by rfl) T.g_need_place T.F_need_place.kp T.b_need_place .nil (passes_call (takes_of rfl rfl rfl rfl) (fun _ _ _ _ h => h)) (pa_cons (pv 0) (pa_cons (pv 2) pa_nil))))
      (pss_cons (ps_asg (pe_call (ok_changes_along T) (hr.mono (by decide)) (by rfl) T.g_changes_along T.F_changes_along.kp T.b_changes_along .nil pass0 (pa_cons (pv 0) (pa_cons (pv 1) (pa_cons (pv 2) pa_nil)))) (pg_tup (by rfl) (pgs_cons (pg_name (i := 3) sc_limits_of.nd rfl (Or.inl rfl)) (pgs_cons (pg_name (i := 4) sc_limits_of.nd rfl (Or.inl rfl)) pgs_nil))))
      (pss_cons (ps_asg (pe_call (ok_limits_behind T) (hr.mono (by decide)) (by rfl) T.g_limits_behind T.F_limits_behind.kp T.b_limits_behind .nil pass0 (pa_cons (pv 0) (pa_cons (pv 3) pa_nil))) (pg_tup (by rfl) (pgs_cons (pg_name (i := 5) sc_limits_of.nd rfl (Or.inl rfl)) (pgs_cons (pg_name (i := 6) sc_limits_of.nd rfl (Or.inl rfl)) (pgs_cons (pg_name (i := 7) sc_limits_of.nd rfl (Or.inl rfl)) pgs_nil)))))
      (pss_one (ps_ret (pe_tup (pa_cons (pv 5) (pa_cons (pv 6) (pa_cons (pv 7) (pa_cons (pv 4) pa_nil)))))))))))))
, ?_⟩
    have O := a.ok
    have hc := a.cod
    refine ⟨_, rfl, c, C.dat, rfl, hc, O.first, fun H1 s1 => ?_⟩
    obtain ⟨ca, cs, cm, cms, rfl, hca, hcs, hcm, hcmd⟩ := cod_at (dp_same s1 _ _ hc)
    refine ⟨_, rfl, ca, _, 4, _, rfl, rfl, hca, atI_nat (j := 4) rfl, rfl, _, rfl, ?_⟩
    by_cases f0 : C.fade = 0
    · rw [f0]
      refine iteF ?_
      refine ⟨_, rfl, _, rfl, .ref ca, r, C, d, rfl, dp_same s1 _ _ hc, a.row.same s1, fun h0 H3 s3 => ?_, fun i j h0 => ?_⟩
      · have s13 := s1.trans s3
        refine ⟨_, rfl, _, rfl, .ref ca, p, C, dp, rfl, dp_same s13 _ _ hc, dp_same s13 _ _ hp, fun h1 H4 s4 => ?_, fun h1 H4 s4 => ?_⟩
        · have s14 := s13.trans s4
          obtain ⟨row, rfl, R⟩ := rowRes_row h0
          obtain ⟨k, rfl, hk⟩ := placeD_out h1
          have q := q (outF_fine f0 h0 h1) row k rfl rfl R hk
          cases hp
          have hrow : Dp K H r (rowI row) := a.row
          refine ⟨_, rfl, _, rfl, _, rfl, .ref ca, r, C, row, k, rfl, O, dp_same s14 _ _ hc, dp_same s14 _ _ hrow, R, hk, fun t l H5 s5 hl0 hl ht => ?_⟩
          refine ⟨t, _, rfl, ht, rfl, _, _, rfl, _, _, rfl, rfl, ?_⟩
          have s15 := s14.trans s5
          refine ⟨_, rfl, _, rfl, .ref ca, l, C, _, rfl, O, dp_same s15 _ _ hc, SqL.of hl, fun t2 H6 s6 ht2 => ?_⟩
          refine ⟨t2, _, rfl, ht2, rfl, _, _, rfl, _, _, rfl, _, _, rfl, rfl, ?_⟩
          refine ⟨_, rfl, _, rfl, _, rfl, _, rfl, by show 4 ≤ sizeLine; decide, fun t3 ht3 => ?_⟩
          exact q t3 _ ((s15.trans s6).trans (same_new ht3)) upd_tup
        · have := e (by rw [outF_place f0 h0 h1]; exact fun z => by cases z)
          rw [outF_place f0 h0 h1] at this
          exact this H4 (s13.trans s4)
      · have := e (by rw [outF_row f0 h0]; exact fun z => by cases z)
        rw [outF_row f0 h0] at this
        exact RowE.same s1 this
    · have e1 : decide (V.int C.fade = V.int 0) = false := decide_eq_false fun z => f0 (V.int.inj z)
      rw [e1]
      refine iteT ?_
      have := e (by rw [outF_fade f0]; exact fun z => by cases z)
      rw [outF_fade f0] at this
      refine ⟨by decide, fun b hb => ⟨b, _, rfl, upd_same, rfl, upd_same, ?_⟩⟩
      rw [del_new hb]
      exact this H1 s1
end
end My

set_option pp.maxSteps 400
namespace My
open PySem PySem.Spec PyProof.Rows L2
theorem neD_f {K : PySem.W.Frag} {H : Hp} {x y : V} {d : PyData} {Z : Bool → Hp → Prop} (hx : Dp K H x d) (hy : Dp K H y d) (hs : SeqAt.shaped d = true) (q : Z false H) :
    rNeD K x y H fun v H' => ∃ k, v = .bl k ∧ Z k H' := by
  refine ⟨d, d, hx, hy, hs, hs, false, ?_, q⟩
  rw [SeqAt.eqv_refl d (SeqAt.canLay_of_shaped hs)]
  rfl
theorem eqD_t {K : PySem.W.Frag} {H : Hp} {x y : V} {d : PyData} {Q : VK} (hx : Dp K H x d) (hy : Dp K H y d) (hs : SeqAt.shaped d = true) (q : Q (.bl true) H) : rEqD K x y H Q := by
  refine ⟨d, d, hx, hy, hs, hs, ?_⟩
  rw [SeqAt.eqv_refl d (SeqAt.canLay_of_shaped hs)]
  exact q
theorem rowL_inj : ∀ {r q : List Nat}, rowL r = rowL q → r = q
  | [], [], _ => rfl
  | [], _ :: _, h => by cases h
  | _ :: _, [], h => by cases h
  | a :: r, b :: q, h => by
    have h' : PyData.int (a : Int) :: rowL r = PyData.int (b : Int) :: rowL q := h
    injection h' with h1 h2
    injection h1 with h1
    rw [rowL_inj h2, Int.ofNat.inj h1]
def mapD (C : Cod) (cs : List Int) (p : Int) : PyData := .tuple [.tuple ((C.mapL cs).map .int), .int p]
theorem mapL_len (C : Cod) (cs : List Int) : (C.mapL cs).length = C.wd := upto_len _ _
theorem lev_w {C : Cod} (O : C.Ok) {z : Int} (h : C.lIn z) : z.natAbs < 2 ^ 64 := by
  obtain ⟨a, b⟩ := h
  have := O.l1
  have := O.h2
  omega
theorem mapL_in {C : Cod} (O : C.Ok) {cs : List Int} {z : Int} (hz : z ∈ C.mapL cs) : C.lIn z := by
  obtain ⟨i, hi, e⟩ := List.getElem_of_mem hz
  obtain ⟨hiw, rfl⟩ := upto_get (f := fun i => C.lv (C.low + (i : Int)) cs) (n := C.wd) (List.getElem?_eq_getElem hi ▸ congrArg some e : (upto _ _)[i]? = some z)
  exact lv_in O cs (wd_in hiw)
theorem map_sh {C : Cod} (O : C.Ok) (hw : C.wd ≤ 81) (cs : List Int) {p : Int} (hp : C.pIn p) : Sh 2 400000 (mapD C cs p) := by
  have s2 := O.s2
  have h1 : Sh 1 160000 (.tuple ((C.mapL cs).map .int)) := (sh_ints (ns := C.mapL cs) fun z hz => lev_w O (mapL_in O hz)).mono (Nat.le_refl _) (by rw [mapL_len]; omega)
  exact (sh_tup (k := 1) (n := 160000) (ds := [.tuple ((C.mapL cs).map .int), .int p]) fun d hd => by
    rcases List.mem_cons.mp hd with e | e
    · rw [e]
      exact h1
    · rw [List.mem_singleton.mp e]
      exact (sh_int (by have := hp.1; have := hp.2; omega)).mono (by decide) (by decide)).mono (Nat.le_refl _) (by simp)
theorem sh_list3 {a b c : Int} (h1 : a.natAbs < 2 ^ 64) (h2 : b.natAbs < 2 ^ 64) (h3 : c.natAbs < 2 ^ 64) : Sh 1 6000 (.list [.int a, .int b, .int c]) := by
  have k1 := sh_int h1
  have k2 := sh_int h2
  have k3 := sh_int h3
  refine ⟨?_, rfl, Nat.le_refl _, ?_⟩
  · show ((PyData.int a).showable && ((PyData.int b).showable && ((PyData.int c).showable && true))) = true
    rw [k1.sh, k2.sh, k3.sh]
    rfl
  · show (listText [(PyData.int a).shown, (PyData.int b).shown, (PyData.int c).shown]).length ≤ _
    have e : ∀ x y z : Str, listText [x, y, z] = (((((((Str.ofString "[" ++ Str.ofString "") ++ x) ++ Str.ofString ", ") ++ y) ++ Str.ofString ", ") ++ z) ++ Str.ofString "]") := fun _ _ _ => rfl
    rw [e, strLen_append, strLen_append, strLen_append, strLen_append, strLen_append, strLen_append, strLen_append]
    have e0 : (Str.ofString "").length = 0 := by decide
    have e1 : (Str.ofString "[").length = 1 := by decide
    have e2 : (Str.ofString "]").length = 1 := by decide
    have e3 : (Str.ofString ", ").length = 2 := by decide
    have := k1.le
    have := k2.le
    have := k3.le
    omega
theorem sum_w {C : Cod} : ∀ (row : List Nat) (p : Int) (B : Nat), (∀ k q, (C.chg k q).natAbs ≤ B) → (C.chs p row).sum.natAbs ≤ row.length * B
  | [], _, _, _ => by simp [Cod.chs]
  | k :: r, p, B, h => by
    have ih := sum_w (C := C) r (C.plc p k) B h
    have h1 := h k p.toNat
    show (C.chg k p.toNat + (C.chs (C.plc p k) r).sum).natAbs ≤ (r.length + 1) * B
    rw [Nat.succ_mul]
    omega
theorem rnd_abs (n : Int) : (rnd n 8).natAbs ≤ n.natAbs := by
  unfold rnd
  split
  · rw [Int.fdiv_eq_ediv_of_nonneg _ (by omega)]
    omega
  · rw [Int.fdiv_eq_ediv_of_nonneg _ (by omega)]
    omega
theorem chg_w {C : Cod} (O : C.Ok) (k q : Nat) : (C.chg k q).natAbs ≤ 400000 := by
  unfold Cod.chg
  refine Nat.le_trans (rnd_abs _) ?_
  rw [Int.natAbs_mul]
  have h1 : ((C.moves.getD k (0, 0)).1).natAbs ≤ 32 := by
    by_cases hk : k < C.moves.length
    · have hm : (C.moves.getD k (0, 0)) ∈ C.moves := by
        rw [List.getD_eq_getElem?_getD, List.getElem?_eq_getElem hk]
        exact List.getElem_mem hk
      have := O.m3 _ hm
      omega
    · rw [List.getD_eq_getElem?_getD, List.getElem?_eq_none (by omega)]
      decide
  have h2 : (C.steps.getD q 0).natAbs ≤ 9999 := by
    by_cases hq : q < C.steps.length
    · have hm : (C.steps.getD q 0) ∈ C.steps := by
        rw [List.getD_eq_getElem?_getD, List.getElem?_eq_getElem hq]
        exact List.getElem_mem hq
      have := O.s3 _ hm
      omega
    · rw [List.getD_eq_getElem?_getD, List.getElem?_eq_none (by omega)]
      decide
  exact Nat.le_trans (Nat.mul_le_mul h1 h2) (by decide)
def endsL (C : Cod) (p : Int) (row : List Nat) (n : Nat) : List (Int × Int) := (List.range n).map fun (i : Nat) => (C.lv (C.low + (i : Int)) (C.chs p row), C.pl p row)
theorem endsL_succ {C : Cod} {p : Int} {row : List Nat} (n : Nat) : endsL C p row (n + 1) = endsL C p row n ++ [(C.lv (C.low + (n : Int)) (C.chs p row), C.pl p row)] := by
  unfold endsL
  rw [List.range_succ, List.map_append]
  rfl
theorem endsL_len {C : Cod} {p : Int} {row : List Nat} (n : Nat) : (endsL C p row n).length = n := by
  unfold endsL
  rw [List.length_map, List.length_range]
theorem endsL_get {C : Cod} {p : Int} {row : List Nat} {n i : Nat} (h : i < n) : ((endsL C p row n).map pairI)[i]? = some (pairI (C.lv (C.low + (i : Int)) (C.chs p row), C.pl p row)) := by
  unfold endsL
  rw [List.getElem?_map, List.getElem?_map, List.getElem?_range h]
  rfl
section
variable {P : Program} {w : World} {K : PySem.W.Frag} {mg : Str → Option Value} {base : Heap}
def sp_law_total (K : PySem.W.Frag) : Sp := fun vs H Q _ => ∃ (c r : V) (C : Cod) (row : List Nat) (p : Int), vs = [c, r, .int p] ∧ C.Ok ∧ Dp K H c C.dat ∧ Dp K H r (rowI row) ∧ C.Row row ∧ C.pIn p ∧
  ∀ H', Same H H' → Q (.int (C.chs p row).sum) H'
set_option maxHeartbeats 4000000 in
theorem ok_law_total (T : Txt K mg) : FnOk P w K mg base CX0 5 T.f__law_total T.d__law_total ["coder", "row", "place"] (sp_law_total K) := by
  refine T.F__law_total.ok sc_law_total (fun vs H Q E h => ?_) (fun cdv A outer s H vs Q E hr h => ?_)
  · obtain ⟨c, r, C, row, p, rfl, _⟩ := h
    rfl
  · obtain ⟨c, r, C, row, p, rfl, O, hc, hrow, R, hp, q⟩ := h
    refine ⟨_,
(pss_cons (ps_par (i := 3) (j := 4) (by rfl) sc_law_total.nd rfl rfl (by decide) rfl rfl (pa_cons pe_int (pa_cons (pe_tup (pa_cons pe_int (pa_cons (pv 2) pa_nil))) pa_nil)) (by rfl))
      (pss_cons (ps_for PassesOwn.never rfl (pi_tup (pv 1)) (pg_name (i := 5) sc_law_total.nd rfl (Or.inl rfl)) (pss_cons (ps_set (i := 3) sc_law_total.nd rfl (Or.inl rfl) (pe_op op_add (pv 3) (pe_call (ok_law_parted T) (hr.mono (by decide)) (by rfl) T.g__law_parted T.F__law_parted.kp T.b__law_parted .nil pass0 (pa_cons (pe_op op_mul (pe_ix ix_tup (pe_ix ix_tup (pe_ix ix_tup (pv 0) pe_int (fun _ _ => rfl)) (pv 5) (fun _ _ => rfl)) pe_int (fun _ _ => rfl)) (pe_ix ix_tup (pe_ix ix_tup (pv 0) pe_int (fun _ _ => rfl)) (pe_ix ix_tup (pv 4) pe_int (fun _ _ => rfl)) (fun _ _ => rfl))) (pa_cons pe_int pa_nil)))))
      (pss_one (ps_set (i := 4) sc_law_total.nd rfl (Or.inl rfl) (pe_call (ok_law_led T) (hr.mono (by decide)) (by rfl) T.g__law_led T.F__law_led.kp T.b__law_led .nil pass0 (pa_cons (pv 0) (pa_cons (pv 4) (pa_cons (pv 5) pa_nil))))))))
      (pss_one (ps_ret (pv 3)))))
, ?_⟩
    have hc' := hc
    obtain ⟨a, s, m, ms, rfl, ha, hs, hm, hmd⟩ := cod_at hc
    obtain ⟨ra, rfl, hra⟩ := row_at hrow
    have hst : C.St (0, p) := ⟨O.l2, O.h1, hp.1, by have := hp.2; show p < (C.steps.length : Int); omega⟩
    refine ⟨_, rfl, by show 2 ≤ sizeLine; decide, fun t ht => ⟨_, _, rfl, ?_⟩⟩
    have s1 := same_new (o := .tup [.int 0, .int p]) ht
    refine ⟨.ref ra, rfl, ra, rfl, ⟨_, same_tup s1 hra⟩, ?_⟩
    refine for_tup (K := K) (a := ra) (xs := rowV row) (fun i σ H' => ∃ z y, σ = [some (.ref a), some (.ref ra), some (.int p), some (.int (C.chs p (row.take i)).sum), some z, y] ∧ Same H H' ∧ Dp K H' z (pairI (C.run (0, p) (row.take i)))) ⟨.ref t, none, rfl, s1, dp_mkpair upd_tup⟩ ?_ ?_ ?_
    · rintro i σ H' _ ⟨_, _, _, s2, _⟩
      exact same_tup s2 hra
    · rintro i v σ H' hi ⟨z, y, rfl, s2, hz⟩
      obtain ⟨k, hk, rfl⟩ := rowV_get hi
      have hkm := R.lt k (List.mem_of_getElem? hk)
      have hq := pl_in O (row.take i) hp
      have er := run_eq (C := C) (row.take i) (0, p)
      obtain ⟨b, rfl, hb⟩ := dp_pair hz
      have hS := run_St O (row.take i) hst
      rw [er] at hb
      obtain ⟨t, ht, hT⟩ := move_at hmd hkm
      have e2 : C.pl p (row.take i) = ((C.pl p (row.take i)).toNat : Int) := by have := hq.1; omega
      refine ⟨_, rfl, _, rfl, a, _, 3, _, rfl, rfl, same_tup s2 ha, atI_nat (j := 3) rfl, _, rfl, m, _, k, _, rfl, rfl, same_tup s2 hm, atI_nat ht, t, _, 0, _, rfl, rfl, same_tup s2 hT, atI_nat (j := 0) rfl,
        _, rfl, a, _, 2, _, rfl, rfl, same_tup s2 ha, atI_nat (j := 2) rfl, _, rfl, b, _, 1, _, rfl, rfl, hb, atI_nat (j := 1) rfl, s, _, C.pl p (row.take i), .int (C.steps.getD (C.pl p (row.take i)).toNat 0), rfl, rfl, same_tup s2 hs, ?_, _, _, rfl, rfl, ?_, ?_⟩
      · rw [e2]
        exact atI_nat (step_at (by have := hq.2; omega))
      · have hm3 : (C.moves.getD k (0, 0)) ∈ C.moves := by
          rw [List.getD_eq_getElem?_getD, List.getElem?_eq_getElem hkm]
          exact List.getElem_mem hkm
        have := O.m3 _ hm3
        exact .inl ⟨by omega, by omega⟩
      refine ⟨_, 8, rfl, by decide, by decide, _, _, rfl, rfl, ?_⟩
      refine ⟨_, rfl, _, rfl, _, rfl, .ref a, .ref b, C, _, k, rfl, O, dp_same s2 _ _ hc', hz, hS, hkm, fun q hq' => ?_⟩
      refine ⟨.ref q, some (.int k), ?_, s2.trans (same_new hq'), ?_⟩
      · rw [take_snoc hk, chs_snoc, List.sum_append]
        show _ = [some (V.ref a), some (V.ref ra), some (V.int p), some (V.int ((C.chs p (row.take i)).sum + (C.chg k (C.pl p (row.take i)).toNat + 0))), some (V.ref q), some (V.int k)]
        rw [Int.add_zero]
        rfl
      · rw [take_snoc hk, run_snoc]
        exact dp_mkpair upd_tup
    · rintro σ H' ⟨z, y, rfl, s2, hz⟩
      have e : row.take (rowV row).length = row := by
        unfold rowV
        rw [List.length_map, List.take_length]
      rw [e]
      exact ⟨_, rfl, q H' s2⟩
end
end My

set_option pp.maxSteps 400
namespace My
open PySem PySem.Spec PyProof.Rows L2 RZ
section
variable {P : Program} {w : World} {K : PySem.W.Frag} {mg : Str → Option Value} {base : Heap}
def sp_place_right (K : PySem.W.Frag) : Sp := fun vs H Q _ => ∃ (c r : V) (C : Cod) (row : List Nat) (p : Int), vs = [c, r, .int p] ∧ C.Ok ∧ Dp K H c C.dat ∧ Dp K H r (rowI row) ∧ C.Row row ∧ row.length ≤ 63 ∧ C.cnt ≤ 4096 ∧ C.wd ≤ 81 ∧ C.pIn p ∧
  ∀ H', Same H H' → Q (.bl true) H'
set_option maxHeartbeats 8000000 in
theorem ok_law_place_right (T : Txt K mg) : FnG P w K mg base 11 T.f__law_place_right T.d__law_place_right ["coder", "row", "place"] (sp_place_right K) := by
  refine okG T.F__law_place_right sc_law_place_right (fun vs H Q E h => ?_) (fun cdv A outer s H vs Q E hgd hr h => ?_)
  · obtain ⟨c, r, C, row, p, rfl, _⟩ := h
    rfl
  · obtain ⟨c, r, C, row, p, rfl, O, hc, hrow, R, hlen, few, hw, hp, q⟩ := h
    refine ⟨_,
(pss_cons (ps_setLc (i := 3) (own := [("level", 11)]) rfl sc_law_place_right.nd rfl rfl (sw_true rfl rfl rfl (by decide +kernel)) (pi_range2 (by rfl) T.z_range (pa_cons (pe_ix ix_tup (pv 0) pe_int (fun _ _ => rfl)) (pa_cons (pe_op op_add (pe_ix ix_tup (pv 0) pe_int (fun _ _ => rfl)) pe_int) pa_nil))) (blkOk_by (own := [("level", 11)]) (N := ["coder", "row", "place", "ends", "told", "behind", "total", "least", "greatest", "last", "due", "level", "one", "other", "end"]) (sc := defScope s_law_place_right) (by decide +kernel)) (fun _ _ _ _ _ => (pg_name (i := 11) sc_law_place_right.nd rfl (Or.inl rfl))) (fun _ _ _ _ _ => pts_nil) (fun _ _ _ _ _ => (pe_ix (My.ix_listK (K := K)) (pe_call (ok_law_walked T) (hr.mono (by decide)) (by rfl) T.g__law_walked T.F__law_walked.kp T.b__law_walked .nil pass0 (pa_cons (pv 0) (pa_cons (pe_tup (pa_cons (pv 11) (pa_cons (pv 2) pa_nil))) (pa_cons (pv 1) pa_nil)))) (pe_un un_neg pe_int) (fun _ _ => rfl))))
      (pss_cons (ps_asg (pe_call (ok_row_map T) (hr.mono (by decide)) (by rfl) T.g_row_map T.F_row_map.kp T.b_row_map .nil passL (pa_cons (pv 0) (pa_cons (pv 1) (pa_cons (pv 2) pa_nil)))) (pg_tup (by rfl) (pgs_cons (pg_name (i := 4) sc_law_place_right.nd rfl (Or.inl rfl)) (pgs_cons (pg_name (i := 5) sc_law_place_right.nd rfl (Or.inl rfl)) pgs_nil))))
      (pss_cons (ps_if (pt_cmpR op_ne (pe_callB ((call_repr hgd hr.units)) (by rfl) T.z_repr (by decide +kernel) (pa_cons (pe_tup (pa_cons (pv 4) (pa_cons (pv 5) pa_nil))) pa_nil)) (pe_callB ((call_repr hgd hr.units)) (by rfl) T.z_repr (by decide +kernel) (pa_cons (pe_tup (pa_cons (pe_callTy call_tuple_of (by rfl) T.z_tuple (by decide +kernel) (pa_cons (pe_lc (own := [("end", 14)]) rfl sc_law_place_right.nd (pi_list (pv 3)) (blkOk_by (own := [("end", 14)]) (N := ["coder", "row", "place", "ends", "told", "behind", "total", "least", "greatest", "last", "due", "level", "one", "other", "end"]) (sc := defScope s_law_place_right) (by decide +kernel)) (fun _ _ _ _ _ => (pg_name (i := 14) sc_law_place_right.nd rfl (Or.inl rfl))) (fun _ _ _ _ _ => pts_nil) (fun _ _ _ _ _ => (pe_ix (My.ix_tupK (K := K)) (pv 14) pe_int (fun _ _ => rfl)))) pa_nil)) (pa_cons (pe_ix ix_tup (pe_ix ix_list (pv 3) pe_int (fun _ _ => rfl)) pe_int (fun _ _ => rfl)) pa_nil))) pa_nil)) (nomark _)) (pss_one (ps_ret pe_bl)) pss_nil)
      (pss_cons (ps_if (pt_cmpR (op_neD hr.units) (pe_lc (own := [("one", 12), ("other", 13)]) rfl sc_law_place_right.nd (pi_zipA (by rfl) T.z_zip (pa_cons (pv 4) (pa_cons (pe_slice sl_tupA (pv 4) (po_some pe_int) po_none) pa_nil))) (blkOk_by (own := [("one", 12), ("other", 13)]) (N := ["coder", "row", "place", "ends", "told", "behind", "total", "least", "greatest", "last", "due", "level", "one", "other", "end"]) (sc := defScope s_law_place_right) (by decide +kernel)) (fun _ _ _ _ _ => (My.pg_tupK (K := K) (n := 2) rfl (pgs_cons (pg_name (i := 12) sc_law_place_right.nd rfl (Or.inl rfl)) (pgs_cons (pg_name (i := 13) sc_law_place_right.nd rfl (Or.inl rfl)) pgs_nil)))) (fun _ _ _ _ _ => pts_one (pt_cmpR (My.op_notIn_seqK (K := K)) (pe_op op_sub (pv 13) (pv 12)) (pe_tup (pa_cons pe_int (pa_cons pe_int pa_nil))) (by with_unfolding_all rfl))) (fun _ _ _ _ _ => pe_int)) (pe_lst pa_nil) (nomark _)) (pss_one (ps_ret pe_bl)) pss_nil)
      (pss_cons (ps_if (pt_cmpR op_ne (pe_ix ix_tup (pv 0) pe_int (fun _ _ => rfl)) pe_int (nomark _)) (pss_one (ps_ret pe_bl)) pss_nil)
      (pss_cons (ps_asg (pe_call (ok_limits_of T) (hr.mono (by decide)) (by rfl) T.g_limits_of T.F_limits_of.kp T.b_limits_of .nil passL (pa_cons (pv 0) (pa_cons (pv 1) (pa_cons (pv 2) pa_nil)))) (pg_tup (by rfl) (pgs_cons (pg_name (i := 6) sc_law_place_right.nd rfl (Or.inr rfl)) (pgs_cons (pg_name (i := 7) sc_law_place_right.nd rfl (Or.inr rfl)) (pgs_cons (pg_name (i := 8) sc_law_place_right.nd rfl (Or.inr rfl)) (pgs_cons (pg_name (i := 9) sc_law_place_right.nd rfl (Or.inl rfl)) pgs_nil))))))
      (pss_cons (ps_setLc (i := 10) (own := [("level", 11)]) rfl sc_law_place_right.nd rfl rfl (sw_true rfl rfl rfl (by decide +kernel)) (pi_range2 (by rfl) T.z_range (pa_cons (pe_ix ix_tup (pv 0) pe_int (fun _ _ => rfl)) (pa_cons (pe_op op_add (pe_ix ix_tup (pv 0) pe_int (fun _ _ => rfl)) pe_int) pa_nil))) (blkOk_by (own := [("level", 11)]) (N := ["coder", "row", "place", "ends", "told", "behind", "total", "least", "greatest", "last", "due", "level", "one", "other", "end"]) (sc := defScope s_law_place_right) (by decide +kernel)) (fun _ _ _ _ _ => (pg_name (i := 11) sc_law_place_right.nd rfl (Or.inl rfl))) (fun _ _ _ _ _ => pts_nil) (fun _ _ _ _ _ => (pe_callB (call_max2 rfl) (by rfl) T.z_max (by decide +kernel) (pa_cons (pv 7) (pa_cons (pe_op op_add (pv 11) (pv 6)) pa_nil)))))
      (pss_cons (ps_if (pt_cmpR op_ne (pe_callB ((call_repr hgd hr.units)) (by rfl) T.z_repr (by decide +kernel) (pa_cons (pe_lst (pa_cons (pv 7) (pa_cons (pv 8) (pa_cons (pv 9) pa_nil)))) pa_nil)) (pe_callB ((call_repr hgd hr.units)) (by rfl) T.z_repr (by decide +kernel) (pa_cons (pe_lst (pa_cons (pe_ix ix_tup (pv 4) pe_int (fun _ _ => rfl)) (pa_cons (pe_ix ix_tup (pv 4) (pe_un un_neg pe_int) (fun _ _ => rfl)) (pa_cons (pv 5) pa_nil)))) pa_nil)) (nomark _)) (pss_one (ps_ret pe_bl)) pss_nil)
      (pss_cons (ps_if (pt_cmpR op_ne (pe_callB ((call_repr hgd hr.units)) (by rfl) T.z_repr (by decide +kernel) (pa_cons (pv 6) pa_nil)) (pe_callB ((call_repr hgd hr.units)) (by rfl) T.z_repr (by decide +kernel) (pa_cons (pe_call (ok_law_total T) (hr.mono (by decide)) (by rfl) T.g__law_total T.F__law_total.kp T.b__law_total .nil pass0 (pa_cons (pv 0) (pa_cons (pv 1) (pa_cons (pv 2) pa_nil)))) pa_nil)) (nomark _)) (pss_one (ps_ret pe_bl)) pss_nil)
      (pss_one (ps_ret (pe_cmpR (op_eqD hr.units) (pe_lc (own := [("level", 11)]) rfl sc_law_place_right.nd (pi_list (pv 10)) (blkOk_by (own := [("level", 11)]) (N := ["coder", "row", "place", "ends", "told", "behind", "total", "least", "greatest", "last", "due", "level", "one", "other", "end"]) (sc := defScope s_law_place_right) (by decide +kernel)) (fun _ _ _ _ _ => (pg_name (i := 11) sc_law_place_right.nd rfl (Or.inl rfl))) (fun _ _ _ _ _ => pts_nil) (fun _ _ _ _ _ => (pe_callB (call_min2 rfl) (by rfl) T.z_min (by decide +kernel) (pa_cons (pv 8) (pa_cons (pv 11) pa_nil))))) (pe_callTy call_list_of (by rfl) T.z_list (by decide +kernel) (pa_cons (pv 4) pa_nil)) (nomark _)))))))))))))
, ?_⟩
    have hc' := hc
    obtain ⟨a, s, m, ms, rfl, ha, hs, hm, hmd⟩ := cod_at hc
    obtain ⟨ra, rfl, hra⟩ := row_at hrow
    have l1 := O.l1
    have l2 := O.l2
    have h1 := O.h1
    have h2 := O.h2
    have ewd : (C.high + 1 - C.low).toNat = C.wd := rfl
    have hw1 : 0 < C.wd := by
      unfold Cod.wd
      omega
    -- ends
    refine ⟨_, rfl, a, _, 0, _, rfl, rfl, ha, atI_nat (j := 0) rfl, _, rfl, a, _, 1, _, rfl, rfl, ha, atI_nat (j := 1) rfl, _, _, rfl, rfl, _, _, rfl, ⟨by omega, by omega, by omega, by omega⟩, fun D hD => ?_⟩
    refine lc_range (lo := C.low) (n := (C.high + 1 - C.low).toNat) (fun i H' => ∃ zs, H' D = some (.lst zs) ∧ DpAll K H' zs ((endsL C p row i).map pairI) ∧ Same H H') ⟨[], upd_same, .nil, same_new hD⟩ ?_ ?_
    · rintro i H2 hi ⟨zs, hD2, hz2, s2⟩
      rw [ewd] at hi
      refine ⟨rfl, yes_turn ?_⟩
      refine ⟨_, rfl, _, rfl, _, rfl, by show 2 ≤ sizeLine; decide, fun t ht => ?_⟩
      have st := same_new (o := .tup [.int (C.low + (i : Int)), .int p]) ht
      have hin := wd_in hi
      refine ⟨_, rfl, .ref a, .ref t, .ref ra, C, row, (C.low + (i : Int), p), rfl, O, dp_same (s2.trans st) _ _ hc', dp_row (same_tup (s2.trans st) hra), R, dp_mkpair upd_tup, ⟨hin.1, hin.2, hp.1, by have := hp.2; show p < (C.steps.length : Int); omega⟩, fun b xs3 H3 s3 hb0 hb3 hxs3 => ?_⟩
      obtain ⟨pl, epl⟩ := path_last (C := C) row (C.low + (i : Int), p)
      rw [epl] at hxs3
      obtain ⟨ys, z, rfl, hz⟩ := dp_last hxs3
      rw [run_eq] at hz
      have s23 := st.trans s3
      have hD3 := s23 _ _ hD2
      refine ⟨1, rfl, b, _, -1, z, rfl, rfl, SqL.of hb3, atI_last _ _, zs, hD3, ?_, zs ++ [z], upd_same, ?_, same_put (s2.trans s23) hD⟩
      · rw [dpAll_len hz2, List.length_map, endsL_len]
        exact small1000 (by omega)
      · rw [endsL_succ, List.map_append]
        exact dpAll_app (pairs_set hD3 (dpAll_same s23 _ _ hz2)) (dpAll_keep (keep_set hD3) _ _ (noLs_pairs [_]) (.cons hz .nil))
    rintro H1 ⟨zs, hD1, hz1, s1⟩
    rw [ewd] at hz1
    -- told, behind
    have fine : outB C (some (rowL row)) (placeD C (.int p)) = .fine := outB_fine few (row_ok rfl R) (placeD_in hp)
    refine ⟨_, rfl, _, rfl, _, rfl, .ref a, .ref ra, .int p, C, some (rowL row), .int p, rfl, ⟨O, dp_same s1 _ _ hc', dp_row (same_tup s1 hra)⟩, .int _, fun ne => absurd fine ne, fun _ row' k' er ek _ _ => ?_⟩
    obtain rfl := rowL_inj (Option.some.inj er)
    cases ek
    refine ⟨hlen, fun t2 u2 H2 s2 ht2 hu2 => ?_⟩
    refine ⟨t2, _, rfl, ht2, rfl, _, _, rfl, _, _, rfl, rfl, ?_⟩
    have s12 := s1.trans s2
    have hD2 := s2 _ _ hD1
    have hz2 := dpAll_same s2 _ _ hz1
    -- the first test
    have msh := map_sh O hw (C.chs p row) (pl_in O row hp)
    refine ⟨_, rfl, _, rfl, by show 2 ≤ sizeLine; decide, fun t3 ht3 => ?_⟩
    have s3 := same_new (o := .tup [V.ref u2, V.int (C.pl p row)]) ht3
    refine ⟨_, _, rfl, .tup upd_tup (.cons (dp_tints (same_tup s3 hu2)) (.cons (.int _) .nil)), msh.sh, msh.nd, Nat.le_trans msh.dp (by decide), sz_line (Nat.le_trans msh.le (by decide)), ?_⟩
    have s13 := s12.trans s3
    have hD3 := s3 _ _ hD2
    have hz3 := dpAll_same s3 _ _ hz2
    have hu3 := same_tup s3 hu2
    generalize upd H2 t3 (.tup [V.ref u2, V.int (C.pl p row)]) = H3 at s13 hD3 hz3 hu3
    clear s3 hD2 hz2 hu2 ht2 s2 s12 hz1 hD1
    refine ⟨_, rfl, D, rfl, ⟨_, SqL.of hD3⟩, fun F hF => ?_⟩
    refine lc_list (K := K) (a := D) (xs := zs) (fun i H' => H' F = some (.lst ((upto (fun i => C.lv (C.low + (i : Int)) (C.chs p row)) i).map V.int)) ∧ Same H3 H') ⟨upd_same, same_new hF⟩ ?_ ?_ ?_
    · rintro i H' _ ⟨_, s4⟩
      exact SqL.of (s4 _ _ hD3)
    · rintro i v H4 hi ⟨hF4, s4⟩
      have hiw : i < C.wd := by
        have h1 := (List.getElem?_eq_some_iff.mp hi).1
        have h2 := dpAll_len hz3
        rw [List.length_map, endsL_len] at h2
        omega
      obtain ⟨d, hd1, hd2⟩ := dpAll_get hz3 hi
      rw [endsL_get hiw] at hd1
      obtain rfl := Option.some.inj hd1
      obtain ⟨b, rfl, hb⟩ := dp_pair hd2
      refine ⟨rfl, yes_turn ?_⟩
      refine ⟨_, rfl, b, _, 0, _, rfl, rfl, same_tup s4 hb, atI_nat (j := 0) rfl, _, hF4, ?_, ?_, same_put s4 hF⟩
      · rw [List.length_map, upto_len]
        exact small1000 (by omega)
      · rw [upd_same, upto_succ, List.map_append]
        rfl
    rintro H4 ⟨hF4, s4⟩
    have hzl : zs.length = C.wd := by rw [dpAll_len hz3, List.length_map, endsL_len]
    rw [hzl] at hF4
    refine ⟨F, _, rfl, .inl ⟨SqL.of hF4, fun u5 hu5 => ?_⟩⟩
    have s5 := same_new (o := .tup ((C.mapL (C.chs p row)).map V.int)) hu5
    have s45 := s4.trans s5
    obtain ⟨z0, hz0, hzd0⟩ := dpAll_get' (dpAll_same s45 _ _ hz3) (endsL_get hw1)
    obtain ⟨b0, rfl, hb0⟩ := dp_pair hzd0
    refine ⟨_, rfl, D, _, ((0 : Nat) : Int), .ref b0, rfl, rfl, SqL.of (s45 _ _ hD3), atI_nat hz0, b0, _, 1, _, rfl, rfl, hb0, atI_nat (j := 1) rfl, by show 2 ≤ sizeLine; decide, fun t6 ht6 => ?_⟩
    have s6 := same_new (o := .tup [V.ref u5, V.int (C.pl p row)]) ht6
    refine ⟨_, _, rfl, .tup upd_tup (.cons (dp_tints (.inl (.inl (s6 _ _ upd_same)))) (.cons (.int _) .nil)), msh.sh, msh.nd, Nat.le_trans msh.dp (by decide), sz_line (Nat.le_trans msh.le (by decide)), rfl, _, rfl, iteNS rfl ?_⟩
    have s36 := s45.trans s6
    have s16 := s13.trans s36
    have hu6 := same_tup s36 hu3
    generalize upd (upd H4 u5 _) t6 _ = H6 at s16 hu6
    clear s6 hb0 hzd0 hz0 s45 s5 hF4 hzl s4 hD3 hz3 hu3 s36 s13 s1
    -- the second test
    have hml : ((C.mapL (C.chs p row)).map V.int).length = C.wd := by rw [List.length_map, mapL_len]
    refine ⟨_, rfl, _, rfl, 1, rfl, ?_⟩
    refine sl_dropV (n := 1) hu6 (by rw [hml]; omega) fun b7 H7 s7 hb7 => ?_
    refine ⟨u2, b7, _, _, rfl, .inr ⟨same_tup s7 hu6, hb7, fun G hG => ?_⟩⟩
    refine lc_zipT (K := K) (xs := (C.mapL (C.chs p row)).map V.int) (ys := ((C.mapL (C.chs p row)).map V.int).drop 1) (C.wd - 1) (by rw [List.length_drop, hml]; omega) (fun i H' => H' G = some (.lst []) ∧ Same H7 H') ⟨upd_same, same_new hG⟩ ?_ ?_ ?_
    · rintro i H' _ ⟨_, s8⟩
      exact ⟨same_tup (s7.trans s8) hu6, same_tup s8 hb7⟩
    · rintro i x y t8 H8 hx hy ⟨hG8, s8⟩ ht8
      obtain ⟨zx, hzx, rfl⟩ := int_at hx
      obtain ⟨hiw, rfl⟩ := upto_get hzx
      rw [List.getElem?_drop] at hy
      obtain ⟨zy, hzy, rfl⟩ := int_at hy
      obtain ⟨hiw2, rfl⟩ := upto_get hzy
      have hnx := lv_next O (C.chs p row) (C.low + (i : Int)) (C.low + ((1 + i : Nat) : Int)) (by omega) (by omega)
      refine ⟨t8, _, rfl, upd_tup, rfl, _, _, rfl, _, _, rfl, rfl, rfl, ?_⟩
      have st8 := same_new (o := .tup [V.int (C.lv (C.low + (i : Int)) (C.chs p row)), V.int (C.lv (C.low + ((1 + i : Nat) : Int)) (C.chs p row))]) ht8
      refine ⟨_, rfl, _, rfl, _, _, rfl, rfl, by show 2 ≤ sizeLine; decide, fun t9 ht9 => ?_⟩
      have st9 := same_new (o := .tup [V.int 0, V.int 1]) ht9
      refine ⟨t9, _, rfl, .inr upd_tup, rfl, rfl, _, rfl, ?_⟩
      have e : inV (V.int (C.lv (C.low + ((1 + i : Nat) : Int)) (C.chs p row) - C.lv (C.low + (i : Int)) (C.chs p row))) [V.int 0, V.int 1] = true := by
        have h : C.lv (C.low + ((1 + i : Nat) : Int)) (C.chs p row) - C.lv (C.low + (i : Int)) (C.chs p row) = 0 ∨ C.lv (C.low + ((1 + i : Nat) : Int)) (C.chs p row) - C.lv (C.low + (i : Int)) (C.chs p row) = 1 := by omega
        rcases h with h | h <;> rw [h] <;> rfl
      rw [e]
      refine iteF ?_
      exact ⟨(st8.trans st9) _ _ hG8, s8.trans (st8.trans st9)⟩
    rintro H8 ⟨hG8, s8⟩
    refine ⟨by show 0 ≤ sizeLine; decide, fun L hL => ?_⟩
    have s9 := same_new (o := .lst []) hL
    refine neD_f (d := .list []) (.lst (SqL.of (s9 _ _ hG8)) .nil) (.lst (SqL.of upd_same) .nil) (by rfl) (iteF ?_)
    have s19 := s16.trans (s7.trans (s8.trans s9))
    have hu9 := same_tup (s7.trans (s8.trans s9)) hu6
    generalize upd H8 L (.lst []) = H9 at s19 hu9
    clear s9 hG8 s8 hb7 s7 s16 hu6
    -- the fade
    refine ⟨_, rfl, a, _, 4, _, rfl, rfl, same_tup s19 ha, atI_nat (j := 4) rfl, rfl, _, rfl, ?_⟩
    by_cases f0 : ¬ C.fade = 0
    · have e1 : decide (V.int C.fade = V.int 0) = false := decide_eq_false fun z => f0 (V.int.inj z)
      rw [e1]
      refine iteT ?_
      exact q _ s19
    have f0 : C.fade = 0 := Decidable.byContradiction f0
    have e1 : decide (V.int C.fade = V.int 0) = true := decide_eq_true (by rw [f0])
    rw [e1]
    refine iteF ?_
    have fineF : outF C (some (rowL row)) (placeD C (.int p)) = .fine := outF_fine f0 (row_ok rfl R) (placeD_in hp)
    refine ⟨_, rfl, _, rfl, _, rfl, .ref a, .ref ra, .int p, C, some (rowL row), .int p, rfl, ⟨O, dp_same s19 _ _ hc', dp_row (same_tup s19 hra)⟩, .int _, fun ne => absurd fineF ne, fun _ row' k' er ek _ _ t10 H10 s10 ht10 => ?_⟩
    obtain rfl := rowL_inj (Option.some.inj er)
    cases ek
    refine ⟨t10, _, rfl, ht10, rfl, _, _, rfl, _, _, rfl, _, _, rfl, _, _, rfl, rfl, ?_⟩
    have s110 := s19.trans s10
    have hu10 := same_tup s10 hu9
    have ha10 := same_tup s110 ha
    clear ht10 s10 s19 hu9
    -- due
    refine ⟨_, rfl, a, _, 0, _, rfl, rfl, ha10, atI_nat (j := 0) rfl, _, rfl, a, _, 1, _, rfl, rfl, ha10, atI_nat (j := 1) rfl, _, _, rfl, rfl, _, _, rfl, ⟨by omega, by omega, by omega, by omega⟩, fun D hD => ?_⟩
    refine lc_range (lo := C.low) (n := (C.high + 1 - C.low).toNat) (fun i H' => H' D = some (.lst ((upto (fun i => if C.low + (i : Int) + (C.chs p row).sum > C.lv C.low (C.chs p row) then C.low + (i : Int) + (C.chs p row).sum else C.lv C.low (C.chs p row)) i).map V.int)) ∧ Same H10 H') ⟨upd_same, same_new hD⟩ ?_ ?_
    · rintro i H2 hi ⟨hD2, s2⟩
      rw [ewd] at hi
      refine ⟨rfl, yes_turn ?_⟩
      refine ⟨_, rfl, _, rfl, _, rfl, _, _, rfl, rfl, _, _, rfl, _, hD2, ?_, ?_, same_put s2 hD⟩
      · rw [List.length_map, upto_len]
        exact small1000 (by omega)
      · rw [upd_same, upto_succ, List.map_append]
        rfl
    rintro H11 ⟨hD11, s11⟩
    rw [ewd] at hD11
    have hu11 := same_tup s11 hu10
    -- the third test
    have lA := lev_w O (lv_in O (C.chs p row) (l := C.low) ⟨Int.le_refl _, by omega⟩)
    have lB := lev_w O (lv_in O (C.chs p row) (l := C.high) ⟨by omega, Int.le_refl _⟩)
    have hpl := pl_in O row hp
    have lsh := sh_list3 lA lB (show (C.pl p row).natAbs < 2 ^ 64 by have := hpl.1; have := hpl.2; have := O.s2; omega)
    refine ⟨_, rfl, _, rfl, _, rfl, by show 3 ≤ sizeLine; decide, fun l12 hl12 => ?_⟩
    have s12 := same_new (o := .lst [V.int (C.lv C.low (C.chs p row)), V.int (C.lv C.high (C.chs p row)), V.int (C.pl p row)]) hl12
    refine ⟨_, _, rfl, .lst (SqL.of upd_same) (.cons (.int _) (.cons (.int _) (.cons (.int _) .nil))), lsh.sh, lsh.nd, Nat.le_trans lsh.dp (by decide), sz_line (Nat.le_trans lsh.le (by decide)), ?_⟩
    have hu12 := same_tup s12 hu11
    have eh : C.low + ((C.wd - 1 : Nat) : Int) = C.high := by
      unfold Cod.wd
      omega
    have hlast : (C.mapL (C.chs p row)).map V.int = ((upto (fun i => C.lv (C.low + (i : Int)) (C.chs p row)) (C.wd - 1)).map V.int) ++ [V.int (C.lv C.high (C.chs p row))] := by
      unfold Cod.mapL
      rw [show C.wd = (C.wd - 1) + 1 by omega, upto_succ, List.map_append, show C.wd - 1 + 1 - 1 = C.wd - 1 by omega, eh]
      rfl
    have hfst : ((C.mapL (C.chs p row)).map V.int)[0]? = some (V.int (C.lv C.low (C.chs p row))) := by
      have := upto_at (f := fun i => C.lv (C.low + (i : Int)) (C.chs p row)) hw1
      rw [show C.low + ((0 : Nat) : Int) = C.low by omega] at this
      exact this
    have hu12' := hu12
    rw [hlast] at hu12'
    refine ⟨_, rfl, u2, _, ((0 : Nat) : Int), _, rfl, rfl, hu12, atI_nat hfst, _, rfl, 1, rfl, u2, _, -1, _, rfl, rfl, hu12', atI_last _ _, _, rfl, by show 3 ≤ sizeLine; decide, fun l13 hl13 => ?_⟩
    have s13 := same_new (o := .lst [V.int (C.lv C.low (C.chs p row)), V.int (C.lv C.high (C.chs p row)), V.int (C.pl p row)]) hl13
    refine ⟨_, _, rfl, .lst (SqL.of upd_same) (.cons (.int _) (.cons (.int _) (.cons (.int _) .nil))), lsh.sh, lsh.nd, Nat.le_trans lsh.dp (by decide), sz_line (Nat.le_trans lsh.le (by decide)), rfl, _, rfl, iteNS rfl ?_⟩
    have s1013 := s11.trans (s12.trans s13)
    have hu13 := same_tup s13 hu12
    have hD13 := (s12.trans s13) _ _ hD11
    have s113 := s110.trans s1013
    generalize upd (upd H11 l12 _) l13 _ = H13 at s113 hu13 hD13
    clear s13 s12 hu12 hu12' s1013 s11 hD11 hu11 lsh
    -- the fourth test
    have tsh := sh_int (i := (C.chs p row).sum) (by
      have := sum_w row p 400000 (chg_w O)
      have h3 : row.length * 400000 ≤ 63 * 400000 := Nat.mul_le_mul_right _ hlen
      omega)
    refine ⟨_, rfl, _, _, rfl, .int _, tsh.sh, tsh.nd, Nat.le_trans tsh.dp (by decide), sz_line (Nat.le_trans tsh.le (by decide)), ?_⟩
    refine ⟨_, rfl, _, rfl, _, rfl, .ref a, .ref ra, C, row, p, rfl, O, dp_same s113 _ _ hc', dp_row (same_tup s113 hra), R, hp, fun H14 s14 => ?_⟩
    refine ⟨_, _, rfl, .int _, tsh.sh, tsh.nd, Nat.le_trans tsh.dp (by decide), sz_line (Nat.le_trans tsh.le (by decide)), rfl, _, rfl, iteNS rfl ?_⟩
    -- the last one
    have hD14 := s14 _ _ hD13
    have hu14 := same_tup s14 hu13
    refine ⟨_, rfl, D, rfl, ⟨_, SqL.of hD14⟩, fun F hF => ?_⟩
    refine lc_list (K := K) (a := D) (xs := (upto (fun i => if C.low + (i : Int) + (C.chs p row).sum > C.lv C.low (C.chs p row) then C.low + (i : Int) + (C.chs p row).sum else C.lv C.low (C.chs p row)) C.wd).map V.int) (fun i H' => H' F = some (.lst ((upto (fun i => C.lv (C.low + (i : Int)) (C.chs p row)) i).map V.int)) ∧ Same H14 H') ⟨upd_same, same_new hF⟩ ?_ ?_ ?_
    · rintro i H' _ ⟨_, s4⟩
      exact SqL.of (s4 _ _ hD14)
    · rintro i v H4 hi ⟨hF4, s4⟩
      obtain ⟨z, hz, rfl⟩ := int_at hi
      obtain ⟨hiw, rfl⟩ := upto_get hz
      refine ⟨rfl, yes_turn ?_⟩
      refine ⟨_, rfl, _, rfl, _, _, rfl, _, hF4, ?_, ?_, same_put s4 hF⟩
      · rw [List.length_map, upto_len]
        exact small1000 (by omega)
      · rw [upd_same, upto_succ, List.map_append]
        have e := lv_limits O f0 (C.low + (i : Int)) (wd_in hiw) (C.chs p row)
        have hle := lv_lim_le O (C.chs p row)
        have e' : (if (if C.low + (i : Int) + (C.chs p row).sum > C.lv C.low (C.chs p row) then C.low + (i : Int) + (C.chs p row).sum else C.lv C.low (C.chs p row)) < C.lv C.high (C.chs p row) then (if C.low + (i : Int) + (C.chs p row).sum > C.lv C.low (C.chs p row) then C.low + (i : Int) + (C.chs p row).sum else C.lv C.low (C.chs p row)) else C.lv C.high (C.chs p row)) = C.lv (C.low + (i : Int)) (C.chs p row) := by
          rw [e]
          generalize C.lv C.low (C.chs p row) = A at hle ⊢
          generalize C.lv C.high (C.chs p row) = B at hle ⊢
          generalize C.low + (i : Int) + (C.chs p row).sum = S
          unfold lim
          split <;> split <;> split <;> (try split) <;> omega
        rw [← e']
        rfl
    rintro H15 ⟨hF15, s15⟩
    rw [List.length_map, upto_len] at hF15
    refine ⟨_, rfl, u2, _, rfl, .inr (same_tup s15 hu14), fun L hL => ?_⟩
    have s16 := same_new (o := .lst ((C.mapL (C.chs p row)).map V.int)) hL
    refine eqD_t (d := .list (pis (C.mapL (C.chs p row)))) (.lst (SqL.of (s16 _ _ hF15)) (dp_ints _)) (.lst (SqL.of upd_same) (dp_ints _)) (shaped_ints _) ?_
    exact q _ (s113.trans (s14.trans (s15.trans s16)))
end
end My

set_option pp.maxSteps 400
namespace My
open PySem PySem.Spec PyProof.Rows L2
def outW (way : Int) (C : Cod) (d : Option (List PyData)) (dp : PyData) : Out := if way = 0 then outB C d (placeD C dp) else outF C d (placeD C dp)
section
variable {P : Program} {w : World} {K : PySem.W.Frag} {mg : Str → Option Value} {base : Heap}
def sp_refused (K : PySem.W.Frag) : Sp := fun vs H Q _ => ∃ (way : Int) (c r x : V) (C : Cod) (d : Option (List PyData)) (dx : PyData), vs = [.int way, c, r, x] ∧ Asks K H c r C d ∧ Dp K H x dx ∧ outW way C d dx ≠ .fine ∧
  ∀ v H', Same H H' → Dp K H' v (outW way C d dx).data → Q v H'
set_option maxHeartbeats 4000000 in
theorem ok_law_refused (T : Txt K mg) : FnOk P w K mg base CX0 10 T.f__law_refused T.d__law_refused ["way", "coder", "row", "place"] (sp_refused K) := by
  refine T.F__law_refused.ok sc_law_refused (fun vs H Q E h => ?_) (fun cdv A outer s H vs Q E hr h => ?_)
  · obtain ⟨way, c, r, x, C, d, dx, rfl, _⟩ := h
    rfl
  · obtain ⟨way, c, r, x, C, d, dx, rfl, a, hx, nf, q⟩ := h
    refine ⟨_,
(pss_cons (ps_set (i := 4) sc_law_refused.nd rfl (Or.inl rfl) pe_non)
      (pss_cons (My.ps_try_hs rfl rfl sc_law_refused.nd takes0 (fun W pn xe tk po => (pss_one (ps_if (pt_cmpR op_eq (pv 0) pe_int (nomark _)) (pss_one (ps_expr (pe_callS (ok_row_map T) (hr.mono (by decide)) (by rfl) T.g_row_map T.F_row_map.kp T.b_row_map (fun σ => passAt tk σ) (pa_cons (pv 1) (pa_cons (pv 2) (pa_cons (pv 3) pa_nil)))))) (pss_one (ps_expr (pe_callS (ok_limits_of T) (hr.mono (by decide)) (by rfl) T.g_limits_of T.F_limits_of.kp T.b_limits_of (fun σ => passAt tk σ) (pa_cons (pv 1) (pa_cons (pv 2) (pa_cons (pv 3) pa_nil))))))))) (.bare ⟨by rfl, by decide, .inl T.g_OutOfPlace⟩ (fun a oe cls d pn hz hf => (pss_one (ps_set (i := 4) sc_law_refused.nd rfl (Or.inl rfl) pe_str))) (.as (i := 5) rfl rfl ⟨by rfl, by decide, .inl T.g_BadRow⟩ (fun a oe cls d pn hz hf => (pss_one (ps_set (i := 4) sc_law_refused.nd rfl (Or.inl rfl) (pe_tup (pa_cons (pe_xf T.x_BadRow T.n_BadRow_row hz hf (pv 5)) (pa_cons (pe_xf T.x_BadRow T.n_BadRow_word hz hf (pv 5)) pa_nil)))))) (.as (i := 5) rfl rfl ⟨by rfl, by decide, .inl T.g_TooGreat⟩ (fun a oe cls d pn hz hf => (pss_one (ps_set (i := 4) sc_law_refused.nd rfl (Or.inl rfl) (pe_xf T.x_TooGreat T.n_TooGreat_most hz hf (pv 5))))) .nil))))
      (pss_one (ps_ret (pv 4)))))
, ?_⟩
    have fin : ∀ o, outW way C d dx = o → ∀ v H', Same H H' → Dp K H' v o.data → Q v H' := fun o e v H' s' hv => q v H' s' (by rw [e]; exact hv)
    refine ⟨_, rfl, rfl, _, rfl, ?_⟩
    show if decide (V.int way = V.int 0) = true then _ else _
    refine ite2 (fun e => ?_) (fun e => ?_)
    · have ew : outW way C d dx = outB C d (placeD C dx) := by
        unfold outW
        rw [if_pos (V.int.inj (of_decide_eq_true e))]
      refine ⟨_, rfl, _, rfl, _, rfl, c, r, x, C, d, dx, rfl, a, hx, fun ne => ?_, fun hf => absurd (ew.trans hf) nf⟩
      generalize ho : outB C d (placeD C dx) = o at ne ⊢
      have fin := fin o (ew.trans ho)
      cases o with
      | great => exact fun dd H1 s1 hdd => ⟨false, T.e_TooGreat_OutOfPlace, fun z => (nomatch z), fun _ => ⟨false, T.e_TooGreat_BadRow, fun z => (nomatch z), fun _ => ⟨true, T.e_TooGreat, fun _ b hb => ⟨_, rfl, rfl, rfl, dd, _, _, rfl, hdd, rfl, _, rfl, fin _ H1 s1 (.int _)⟩, fun z => nomatch z⟩⟩⟩
      | row i j => exact fun dd H1 s1 hdd => ⟨false, T.e_BadRow_OutOfPlace, fun z => (nomatch z), fun _ => ⟨true, T.e_BadRow, fun _ b hb => ⟨_, rfl, rfl, rfl, dd, _, _, rfl, hdd, rfl, _, rfl, rfl, rfl, dd, _, _, rfl, hdd, rfl, by show 2 ≤ sizeLine; decide, fun p hp => ⟨_, rfl, fin _ _ (s1.trans (same_new hp)) (.tup upd_tup (.cons (.int _) (.cons (.int _) .nil)))⟩⟩, fun z => nomatch z⟩⟩
      | place => exact fun H1 s1 => ⟨true, T.e_OutOfPlace, fun _ b hb => ⟨_, rfl, fin _ H1 s1 (.str _)⟩, fun z => nomatch z⟩
      | fine => exact absurd rfl ne
    · have ew : outW way C d dx = outF C d (placeD C dx) := by
        unfold outW
        rw [if_neg (fun z => e (decide_eq_true (by rw [z])))]
      refine ⟨_, rfl, _, rfl, _, rfl, c, r, x, C, d, dx, rfl, a, hx, fun ne => ?_, fun hf => absurd (ew.trans hf) nf⟩
      generalize ho : outF C d (placeD C dx) = o at ne ⊢
      have fin := fin o (ew.trans ho)
      cases o with
      | great => exact fun dd H1 s1 hdd => ⟨false, T.e_TooGreat_OutOfPlace, fun z => (nomatch z), fun _ => ⟨false, T.e_TooGreat_BadRow, fun z => (nomatch z), fun _ => ⟨true, T.e_TooGreat, fun _ b hb => ⟨_, rfl, rfl, rfl, dd, _, _, rfl, hdd, rfl, _, rfl, fin _ H1 s1 (.int _)⟩, fun z => nomatch z⟩⟩⟩
      | row i j => exact fun dd H1 s1 hdd => ⟨false, T.e_BadRow_OutOfPlace, fun z => (nomatch z), fun _ => ⟨true, T.e_BadRow, fun _ b hb => ⟨_, rfl, rfl, rfl, dd, _, _, rfl, hdd, rfl, _, rfl, rfl, rfl, dd, _, _, rfl, hdd, rfl, by show 2 ≤ sizeLine; decide, fun p hp => ⟨_, rfl, fin _ _ (s1.trans (same_new hp)) (.tup upd_tup (.cons (.int _) (.cons (.int _) .nil)))⟩⟩, fun z => nomatch z⟩⟩
      | place => exact fun H1 s1 => ⟨true, T.e_OutOfPlace, fun _ b hb => ⟨_, rfl, fin _ H1 s1 (.str _)⟩, fun z => nomatch z⟩
      | fine => exact absurd rfl ne
end
end My

set_option pp.maxSteps 300
namespace My
open PySem PySem.Spec PyProof.Rows L2 RZ
theorem shaped_rep (o : Out) (n : Nat) : SeqAt.shaped (.list (List.replicate n o.data)) = true := by
  have h : PyData.canLayAll0 (List.replicate n o.data) = true ∧ PyData.depthAll (List.replicate n o.data) ≤ 1 := by
    induction n with
    | zero => exact ⟨rfl, Nat.zero_le _⟩
    | succ n ih =>
      refine ⟨?_, ?_⟩
      · show (o.data.canLay0 && PyData.canLayAll0 (List.replicate n o.data)) = true
        rw [ih.1]
        cases o <;> first | rfl | decide +kernel
      · show max o.data.depth (PyData.depthAll (List.replicate n o.data)) ≤ 1
        refine Nat.max_le.mpr ⟨?_, ih.2⟩
        cases o <;> first | exact Nat.le_refl _ | exact Nat.zero_le _
  show (PyData.canLayAll0 _ && decide (PyData.depthAll _ + 1 ≤ 64)) = true
  rw [h.1, decide_eq_true (by omega)]
  rfl
def greatC : Cod := ⟨-2048, 2048, [1], [(8, 0), (-8, 0)], 0⟩
def justC : Cod := ⟨-2048, 2047, [1], [(8, 0), (-8, 0)], 0⟩
theorem greatC_ok : greatC.Ok where
  l1 := by decide
  l2 := by decide
  h1 := by decide
  h2 := by decide
  s1 := by decide
  s2 := by decide
  s3 := by decide
  m1 := by decide
  m2 := by decide
  m3 := by decide
  f1 := .inl rfl
theorem justC_ok : justC.Ok where
  l1 := by decide
  l2 := by decide
  h1 := by decide
  h2 := by decide
  s1 := by decide
  s2 := by decide
  s3 := by decide
  m1 := by decide
  m2 := by decide
  m3 := by decide
  f1 := .inl rfl
theorem greatC_cnt : 4096 < greatC.cnt := by decide
theorem justC_cnt : justC.cnt ≤ 4096 := by decide
theorem justC_wd : justC.wd = 4096 := by decide
theorem just_map : (justC.mapL (justC.chs 0 [0])).map V.int = rgV (-2047) 2048 ++ [V.int 2047] := by
  have e1 : justC.chs 0 [0] = [1] := by decide
  have hv : ∀ i : Nat, justC.lv (justC.low + (i : Int)) [1] = lim (-2048 + (i : Int) + 1) (-2048) 2047 := fun i => rfl
  unfold Cod.mapL
  rw [e1, justC_wd, show (4096 : Nat) = 4095 + 1 from rfl, upto_succ, List.map_append]
  congr 1
theorem rowM1 {C : Cod} {row : List Nat} (R : C.Row row) : rowRes C (some (rowL row ++ [.int (-1)])) = some (1, (row.length : Int) + 1) := by
  have h := rowBad_at (C := C) (pre := rowL row) (d := .int (-1)) (r := []) (codes_in R.lt) (by unfold rowL; rw [List.length_map]; exact R.len) rfl
  unfold rowL at h
  rw [List.length_map] at h
  exact rowRes_bad h
/-- a thing of the law's list of rows that are none, with what is due -/
def Pr (K : PySem.W.Frag) (H : Hp) (C : Cod) (x : V) : Prop := ∃ (t u : Addr) (th : V) (d : Option (List PyData)) (i j : Int), x = .ref t ∧ SqT K H t [th, .ref u] ∧ SqT K H u [.int i, .int j] ∧ Th K H th d ∧ rowRes C d = some (i, j)
theorem Pr.same {K : PySem.W.Frag} {H H' : Hp} {C : Cod} {x : V} (s : Same H H') : Pr K H C x → Pr K H' C x
  | ⟨t, u, th, d, i, j, e, h1, h2, h3, h4⟩ => ⟨t, u, th, d, i, j, e, same_tup s h1, same_tup s h2, h3.same s, h4⟩
def Cod.free (C : Cod) : Cod := ⟨C.low, C.high, C.steps, C.moves, 0⟩
theorem free_ok {C : Cod} (O : C.Ok) : C.free.Ok := ⟨O.l1, O.l2, O.h1, O.h2, O.s1, O.s2, O.s3, O.m1, O.m2, O.m3, .inl rfl⟩
theorem codeBad_free {C : Cod} : ∀ (i : Nat) (ds : List PyData), rowBad C.free i ds = rowBad C i ds
  | _, [] => rfl
  | i, d :: r => by
    show (if (decide (i = 2000) || !codeD C.free d) = true then some i else rowBad C.free (i + 1) r) = (if (decide (i = 2000) || !codeD C d) = true then some i else rowBad C (i + 1) r)
    rw [codeBad_free (i + 1) r]
    rfl
theorem rowRes_free {C : Cod} {d : Option (List PyData)} : rowRes C.free d = rowRes C d := by
  cases d with
  | none => rfl
  | some ds =>
    show (rowBad C.free 0 ds).map _ = (rowBad C 0 ds).map _
    rw [codeBad_free]
theorem outW_row0 {C : Cod} {d : Option (List PyData)} {dp : PyData} {i j : Int} (few : C.cnt ≤ 4096) (h : rowRes C d = some (i, j)) : outW 0 C d dp = .row i j := outB_row few h
theorem outW_row1 {C : Cod} {d : Option (List PyData)} {dp : PyData} {i j : Int} (h : rowRes C d = some (i, j)) : outW 1 C.free d dp = .row i j := outF_row rfl (rowRes_free.trans h)
theorem outW_place0 {C : Cod} {row : List Nat} {dp : PyData} (few : C.cnt ≤ 4096) (R : C.Row row) (h : placeD C dp = false) : outW 0 C (some (rowL row)) dp = .place := outB_place few (row_ok rfl R) h
theorem outW_place1 {C : Cod} {row : List Nat} {dp : PyData} (R : C.Row row) (h : placeD C dp = false) : outW 1 C (some (rowL row)) dp = .place := by
  by_cases f0 : C.fade = 0
  · exact outF_place f0 (row_ok rfl R) h
  · exact outF_fade f0
theorem rep2 {K : PySem.W.Frag} {H : Hp} {v : V} {d : PyData} (h : Dp K H v d) : DpAll K H (List.replicate (2 : Int).toNat [v]).flatten (List.replicate 2 d) := .cons h (.cons h .nil)
theorem lim_text : (PyData.tuple [.int 0, .int (-2048), .int 2047, .int 0]).shown = "(0, -2048, 2047, 0)" := by decide +kernel
section
variable {P : Program} {w : World} {K : PySem.W.Frag} {mg : Str → Option Value} {base : Heap}
def sp_law : Sp := fun vs H Q _ => ∃ (a : Addr) (ns : List Int), vs = [.ref a] ∧ SqL K H a (ns.map V.int) ∧ ns.length ≤ 63 ∧ ∀ H', Q (.bl true) H'
set_option maxHeartbeats 8000000 in
theorem ok_law (T : Txt K mg) : FnG P w K mg base 14 T.f_law T.d_law ["script"] (sp_law (K := K)) := by
  refine okG T.F_law sc_law (fun vs H Q E h => ?_) (fun cdv A outer s H vs Q E hgd hr h => ?_)
  · obtain ⟨a, ns, rfl, _⟩ := h
    rfl
  · obtain ⟨a, ns, rfl, hS, hl, q⟩ := h
    refine ⟨_,
(pss_cons (ps_set (i := 1) sc_law.nd rfl (Or.inl rfl) (pe_call (ok_law_begun T) (hr.mono (by decide)) (by rfl) T.g__law_begun T.F__law_begun.kp T.b__law_begun .nil pass0 (pa_cons (pv 0) pa_nil)))
      (pss_cons (ps_for PassesOwn.never rfl (pi_range1 (by rfl) T.z_range (pa_cons (pe_op op_add pe_int (pe_callB (call_min2 rfl) (by rfl) T.z_min (by decide +kernel) (pa_cons (pe_callB call_len_seq (by rfl) T.z_len (by decide +kernel) (pa_cons (pv 0) pa_nil)) (pa_cons pe_int pa_nil)))) pa_nil)) (pg_name (i := 2) sc_law.nd rfl (Or.inl rfl)) (pss_cons (ps_set (i := 3) sc_law.nd rfl (Or.inl rfl) (pe_call (ok_law_coder T) (hr.mono (by decide)) (by rfl) T.g__law_coder T.F__law_coder.kp T.b__law_coder .nil pass0 (pa_cons (pv 1) (pa_cons pe_int (pa_cons pe_int (pa_cons pe_int pa_nil))))))
      (pss_cons (ps_set (i := 4) sc_law.nd rfl (Or.inl rfl) (pe_call (ok_law_row T) (hr.mono (by decide)) (by rfl) T.g__law_row T.F__law_row.kp T.b__law_row .nil pass0 (pa_cons (pv 1) (pa_cons (pv 3) (pa_cons pe_int pa_nil)))))
      (pss_cons (ps_for PassesOwn.never rfl (pi_range1 (by rfl) T.z_range (pa_cons (pe_callB call_len_seq (by rfl) T.z_len (by decide +kernel) (pa_cons (pe_ix ix_tup (pv 3) pe_int (fun _ _ => rfl)) pa_nil)) pa_nil)) (pg_name (i := 5) sc_law.nd rfl (Or.inl rfl)) (pss_one (ps_if (pt_not (pt_val (My.pe_callG (ok_law_place_right T) hgd (hr.mono (by decide)) (by rfl) T.g__law_place_right T.F__law_place_right.kp T.b__law_place_right .nil pass0 (pa_cons (pv 3) (pa_cons (pv 4) (pa_cons (pv 5) pa_nil)))))) (pss_one (ps_ret pe_bl)) pss_nil)))
      (pss_cons (ps_if (PW.pt (pw_and (pt_cmpR op_ne (pe_ix ix_tup (pv 3) pe_int (fun _ _ => rfl)) pe_int (nomark _)) (pw_and1 (pt_cmpR op_ne (pe_call (ok_law_refused T) (hr.mono (by decide)) (by rfl) T.g__law_refused T.F__law_refused.kp T.b__law_refused .nil pass0 (pa_cons pe_int (pa_cons (pv 3) (pa_cons pe_non (pa_cons pe_non pa_nil))))) pe_str (nomark _))))) (pss_one (ps_ret pe_bl)) pss_nil)
      (pss_cons (ps_set (i := 6) sc_law.nd rfl (Or.inl rfl) (pe_op op_catA (pe_slice sl_tupA (pv 3) po_none (po_some pe_int)) (pe_tup (pa_cons pe_int pa_nil))))
      (pss_cons (ps_set (i := 7) sc_law.nd rfl (Or.inl rfl) (pe_lst (pa_cons (pe_tup (pa_cons pe_non (pa_cons (pe_tup (pa_cons pe_int (pa_cons pe_int pa_nil))) pa_nil))) (pa_cons (pe_tup (pa_cons (pe_callTy call_list_of (by rfl) T.z_list (by decide +kernel) (pa_cons (pv 4) pa_nil)) (pa_cons (pe_tup (pa_cons pe_int (pa_cons pe_int pa_nil))) pa_nil))) (pa_cons (pe_tup (pa_cons (pe_op op_catA (pv 4) (pe_tup (pa_cons (pe_un un_neg pe_int) pa_nil))) (pa_cons (pe_tup (pa_cons pe_int (pa_cons (pe_op op_add (pe_callB call_len_seq (by rfl) T.z_len (by decide +kernel) (pa_cons (pv 4) pa_nil)) pe_int) pa_nil))) pa_nil))) (pa_cons (pe_tup (pa_cons (pe_op My.op_repW (pe_tup (pa_cons pe_int pa_nil)) pe_int) (pa_cons (pe_tup (pa_cons pe_int (pa_cons pe_int pa_nil))) pa_nil))) pa_nil))))))
      (pss_cons (ps_for PassesOwn.never rfl (pi_list (pv 7)) (pg_tup (by rfl) (pgs_cons (pg_name (i := 8) sc_law.nd rfl (Or.inl rfl)) (pgs_cons (pg_name (i := 9) sc_law.nd rfl (Or.inl rfl)) pgs_nil))) (pss_one (ps_if (pt_cmpR (op_neD hr.units) (pe_lst (pa_cons (pe_call (ok_law_refused T) (hr.mono (by decide)) (by rfl) T.g__law_refused T.F__law_refused.kp T.b__law_refused .nil pass0 (pa_cons pe_int (pa_cons (pv 3) (pa_cons (pv 8) (pa_cons (pe_un un_neg pe_int) pa_nil))))) (pa_cons (pe_call (ok_law_refused T) (hr.mono (by decide)) (by rfl) T.g__law_refused T.F__law_refused.kp T.b__law_refused .nil pass0 (pa_cons pe_int (pa_cons (pv 6) (pa_cons (pv 8) (pa_cons (pe_un un_neg pe_int) pa_nil))))) pa_nil))) (pe_op op_rep (pe_lst (pa_cons (pv 9) pa_nil)) pe_int) (nomark _)) (pss_one (ps_ret pe_bl)) pss_nil)))
      (pss_one (ps_for PassesOwn.never rfl (pi_list (pe_lst (pa_cons (pe_un un_neg pe_int) (pa_cons (pe_callB call_len_seq (by rfl) T.z_len (by decide +kernel) (pa_cons (pe_ix ix_tup (pv 3) pe_int (fun _ _ => rfl)) pa_nil)) (pa_cons pe_non (pa_cons pe_bl (pa_cons pe_str pa_nil))))))) (pg_name (i := 8) sc_law.nd rfl (Or.inl rfl)) (pss_cons (ps_set (i := 10) sc_law.nd rfl (Or.inl rfl) (pe_lst (pa_cons (pe_call (ok_law_refused T) (hr.mono (by decide)) (by rfl) T.g__law_refused T.F__law_refused.kp T.b__law_refused .nil pass0 (pa_cons pe_int (pa_cons (pv 3) (pa_cons (pv 4) (pa_cons (pv 8) pa_nil))))) (pa_cons (pe_call (ok_law_refused T) (hr.mono (by decide)) (by rfl) T.g__law_refused T.F__law_refused.kp T.b__law_refused .nil pass0 (pa_cons pe_int (pa_cons (pv 3) (pa_cons (pv 4) (pa_cons (pv 8) pa_nil))))) pa_nil))))
      (pss_one (ps_if (pt_cmpR (op_neD hr.units) (pv 10) (pe_op op_rep (pe_lst (pa_cons pe_str pa_nil)) pe_int) (nomark _)) (pss_one (ps_ret pe_bl)) pss_nil)))))))))))))
      (pss_cons (ps_set (i := 11) sc_law.nd rfl (Or.inl rfl) (pe_tup (pa_cons (pe_un un_neg pe_int) (pa_cons pe_int (pa_cons (pe_tup (pa_cons pe_int pa_nil)) (pa_cons (pe_tup (pa_cons (pe_tup (pa_cons pe_int (pa_cons pe_int pa_nil))) (pa_cons (pe_tup (pa_cons (pe_un un_neg pe_int) (pa_cons pe_int pa_nil))) pa_nil))) (pa_cons pe_int pa_nil)))))))
      (pss_cons (ps_if (pt_cmpR op_ne (pe_call (ok_law_refused T) (hr.mono (by decide)) (by rfl) T.g__law_refused T.F__law_refused.kp T.b__law_refused .nil pass0 (pa_cons pe_int (pa_cons (pv 11) (pa_cons pe_non (pa_cons pe_non pa_nil))))) pe_int (nomark _)) (pss_one (ps_ret pe_bl)) pss_nil)
      (pss_cons (ps_set (i := 12) sc_law.nd rfl (Or.inl rfl) (pe_tup (pa_cons (pe_un un_neg pe_int) (pa_cons pe_int (pa_cons (pe_tup (pa_cons pe_int pa_nil)) (pa_cons (pe_tup (pa_cons (pe_tup (pa_cons pe_int (pa_cons pe_int pa_nil))) (pa_cons (pe_tup (pa_cons (pe_un un_neg pe_int) (pa_cons pe_int pa_nil))) pa_nil))) (pa_cons pe_int pa_nil)))))))
      (pss_cons (ps_if (pt_cmpR (op_neD hr.units) (pe_call (ok_row_map T) (hr.mono (by decide)) (by rfl) T.g_row_map T.F_row_map.kp T.b_row_map .nil passL (pa_cons (pv 12) (pa_cons (pe_tup (pa_cons pe_int pa_nil)) (pa_cons pe_int pa_nil)))) (pe_tup (pa_cons (pe_callTy call_tuple_of (by rfl) T.z_tuple (by decide +kernel) (pa_cons (pe_op op_cat (pe_listRg rfl (by rfl) T.z_list (prg_2 (by rfl) T.z_range (pe_un un_neg pe_int) pe_int)) (pe_lst (pa_cons pe_int pa_nil))) pa_nil)) (pa_cons pe_int pa_nil))) (nomark _)) (pss_one (ps_ret pe_bl)) pss_nil)
      (pss_one (ps_ret (pe_cmpR op_eq (pe_callB ((call_repr hgd hr.units)) (by rfl) T.z_repr (by decide +kernel) (pa_cons (pe_call (ok_limits_of T) (hr.mono (by decide)) (by rfl) T.g_limits_of T.F_limits_of.kp T.b_limits_of .nil passL (pa_cons (pv 11) (pa_cons (pe_tup (pa_cons pe_int (pa_cons pe_int pa_nil))) (pa_cons pe_int pa_nil)))) pa_nil)) pe_str (nomark _))))))))))
, ?_⟩
    refine ⟨.ref a, rfl, a, ns, rfl, hS, hl, fun m c l H1 s1 hm hc hl0 D1 => ?_⟩
    have hS1 := s1.seq hS
    refine ⟨_, rfl, a, _, rfl, .inl hS1, ?_⟩
    refine ⟨_, 2, rfl, 1, _, rfl, rfl, _, rfl, ?_, ?_, ?_⟩
    · rw [List.length_map]; split <;> omega
    · rw [List.length_map]; split <;> omega
    have hn : (1 + if (2 : Int) < ((ns.map V.int).length : Int) then 2 else ((ns.map V.int).length : Int)).toNat ≤ 3 := by
      rw [List.length_map]
      split <;> omega
    refine for_range (lo := 0) (n := (1 + if (2 : Int) < ((ns.map V.int).length : Int) then 2 else ((ns.map V.int).length : Int)).toNat)
      (fun i σ H' => ∃ x2 x3 x4 x5 x6 x7 x8 x9 x10 l', σ = [some (.ref a), some (.ref m), x2, x3, x4, x5, x6, x7, x8, x9, x10, none, none] ∧ Dr H' m c l' (900000 - 200 * i)) ⟨none, none, none, none, none, none, none, none, none, l, rfl, D1⟩ ?_ ?_
    · rintro i σ H2 hi ⟨x2, x3, x4, x5, x6, x7, x8, x9, x10, l2, rfl, D2⟩
      have hi5 : i < 3 := by omega
      have D2 : Dr H2 m c l2 (900000 - 200 * (i + 1) + 21 + 60) := D2.less (by omega)
      -- coder
      refine ⟨_, rfl, m, c, l2, _, 40, 3, 5, rfl, by decide, by decide, by decide, D2, fun cv C l3 H3 kp3 D3 sm hcv => ?_⟩
      have O : C.Ok := sm.ok (by decide) (by decide) (by decide)
      have few : C.cnt ≤ 4096 := Int.le_trans (sm.few (by decide) (by decide)) (by decide)
      have hw : C.wd ≤ 81 := by
        have := sm.lo.1
        have := sm.hi.2
        unfold Cod.wd
        omega
      -- row
      refine ⟨_, rfl, _, rfl, m, c, l3, 900000 - 200 * (i + 1), cv, C, 20, rfl, by decide, O, hcv, D3, fun rv row l4 H4 kp4 D4 R hlen hrv => ?_⟩
      have hcv4 := dp_keep (keep_draw kp4 D3) _ _ (noL_cod C) hcv
      obtain ⟨ca, cs, cm, cms, rfl, hca, hcs, hcm, hcmd⟩ := cod_at hcv4
      obtain ⟨ra, rfl, hra⟩ := row_at hrv
      have hsl : (C.steps.map V.int).length = C.steps.length := List.length_map ..
      have s2' := O.s2
      have s1' := O.s1
      clear D1 D2 D3 kp3 kp4 hcv hrv hS1
      -- all places
      refine ⟨_, rfl, ca, _, 2, _, rfl, rfl, hca, atI_nat (j := 2) rfl, cs, _, rfl, .inr hcs, _, rfl, by rw [hsl]; omega, by rw [hsl]; omega, ?_⟩
      refine for_range (lo := 0) (n := (((C.steps.map V.int).length : Nat) : Int).toNat)
        (fun j σ H' => ∃ x2 x5 x6 x7 x8 x9 x10, σ = [some (.ref a), some (.ref m), x2, some (.ref ca), some (.ref ra), x5, x6, x7, x8, x9, x10, none, none] ∧ Same H4 H')
        ⟨_, _, _, _, _, _, _, rfl, Same.refl H4⟩ ?_ ?_
      · rintro j σ H7 hj ⟨y2, y5, y6, y7, y8, y9, y10, rfl, s7⟩
        have hj' : j < C.steps.length := by rw [hsl] at hj; omega
        have hp : C.pIn (0 + (j : Int)) := ⟨by omega, by omega⟩
        refine ⟨_, rfl, _, rfl, _, rfl, .ref ca, .ref ra, C, row, _, rfl, O, dp_same s7 _ _ hcv4, dp_row (same_tup s7 hra), R, by omega, few, hw, hp, fun H8 s8 => ⟨_, rfl, ?_⟩⟩
        refine iteF ?_
        exact ⟨_, _, _, _, _, _, _, rfl, s7.trans s8⟩
      rintro σ H5 ⟨y2, y5, y6, y7, y8, y9, y10, rfl, s5⟩
      -- with a fade it is refused
      dsimp only
      refine st_tail (fun σ H' => σ = [some (.ref a), some (.ref m), y2, some (.ref ca), some (.ref ra), y5, y6, y7, y8, y9, y10, none, none] ∧ Same H4 H') ?_ fun tail => ?_
      rotate_left
      · refine ⟨_, rfl, ca, _, 4, _, rfl, rfl, same_tup s5 hca, atI_nat (j := 4) rfl, rfl, _, rfl, ?_⟩
        by_cases f0 : C.fade = 0
        · have e1 : decide (V.int C.fade = V.int 0) = true := decide_eq_true (by rw [f0])
          rw [e1]
          refine iteF ?_
          refine iteF ?_
          exact tail _ _ ⟨rfl, s5⟩
        · have e1 : decide (V.int C.fade = V.int 0) = false := decide_eq_false fun z => f0 (V.int.inj z)
          rw [e1]
          refine iteT ?_
          have eo : outW 1 C none .none = .place := by
            unfold outW
            rw [if_neg (by decide)]
            exact outF_fade f0
          refine ⟨_, rfl, 1, .ref ca, .non, .non, C, none, .none, rfl, ⟨O, dp_same s5 _ _ hcv4, th_of .non (by decide +kernel)⟩, .non, by rw [eo]; exact nofun, fun v H6 s6 hv => ?_⟩
          rw [eo] at hv
          cases hv
          refine ⟨rfl, _, rfl, iteNS rfl ?_⟩
          exact tail _ _ ⟨rfl, s5.trans s6⟩
      rintro σ H6 ⟨rfl, s6⟩
      -- free
      refine ⟨_, rfl, 4, rfl, ?_⟩
      refine sl_takeV (n := 4) (same_tup s6 hca) (by show 4 ≤ 5; decide) fun b7 H7 s7 hb7 => ?_
      refine ⟨by show 1 ≤ sizeLine; decide, fun t8 ht8 => ?_⟩
      have s8 := same_new (o := .tup [V.int 0]) ht8
      refine catV (same_tup s8 hb7) upd_tup (by show 4 + 1 ≤ sizeLine; decide) fun fv H9 s9 hfv => ?_
      have s19 := s6.trans (s7.trans (s8.trans s9))
      have O0 := free_ok O
      have hfc : Dp K H9 (.ref fv) C.free.dat := .tup hfv (.cons (.int _) (.cons (.int _) (.cons (dp_tints (same_tup s19 hcs)) (.cons (.tup (same_tup s19 hcm) (dpAll_same s19 _ _ hcmd)) (.cons (.int _) .nil)))))
      clear hfv s9 s8 hb7 s7 s6 s5
      -- the rows that are none
      refine ⟨by show 2 ≤ sizeLine; decide, fun u1 hu1 => ?_⟩
      have su1 := same_new (o := .tup [V.int 0, V.int 0]) hu1
      have du1 : (upd H9 u1 (.tup [V.int 0, V.int 0])) u1 = some (.tup [V.int 0, V.int 0]) := upd_same
      generalize upd H9 u1 (.tup [V.int 0, V.int 0]) = U1 at su1 du1
      refine ⟨by show 2 ≤ sizeLine; decide, fun p1 hp1 => ?_⟩
      have sp1 := same_new (o := .tup [V.non, V.ref u1]) hp1
      have pr1 : Pr K (upd U1 p1 (.tup [V.non, V.ref u1])) C (.ref p1) := ⟨p1, u1, .non, none, 0, 0, rfl, upd_tup, .inl (.inl (sp1 _ _ du1)), th_of .non (by decide +kernel), rfl⟩
      have s11 := s19.trans (su1.trans sp1)
      have s9b := su1.trans sp1
      generalize upd U1 p1 (.tup [V.non, V.ref u1]) = H6 at s11 pr1 s9b
      clear su1 sp1 du1
      refine ⟨_, rfl, ra, _, rfl, .inr (same_tup s11 hra), fun l5 hl5 => ?_⟩
      have sl5 := same_new (o := .lst (rowV row)) hl5
      have dl5 : (upd H6 l5 (.lst (rowV row))) l5 = some (.lst (rowV row)) := upd_same
      generalize upd H6 l5 (.lst (rowV row)) = U2 at sl5 dl5
      refine ⟨by show 2 ≤ sizeLine; decide, fun u2 hu2 => ?_⟩
      have su2 := same_new (o := .tup [V.int 0, V.int 0]) hu2
      have du2 : (upd U2 u2 (.tup [V.int 0, V.int 0])) u2 = some (.tup [V.int 0, V.int 0]) := upd_same
      generalize upd U2 u2 (.tup [V.int 0, V.int 0]) = U3 at su2 du2
      refine ⟨by show 2 ≤ sizeLine; decide, fun p2 hp2 => ?_⟩
      have sp2 := same_new (o := .tup [V.ref l5, V.ref u2]) hp2
      have pr2 : Pr K (upd U3 p2 (.tup [V.ref l5, V.ref u2])) C (.ref p2) := ⟨p2, u2, .ref l5, none, 0, 0, rfl, upd_tup, .inl (.inl (sp2 _ _ du2)), th_of (.lst (sp2 _ _ (su2 _ _ dl5))) (by decide +kernel), rfl⟩
      have s57 := sl5.trans (su2.trans sp2)
      have pr1 := pr1.same s57
      have s16 := s11.trans s57
      have s9b := s9b.trans s57
      generalize upd U3 p2 (.tup [V.ref l5, V.ref u2]) = H7 at s16 pr1 pr2 s9b
      clear sl5 su2 sp2 dl5 du2 s57 s11
      refine ⟨_, rfl, 1, rfl, by show 1 ≤ sizeLine; decide, fun m1 hm1 => ?_⟩
      have sm1 := same_new (o := .tup [V.int (-1)]) hm1
      refine catV (same_tup (s16.trans sm1) hra) upd_tup (sz_line (by show (row.map _).length + 1 ≤ 1000000; rw [List.length_map]; omega)) fun b3 U4 sb3 hb3 => ?_
      refine ⟨_, rfl, ra, _, rfl, .inr (same_tup ((s16.trans sm1).trans sb3) hra), _, _, rfl, rfl, by show 2 ≤ sizeLine; decide, fun u3 hu3 => ?_⟩
      have su3 := same_new (o := .tup [V.int 1, V.int (((rowV row).length : Int) + 1)]) hu3
      have du3 : (upd U4 u3 (.tup [V.int 1, V.int (((rowV row).length : Int) + 1)])) u3 = some (.tup [V.int 1, V.int (((rowV row).length : Int) + 1)]) := upd_same
      generalize upd U4 u3 (.tup [V.int 1, V.int (((rowV row).length : Int) + 1)]) = U5 at su3 du3
      refine ⟨by show 2 ≤ sizeLine; decide, fun p3 hp3 => ?_⟩
      have sp3 := same_new (o := .tup [V.ref b3, V.ref u3]) hp3
      have pr3 : Pr K (upd U5 p3 (.tup [V.ref b3, V.ref u3])) C (.ref p3) := ⟨p3, u3, .ref b3, some (rowL row ++ [.int (-1)]), 1, (row.length : Int) + 1, rfl, upd_tup, .inl (.inl (by
          have e : (rowV row).length = row.length := List.length_map ..
          rw [← e]
          exact sp3 _ _ du3)), .tup (same_tup (su3.trans sp3) hb3) (dpAll_app (dpAll_rowV row) (.cons (.int _) .nil)), rowM1 R⟩
      have s57 := sm1.trans (sb3.trans (su3.trans sp3))
      have pr1 := pr1.same s57
      have pr2 := pr2.same s57
      have s17 := s16.trans s57
      have s9b := s9b.trans s57
      generalize upd U5 p3 (.tup [V.ref b3, V.ref u3]) = H8 at s17 pr1 pr2 pr3 s9b
      clear sm1 sb3 su3 sp3 hb3 du3 s57 s16
      refine ⟨by show 1 ≤ sizeLine; decide, fun z1 hz1 => ?_⟩
      have sz1 := same_new (o := .tup [V.int 0]) hz1
      refine ⟨z1, 2001, .int 0, rfl, rfl, upd_tup, by decide, by decide, fun b4 hb4 => ?_⟩
      have sb4 := same_new (o := .tup (List.replicate 2001 (V.int 0))) hb4
      have db4 : (upd (upd H8 z1 (.tup [V.int 0])) b4 (.tup (List.replicate 2001 (V.int 0)))) b4 = some (.tup (List.replicate 2001 (V.int 0))) := upd_same
      have s57 := sz1.trans sb4
      generalize upd (upd H8 z1 (.tup [V.int 0])) b4 (.tup (List.replicate 2001 (V.int 0))) = U6 at s57 db4
      clear sz1 sb4
      refine ⟨by show 2 ≤ sizeLine; decide, fun u4 hu4 => ?_⟩
      have su4 := same_new (o := .tup [V.int 1, V.int 2001]) hu4
      have du4 : (upd U6 u4 (.tup [V.int 1, V.int 2001])) u4 = some (.tup [V.int 1, V.int 2001]) := upd_same
      generalize upd U6 u4 (.tup [V.int 1, V.int 2001]) = U7 at su4 du4
      refine ⟨by show 2 ≤ sizeLine; decide, fun p4 hp4 => ?_⟩
      have sp4 := same_new (o := .tup [V.ref b4, V.ref u4]) hp4
      have pr4 : Pr K (upd U7 p4 (.tup [V.ref b4, V.ref u4])) C (.ref p4) := by
        have h0 : (0 : Nat) < C.moves.length := by have := O.m1; omega
        refine ⟨p4, u4, .ref b4, some (rowL (List.replicate (2001 + 0) 0)), 1, 2001, rfl, upd_tup, .inl (.inl (sp4 _ _ du4)), ?_, long_bad h0⟩
        have e : rowV (List.replicate 2001 0) = List.replicate 2001 (V.int 0) := rowV_rep 2001 0
        refine .tup (.inl (.inl ((su4.trans sp4) _ _ db4))) ?_
        rw [← e]
        exact dpAll_rowV _
      have s57 := s57.trans (su4.trans sp4)
      have pr1 := pr1.same s57
      have pr2 := pr2.same s57
      have pr3 := pr3.same s57
      have s18 := s17.trans s57
      have s9b := s9b.trans s57
      generalize upd U7 p4 (.tup [V.ref b4, V.ref u4]) = H10 at s18 pr1 pr2 pr3 pr4 s9b
      clear su4 sp4 du4 db4 s57 s17
      refine ⟨by show 4 ≤ sizeLine; decide, fun l6 hl6 => ?_⟩
      have sl6 := same_new (o := .lst [V.ref p1, V.ref p2, V.ref p3, V.ref p4]) hl6
      have dl6 : (upd H10 l6 (.lst [V.ref p1, V.ref p2, V.ref p3, V.ref p4])) l6 = some (.lst [V.ref p1, V.ref p2, V.ref p3, V.ref p4]) := upd_same
      have prs : ∀ x ∈ [V.ref p1, V.ref p2, V.ref p3, V.ref p4], Pr K (upd H10 l6 (.lst [V.ref p1, V.ref p2, V.ref p3, V.ref p4])) C x := fun x hx => by
        simp only [List.mem_cons, List.not_mem_nil, or_false] at hx
        rcases hx with rfl | rfl | rfl | rfl
        · exact pr1.same sl6
        · exact pr2.same sl6
        · exact pr3.same sl6
        · exact pr4.same sl6
      have s19 := s18.trans sl6
      have hfc := dp_same (s9b.trans sl6) _ _ hfc
      generalize upd H10 l6 (.lst [V.ref p1, V.ref p2, V.ref p3, V.ref p4]) = H11 at s19 dl6 prs hfc
      clear pr1 pr2 pr3 pr4 sl6 s18 s9b
      generalize [V.ref p1, V.ref p2, V.ref p3, V.ref p4] = xs6 at dl6 prs
      refine ⟨_, rfl, l6, rfl, ⟨_, SqL.of dl6⟩, ?_⟩
      refine for_list (K := K) (a := l6) (xs := xs6) (fun i σ H' => ∃ y2 y5 y8 y9 y10, σ = [some (.ref a), some (.ref m), y2, some (.ref ca), some (.ref ra), y5, some (.ref fv), some (.ref l6), y8, y9, y10, none, none] ∧ Same H11 H') ⟨_, _, _, _, _, rfl, Same.refl H11⟩ ?_ ?_ ?_
      · rintro i σ H' _ ⟨_, _, _, _, _, _, s2⟩
        exact SqL.of (s2 _ _ dl6)
      · rintro j v σ H12 hj ⟨y2', y5', y8', y9', y10', rfl, s12⟩
        obtain ⟨t, u, th, d, ii, jj, rfl, ht, hu, hth, hres⟩ := (prs v (List.mem_of_getElem? hj)).same s12
        refine ⟨t, _, rfl, ht, rfl, _, _, rfl, _, _, rfl, rfl, ?_⟩
        have s112 := s19.trans s12
        have o0 := outW_row0 (dp := .int (-1)) few hres
        have o1 := outW_row1 (dp := .int (-1)) hres
        refine ⟨_, rfl, _, rfl, 1, rfl, 0, .ref ca, th, .int (-1), C, d, .int (-1), rfl, ⟨O, dp_same s112 _ _ hcv4, hth⟩, .int _, by rw [o0]; exact nofun, fun v1 H13 s13 hv1 => ?_⟩
        rw [o0] at hv1
        refine ⟨_, rfl, _, rfl, 1, rfl, 1, .ref fv, th, .int (-1), C.free, d, .int (-1), rfl, ⟨O0, dp_same (s12.trans s13) _ _ hfc, hth.same s13⟩, .int _, by rw [o1]; exact nofun, fun v2 H14 s14 hv2 => ?_⟩
        rw [o1] at hv2
        refine ⟨by show 2 ≤ sizeLine; decide, fun l7 hl7 => ?_⟩
        have sl7 := same_new (o := .lst [v1, v2]) hl7
        refine ⟨_, rfl, by show 1 ≤ sizeLine; decide, fun l8 hl8 => ?_⟩
        have sl8 := same_new (o := .lst [V.ref u]) hl8
        refine ⟨l8, 2, _, rfl, rfl, upd_same, by decide, by decide, by show 2 ≤ sizeLine; decide, fun l9 hl9 => ?_⟩
        have sl9 := same_new (o := .lst (List.replicate (2 : Int).toNat [V.ref u]).flatten) hl9
        have s79 := sl7.trans (sl8.trans sl9)
        have hu9 : Dp K (upd (upd (upd H14 l7 (.lst [v1, v2])) l8 (.lst [V.ref u])) l9 (.lst (List.replicate (2 : Int).toNat [V.ref u]).flatten)) (.ref u) (Out.row ii jj).data := .tup (same_tup (s13.trans (s14.trans s79)) hu) (.cons (.int _) (.cons (.int _) .nil))
        refine neD_f (d := .list (List.replicate 2 (Out.row ii jj).data)) (.lst (SqL.of ((sl8.trans sl9) _ _ upd_same)) (.cons (dp_same (s14.trans s79) _ _ hv1) (.cons (dp_same s79 _ _ hv2) .nil))) (.lst (SqL.of upd_same) (rep2 hu9)) (shaped_rep (.row ii jj) 2) (iteF ?_)
        exact ⟨_, _, _, _, _, rfl, s12.trans (s13.trans (s14.trans s79))⟩
      rintro σ H12 ⟨y2', y5', y8', y9', y10', rfl, s12⟩
      have s20 := s19.trans s12
      clear prs dl6 s19 s12
      -- the places that are none
      refine ⟨1, rfl, _, rfl, ca, _, 2, _, rfl, rfl, same_tup s20 hca, atI_nat (j := 2) rfl, cs, _, rfl, .inr (same_tup s20 hcs), by show 5 ≤ sizeLine; decide, fun l7 hl7 => ?_⟩
      have bad : ∀ x ∈ [V.int (-1), V.int ((C.steps.map V.int).length : Int), V.non, V.bl true, V.str "0"], ∃ dx, (∀ H, Dp K H x dx) ∧ placeD C dx = false := fun x hx => by
        simp only [List.mem_cons, List.not_mem_nil, or_false] at hx
        rcases hx with rfl | rfl | rfl | rfl | rfl
        · exact ⟨.int (-1), fun _ => .int _, rfl⟩
        · refine ⟨.int _, fun _ => .int _, ?_⟩
          show (decide ((0 : Int) ≤ ((C.steps.map V.int).length : Int)) && decide (((C.steps.map V.int).length : Int) ≤ (C.steps.length : Int) - 1)) = false
          rw [decide_eq_false (p := ((C.steps.map V.int).length : Int) ≤ (C.steps.length : Int) - 1) (by omega), Bool.and_false]
        · exact ⟨.none, fun _ => .non, rfl⟩
        · exact ⟨.bool true, fun _ => .bl _, rfl⟩
        · exact ⟨.str "0", fun _ => .str _, rfl⟩
      have sl7 := same_new (o := .lst [V.int (-1), V.int ((C.steps.map V.int).length : Int), V.non, V.bl true, V.str "0"]) hl7
      have dl7 : (upd H12 l7 (.lst [V.int (-1), V.int ((C.steps.map V.int).length : Int), V.non, V.bl true, V.str "0"])) l7 = some (.lst [V.int (-1), V.int ((C.steps.map V.int).length : Int), V.non, V.bl true, V.str "0"]) := upd_same
      have s21 := s20.trans sl7
      generalize upd H12 l7 (.lst [V.int (-1), V.int ((C.steps.map V.int).length : Int), V.non, V.bl true, V.str "0"]) = H13 at s21 dl7
      clear sl7 s20
      generalize [V.int (-1), V.int ((C.steps.map V.int).length : Int), V.non, V.bl true, V.str "0"] = xs7 at dl7 bad
      refine ⟨l7, rfl, ⟨_, SqL.of dl7⟩, ?_⟩
      refine for_list (K := K) (a := l7) (xs := xs7) (fun i σ H' => ∃ y2 y5 y6 y7 y8 y9 y10, σ = [some (.ref a), some (.ref m), y2, some (.ref ca), some (.ref ra), y5, y6, y7, y8, y9, y10, none, none] ∧ Same H13 H') ⟨_, _, _, _, _, _, _, rfl, Same.refl H13⟩ ?_ ?_ ?_
      · rintro i σ H' _ ⟨_, _, _, _, _, _, _, _, s2⟩
        exact SqL.of (s2 _ _ dl7)
      · rintro j v σ H14 hj ⟨y2', y5', y6', y7', y8', y9', y10', rfl, s14⟩
        obtain ⟨dx, hdx, hbad⟩ := bad v (List.mem_of_getElem? hj)
        have s114 := s21.trans s14
        have o0 := outW_place0 (dp := dx) few R hbad
        have o1 := outW_place1 (dp := dx) R hbad
        refine ⟨_, rfl, _, rfl, _, rfl, 0, .ref ca, .ref ra, v, C, some (rowL row), dx, rfl, ⟨O, dp_same s114 _ _ hcv4, dp_row (same_tup s114 hra)⟩, hdx _, by rw [o0]; exact nofun, fun v1 H15 s15 hv1 => ?_⟩
        rw [o0] at hv1
        have s115 := s114.trans s15
        refine ⟨_, rfl, _, rfl, _, rfl, 1, .ref ca, .ref ra, v, C, some (rowL row), dx, rfl, ⟨O, dp_same s115 _ _ hcv4, dp_row (same_tup s115 hra)⟩, hdx _, by rw [o1]; exact nofun, fun v2 H16 s16 hv2 => ?_⟩
        rw [o1] at hv2
        refine ⟨by show 2 ≤ sizeLine; decide, fun l8 hl8 => ?_⟩
        have sl8 := same_new (o := .lst [v1, v2]) hl8
        refine ⟨_, rfl, by show 1 ≤ sizeLine; decide, fun l9 hl9 => ?_⟩
        have sl9 := same_new (o := .lst [V.str "place"]) hl9
        refine ⟨l9, 2, _, rfl, rfl, upd_same, by decide, by decide, by show 2 ≤ sizeLine; decide, fun l10 hl10 => ?_⟩
        have sl10 := same_new (o := .lst (List.replicate (2 : Int).toNat [V.str "place"]).flatten) hl10
        have s810 := sl8.trans (sl9.trans sl10)
        refine neD_f (d := .list (List.replicate 2 Out.place.data)) (.lst (SqL.of ((sl9.trans sl10) _ _ upd_same)) (.cons (dp_same (s16.trans s810) _ _ hv1) (.cons (dp_same s810 _ _ hv2) .nil))) (.lst (SqL.of upd_same) (rep2 (.str _))) (shaped_rep .place 2) (iteF ?_)
        exact ⟨_, _, _, _, _, _, _, rfl, s14.trans (s15.trans (s16.trans s810))⟩
      rintro σ H14 ⟨y2', y5', y6', y7', y8', y9', y10', rfl, s14⟩
      exact ⟨_, _, _, _, _, _, _, _, _, l4, rfl, (D4.same (s21.trans s14)).less (by omega)⟩
    rintro σ H2 ⟨x2, x3, x4, x5, x6, x7, x8, x9, x10, l2, rfl, _⟩
    -- the great coder
    refine ⟨2048, rfl, by show 1 ≤ sizeLine; decide, fun g1 hg1 => ?_⟩
    have sg1 := same_new (o := .tup [V.int 1]) hg1
    have u1 : (upd H2 g1 (.tup [V.int 1])) g1 = some (.tup [V.int 1]) := upd_same
    generalize upd H2 g1 (.tup [V.int 1]) = G1 at sg1 u1
    refine ⟨by show 2 ≤ sizeLine; decide, fun g2 hg2 => ?_⟩
    have sg2 := same_new (o := .tup [V.int 8, V.int 0]) hg2
    have u2 : (upd G1 g2 (.tup [V.int 8, V.int 0])) g2 = some (.tup [V.int 8, V.int 0]) := upd_same
    generalize upd G1 g2 (.tup [V.int 8, V.int 0]) = G2 at sg2 u2
    refine ⟨8, rfl, by show 2 ≤ sizeLine; decide, fun g3 hg3 => ?_⟩
    have sg3 := same_new (o := .tup [V.int (-8), V.int 0]) hg3
    have u3 : (upd G2 g3 (.tup [V.int (-8), V.int 0])) g3 = some (.tup [V.int (-8), V.int 0]) := upd_same
    generalize upd G2 g3 (.tup [V.int (-8), V.int 0]) = G3 at sg3 u3
    refine ⟨by show 2 ≤ sizeLine; decide, fun g4 hg4 => ?_⟩
    have sg4 := same_new (o := .tup [V.ref g2, V.ref g3]) hg4
    have u4 : (upd G3 g4 (.tup [V.ref g2, V.ref g3])) g4 = some (.tup [V.ref g2, V.ref g3]) := upd_same
    generalize upd G3 g4 (.tup [V.ref g2, V.ref g3]) = G4 at sg4 u4
    refine ⟨by show 5 ≤ sizeLine; decide, fun g5 hg5 => ?_⟩
    have sg5 := same_new (o := .tup [V.int (-2048), V.int 2048, V.ref g1, V.ref g4, V.int 0]) hg5
    have hgc : Dp K (upd G4 g5 (.tup [V.int (-2048), V.int 2048, V.ref g1, V.ref g4, V.int 0])) (.ref g5) greatC.dat :=
      .tup upd_tup (.cons (.int _) (.cons (.int _) (.cons (.tup (.inl (.inl ((sg2.trans (sg3.trans (sg4.trans sg5))) _ _ u1))) (.cons (.int _) .nil)) (.cons (.tup (.inl (.inl (sg5 _ _ u4)))
        (.cons (dp_mkpair (s := (8, 0)) (.inl (.inl ((sg3.trans (sg4.trans sg5)) _ _ u2)))) (.cons (dp_mkpair (s := (-8, 0)) (.inl (.inl ((sg4.trans sg5) _ _ u3)))) .nil))) (.cons (.int _) .nil)))))
    have sg := sg1.trans (sg2.trans (sg3.trans (sg4.trans sg5)))
    generalize upd G4 g5 (.tup [V.int (-2048), V.int 2048, V.ref g1, V.ref g4, V.int 0]) = H3 at hgc sg
    clear sg1 sg2 sg3 sg4 sg5 u1 u2 u3 u4
    have eg : outW 0 greatC none .none = .great := by
      unfold outW
      rw [if_pos rfl]
      exact outB_great greatC_cnt
    refine ⟨_, rfl, 0, .ref g5, .non, .non, greatC, none, .none, rfl, ⟨greatC_ok, hgc, th_of .non (by decide +kernel)⟩, .non, by rw [eg]; exact nofun, fun v H4 s4 hv => ?_⟩
    rw [eg] at hv
    cases hv
    refine ⟨rfl, _, rfl, iteNS rfl ?_⟩
    have hgc := dp_same s4 _ _ hgc
    clear s4 sg
    -- the coder with 4,096 states
    refine ⟨2048, rfl, by show 1 ≤ sizeLine; decide, fun j1 hj1 => ?_⟩
    have sj1 := same_new (o := .tup [V.int 1]) hj1
    have u1 : (upd H4 j1 (.tup [V.int 1])) j1 = some (.tup [V.int 1]) := upd_same
    generalize upd H4 j1 (.tup [V.int 1]) = G1 at sj1 u1
    refine ⟨by show 2 ≤ sizeLine; decide, fun j2 hj2 => ?_⟩
    have sj2 := same_new (o := .tup [V.int 8, V.int 0]) hj2
    have u2 : (upd G1 j2 (.tup [V.int 8, V.int 0])) j2 = some (.tup [V.int 8, V.int 0]) := upd_same
    generalize upd G1 j2 (.tup [V.int 8, V.int 0]) = G2 at sj2 u2
    refine ⟨8, rfl, by show 2 ≤ sizeLine; decide, fun j3 hj3 => ?_⟩
    have sj3 := same_new (o := .tup [V.int (-8), V.int 0]) hj3
    have u3 : (upd G2 j3 (.tup [V.int (-8), V.int 0])) j3 = some (.tup [V.int (-8), V.int 0]) := upd_same
    generalize upd G2 j3 (.tup [V.int (-8), V.int 0]) = G3 at sj3 u3
    refine ⟨by show 2 ≤ sizeLine; decide, fun j4 hj4 => ?_⟩
    have sj4 := same_new (o := .tup [V.ref j2, V.ref j3]) hj4
    have u4 : (upd G3 j4 (.tup [V.ref j2, V.ref j3])) j4 = some (.tup [V.ref j2, V.ref j3]) := upd_same
    generalize upd G3 j4 (.tup [V.ref j2, V.ref j3]) = G4 at sj4 u4
    refine ⟨by show 5 ≤ sizeLine; decide, fun j5 hj5 => ?_⟩
    have sj5 := same_new (o := .tup [V.int (-2048), V.int 2047, V.ref j1, V.ref j4, V.int 0]) hj5
    have hjc : Dp K (upd G4 j5 (.tup [V.int (-2048), V.int 2047, V.ref j1, V.ref j4, V.int 0])) (.ref j5) justC.dat :=
      .tup upd_tup (.cons (.int _) (.cons (.int _) (.cons (.tup (.inl (.inl ((sj2.trans (sj3.trans (sj4.trans sj5))) _ _ u1))) (.cons (.int _) .nil)) (.cons (.tup (.inl (.inl (sj5 _ _ u4)))
        (.cons (dp_mkpair (s := (8, 0)) (.inl (.inl ((sj3.trans (sj4.trans sj5)) _ _ u2)))) (.cons (dp_mkpair (s := (-8, 0)) (.inl (.inl ((sj4.trans sj5) _ _ u3)))) .nil))) (.cons (.int _) .nil)))))
    have sj := sj1.trans (sj2.trans (sj3.trans (sj4.trans sj5)))
    generalize upd G4 j5 (.tup [V.int (-2048), V.int 2047, V.ref j1, V.ref j4, V.int 0]) = H5 at hjc sj
    clear sj1 sj2 sj3 sj4 sj5 u1 u2 u3 u4
    have hgc := dp_same sj _ _ hgc
    clear sj
    refine ⟨_, rfl, by show 1 ≤ sizeLine; decide, fun r1 hr1 => ?_⟩
    have sr1 := same_new (o := .tup [V.int 0]) hr1
    have Rj : justC.Row [0] := ⟨by decide, by decide⟩
    have finej : outB justC (some (rowL [0])) (placeD justC (.int 0)) = .fine := outB_fine justC_cnt (row_ok rfl Rj) (placeD_in ⟨by decide, by decide⟩)
    refine ⟨.ref j5, .ref r1, .int 0, justC, some (rowL [0]), .int 0, rfl, ⟨justC_ok, dp_same sr1 _ _ hjc, .tup upd_tup (dpAll_rowV [0])⟩, .int _, fun ne => absurd finej ne, fun _ row' k' er ek _ _ => ?_⟩
    obtain rfl := rowL_inj (Option.some.inj er)
    cases ek
    refine ⟨by decide, fun t2 u2 H6 s6 ht2 hu2 => ?_⟩
    have hgc := dp_same (sr1.trans s6) _ _ hgc
    rw [just_map] at hu2
    refine ⟨2047, rfl, ?_⟩
    refine ⟨_, _, rfl, rfl, ⟨by decide, by decide, by decide, by decide, by decide⟩, fun l8 hl8 => ?_⟩
    have s8 := same_new (o := .lst (rgV (-2047) 2048)) hl8
    refine ⟨by show 1 ≤ sizeLine; decide, fun l9 hl9 => ?_⟩
    have s9 := same_new (o := .lst [V.int 2047]) hl9
    refine ⟨l8, l9, _, _, rfl, rfl, s9 _ _ upd_same, upd_same, by show (rgV (-2047) 2048).length + 1 ≤ sizeLine; unfold rgV; rw [List.length_map, List.length_range]; decide, fun l10 hl10 => ?_⟩
    have s10 := same_new (o := .lst (rgV (-2047) 2048 ++ [V.int 2047])) hl10
    refine ⟨l10, _, rfl, .inl ⟨SqL.of upd_same, fun u11 hu11 => ?_⟩⟩
    have s11 := same_new (o := .tup (rgV (-2047) 2048 ++ [V.int 2047])) hu11
    refine ⟨by show 2 ≤ sizeLine; decide, fun t12 ht12 => ?_⟩
    have s12 := same_new (o := .tup [V.ref u11, V.int 0]) ht12
    have e0 : justC.pl 0 [0] = 0 := by decide
    rw [e0] at ht2
    have s812 := s8.trans (s9.trans (s10.trans (s11.trans s12)))
    have hu2' := same_tup s812 hu2
    have hu11' : SqT K (upd (upd (upd (upd (upd H6 l8 (.lst (rgV (-2047) 2048))) l9 (.lst [V.int 2047])) l10 (.lst (rgV (-2047) 2048 ++ [V.int 2047]))) u11 (.tup (rgV (-2047) 2048 ++ [V.int 2047]))) t12 (.tup [V.ref u11, V.int 0])) u11 (rgV (-2047) 2048 ++ [V.int 2047]) := .inl (.inl (s12 _ _ upd_same))
    rw [← just_map] at hu2' hu11'
    refine neD_f (d := mapD justC (justC.chs 0 [0]) 0) (.tup (same_tup s812 ht2) (.cons (dp_tints hu2') (.cons (.int _) .nil))) (.tup upd_tup (.cons (dp_tints hu11') (.cons (.int _) .nil))) ?_ (iteF ?_)
    · obtain ⟨k1, k2⟩ := lay_ints (justC.mapL (justC.chs 0 [0]))
      show (((PyData.canLayAll0 (pis (justC.mapL (justC.chs 0 [0])))) && true) && decide (max (PyData.depthAll (pis (justC.mapL (justC.chs 0 [0]))) + 1) (max 0 0) + 1 ≤ 64)) = true
      rw [k1, k2]
      rfl
    have hgc := dp_same s812 _ _ hgc
    generalize upd (upd (upd (upd (upd H6 l8 _) l9 _) l10 _) u11 _) t12 _ = H13 at hgc
    clear hu2' hu11' s812 s12 s11 s10 s9 s8 hu2 ht2
    refine ⟨_, rfl, by show 2 ≤ sizeLine; decide, fun r2 hr2 => ?_⟩
    have sr2 := same_new (o := .tup [V.int 0, V.int 1]) hr2
    have Rg : greatC.Row [0, 1] := ⟨by decide, by decide⟩
    have fineg : outF greatC (some (rowL [0, 1])) (placeD greatC (.int 0)) = .fine := outF_fine rfl (row_ok rfl Rg) (placeD_in ⟨by decide, by decide⟩)
    refine ⟨.ref g5, .ref r2, .int 0, greatC, some (rowL [0, 1]), .int 0, rfl, ⟨greatC_ok, dp_same sr2 _ _ hgc, .tup upd_tup (dpAll_rowV [0, 1])⟩, .int _, fun ne => absurd fineg ne, fun _ row' k' er ek _ _ t14 H14 s14 ht14 => ?_⟩
    obtain rfl := rowL_inj (Option.some.inj er)
    cases ek
    have et : [V.int (greatC.chs 0 [0, 1]).sum, V.int (greatC.lv greatC.low (greatC.chs 0 [0, 1])), V.int (greatC.lv greatC.high (greatC.chs 0 [0, 1])), V.int (greatC.pl 0 [0, 1])] = [V.int 0, V.int (-2048), V.int 2047, V.int 0] := by
      rw [show (greatC.chs 0 [0, 1]).sum = 0 by decide, show greatC.lv greatC.low (greatC.chs 0 [0, 1]) = -2048 by decide, show greatC.lv greatC.high (greatC.chs 0 [0, 1]) = 2047 by decide, show greatC.pl 0 [0, 1] = 0 by decide]
    rw [et] at ht14
    refine ⟨_, .tuple [.int 0, .int (-2048), .int 2047, .int 0], rfl, .tup ht14 (.cons (.int _) (.cons (.int _) (.cons (.int _) (.cons (.int _) .nil)))), by decide +kernel, by decide +kernel, by decide +kernel, by rw [lim_text]; decide, ?_⟩
    rw [lim_text]
    refine ⟨rfl, ?_⟩
    rw [decide_eq_true rfl]
    exact q _
end
end My

namespace My
open PySem PySem.Spec PyProof.Rows L2
theorem exm_of {K : PySem.W.Frag} {S C : Addr} {b : Bool} (base : PySem.W.subIn K (.ref C) (.type "BaseException") = some true) (isCls : PySem.W.isClsIn K C = true)
    (ty : PySem.W.typeIn K (.ref C) = some (.type "type")) (sub : PySem.W.subIn K (.ref S) (.ref C) = some b) : PySem.W.exmOne K (.ref S) (.ref C) = some b := by
  unfold PySem.W.exmOne
  rw [if_pos (by rw [base]; rfl)]
  show (if ((PySem.W.clsIn K C).isSome && PySem.W.typeIn K (.ref C) == some (.type "type")) = true then PySem.W.subIn K (.ref S) (.ref C) else none) = some b
  have h : (PySem.W.clsIn K C).isSome = true := isCls
  rw [if_pos (by rw [h, ty]; rfl)]
  exact sub
set_option maxHeartbeats 0 in
theorem all_mk {l : PySem.W.OpenLaw} {w : World} {K : PySem.W.Frag} {h : Heap} {mg : Str → Option Value} {fa : Addr} (X : K.In h) (G : h.Ns mainGlobals mg) (hfa : mg "law" = some (.ref fa))
    {oc0 kV0 dc0 pm0 cd0 ct0 : Value} {od0 an0 : Option Addr} {sl0 : Array (Option Value)} {f0 : Addr}
    {oc1 kV1 dc1 pm1 cd1 ct1 : Value} {od1 an1 : Option Addr} {sl1 : Array (Option Value)} {f1 : Addr}
    {oc2 kV2 dc2 pm2 cd2 ct2 : Value} {od2 an2 : Option Addr} {sl2 : Array (Option Value)} {f2 : Addr}
    {oc3 kV3 dc3 pm3 cd3 ct3 : Value} {od3 an3 : Option Addr} {sl3 : Array (Option Value)} {f3 : Addr}
    {oc4 kV4 dc4 pm4 cd4 ct4 : Value} {od4 an4 : Option Addr} {sl4 : Array (Option Value)} {f4 : Addr}
    {oc5 kV5 dc5 pm5 cd5 ct5 : Value} {od5 an5 : Option Addr} {sl5 : Array (Option Value)} {f5 : Addr}
    {oc6 kV6 dc6 pm6 cd6 ct6 : Value} {od6 an6 : Option Addr} {sl6 : Array (Option Value)} {f6 : Addr}
    {oc7 kV7 dc7 pm7 cd7 ct7 : Value} {od7 an7 : Option Addr} {sl7 : Array (Option Value)} {f7 : Addr}
    {oc8 kV8 dc8 pm8 cd8 ct8 : Value} {od8 an8 : Option Addr} {sl8 : Array (Option Value)} {f8 : Addr}
    {oc9 kV9 dc9 pm9 cd9 ct9 : Value} {od9 an9 : Option Addr} {sl9 : Array (Option Value)} {f9 : Addr}
    {oc10 kV10 dc10 pm10 cd10 ct10 : Value} {od10 an10 : Option Addr} {sl10 : Array (Option Value)} {f10 : Addr}
    {oc11 kV11 dc11 pm11 cd11 ct11 : Value} {od11 an11 : Option Addr} {sl11 : Array (Option Value)} {f11 : Addr}
    {oc12 kV12 dc12 pm12 cd12 ct12 : Value} {od12 an12 : Option Addr} {sl12 : Array (Option Value)} {f12 : Addr}
    {oc13 kV13 dc13 pm13 cd13 ct13 : Value} {od13 an13 : Option Addr} {sl13 : Array (Option Value)} {f13 : Addr}
    {oc14 kV14 dc14 pm14 cd14 ct14 : Value} {od14 an14 : Option Addr} {sl14 : Array (Option Value)} {f14 : Addr}
    {oc15 kV15 dc15 pm15 cd15 ct15 : Value} {od15 an15 : Option Addr} {sl15 : Array (Option Value)} {f15 : Addr}
    {oc16 kV16 dc16 pm16 cd16 ct16 : Value} {od16 an16 : Option Addr} {sl16 : Array (Option Value)} {f16 : Addr}
    {oc17 kV17 dc17 pm17 cd17 ct17 : Value} {od17 an17 : Option Addr} {sl17 : Array (Option Value)} {f17 : Addr}
    {oc18 kV18 dc18 pm18 cd18 ct18 : Value} {od18 an18 : Option Addr} {sl18 : Array (Option Value)} {f18 : Addr}
    {oc19 kV19 dc19 pm19 cd19 ct19 : Value} {od19 an19 : Option Addr} {sl19 : Array (Option Value)} {f19 : Addr}
    {oc20 kV20 dc20 pm20 cd20 ct20 : Value} {od20 an20 : Option Addr} {sl20 : Array (Option Value)} {f20 : Addr}
    {oc21 kV21 dc21 pm21 cd21 ct21 : Value} {od21 an21 : Option Addr} {sl21 : Array (Option Value)} {f21 : Addr}
    {oc22 kV22 dc22 pm22 cd22 ct22 : Value} {od22 an22 : Option Addr} {sl22 : Array (Option Value)} {f22 : Addr}
    {oc23 kV23 dc23 pm23 cd23 ct23 : Value} {od23 an23 : Option Addr} {sl23 : Array (Option Value)} {f23 : Addr}
    {oc24 kV24 dc24 pm24 cd24 ct24 : Value} {od24 an24 : Option Addr} {sl24 : Array (Option Value)} {f24 : Addr}
    {oc25 kV25 dc25 pm25 cd25 ct25 : Value} {od25 an25 : Option Addr} {sl25 : Array (Option Value)} {f25 : Addr}
    {oc26 kV26 dc26 pm26 cd26 ct26 : Value} {od26 an26 : Option Addr} {sl26 : Array (Option Value)} {f26 : Addr}
    {oc27 kV27 dc27 pm27 cd27 ct27 : Value} {od27 an27 : Option Addr} {sl27 : Array (Option Value)} {f27 : Addr}
    {oc28 kV28 dc28 pm28 cd28 ct28 : Value} {od28 an28 : Option Addr} {sl28 : Array (Option Value)} {f28 : Addr}
    {oc29 kV29 dc29 pm29 cd29 ct29 : Value} {od29 an29 : Option Addr} {sl29 : Array (Option Value)} {f29 : Addr}
    {oc30 kV30 dc30 pm30 cd30 ct30 : Value} {od30 an30 : Option Addr} {sl30 : Array (Option Value)} {f30 : Addr}
    {oc31 kV31 dc31 pm31 cd31 ct31 : Value} {od31 an31 : Option Addr} {sl31 : Array (Option Value)} {f31 : Addr}
    {oc32 kV32 dc32 pm32 cd32 ct32 : Value} {od32 an32 : Option Addr} {sl32 : Array (Option Value)} {f32 : Addr}
    {oc33 kV33 dc33 pm33 cd33 ct33 : Value} {od33 an33 : Option Addr} {sl33 : Array (Option Value)} {f33 : Addr}
    {oc34 kV34 dc34 pm34 cd34 ct34 : Value} {od34 an34 : Option Addr} {sl34 : Array (Option Value)} {f34 : Addr}
    {oc35 kV35 dc35 pm35 cd35 ct35 : Value} {od35 an35 : Option Addr} {sl35 : Array (Option Value)} {f35 : Addr}
    {oc36 kV36 dc36 pm36 cd36 ct36 : Value} {od36 an36 : Option Addr} {sl36 : Array (Option Value)} {f36 : Addr}
    {C0 g0 N0 : Addr} {nmC0 qC0 : Str} {bsC0 subC0 : List Value} {snC0 : List Str} {abC0 : Bool} {colC0 : Option Bool} {ddC0 : Option Addr} {m0C0 m1C0 m2C0 m3C0 m5C0 : Option Value} {ocC0 kVC0 dcC0 pmC0 cdC0 ctC0 : Value} {odC0 anC0 : Option Addr} {slC0 : Array (Option Value)}
    {C1 g1 N1 : Addr} {nmC1 qC1 : Str} {bsC1 subC1 : List Value} {snC1 : List Str} {abC1 : Bool} {colC1 : Option Bool} {ddC1 : Option Addr} {m0C1 m1C1 m2C1 m3C1 m5C1 : Option Value} {ocC1 kVC1 dcC1 pmC1 cdC1 ctC1 : Value} {odC1 anC1 : Option Addr} {slC1 : Array (Option Value)}
    {C2 g2 N2 : Addr} {nmC2 qC2 : Str} {bsC2 subC2 : List Value} {snC2 : List Str} {abC2 : Bool} {colC2 : Option Bool} {ddC2 : Option Addr} {m0C2 m1C2 m2C2 m3C2 m5C2 : Option Value} {ocC2 kVC2 dcC2 pmC2 cdC2 ctC2 : Value} {odC2 anC2 : Option Addr} {slC2 : Array (Option Value)}
    {tMC : Tok}
    (a0 : PySem.W.nsIn K mainGlobals "is_integer" = some (some (.ref f0)))
    (l0 : K.lookup f0 = some ⟨oc0, od0, .func (PySem.W.fnOf "is_integer" "is_integer" (defArgs s_is_integer) (defBody s_is_integer) (defScope s_is_integer) .none kV0 dc0 pm0 an0 cd0 ct0), sl0⟩)
    (c0 : PySem.W.codeIn K cd0 "is_integer" = true)
    (k0 : PySem.W.keepIn K (.ref f0) = true)
    (a1 : PySem.W.nsIn K mainGlobals "is_between" = some (some (.ref f1)))
    (l1 : K.lookup f1 = some ⟨oc1, od1, .func (PySem.W.fnOf "is_between" "is_between" (defArgs s_is_between) (defBody s_is_between) (defScope s_is_between) .none kV1 dc1 pm1 an1 cd1 ct1), sl1⟩)
    (c1 : PySem.W.codeIn K cd1 "is_between" = true)
    (k1 : PySem.W.keepIn K (.ref f1) = true)
    (a2 : PySem.W.nsIn K mainGlobals "is_pair" = some (some (.ref f2)))
    (l2 : K.lookup f2 = some ⟨oc2, od2, .func (PySem.W.fnOf "is_pair" "is_pair" (defArgs s_is_pair) (defBody s_is_pair) (defScope s_is_pair) .none kV2 dc2 pm2 an2 cd2 ct2), sl2⟩)
    (c2 : PySem.W.codeIn K cd2 "is_pair" = true)
    (k2 : PySem.W.keepIn K (.ref f2) = true)
    (a3 : PySem.W.nsIn K mainGlobals "is_code" = some (some (.ref f3)))
    (l3 : K.lookup f3 = some ⟨oc3, od3, .func (PySem.W.fnOf "is_code" "is_code" (defArgs s_is_code) (defBody s_is_code) (defScope s_is_code) .none kV3 dc3 pm3 an3 cd3 ct3), sl3⟩)
    (c3 : PySem.W.codeIn K cd3 "is_code" = true)
    (k3 : PySem.W.keepIn K (.ref f3) = true)
    (a4 : PySem.W.nsIn K mainGlobals "is_place" = some (some (.ref f4)))
    (l4 : K.lookup f4 = some ⟨oc4, od4, .func (PySem.W.fnOf "is_place" "is_place" (defArgs s_is_place) (defBody s_is_place) (defScope s_is_place) .none kV4 dc4 pm4 an4 cd4 ct4), sl4⟩)
    (c4 : PySem.W.codeIn K cd4 "is_place" = true)
    (k4 : PySem.W.keepIn K (.ref f4) = true)
    (a5 : PySem.W.nsIn K mainGlobals "need_place" = some (some (.ref f5)))
    (l5 : K.lookup f5 = some ⟨oc5, od5, .func (PySem.W.fnOf "need_place" "need_place" (defArgs s_need_place) (defBody s_need_place) (defScope s_need_place) .none kV5 dc5 pm5 an5 cd5 ct5), sl5⟩)
    (c5 : PySem.W.codeIn K cd5 "need_place" = true)
    (k5 : PySem.W.keepIn K (.ref f5) = true)
    (a6 : PySem.W.nsIn K mainGlobals "need_row" = some (some (.ref f6)))
    (l6 : K.lookup f6 = some ⟨oc6, od6, .func (PySem.W.fnOf "need_row" "need_row" (defArgs s_need_row) (defBody s_need_row) (defScope s_need_row) .none kV6 dc6 pm6 an6 cd6 ct6), sl6⟩)
    (c6 : PySem.W.codeIn K cd6 "need_row" = true)
    (k6 : PySem.W.keepIn K (.ref f6) = true)
    (a7 : PySem.W.nsIn K mainGlobals "need_few_states" = some (some (.ref f7)))
    (l7 : K.lookup f7 = some ⟨oc7, od7, .func (PySem.W.fnOf "need_few_states" "need_few_states" (defArgs s_need_few_states) (defBody s_need_few_states) (defScope s_need_few_states) .none kV7 dc7 pm7 an7 cd7 ct7), sl7⟩)
    (c7 : PySem.W.codeIn K cd7 "need_few_states" = true)
    (k7 : PySem.W.keepIn K (.ref f7) = true)
    (a8 : PySem.W.nsIn K mainGlobals "rounded" = some (some (.ref f8)))
    (l8 : K.lookup f8 = some ⟨oc8, od8, .func (PySem.W.fnOf "rounded" "rounded" (defArgs s_rounded) (defBody s_rounded) (defScope s_rounded) .none kV8 dc8 pm8 an8 cd8 ct8), sl8⟩)
    (c8 : PySem.W.codeIn K cd8 "rounded" = true)
    (k8 : PySem.W.keepIn K (.ref f8) = true)
    (a9 : PySem.W.nsIn K mainGlobals "limited" = some (some (.ref f9)))
    (l9 : K.lookup f9 = some ⟨oc9, od9, .func (PySem.W.fnOf "limited" "limited" (defArgs s_limited) (defBody s_limited) (defScope s_limited) .none kV9 dc9 pm9 an9 cd9 ct9), sl9⟩)
    (c9 : PySem.W.codeIn K cd9 "limited" = true)
    (k9 : PySem.W.keepIn K (.ref f9) = true)
    (a10 : PySem.W.nsIn K mainGlobals "change_at" = some (some (.ref f10)))
    (l10 : K.lookup f10 = some ⟨oc10, od10, .func (PySem.W.fnOf "change_at" "change_at" (defArgs s_change_at) (defBody s_change_at) (defScope s_change_at) .none kV10 dc10 pm10 an10 cd10 ct10), sl10⟩)
    (c10 : PySem.W.codeIn K cd10 "change_at" = true)
    (k10 : PySem.W.keepIn K (.ref f10) = true)
    (a11 : PySem.W.nsIn K mainGlobals "faded" = some (some (.ref f11)))
    (l11 : K.lookup f11 = some ⟨oc11, od11, .func (PySem.W.fnOf "faded" "faded" (defArgs s_faded) (defBody s_faded) (defScope s_faded) .none kV11 dc11 pm11 an11 cd11 ct11), sl11⟩)
    (c11 : PySem.W.codeIn K cd11 "faded" = true)
    (k11 : PySem.W.keepIn K (.ref f11) = true)
    (a12 : PySem.W.nsIn K mainGlobals "need_coder" = some (some (.ref f12)))
    (l12 : K.lookup f12 = some ⟨oc12, od12, .func (PySem.W.fnOf "need_coder" "need_coder" (defArgs s_need_coder) (defBody s_need_coder) (defScope s_need_coder) .none kV12 dc12 pm12 an12 cd12 ct12), sl12⟩)
    (c12 : PySem.W.codeIn K cd12 "need_coder" = true)
    (k12 : PySem.W.keepIn K (.ref f12) = true)
    (a13 : PySem.W.nsIn K mainGlobals "_first_fault" = some (some (.ref f13)))
    (l13 : K.lookup f13 = some ⟨oc13, od13, .func (PySem.W.fnOf "_first_fault" "_first_fault" (defArgs s_first_fault) (defBody s_first_fault) (defScope s_first_fault) .none kV13 dc13 pm13 an13 cd13 ct13), sl13⟩)
    (c13 : PySem.W.codeIn K cd13 "_first_fault" = true)
    (k13 : PySem.W.keepIn K (.ref f13) = true)
    (a14 : PySem.W.nsIn K mainGlobals "_fault_of_steps" = some (some (.ref f14)))
    (l14 : K.lookup f14 = some ⟨oc14, od14, .func (PySem.W.fnOf "_fault_of_steps" "_fault_of_steps" (defArgs s_fault_of_steps) (defBody s_fault_of_steps) (defScope s_fault_of_steps) .none kV14 dc14 pm14 an14 cd14 ct14), sl14⟩)
    (c14 : PySem.W.codeIn K cd14 "_fault_of_steps" = true)
    (k14 : PySem.W.keepIn K (.ref f14) = true)
    (a15 : PySem.W.nsIn K mainGlobals "_fault_of_moves" = some (some (.ref f15)))
    (l15 : K.lookup f15 = some ⟨oc15, od15, .func (PySem.W.fnOf "_fault_of_moves" "_fault_of_moves" (defArgs s_fault_of_moves) (defBody s_fault_of_moves) (defScope s_fault_of_moves) .none kV15 dc15 pm15 an15 cd15 ct15), sl15⟩)
    (c15 : PySem.W.codeIn K cd15 "_fault_of_moves" = true)
    (k15 : PySem.W.keepIn K (.ref f15) = true)
    (a16 : PySem.W.nsIn K mainGlobals "_is_tuple_of" = some (some (.ref f16)))
    (l16 : K.lookup f16 = some ⟨oc16, od16, .func (PySem.W.fnOf "_is_tuple_of" "_is_tuple_of" (defArgs s_is_tuple_of) (defBody s_is_tuple_of) (defScope s_is_tuple_of) .none kV16 dc16 pm16 an16 cd16 ct16), sl16⟩)
    (c16 : PySem.W.codeIn K cd16 "_is_tuple_of" = true)
    (k16 : PySem.W.keepIn K (.ref f16) = true)
    (a17 : PySem.W.nsIn K mainGlobals "_is_move" = some (some (.ref f17)))
    (l17 : K.lookup f17 = some ⟨oc17, od17, .func (PySem.W.fnOf "_is_move" "_is_move" (defArgs s_is_move) (defBody s_is_move) (defScope s_is_move) .none kV17 dc17 pm17 an17 cd17 ct17), sl17⟩)
    (c17 : PySem.W.codeIn K cd17 "_is_move" = true)
    (k17 : PySem.W.keepIn K (.ref f17) = true)
    (a18 : PySem.W.nsIn K mainGlobals "_is_fade" = some (some (.ref f18)))
    (l18 : K.lookup f18 = some ⟨oc18, od18, .func (PySem.W.fnOf "_is_fade" "_is_fade" (defArgs s_is_fade) (defBody s_is_fade) (defScope s_is_fade) .none kV18 dc18 pm18 an18 cd18 ct18), sl18⟩)
    (c18 : PySem.W.codeIn K cd18 "_is_fade" = true)
    (k18 : PySem.W.keepIn K (.ref f18) = true)
    (a19 : PySem.W.nsIn K mainGlobals "changes_along" = some (some (.ref f19)))
    (l19 : K.lookup f19 = some ⟨oc19, od19, .func (PySem.W.fnOf "changes_along" "changes_along" (defArgs s_changes_along) (defBody s_changes_along) (defScope s_changes_along) .none kV19 dc19 pm19 an19 cd19 ct19), sl19⟩)
    (c19 : PySem.W.codeIn K cd19 "changes_along" = true)
    (k19 : PySem.W.keepIn K (.ref f19) = true)
    (a20 : PySem.W.nsIn K mainGlobals "level_behind" = some (some (.ref f20)))
    (l20 : K.lookup f20 = some ⟨oc20, od20, .func (PySem.W.fnOf "level_behind" "level_behind" (defArgs s_level_behind) (defBody s_level_behind) (defScope s_level_behind) .none kV20 dc20 pm20 an20 cd20 ct20), sl20⟩)
    (c20 : PySem.W.codeIn K cd20 "level_behind" = true)
    (k20 : PySem.W.keepIn K (.ref f20) = true)
    (a21 : PySem.W.nsIn K mainGlobals "limits_behind" = some (some (.ref f21)))
    (l21 : K.lookup f21 = some ⟨oc21, od21, .func (PySem.W.fnOf "limits_behind" "limits_behind" (defArgs s_limits_behind) (defBody s_limits_behind) (defScope s_limits_behind) .none kV21 dc21 pm21 an21 cd21 ct21), sl21⟩)
    (c21 : PySem.W.codeIn K cd21 "limits_behind" = true)
    (k21 : PySem.W.keepIn K (.ref f21) = true)
    (a22 : PySem.W.nsIn K mainGlobals "levels_behind" = some (some (.ref f22)))
    (l22 : K.lookup f22 = some ⟨oc22, od22, .func (PySem.W.fnOf "levels_behind" "levels_behind" (defArgs s_levels_behind) (defBody s_levels_behind) (defScope s_levels_behind) .none kV22 dc22 pm22 an22 cd22 ct22), sl22⟩)
    (c22 : PySem.W.codeIn K cd22 "levels_behind" = true)
    (k22 : PySem.W.keepIn K (.ref f22) = true)
    (a23 : PySem.W.nsIn K mainGlobals "row_map" = some (some (.ref f23)))
    (l23 : K.lookup f23 = some ⟨oc23, od23, .func (PySem.W.fnOf "row_map" "row_map" (defArgs s_row_map) (defBody s_row_map) (defScope s_row_map) .none kV23 dc23 pm23 an23 cd23 ct23), sl23⟩)
    (c23 : PySem.W.codeIn K cd23 "row_map" = true)
    (k23 : PySem.W.keepIn K (.ref f23) = true)
    (a24 : PySem.W.nsIn K mainGlobals "limits_of" = some (some (.ref f24)))
    (l24 : K.lookup f24 = some ⟨oc24, od24, .func (PySem.W.fnOf "limits_of" "limits_of" (defArgs s_limits_of) (defBody s_limits_of) (defScope s_limits_of) .none kV24 dc24 pm24 an24 cd24 ct24), sl24⟩)
    (c24 : PySem.W.codeIn K cd24 "limits_of" = true)
    (k24 : PySem.W.keepIn K (.ref f24) = true)
    (a25 : PySem.W.nsIn K mainGlobals "_law_begun" = some (some (.ref f25)))
    (l25 : K.lookup f25 = some ⟨oc25, od25, .func (PySem.W.fnOf "_law_begun" "_law_begun" (defArgs s_law_begun) (defBody s_law_begun) (defScope s_law_begun) .none kV25 dc25 pm25 an25 cd25 ct25), sl25⟩)
    (c25 : PySem.W.codeIn K cd25 "_law_begun" = true)
    (k25 : PySem.W.keepIn K (.ref f25) = true)
    (a26 : PySem.W.nsIn K mainGlobals "_law_next" = some (some (.ref f26)))
    (l26 : K.lookup f26 = some ⟨oc26, od26, .func (PySem.W.fnOf "_law_next" "_law_next" (defArgs s_law_next) (defBody s_law_next) (defScope s_law_next) .none kV26 dc26 pm26 an26 cd26 ct26), sl26⟩)
    (c26 : PySem.W.codeIn K cd26 "_law_next" = true)
    (k26 : PySem.W.keepIn K (.ref f26) = true)
    (a27 : PySem.W.nsIn K mainGlobals "_law_coder" = some (some (.ref f27)))
    (l27 : K.lookup f27 = some ⟨oc27, od27, .func (PySem.W.fnOf "_law_coder" "_law_coder" (defArgs s_law_coder) (defBody s_law_coder) (defScope s_law_coder) .none kV27 dc27 pm27 an27 cd27 ct27), sl27⟩)
    (c27 : PySem.W.codeIn K cd27 "_law_coder" = true)
    (k27 : PySem.W.keepIn K (.ref f27) = true)
    (a28 : PySem.W.nsIn K mainGlobals "_law_parted" = some (some (.ref f28)))
    (l28 : K.lookup f28 = some ⟨oc28, od28, .func (PySem.W.fnOf "_law_parted" "_law_parted" (defArgs s_law_parted) (defBody s_law_parted) (defScope s_law_parted) .none kV28 dc28 pm28 an28 cd28 ct28), sl28⟩)
    (c28 : PySem.W.codeIn K cd28 "_law_parted" = true)
    (k28 : PySem.W.keepIn K (.ref f28) = true)
    (a29 : PySem.W.nsIn K mainGlobals "_law_limited" = some (some (.ref f29)))
    (l29 : K.lookup f29 = some ⟨oc29, od29, .func (PySem.W.fnOf "_law_limited" "_law_limited" (defArgs s_law_limited) (defBody s_law_limited) (defScope s_law_limited) .none kV29 dc29 pm29 an29 cd29 ct29), sl29⟩)
    (c29 : PySem.W.codeIn K cd29 "_law_limited" = true)
    (k29 : PySem.W.keepIn K (.ref f29) = true)
    (a30 : PySem.W.nsIn K mainGlobals "_law_led" = some (some (.ref f30)))
    (l30 : K.lookup f30 = some ⟨oc30, od30, .func (PySem.W.fnOf "_law_led" "_law_led" (defArgs s_law_led) (defBody s_law_led) (defScope s_law_led) .none kV30 dc30 pm30 an30 cd30 ct30), sl30⟩)
    (c30 : PySem.W.codeIn K cd30 "_law_led" = true)
    (k30 : PySem.W.keepIn K (.ref f30) = true)
    (a31 : PySem.W.nsIn K mainGlobals "_law_walked" = some (some (.ref f31)))
    (l31 : K.lookup f31 = some ⟨oc31, od31, .func (PySem.W.fnOf "_law_walked" "_law_walked" (defArgs s_law_walked) (defBody s_law_walked) (defScope s_law_walked) .none kV31 dc31 pm31 an31 cd31 ct31), sl31⟩)
    (c31 : PySem.W.codeIn K cd31 "_law_walked" = true)
    (k31 : PySem.W.keepIn K (.ref f31) = true)
    (a32 : PySem.W.nsIn K mainGlobals "_law_row" = some (some (.ref f32)))
    (l32 : K.lookup f32 = some ⟨oc32, od32, .func (PySem.W.fnOf "_law_row" "_law_row" (defArgs s_law_row) (defBody s_law_row) (defScope s_law_row) .none kV32 dc32 pm32 an32 cd32 ct32), sl32⟩)
    (c32 : PySem.W.codeIn K cd32 "_law_row" = true)
    (k32 : PySem.W.keepIn K (.ref f32) = true)
    (a33 : PySem.W.nsIn K mainGlobals "_law_place_right" = some (some (.ref f33)))
    (l33 : K.lookup f33 = some ⟨oc33, od33, .func (PySem.W.fnOf "_law_place_right" "_law_place_right" (defArgs s_law_place_right) (defBody s_law_place_right) (defScope s_law_place_right) .none kV33 dc33 pm33 an33 cd33 ct33), sl33⟩)
    (c33 : PySem.W.codeIn K cd33 "_law_place_right" = true)
    (k33 : PySem.W.keepIn K (.ref f33) = true)
    (a34 : PySem.W.nsIn K mainGlobals "_law_total" = some (some (.ref f34)))
    (l34 : K.lookup f34 = some ⟨oc34, od34, .func (PySem.W.fnOf "_law_total" "_law_total" (defArgs s_law_total) (defBody s_law_total) (defScope s_law_total) .none kV34 dc34 pm34 an34 cd34 ct34), sl34⟩)
    (c34 : PySem.W.codeIn K cd34 "_law_total" = true)
    (k34 : PySem.W.keepIn K (.ref f34) = true)
    (a35 : PySem.W.nsIn K mainGlobals "_law_refused" = some (some (.ref f35)))
    (l35 : K.lookup f35 = some ⟨oc35, od35, .func (PySem.W.fnOf "_law_refused" "_law_refused" (defArgs s_law_refused) (defBody s_law_refused) (defScope s_law_refused) .none kV35 dc35 pm35 an35 cd35 ct35), sl35⟩)
    (c35 : PySem.W.codeIn K cd35 "_law_refused" = true)
    (k35 : PySem.W.keepIn K (.ref f35) = true)
    (a36 : PySem.W.nsIn K mainGlobals "law" = some (some (.ref f36)))
    (l36 : K.lookup f36 = some ⟨oc36, od36, .func (PySem.W.fnOf "law" "law" (defArgs s_law) (defBody s_law) (defScope s_law) .none kV36 dc36 pm36 an36 cd36 ct36), sl36⟩)
    (c36 : PySem.W.codeIn K cd36 "law" = true)
    (k36 : PySem.W.keepIn K (.ref f36) = true)
    (z_bool : PySem.W.nsIn K mainGlobals "bool" = some none)
    (z_enumerate : PySem.W.nsIn K mainGlobals "enumerate" = some none)
    (z_int : PySem.W.nsIn K mainGlobals "int" = some none)
    (z_isinstance : PySem.W.nsIn K mainGlobals "isinstance" = some none)
    (z_len : PySem.W.nsIn K mainGlobals "len" = some none)
    (z_list : PySem.W.nsIn K mainGlobals "list" = some none)
    (z_max : PySem.W.nsIn K mainGlobals "max" = some none)
    (z_min : PySem.W.nsIn K mainGlobals "min" = some none)
    (z_range : PySem.W.nsIn K mainGlobals "range" = some none)
    (z_repr : PySem.W.nsIn K mainGlobals "repr" = some none)
    (z_set : PySem.W.nsIn K mainGlobals "set" = some none)
    (z_sorted : PySem.W.nsIn K mainGlobals "sorted" = some none)
    (z_sum : PySem.W.nsIn K mainGlobals "sum" = some none)
    (z_tuple : PySem.W.nsIn K mainGlobals "tuple" = some none)
    (z_zip : PySem.W.nsIn K mainGlobals "zip" = some none)
    (aC0 : PySem.W.nsIn K mainGlobals "BadRow" = some (some (.ref C0)))
    (xC0 : K.lookup C0 = some (excClassObj nmC0 qC0 C0 N0 bsC0 [.type "ValueError", .type "Exception", .type "BaseException", .type "object"] true snC0 subC0 abC0 colC0 ddC0 m0C0 m1C0 m2C0 m3C0 m5C0 "ValueError.__new__"))
    (saC0 : PySem.W.findIn K (.ref C0) "__setattr__" = some (some (.builtin "object.__setattr__")))
    (iC0 : PySem.W.findIn K (.ref C0) "__init__" = some (some (.ref g0)))
    (tI0 : PySem.W.typeIn K (.ref g0) = some (.type "function"))
    (lC0 : K.lookup g0 = some ⟨ocC0, odC0, .func (PySem.W.fnOf "__init__" "BadRow.__init__" (defArgs si_BadRow) (defBody si_BadRow) (defScope si_BadRow) .none kVC0 dcC0 pmC0 anC0 cdC0 ctC0), slC0⟩)
    (cC0 : PySem.W.codeIn K cdC0 "BadRow.__init__" = true)
    (kI0 : PySem.W.keepIn K (.ref g0) = true)
    (kC0 : PySem.W.keepIn K (.ref C0) = true)
    (eC0 : PySem.W.subIn K (.ref C0) (.type "BaseException") = some true)
    (tC0 : PySem.W.typeIn K (.ref C0) = some (.type "type"))
    (isC0 : PySem.W.isClsIn K C0 = true)
    (sC0 : PySem.W.subIn K (.ref C0) (.ref C0) = some true)
    (gaC0 : PySem.W.findIn K (.ref C0) "__getattribute__" = some (some (.builtin "BaseException.__getattribute__")))
    (ggC0 : PySem.W.findIn K (.ref C0) "__getattr__" = some none)
    (hdC0 : PySem.W.hasDictIn K C0 = true)
    (nC0row : PySem.W.findIn K (.ref C0) "row" = some none)
    (nC0word : PySem.W.findIn K (.ref C0) "word" = some none)
    (aC1 : PySem.W.nsIn K mainGlobals "OutOfPlace" = some (some (.ref C1)))
    (xC1 : K.lookup C1 = some (excClassObj nmC1 qC1 C1 N1 bsC1 [.type "ValueError", .type "Exception", .type "BaseException", .type "object"] true snC1 subC1 abC1 colC1 ddC1 m0C1 m1C1 m2C1 m3C1 m5C1 "ValueError.__new__"))
    (saC1 : PySem.W.findIn K (.ref C1) "__setattr__" = some (some (.builtin "object.__setattr__")))
    (iC1 : PySem.W.findIn K (.ref C1) "__init__" = some (some (.ref g1)))
    (tI1 : PySem.W.typeIn K (.ref g1) = some (.type "function"))
    (lC1 : K.lookup g1 = some ⟨ocC1, odC1, .func (PySem.W.fnOf "__init__" "OutOfPlace.__init__" (defArgs si_OutOfPlace) (defBody si_OutOfPlace) (defScope si_OutOfPlace) .none kVC1 dcC1 pmC1 anC1 cdC1 ctC1), slC1⟩)
    (cC1 : PySem.W.codeIn K cdC1 "OutOfPlace.__init__" = true)
    (kI1 : PySem.W.keepIn K (.ref g1) = true)
    (kC1 : PySem.W.keepIn K (.ref C1) = true)
    (eC1 : PySem.W.subIn K (.ref C1) (.type "BaseException") = some true)
    (tC1 : PySem.W.typeIn K (.ref C1) = some (.type "type"))
    (isC1 : PySem.W.isClsIn K C1 = true)
    (sC1 : PySem.W.subIn K (.ref C1) (.ref C1) = some true)
    (aC2 : PySem.W.nsIn K mainGlobals "TooGreat" = some (some (.ref C2)))
    (xC2 : K.lookup C2 = some (excClassObj nmC2 qC2 C2 N2 bsC2 oeTail true snC2 subC2 abC2 colC2 ddC2 m0C2 m1C2 m2C2 m3C2 m5C2 "OverflowError.__new__"))
    (saC2 : PySem.W.findIn K (.ref C2) "__setattr__" = some (some (.builtin "object.__setattr__")))
    (iC2 : PySem.W.findIn K (.ref C2) "__init__" = some (some (.ref g2)))
    (tI2 : PySem.W.typeIn K (.ref g2) = some (.type "function"))
    (lC2 : K.lookup g2 = some ⟨ocC2, odC2, .func (PySem.W.fnOf "__init__" "TooGreat.__init__" (defArgs si_TooGreat) (defBody si_TooGreat) (defScope si_TooGreat) .none kVC2 dcC2 pmC2 anC2 cdC2 ctC2), slC2⟩)
    (cC2 : PySem.W.codeIn K cdC2 "TooGreat.__init__" = true)
    (kI2 : PySem.W.keepIn K (.ref g2) = true)
    (kC2 : PySem.W.keepIn K (.ref C2) = true)
    (eC2 : PySem.W.subIn K (.ref C2) (.type "BaseException") = some true)
    (tC2 : PySem.W.typeIn K (.ref C2) = some (.type "type"))
    (isC2 : PySem.W.isClsIn K C2 = true)
    (sC2 : PySem.W.subIn K (.ref C2) (.ref C2) = some true)
    (gaC2 : PySem.W.findIn K (.ref C2) "__getattribute__" = some (some (.builtin "BaseException.__getattribute__")))
    (ggC2 : PySem.W.findIn K (.ref C2) "__getattr__" = some none)
    (hdC2 : PySem.W.hasDictIn K C2 = true)
    (nC2most : PySem.W.findIn K (.ref C2) "most" = some none)
    (sC0x1 : PySem.W.subIn K (.ref C0) (.ref C1) = some false)
    (sC0x2 : PySem.W.subIn K (.ref C0) (.ref C2) = some false)
    (sC1x0 : PySem.W.subIn K (.ref C1) (.ref C0) = some false)
    (sC1x2 : PySem.W.subIn K (.ref C1) (.ref C2) = some false)
    (sC2x0 : PySem.W.subIn K (.ref C2) (.ref C0) = some false)
    (sC2x1 : PySem.W.subIn K (.ref C2) (.ref C1) = some false)
    (vV : PySem.W.findCls K (.type "ValueError") (.type "type") "__init__" = some (.val (.builtin "ValueError.__init__")))
    (zV : PySem.W.nsIn K mainGlobals "ValueError" = some none)
    (mc : PySem.W.nsIn K mainGlobals "MOST_CODES" = some (some (.int 2000 tMC))) :
    ∃ fd : FuncData, (∀ (s : Shared) (v : Value), BindsTo s fd ⟨[v], []⟩ [("script", v)]) ∧ ∀ base : Heap, K.In base → base.Ns mainGlobals mg → FnG l.prog w K mg base 14 fa fd ["script"] (sp_law (K := K)) := by
  have e := hfa.symm.trans (PySem.W.mg_of X G a36)
  cases e
  have F0 := fun_mk (st := s_is_integer) l0 c0 k0
  have B0 := F0.binds (ps := ["thing"]) fun _ _ _ _ _ _ us hl => match us, hl with | [_], _ => rfl
  have F1 := fun_mk (st := s_is_between) l1 c1 k1
  have B1 := F1.binds (ps := ["thing", "least", "most"]) fun _ _ _ _ _ _ us hl => match us, hl with | [_, _, _], _ => rfl
  have F2 := fun_mk (st := s_is_pair) l2 c2 k2
  have B2 := F2.binds (ps := ["thing"]) fun _ _ _ _ _ _ us hl => match us, hl with | [_], _ => rfl
  have F3 := fun_mk (st := s_is_code) l3 c3 k3
  have B3 := F3.binds (ps := ["coder", "thing"]) fun _ _ _ _ _ _ us hl => match us, hl with | [_, _], _ => rfl
  have F4 := fun_mk (st := s_is_place) l4 c4 k4
  have B4 := F4.binds (ps := ["coder", "thing"]) fun _ _ _ _ _ _ us hl => match us, hl with | [_, _], _ => rfl
  have F5 := fun_mk (st := s_need_place) l5 c5 k5
  have B5 := F5.binds (ps := ["coder", "thing"]) fun _ _ _ _ _ _ us hl => match us, hl with | [_, _], _ => rfl
  have F6 := fun_mk (st := s_need_row) l6 c6 k6
  have B6 := F6.binds (ps := ["coder", "thing"]) fun _ _ _ _ _ _ us hl => match us, hl with | [_, _], _ => rfl
  have F7 := fun_mk (st := s_need_few_states) l7 c7 k7
  have B7 := F7.binds (ps := ["coder", "most"]) fun _ _ _ _ _ _ us hl => match us, hl with | [_, _], _ => rfl
  have F8 := fun_mk (st := s_rounded) l8 c8 k8
  have B8 := F8.binds (ps := ["number", "divisor"]) fun _ _ _ _ _ _ us hl => match us, hl with | [_, _], _ => rfl
  have F9 := fun_mk (st := s_limited) l9 c9 k9
  have B9 := F9.binds (ps := ["number", "least", "most"]) fun _ _ _ _ _ _ us hl => match us, hl with | [_, _, _], _ => rfl
  have F10 := fun_mk (st := s_change_at) l10 c10 k10
  have B10 := F10.binds (ps := ["coder", "code", "place"]) fun _ _ _ _ _ _ us hl => match us, hl with | [_, _, _], _ => rfl
  have F11 := fun_mk (st := s_faded) l11 c11 k11
  have B11 := F11.binds (ps := ["level", "fade"]) fun _ _ _ _ _ _ us hl => match us, hl with | [_, _], _ => rfl
  have F12 := fun_mk (st := s_need_coder) l12 c12 k12
  have B12 := F12.binds (ps := ["thing"]) fun _ _ _ _ _ _ us hl => match us, hl with | [_], _ => rfl
  have F13 := fun_mk (st := s_first_fault) l13 c13 k13
  have B13 := F13.binds (ps := ["thing"]) fun _ _ _ _ _ _ us hl => match us, hl with | [_], _ => rfl
  have F14 := fun_mk (st := s_fault_of_steps) l14 c14 k14
  have B14 := F14.binds (ps := ["steps"]) fun _ _ _ _ _ _ us hl => match us, hl with | [_], _ => rfl
  have F15 := fun_mk (st := s_fault_of_moves) l15 c15 k15
  have B15 := F15.binds (ps := ["moves"]) fun _ _ _ _ _ _ us hl => match us, hl with | [_], _ => rfl
  have F16 := fun_mk (st := s_is_tuple_of) l16 c16 k16
  have B16 := F16.binds (ps := ["thing", "least", "most"]) fun _ _ _ _ _ _ us hl => match us, hl with | [_, _, _], _ => rfl
  have F17 := fun_mk (st := s_is_move) l17 c17 k17
  have B17 := F17.binds (ps := ["thing"]) fun _ _ _ _ _ _ us hl => match us, hl with | [_], _ => rfl
  have F18 := fun_mk (st := s_is_fade) l18 c18 k18
  have B18 := F18.binds (ps := ["thing"]) fun _ _ _ _ _ _ us hl => match us, hl with | [_], _ => rfl
  have F19 := fun_mk (st := s_changes_along) l19 c19 k19
  have B19 := F19.binds (ps := ["coder", "row", "place"]) fun _ _ _ _ _ _ us hl => match us, hl with | [_, _, _], _ => rfl
  have F20 := fun_mk (st := s_level_behind) l20 c20 k20
  have B20 := F20.binds (ps := ["coder", "changes", "level"]) fun _ _ _ _ _ _ us hl => match us, hl with | [_, _, _], _ => rfl
  have F21 := fun_mk (st := s_limits_behind) l21 c21 k21
  have B21 := F21.binds (ps := ["coder", "changes"]) fun _ _ _ _ _ _ us hl => match us, hl with | [_, _], _ => rfl
  have F22 := fun_mk (st := s_levels_behind) l22 c22 k22
  have B22 := F22.binds (ps := ["coder", "changes"]) fun _ _ _ _ _ _ us hl => match us, hl with | [_, _], _ => rfl
  have F23 := fun_mk (st := s_row_map) l23 c23 k23
  have B23 := F23.binds (ps := ["coder", "row", "place"]) fun _ _ _ _ _ _ us hl => match us, hl with | [_, _, _], _ => rfl
  have F24 := fun_mk (st := s_limits_of) l24 c24 k24
  have B24 := F24.binds (ps := ["coder", "row", "place"]) fun _ _ _ _ _ _ us hl => match us, hl with | [_, _, _], _ => rfl
  have F25 := fun_mk (st := s_law_begun) l25 c25 k25
  have B25 := F25.binds (ps := ["script"]) fun _ _ _ _ _ _ us hl => match us, hl with | [_], _ => rfl
  have F26 := fun_mk (st := s_law_next) l26 c26 k26
  have B26 := F26.binds (ps := ["m", "many"]) fun _ _ _ _ _ _ us hl => match us, hl with | [_, _], _ => rfl
  have F27 := fun_mk (st := s_law_coder) l27 c27 k27
  have B27 := F27.binds (ps := ["m", "wide", "places", "codes"]) fun _ _ _ _ _ _ us hl => match us, hl with | [_, _, _, _], _ => rfl
  have F28 := fun_mk (st := s_law_parted) l28 c28 k28
  have B28 := F28.binds (ps := ["number", "by"]) fun _ _ _ _ _ _ us hl => match us, hl with | [_, _], _ => rfl
  have F29 := fun_mk (st := s_law_limited) l29 c29 k29
  have B29 := F29.binds (ps := ["number", "least", "most"]) fun _ _ _ _ _ _ us hl => match us, hl with | [_, _, _], _ => rfl
  have F30 := fun_mk (st := s_law_led) l30 c30 k30
  have B30 := F30.binds (ps := ["coder", "here", "code"]) fun _ _ _ _ _ _ us hl => match us, hl with | [_, _, _], _ => rfl
  have F31 := fun_mk (st := s_law_walked) l31 c31 k31
  have B31 := F31.binds (ps := ["coder", "here", "row"]) fun _ _ _ _ _ _ us hl => match us, hl with | [_, _, _], _ => rfl
  have F32 := fun_mk (st := s_law_row) l32 c32 k32
  have B32 := F32.binds (ps := ["m", "coder", "many"]) fun _ _ _ _ _ _ us hl => match us, hl with | [_, _, _], _ => rfl
  have F33 := fun_mk (st := s_law_place_right) l33 c33 k33
  have B33 := F33.binds (ps := ["coder", "row", "place"]) fun _ _ _ _ _ _ us hl => match us, hl with | [_, _, _], _ => rfl
  have F34 := fun_mk (st := s_law_total) l34 c34 k34
  have B34 := F34.binds (ps := ["coder", "row", "place"]) fun _ _ _ _ _ _ us hl => match us, hl with | [_, _, _], _ => rfl
  have F35 := fun_mk (st := s_law_refused) l35 c35 k35
  have B35 := F35.binds (ps := ["way", "coder", "row", "place"]) fun _ _ _ _ _ _ us hl => match us, hl with | [_, _, _, _], _ => rfl
  have F36 := fun_mk (st := s_law) l36 c36 k36
  have B36 := F36.binds (ps := ["script"]) fun _ _ _ _ _ _ us hl => match us, hl with | [_], _ => rfl
  have FI0 := fun_mk (st := si_BadRow) lC0 cC0 kI0
  have BI0 := FI0.binds (ps := ["self", "row", "word"]) fun _ _ _ _ _ _ us hl => match us, hl with | [_, _, _], _ => rfl
  have FI1 := fun_mk (st := si_OutOfPlace) lC1 cC1 kI1
  have BI1 := FI1.binds (ps := ["self", "text"]) fun _ _ _ _ _ _ us hl => match us, hl with | [_, _], _ => rfl
  have FI2 := fun_mk (st := si_TooGreat) lC2 cC2 kI2
  have BI2 := FI2.binds (ps := ["self", "most"]) fun _ _ _ _ _ _ us hl => match us, hl with | [_, _], _ => rfl
  let T : Txt K mg := {
    f_is_integer := f0, d_is_integer := _, F_is_integer := F0, b_is_integer := B0, g_is_integer := PySem.W.mg_of X G a0,
    f_is_between := f1, d_is_between := _, F_is_between := F1, b_is_between := B1, g_is_between := PySem.W.mg_of X G a1,
    f_is_pair := f2, d_is_pair := _, F_is_pair := F2, b_is_pair := B2, g_is_pair := PySem.W.mg_of X G a2,
    f_is_code := f3, d_is_code := _, F_is_code := F3, b_is_code := B3, g_is_code := PySem.W.mg_of X G a3,
    f_is_place := f4, d_is_place := _, F_is_place := F4, b_is_place := B4, g_is_place := PySem.W.mg_of X G a4,
    f_need_place := f5, d_need_place := _, F_need_place := F5, b_need_place := B5, g_need_place := PySem.W.mg_of X G a5,
    f_need_row := f6, d_need_row := _, F_need_row := F6, b_need_row := B6, g_need_row := PySem.W.mg_of X G a6,
    f_need_few_states := f7, d_need_few_states := _, F_need_few_states := F7, b_need_few_states := B7, g_need_few_states := PySem.W.mg_of X G a7,
    f_rounded := f8, d_rounded := _, F_rounded := F8, b_rounded := B8, g_rounded := PySem.W.mg_of X G a8,
    f_limited := f9, d_limited := _, F_limited := F9, b_limited := B9, g_limited := PySem.W.mg_of X G a9,
    f_change_at := f10, d_change_at := _, F_change_at := F10, b_change_at := B10, g_change_at := PySem.W.mg_of X G a10,
    f_faded := f11, d_faded := _, F_faded := F11, b_faded := B11, g_faded := PySem.W.mg_of X G a11,
    f_need_coder := f12, d_need_coder := _, F_need_coder := F12, b_need_coder := B12, g_need_coder := PySem.W.mg_of X G a12,
    f__first_fault := f13, d__first_fault := _, F__first_fault := F13, b__first_fault := B13, g__first_fault := PySem.W.mg_of X G a13,
    f__fault_of_steps := f14, d__fault_of_steps := _, F__fault_of_steps := F14, b__fault_of_steps := B14, g__fault_of_steps := PySem.W.mg_of X G a14,
    f__fault_of_moves := f15, d__fault_of_moves := _, F__fault_of_moves := F15, b__fault_of_moves := B15, g__fault_of_moves := PySem.W.mg_of X G a15,
    f__is_tuple_of := f16, d__is_tuple_of := _, F__is_tuple_of := F16, b__is_tuple_of := B16, g__is_tuple_of := PySem.W.mg_of X G a16,
    f__is_move := f17, d__is_move := _, F__is_move := F17, b__is_move := B17, g__is_move := PySem.W.mg_of X G a17,
    f__is_fade := f18, d__is_fade := _, F__is_fade := F18, b__is_fade := B18, g__is_fade := PySem.W.mg_of X G a18,
    f_changes_along := f19, d_changes_along := _, F_changes_along := F19, b_changes_along := B19, g_changes_along := PySem.W.mg_of X G a19,
    f_level_behind := f20, d_level_behind := _, F_level_behind := F20, b_level_behind := B20, g_level_behind := PySem.W.mg_of X G a20,
    f_limits_behind := f21, d_limits_behind := _, F_limits_behind := F21, b_limits_behind := B21, g_limits_behind := PySem.W.mg_of X G a21,
    f_levels_behind := f22, d_levels_behind := _, F_levels_behind := F22, b_levels_behind := B22, g_levels_behind := PySem.W.mg_of X G a22,
    f_row_map := f23, d_row_map := _, F_row_map := F23, b_row_map := B23, g_row_map := PySem.W.mg_of X G a23,
    f_limits_of := f24, d_limits_of := _, F_limits_of := F24, b_limits_of := B24, g_limits_of := PySem.W.mg_of X G a24,
    f__law_begun := f25, d__law_begun := _, F__law_begun := F25, b__law_begun := B25, g__law_begun := PySem.W.mg_of X G a25,
    f__law_next := f26, d__law_next := _, F__law_next := F26, b__law_next := B26, g__law_next := PySem.W.mg_of X G a26,
    f__law_coder := f27, d__law_coder := _, F__law_coder := F27, b__law_coder := B27, g__law_coder := PySem.W.mg_of X G a27,
    f__law_parted := f28, d__law_parted := _, F__law_parted := F28, b__law_parted := B28, g__law_parted := PySem.W.mg_of X G a28,
    f__law_limited := f29, d__law_limited := _, F__law_limited := F29, b__law_limited := B29, g__law_limited := PySem.W.mg_of X G a29,
    f__law_led := f30, d__law_led := _, F__law_led := F30, b__law_led := B30, g__law_led := PySem.W.mg_of X G a30,
    f__law_walked := f31, d__law_walked := _, F__law_walked := F31, b__law_walked := B31, g__law_walked := PySem.W.mg_of X G a31,
    f__law_row := f32, d__law_row := _, F__law_row := F32, b__law_row := B32, g__law_row := PySem.W.mg_of X G a32,
    f__law_place_right := f33, d__law_place_right := _, F__law_place_right := F33, b__law_place_right := B33, g__law_place_right := PySem.W.mg_of X G a33,
    f__law_total := f34, d__law_total := _, F__law_total := F34, b__law_total := B34, g__law_total := PySem.W.mg_of X G a34,
    f__law_refused := f35, d__law_refused := _, F__law_refused := F35, b__law_refused := B35, g__law_refused := PySem.W.mg_of X G a35,
    f_law := fa, d_law := _, F_law := F36, b_law := B36, g_law := hfa,
    z_bool := PySem.W.mg_none_of X G z_bool,
    z_enumerate := PySem.W.mg_none_of X G z_enumerate,
    z_int := PySem.W.mg_none_of X G z_int,
    z_isinstance := PySem.W.mg_none_of X G z_isinstance,
    z_len := PySem.W.mg_none_of X G z_len,
    z_list := PySem.W.mg_none_of X G z_list,
    z_max := PySem.W.mg_none_of X G z_max,
    z_min := PySem.W.mg_none_of X G z_min,
    z_range := PySem.W.mg_none_of X G z_range,
    z_repr := PySem.W.mg_none_of X G z_repr,
    z_set := PySem.W.mg_none_of X G z_set,
    z_sorted := PySem.W.mg_none_of X G z_sorted,
    z_sum := PySem.W.mg_none_of X G z_sum,
    z_tuple := PySem.W.mg_none_of X G z_tuple,
    z_zip := PySem.W.mg_none_of X G z_zip,
    x_BadRow := ⟨gaC0, ggC0, eC0, hdC0⟩, n_BadRow_row := nC0row, n_BadRow_word := nC0word, e_BadRow_OutOfPlace := exm_of eC1 isC1 tC1 sC0x1, e_BadRow_TooGreat := exm_of eC2 isC2 tC2 sC0x2,
    C_BadRow := C0, fi_BadRow := g0, di_BadRow := _, g_BadRow := PySem.W.mg_of X G aC0, o_BadRow := ⟨⟨_, _, _, _, _, _, _, _, _, _, _, _, _, _, _, xC0, by decide +kernel⟩, saC0, eC0, tC0, kC0⟩, i_BadRow := iC0, t_BadRow := tI0, Fi_BadRow := FI0, bi_BadRow := BI0, e_BadRow := exm_of eC0 isC0 tC0 sC0,
    e_OutOfPlace_BadRow := exm_of eC0 isC0 tC0 sC1x0, e_OutOfPlace_TooGreat := exm_of eC2 isC2 tC2 sC1x2,
    C_OutOfPlace := C1, fi_OutOfPlace := g1, di_OutOfPlace := _, g_OutOfPlace := PySem.W.mg_of X G aC1, o_OutOfPlace := ⟨⟨_, _, _, _, _, _, _, _, _, _, _, _, _, _, _, xC1, by decide +kernel⟩, saC1, eC1, tC1, kC1⟩, i_OutOfPlace := iC1, t_OutOfPlace := tI1, Fi_OutOfPlace := FI1, bi_OutOfPlace := BI1, e_OutOfPlace := exm_of eC1 isC1 tC1 sC1,
    x_TooGreat := ⟨gaC2, ggC2, eC2, hdC2⟩, n_TooGreat_most := nC2most, e_TooGreat_BadRow := exm_of eC0 isC0 tC0 sC2x0, e_TooGreat_OutOfPlace := exm_of eC1 isC1 tC1 sC2x1,
    C_TooGreat := C2, fi_TooGreat := g2, di_TooGreat := _, g_TooGreat := PySem.W.mg_of X G aC2, o_TooGreat := ⟨⟨_, _, _, _, _, _, _, _, _, _, _, _, _, _, xC2⟩, saC2, eC2, tC2, kC2⟩, i_TooGreat := iC2, t_TooGreat := tI2, Fi_TooGreat := FI2, bi_TooGreat := BI2, e_TooGreat := exm_of eC2 isC2 tC2 sC2,
    vV := vV, zV := PySem.W.mg_none_of X G zV,
    t_MOST_CODES := tMC, g_MOST_CODES := PySem.W.mg_of X G mc }
  exact ⟨_, fun s v => .of_eq rfl, fun base _ _ => ok_law T⟩
end My
open PySem PySem.W PyProof.Rows
set_option maxRecDepth 100000 in
set_option maxHeartbeats 0 in
theorem PySem.Challenge.cw_stepsound_k08_whole_maps_holds : PySem.Challenge.rw_stepsound_k08_whole_maps.Holds := by
  w_on; o_law; k_head; (case hw => w_witness2)
  k_fill
  refine My.walk_ofG (l := PySem.Challenge.rw_stepsound_k08_whole_maps) (n := 63) (k := 14) (x := "script") (sp := fun K => My.sp_law (K := K)) rfl (by decide) rfl ⟨rfl, by decide, by decide⟩ (fun w h Y => PySem.W.kIn_of Y) ?F (fun K H a ns hl _ hS => ⟨a, ns, rfl, hS, hl, fun _ => rfl⟩)
  case F =>
    intro w mg fa h KX G hmg
    refine' My.all_mk KX G hmg ?a0 ?l0 ?c0 ?k0 ?a1 ?l1 ?c1 ?k1 ?a2 ?l2 ?c2 ?k2 ?a3 ?l3 ?c3 ?k3 ?a4 ?l4 ?c4 ?k4 ?a5 ?l5 ?c5 ?k5 ?a6 ?l6 ?c6 ?k6 ?a7 ?l7 ?c7 ?k7 ?a8 ?l8 ?c8 ?k8 ?a9 ?l9 ?c9 ?k9 ?a10 ?l10 ?c10 ?k10 ?a11 ?l11 ?c11 ?k11 ?a12 ?l12 ?c12 ?k12 ?a13 ?l13 ?c13 ?k13 ?a14 ?l14 ?c14 ?k14 ?a15 ?l15 ?c15 ?k15 ?a16 ?l16 ?c16 ?k16 ?a17 ?l17 ?c17 ?k17 ?a18 ?l18 ?c18 ?k18 ?a19 ?l19 ?c19 ?k19 ?a20 ?l20 ?c20 ?k20 ?a21 ?l21 ?c21 ?k21 ?a22 ?l22 ?c22 ?k22 ?a23 ?l23 ?c23 ?k23 ?a24 ?l24 ?c24 ?k24 ?a25 ?l25 ?c25 ?k25 ?a26 ?l26 ?c26 ?k26 ?a27 ?l27 ?c27 ?k27 ?a28 ?l28 ?c28 ?k28 ?a29 ?l29 ?c29 ?k29 ?a30 ?l30 ?c30 ?k30 ?a31 ?l31 ?c31 ?k31 ?a32 ?l32 ?c32 ?k32 ?a33 ?l33 ?c33 ?k33 ?a34 ?l34 ?c34 ?k34 ?a35 ?l35 ?c35 ?k35 ?a36 ?l36 ?c36 ?k36 ?z_bool ?z_enumerate ?z_int ?z_isinstance ?z_len ?z_list ?z_max ?z_min ?z_range ?z_repr ?z_set ?z_sorted ?z_sum ?z_tuple ?z_zip ?aC0 ?xC0 ?saC0 ?iC0 ?tI0 ?lC0 ?cC0 ?kI0 ?kC0 ?eC0 ?tC0 ?isC0 ?sC0 ?gaC0 ?ggC0 ?hdC0 ?nC0row ?nC0word ?aC1 ?xC1 ?saC1 ?iC1 ?tI1 ?lC1 ?cC1 ?kI1 ?kC1 ?eC1 ?tC1 ?isC1 ?sC1 ?aC2 ?xC2 ?saC2 ?iC2 ?tI2 ?lC2 ?cC2 ?kI2 ?kC2 ?eC2 ?tC2 ?isC2 ?sC2 ?gaC2 ?ggC2 ?hdC2 ?nC2most ?sC0x1 ?sC0x2 ?sC1x0 ?sC1x2 ?sC2x0 ?sC2x1 ?vV ?zV ?mc
    (case a0 => k_is)
    (case l0 => k_is)
    (case c0 => k_is)
    (case k0 => k_is)
    (case a1 => k_is)
    (case l1 => k_is)
    (case c1 => k_is)
    (case k1 => k_is)
    (case a2 => k_is)
    (case l2 => k_is)
    (case c2 => k_is)
    (case k2 => k_is)
    (case a3 => k_is)
    (case l3 => k_is)
    (case c3 => k_is)
    (case k3 => k_is)
    (case a4 => k_is)
    (case l4 => k_is)
    (case c4 => k_is)
    (case k4 => k_is)
    (case a5 => k_is)
    (case l5 => k_is)
    (case c5 => k_is)
    (case k5 => k_is)
    (case a6 => k_is)
    (case l6 => k_is)
    (case c6 => k_is)
    (case k6 => k_is)
    (case a7 => k_is)
    (case l7 => k_is)
    (case c7 => k_is)
    (case k7 => k_is)
    (case a8 => k_is)
    (case l8 => k_is)
    (case c8 => k_is)
    (case k8 => k_is)
    (case a9 => k_is)
    (case l9 => k_is)
    (case c9 => k_is)
    (case k9 => k_is)
    (case a10 => k_is)
    (case l10 => k_is)
    (case c10 => k_is)
    (case k10 => k_is)
    (case a11 => k_is)
    (case l11 => k_is)
    (case c11 => k_is)
    (case k11 => k_is)
    (case a12 => k_is)
    (case l12 => k_is)
    (case c12 => k_is)
    (case k12 => k_is)
    (case a13 => k_is)
    (case l13 => k_is)
    (case c13 => k_is)
    (case k13 => k_is)
    (case a14 => k_is)
    (case l14 => k_is)
    (case c14 => k_is)
    (case k14 => k_is)
    (case a15 => k_is)
    (case l15 => k_is)
    (case c15 => k_is)
    (case k15 => k_is)
    (case a16 => k_is)
    (case l16 => k_is)
    (case c16 => k_is)
    (case k16 => k_is)
    (case a17 => k_is)
    (case l17 => k_is)
    (case c17 => k_is)
    (case k17 => k_is)
    (case a18 => k_is)
    (case l18 => k_is)
    (case c18 => k_is)
    (case k18 => k_is)
    (case a19 => k_is)
    (case l19 => k_is)
    (case c19 => k_is)
    (case k19 => k_is)
    (case a20 => k_is)
    (case l20 => k_is)
    (case c20 => k_is)
    (case k20 => k_is)
    (case a21 => k_is)
    (case l21 => k_is)
    (case c21 => k_is)
    (case k21 => k_is)
    (case a22 => k_is)
    (case l22 => k_is)
    (case c22 => k_is)
    (case k22 => k_is)
    (case a23 => k_is)
    (case l23 => k_is)
    (case c23 => k_is)
    (case k23 => k_is)
    (case a24 => k_is)
    (case l24 => k_is)
    (case c24 => k_is)
    (case k24 => k_is)
    (case a25 => k_is)
    (case l25 => k_is)
    (case c25 => k_is)
    (case k25 => k_is)
    (case a26 => k_is)
    (case l26 => k_is)
    (case c26 => k_is)
    (case k26 => k_is)
    (case a27 => k_is)
    (case l27 => k_is)
    (case c27 => k_is)
    (case k27 => k_is)
    (case a28 => k_is)
    (case l28 => k_is)
    (case c28 => k_is)
    (case k28 => k_is)
    (case a29 => k_is)
    (case l29 => k_is)
    (case c29 => k_is)
    (case k29 => k_is)
    (case a30 => k_is)
    (case l30 => k_is)
    (case c30 => k_is)
    (case k30 => k_is)
    (case a31 => k_is)
    (case l31 => k_is)
    (case c31 => k_is)
    (case k31 => k_is)
    (case a32 => k_is)
    (case l32 => k_is)
    (case c32 => k_is)
    (case k32 => k_is)
    (case a33 => k_is)
    (case l33 => k_is)
    (case c33 => k_is)
    (case k33 => k_is)
    (case a34 => k_is)
    (case l34 => k_is)
    (case c34 => k_is)
    (case k34 => k_is)
    (case a35 => k_is)
    (case l35 => k_is)
    (case c35 => k_is)
    (case k35 => k_is)
    (case a36 => k_is)
    (case l36 => k_is)
    (case c36 => k_is)
    (case k36 => k_is)
    (case z_bool => k_is)
    (case z_enumerate => k_is)
    (case z_int => k_is)
    (case z_isinstance => k_is)
    (case z_len => k_is)
    (case z_list => k_is)
    (case z_max => k_is)
    (case z_min => k_is)
    (case z_range => k_is)
    (case z_repr => k_is)
    (case z_set => k_is)
    (case z_sorted => k_is)
    (case z_sum => k_is)
    (case z_tuple => k_is)
    (case z_zip => k_is)
    (case aC0 => k_is)
    (case xC0 => k_is)
    (case saC0 => k_is)
    (case iC0 => k_is)
    (case tI0 => k_is)
    (case lC0 => k_is)
    (case cC0 => k_is)
    (case kI0 => k_is)
    (case kC0 => k_is)
    (case eC0 => k_is)
    (case tC0 => k_is)
    (case isC0 => k_is)
    (case sC0 => first | rfl | k_is | decide +kernel)
    (case gaC0 => k_is)
    (case ggC0 => k_is)
    (case hdC0 => k_is)
    (case nC0row => k_is)
    (case nC0word => k_is)
    (case aC1 => k_is)
    (case xC1 => k_is)
    (case saC1 => k_is)
    (case iC1 => k_is)
    (case tI1 => k_is)
    (case lC1 => k_is)
    (case cC1 => k_is)
    (case kI1 => k_is)
    (case kC1 => k_is)
    (case eC1 => k_is)
    (case tC1 => k_is)
    (case isC1 => k_is)
    (case sC1 => first | rfl | k_is | decide +kernel)
    (case aC2 => k_is)
    (case xC2 => k_is)
    (case saC2 => k_is)
    (case iC2 => k_is)
    (case tI2 => k_is)
    (case lC2 => k_is)
    (case cC2 => k_is)
    (case kI2 => k_is)
    (case kC2 => k_is)
    (case eC2 => k_is)
    (case tC2 => k_is)
    (case isC2 => k_is)
    (case sC2 => first | rfl | k_is | decide +kernel)
    (case gaC2 => k_is)
    (case ggC2 => k_is)
    (case hdC2 => k_is)
    (case nC2most => k_is)
    (case sC0x1 => first | rfl | k_is | decide +kernel)
    (case sC0x2 => first | rfl | k_is | decide +kernel)
    (case sC1x0 => first | rfl | k_is | decide +kernel)
    (case sC1x2 => first | rfl | k_is | decide +kernel)
    (case sC2x0 => first | rfl | k_is | decide +kernel)
    (case sC2x1 => first | rfl | k_is | decide +kernel)
    (case vV => first | rfl | k_is | decide +kernel)
    (case zV => k_is)
    (case mc => k_is)


