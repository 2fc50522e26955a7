package tests

import (
	"math/rand/v2"
	"slices"
	"strings"
	"testing"

	"loop.example/g03221/impl"
)

// someRules has the samples, lists in which rules hinder each other, and lists by chance.
func someRules(t *testing.T, r *rand.Rand, n int) [][]impl.Rule {
	t.Helper()
	list := [][]impl.Rule{
		nil, impl.SampleRules("generation"), impl.SampleRules("merging"), impl.SampleRules("skewing"), countdown(t),
		ruleList(t, "a: FB -> F; b: BS -> B"),
		ruleList(t, "a: WH -> .; b: HW -> .; c: m:FS -> .; d: w:MD -> ."),
		ruleList(t, "a: ^B -> F; b: yB$ -> eB; c: w:eZyB -> H"),
		ruleList(t, "a: S -> yB; b: D -> yZ; c: H -> S; d: W -> D; e: yB -> eB; f: yZ -> eZ"),
	}
	for range n {
		list = append(list, chanceRules(r))
	}
	return list
}

// checkReduced: the normal form has the sexes of the type, and nothing is left to be replaced.
func checkReduced(t *testing.T, rules []impl.Rule, k impl.KinType) {
	t.Helper()
	form := impl.NormalForm(rules, k)
	if !wantType(form) || wantEgo(form) != wantEgo(k) || wantSex(form) != wantSex(k) {
		t.Fatalf("the normal form of %v is %v, with %v", k, form, rules)
	}
	if _, _, _, ok := impl.RewriteStep(rules, form); ok || len(impl.ReductsOf(rules, form)) > 0 {
		t.Fatalf("%v, the normal form of %v, is reduced further with %v", form, k, rules)
	}
	if !isSameType(impl.NormalForm(rules, form), form) {
		t.Fatalf("%v, the normal form of %v, has another normal form with %v", form, k, rules)
	}
	if forms, ok := impl.NormalFormsOf(rules, k); ok && !slices.ContainsFunc(forms, func(u impl.KinType) bool { return isSameType(u, form) }) {
		t.Fatalf("%v, the normal form of %v, is none of %v with %v", form, k, forms, rules)
	}
}

func TestP5ReductionEnds(t *testing.T) {
	r := newChance(61)
	short := append(typesUpTo(2), wantTypesFrom(impl.Man, 3)...)
	for i, rules := range someRules(t, r, 200) {
		for j, k := range short {
			if i < 10 || j%17 == i%17 {
				checkReduced(t, rules, k)
			}
		}
		for range 10 {
			checkReduced(t, rules, typeWithParts(r, rules))
		}
	}
}

// TestP5EachReplacementKeepsSexes follows all replacements, not only those that reduction takes: each result comes before in the order of types.
func TestP5EachReplacementKeepsSexes(t *testing.T) {
	r := newChance(62)
	replaced := 0
	for _, rules := range someRules(t, r, 400) {
		for range 20 {
			k := typeWithParts(r, rules)
			for i := range k.Steps {
				for _, x := range rules {
					u, ok := impl.ReplaceAt(x, k, i)
					if !ok {
						continue
					}
					replaced++
					if !wantType(u) || u.Ego != wantEgo(k) || wantEgo(u) != wantEgo(k) || wantSex(u) != wantSex(k) || digitsOf(u) >= digitsOf(k) {
						t.Fatalf("%v at %d of %v leads to %v", x, i, k, u)
					}
				}
			}
		}
	}
	if replaced < 10000 {
		t.Errorf("%d replacements", replaced)
	}
}

// TestP5LongReduction takes so many steps that a limit of their number would be seen.
func TestP5LongReduction(t *testing.T) {
	rules := countdown(t)
	k := kinType(t, "m:SSSSSSSS")
	lines := impl.TraceReduction(rules, k)
	if len(lines) < 100000 || lines[len(lines)-1] != "dd m:FFFFFFFF" {
		t.Fatalf("%d lines, the last one is %q", len(lines), lines[len(lines)-1])
	}
	last := k
	for _, line := range lines[1:] {
		_, text, _ := strings.Cut(line, " ")
		u := kinType(t, text)
		if digitsOf(u) >= digitsOf(last) {
			t.Fatalf("%v leads to %v", last, u)
		}
		last = u
	}
	expect(t, impl.FormatType(impl.NormalForm(rules, k)), "m:FFFFFFFF", "the normal form")
	_, ok := impl.NormalFormsOf(rules, k)
	expect(t, ok, false, "NormalFormsOf")
}

// TestP5ReductionIsRewriting: the normal form and the trace are what RewriteStep leads to.
func TestP5ReductionIsRewriting(t *testing.T) {
	r := newChance(63)
	for _, rules := range someRules(t, r, 300) {
		for range 10 {
			k := typeWithParts(r, rules)
			last, lines := k, []string{wantTypeText(k)}
			for len(lines) < 2000 {
				u, j, _, ok := impl.RewriteStep(rules, last)
				if !ok {
					break
				}
				last, lines = u, append(lines, rules[j].Name+" "+wantTypeText(u))
			}
			if len(lines) == 2000 {
				continue
			}
			expect(t, impl.NormalForm(rules, k), last, "NormalForm %v with %v", k, rules)
			expect(t, impl.TraceReduction(rules, k), lines, "TraceReduction %v with %v", k, rules)
		}
	}
}

// TestP5ConfluentRules: if rules are confluent, it does not matter which replacements are made first.
func TestP5ConfluentRules(t *testing.T) {
	r := newChance(64)
	confluent := 0
	for _, rules := range someRules(t, r, 150) {
		n := 1 + r.IntN(3)
		if !impl.IsConfluent(rules, n) {
			continue
		}
		confluent++
		for _, k := range slices.Concat(wantTypesFrom(impl.Man, n), wantTypesFrom(impl.Woman, n)) {
			form := impl.NormalForm(rules, k)
			forms, ok := impl.NormalFormsOf(rules, k)
			if !ok || len(forms) != 1 || !isSameType(forms[0], form) {
				t.Fatalf("the normal forms of %v are %v, %v, not %v, with %v", k, forms, ok, form, rules)
			}
			for _, u := range impl.ReductsOf(rules, k) {
				if !isSameType(impl.NormalForm(rules, u), form) {
					t.Fatalf("%v and its reduct %v have different normal forms with %v", k, u, rules)
				}
			}
		}
	}
	if confluent < 20 {
		t.Errorf("%d lists are confluent", confluent)
	}
}
