package tests

import (
	"fmt"
	"slices"
	"strings"
	"testing"

	"loop.example/g03221/impl"
)

// checkRead: a text is read as a terminology, and no other text is the text of this one.
func checkRead(t *testing.T, text string, want impl.Terminology) {
	t.Helper()
	expect(t, impl.FormatTerminology(want), text, "FormatTerminology %v", want)
	got, ok := impl.ParseTerminology(text)
	expect(t, ok && isSameTerminology(got, want), true, "ParseTerminology %q", text)
}

func TestP2TerminologyText(t *testing.T) {
	father, wife := impl.KinType{Steps: []impl.Step{{Kind: 1}}}, impl.KinType{Ego: impl.Man, Steps: []impl.Step{{Kind: 8}}}
	brothers := impl.KinType{Ego: impl.Woman, Steps: []impl.Step{{Kind: 3, Age: 1}, {Kind: 3, Age: 2}}}
	fb := impl.Rule{Name: "fb", From: []impl.Step{{Kind: 1}, {Kind: 3}}, To: []impl.Step{{Kind: 1}}}
	last := impl.Rule{Name: "term", Sex: impl.Man, Place: impl.PlaceLast, From: []impl.Step{{Kind: 5}, {Kind: 6}}}
	last.To = []impl.Step{{Kind: 2}}
	checkRead(t, "", impl.Terminology{})
	checkRead(t, "rule fb: FB -> F\n", impl.Terminology{Rules: []impl.Rule{fb}})
	checkRead(t, "term F rule\n", impl.Terminology{Entries: []impl.Entry{{Type: father, Term: "rule"}}})
	checkRead(t, "rule term: m:SD$ -> M\nrule fb: FB -> F\nterm w:eByB brothers\nterm m:W x\nterm F abcdefghijkl\nterm . x\nterm m:. term\n", impl.Terminology{
		Rules:   []impl.Rule{last, fb},
		Entries: []impl.Entry{{Type: brothers, Term: "brothers"}, {Type: wife, Term: "x"}, {Type: father, Term: "abcdefghijkl"}, {Term: "x"}, {Type: impl.KinType{Ego: 1}, Term: "term"}},
	})
	for label, y := range notTerminologies(t) {
		expect(t, impl.FormatTerminology(y), "", "FormatTerminology: %s", label)
	}
}

func TestP2FullTerminologyText(t *testing.T) {
	y := impl.Terminology{Rules: namedRules(t, 12), Entries: manyEntries(60)}
	// Entries with elder and younger brothers and without steps are among them.
	expect(t, wantTerminology(y), true, "the test's own rules")
	checkRead(t, looseText(y), y)
	for name, texts := range sampleTexts() {
		sample := impl.SampleTerminology(name)
		lines := []string{}
		for _, text := range strings.Split(texts, "; ") {
			lines = append(lines, "rule "+text+"\n")
		}
		for _, e := range sample.Entries {
			lines = append(lines, fmt.Sprintln("term", wantTypeText(e.Type), e.Term))
		}
		checkRead(t, strings.Join(lines, ""), sample)
	}
}

func TestP2TerminologiesByChance(t *testing.T) {
	r := newChance(80)
	seen := map[string]impl.Terminology{}
	for range 600 {
		y := chanceTerminology(r)
		text := wantTerminologyText(y)
		if other, ok := seen[text]; ok && !isSameTerminology(y, other) {
			t.Errorf("%v and %v have the same text", y, other)
		}
		seen[text] = y
		checkRead(t, text, y)
	}
}

func TestP2OtherTerminologyTexts(t *testing.T) {
	const rule, term = "rule fb: FB -> F\n", "term F father\n"
	terminology(t, "rule fb: FB -> F; term F father")
	texts := []string{
		"\n", " ", "-", "rule", "term", "rule\n", "term\n", "rule \n", "term \n", rule + "\n", "\n" + rule, rule + "\n" + term, term + rule, rule + term + "rule bs: BS -> S\n",
		"rule fb: FB -> F", "term F father", rule + "term F father", rule + term + "t", rule + term + " ", " " + rule, " " + term,
		"rule  fb: FB -> F\n", "rule fb: FB -> F \n", "rule fb:FB -> F\n", "rule fb: FB -> F\r\n", "rulefb: FB -> F\n", "rules fb: FB -> F\n", "Rule fb: FB -> F\n", "rule\tfb: FB -> F\n", "fb: FB -> F\n", "rule rule fb: FB -> F\n",
		"term  F father\n", "term F  father\n", "term F father \n", " term F father\n", "term\tF father\n", "term F\tfather\n", "term F father\r\n", "terms F father\n", "Term F father\n", "F father\n", "termF father\n", "term Ffather\n", "term term F father\n",
		"term F\n", "term F \n", "term  father\n", "term father\n", "term father F\n", "term F a b\n", "term F M a\n", "term F F\n", "term F Father\n", "term F abcdefghijklm\n", "term F f1\n", "term F -\n", "term F \xff\n", "term F \xc3\xa9\n", "term F a\x00\n",
		"term f father\n", "term x:F father\n", "term m: father\n", "term m:H a\n", "term w:W a\n", "term FH a\n", "term eF a\n", "term FFFFFFFFF a\n", "term F. a\n", "term .. a\n", "term Fe a\n", "term m:w:F a\n",
		term + term, term + "term F other\n", "term m:F a\nterm F a\nterm m:F b\n", "term . a\nterm . b\n",
		rule + "term FB a\n", rule + "term m:FB a\n", rule + "term MFBS a\n", rule + term + "term HFB a\n", "rule x: B -> F\nterm eB a\n", "rule x: m:BS -> S\nterm m:BS a\n", "rule x: m:^W -> Z\nterm W a\n", "rule x: w:H$ -> F\nterm H a\n", "rule x: HW -> .\nterm HW a\n",
		rule + rule, rule + "rule fb: BS -> S\n", "rule a: FB -> F\n" + rule + "rule a: BS -> S\n", "rule Fb: FB -> F\n", "rule fb: FB -> M\n", "rule fb: F -> FB\n", "rule fb: FFFFF -> F\n", "rule fb: FB -> F; term F father\n",
	}
	for _, text := range texts {
		y, ok := impl.ParseTerminology(text)
		expect(t, !ok && isZeroTerminology(y), true, "ParseTerminology %q", text)
	}
}

// TestP2TerminologiesThatAreNotValidText: what would be the text of a terminology, if that were valid, is not read.
func TestP2TerminologiesThatAreNotValidText(t *testing.T) {
	for label, y := range notTerminologies(t) {
		text := looseTextOf(y)
		got, ok := impl.ParseTerminology(text)
		expect(t, !ok && isZeroTerminology(got), true, "the text of a terminology with %s", label)
	}
	for n := 59; n <= 62; n++ {
		y := impl.Terminology{Entries: manyEntries(n)}
		got, ok := impl.ParseTerminology(looseText(y))
		expect(t, ok, n <= 60, "a text with %d entries", n)
		expect(t, isSameTerminology(got, y), n <= 60, "the terminology with %d entries", n)
	}
	for n := 11; n <= 14; n++ {
		y := impl.Terminology{Rules: namedRules(t, n)}
		got, ok := impl.ParseTerminology(looseText(y))
		expect(t, ok, n <= 12, "a text with %d rules", n)
		expect(t, isSameTerminology(got, y), n <= 12, "the terminology with %d rules", n)
	}
}

// looseTextOf has a mark where there is no text of a rule or of a type.
func looseTextOf(y impl.Terminology) string {
	text := looseText(y)
	text = strings.ReplaceAll(text, "rule \n", "rule -\n")
	return strings.ReplaceAll(text, "term  ", "term - ")
}

func TestP2LongTerminologyTexts(t *testing.T) {
	for _, part := range []string{"rule fb: FB -> F\n", "term F father\n", "rule ", "term ", "\n", " ", "a", "\xff", "term F " + strings.Repeat("a", 1000)} {
		text := strings.Repeat(part, 50000)
		for _, text := range []string{text, "rule fb: FB -> F\n" + text, text + "\n", "term F father\n" + text + "\n"} {
			y, ok := impl.ParseTerminology(text)
			expect(t, !ok && isZeroTerminology(y), true, "ParseTerminology of %d bytes", len(text))
		}
	}
}

// TestP2ChangedTerminologyTexts changes, removes and adds each byte of texts: what is still read is the text of what is read.
func TestP2ChangedTerminologyTexts(t *testing.T) {
	accepted := 0
	check := func(text string) {
		y, ok := impl.ParseTerminology(text)
		if ok && (wantTerminologyText(y) != text || impl.FormatTerminology(y) != text) {
			t.Errorf("ParseTerminology accepts %q as %v", text, y)
		}
		if !ok && !isZeroTerminology(y) {
			t.Errorf("ParseTerminology refuses %q, but returns %v", text, y)
		}
		if ok {
			accepted++
		}
	}
	for _, text := range []string{"rule b: m:FyB$ -> F\nrule d: ^HW -> .\nterm w:eZ x\nterm . me\n", "term m:W wife\nterm W abcdefghijkl\n"} {
		eachChange(text, check)
	}
	if accepted < 500 {
		t.Errorf("%d changed texts are read", accepted)
	}
}

// TestP2TermsDoNotDependOnNamesOrOrder gives the persons other names, and lists them in another order.
func TestP2TermsDoNotDependOnNamesOrOrder(t *testing.T) {
	r := newChance(81)
	called := 0
	for range 120 {
		f := kinFamily(r, 1+r.IntN(12))
		y := chanceTerminology(r)
		order := parentsFirst(r, f)
		g, ok := impl.PermutePeople(f, order)
		h, isRenamed := impl.RenamePeople(g, otherNames(len(g.People)))
		expect(t, ok && isRenamed, true, "another family")
		for a := range h.People {
			for b := range h.People {
				n := 1 + r.IntN(2)
				terms := impl.TermsBetween(h, y, a, b, n)
				expect(t, terms, impl.TermsBetween(f, y, order[a], order[b], n), "TermsBetween in another order")
				term, ok := impl.AddressTerm(h, y, a, b)
				wantTerm, wantOk := impl.AddressTerm(f, y, order[a], order[b])
				expect(t, term == wantTerm && ok == wantOk, true, "AddressTerm in another order")
				called += len(terms)
			}
			moved := []int{}
			for _, b := range impl.PeopleCalled(h, y, a, "kin", 2) {
				moved = append(moved, order[b])
			}
			slices.Sort(moved)
			expect(t, moved, impl.PeopleCalled(f, y, order[a], "kin", 2), "PeopleCalled in another order")
		}
	}
	if called < 500 {
		t.Errorf("%d terms", called)
	}
}
