package tests

import (
	"slices"
	"strings"
	"testing"

	"loop.example/g03221/impl"
)

func TestP13TermsBetween(t *testing.T) {
	f := parse(t, house)
	y := impl.SampleTerminology("merging")
	cases := []struct {
		a, b, n int
		want    string
	}{
		{cain, ada, 1, "sister wife"}, {cain, ada, 2, "sister wife"}, {ada, cain, 1, "brother husband"}, {ada, cain, 3, "brother husband"},
		{tubal, adam, 2, ""}, {tubal, abel, 1, ""}, {tubal, abel, 2, "father uncle"}, {zilla, tubal, 2, ""}, {zilla, tubal, 3, "son"}, {tubal, zilla, 3, "aunt mother"},
		{seth, enos, 1, ""}, {seth, enos, 2, "brother"}, {cain, cain, 1, ""}, {cain, cain, 2, "brother"}, {ada, ada, 2, "sister"}, {adam, seth, 1, "son"}, {adam, eva, 1, "wife"},
		{stranger, enos, 3, ""}, {enos, adam, 3, ""}, {stranger, stranger, 3, ""}, {tubal, cain, 2, "father uncle"}, {tubal, ada, 2, "mother aunt"},
	}
	for _, c := range cases {
		expect(t, impl.TermsBetween(f, y, c.a, c.b, c.n), strings.Fields(c.want), "TermsBetween %d %d %d", c.a, c.b, c.n)
	}
	for _, n := range []int{lowest, -1, 0, 4, 8, highest} {
		expect(t, len(impl.TermsBetween(f, y, cain, ada, n)), 0, "TermsBetween %d", n)
		expect(t, len(impl.PeopleCalled(f, y, cain, "sister", n)), 0, "PeopleCalled %d", n)
	}
	// The same term several times, and terms in the order of types rather than of entries.
	z := terminology(t, "term W c; term MD b; term FD a; term Z a")
	expect(t, impl.TermsBetween(f, z, cain, ada, 2), []string{"a", "c", "b"}, "TermsBetween, the order")
}

func TestP13PeopleCalled(t *testing.T) {
	f := parse(t, house)
	cases := []struct {
		name string
		a    int
		term string
		n    int
		want []int
	}{
		{"merging", cain, "sister", 1, []int{ada}}, {"merging", cain, "sister", 2, []int{ada, zilla}}, {"merging", cain, "brother", 1, []int{abel}}, {"merging", cain, "brother", 2, []int{cain, abel, seth}},
		{"merging", tubal, "uncle", 2, []int{cain, abel}}, {"merging", tubal, "uncle", 3, []int{cain, abel, seth}}, {"merging", tubal, "father", 1, []int{cain}}, {"merging", tubal, "father", 2, []int{cain, abel}},
		{"merging", adam, "wife", 1, []int{eva, lilith}}, {"merging", adam, "son", 1, []int{cain, abel, seth}}, {"merging", lilith, "husband", 1, []int{adam, stranger}}, {"merging", lilith, "wife", 3, nil},
		{"merging", stranger, "son", 3, nil}, {"merging", cain, "", 3, nil}, {"merging", cain, "Sister", 3, nil}, {"merging", cain, "\xff", 3, nil}, {"none", cain, "sister", 3, nil}, {"none", cain, "", 3, nil},
		{"generation", tubal, "father", 2, []int{cain, abel}}, {"generation", enos, "brother", 2, []int{seth, enos}}, {"generation", zilla, "son", 3, []int{tubal}},
	}
	for _, c := range cases {
		expect(t, impl.PeopleCalled(f, impl.SampleTerminology(c.name), c.a, c.term, c.n), c.want, "PeopleCalled %s %d %q %d", c.name, c.a, c.term, c.n)
	}
}

func TestP13AddressTerm(t *testing.T) {
	f := parse(t, house)
	cases := []struct {
		lines string
		a, b  int
		want  string
	}{
		{"merging", cain, ada, "sister"}, {"merging", ada, cain, "brother"}, {"merging", adam, eva, "wife"}, {"merging", eva, adam, "husband"}, {"merging", seth, cain, "brother"}, {"merging", cain, zilla, "sister"}, {"merging", tubal, abel, "father"},
		{"merging", tubal, adam, ""}, {"merging", zilla, tubal, ""}, {"merging", adam, adam, ""}, {"merging", stranger, enos, ""}, {"merging", enos, tubal, ""}, {"skewing", adam, ada, "daughter"}, {"none", cain, ada, ""},
		{"term . self", adam, adam, "self"}, {"term . self", eva, eva, "self"}, {"term m:. him", adam, adam, "him"}, {"term m:. him", eva, eva, ""}, {"term W wife", cain, ada, ""}, {"term MHSS a", enos, tubal, "a"}, {"term FFWS a", enos, tubal, ""}, {"term w:FWH a; term m:MHF b", zilla, stranger, "a"},
	}
	for _, c := range cases {
		y := impl.SampleTerminology(c.lines)
		if strings.Contains(c.lines, " ") {
			y = terminology(t, c.lines)
		}
		term, ok := impl.AddressTerm(f, y, c.a, c.b)
		expect(t, term, c.want, "AddressTerm %s %d %d", c.lines, c.a, c.b)
		expect(t, ok, c.want != "", "AddressTerm %s %d %d succeeds", c.lines, c.a, c.b)
	}
	apart := parse(t, "man a - - 0 -\nman b - - 0 -\n")
	term, ok := impl.AddressTerm(apart, terminology(t, "term . self; term F a"), 0, 1)
	expect(t, term == "" && !ok, true, "AddressTerm of persons who are not kin")
}

func TestP13PeopleCalledByChance(t *testing.T) {
	r := newChance(88)
	several := 0
	for _, y := range someTerminologies(t, r, 300) {
		f := kinFamily(r, 1+r.IntN(14))
		a, n := r.IntN(len(f.People)), 1+r.IntN(3)
		terms := wantTermsTo(f, y, a, n)
		for b := range f.People {
			expect(t, impl.TermsBetween(f, y, a, b, n), terms[b], "TermsBetween %d %d %d of %v by %v", a, b, n, f, y)
			if len(terms[b]) > 1 {
				several++
			}
		}
		for _, term := range []string{"a", "b", "kin", "cousin", "brother", "him", ""} {
			want := []int{}
			for b := range f.People {
				if slices.Contains(terms[b], term) {
					want = append(want, b)
				}
			}
			expect(t, impl.PeopleCalled(f, y, a, term, n), want, "PeopleCalled %d %s %d of %v by %v", a, term, n, f, y)
		}
	}
	if several < 20 {
		t.Errorf("%d persons have several terms", several)
	}
}

func TestP13AddressTermByChance(t *testing.T) {
	r := newChance(89)
	called := 0
	for _, y := range someTerminologies(t, r, 200) {
		f := kinFamily(r, 1+r.IntN(14))
		a := r.IntN(len(f.People))
		for b, want := range wantAddress(f, y, a) {
			term, ok := impl.AddressTerm(f, y, a, b)
			expect(t, term, want, "AddressTerm %d %d of %v by %v", a, b, f, y)
			expect(t, ok, want != "", "AddressTerm %d %d of %v by %v succeeds", a, b, f, y)
			if want != "" {
				called++
			}
		}
	}
	if called < 50 {
		t.Errorf("%d persons are addressed", called)
	}
}

// TestP13TermsInALargeFamily: as many persons and unions as there can be.
func TestP13TermsInALargeFamily(t *testing.T) {
	r := newChance(90)
	f := kinFamily(r, impl.MaxPeople)
	y := impl.SampleTerminology("merging")
	a := len(f.People) - 1
	terms := wantTermsTo(f, y, a, 3)
	for b := range f.People {
		expect(t, impl.TermsBetween(f, y, a, b, 3), terms[b], "TermsBetween %d %d", a, b)
	}
	for _, term := range []string{"father", "cousin", "brother"} {
		for _, b := range impl.PeopleCalled(f, y, a, term, 3) {
			expect(t, slices.Contains(terms[b], term), true, "PeopleCalled %s: %d", term, b)
		}
	}
}
