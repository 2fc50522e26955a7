package tests

import (
	"testing"

	"loop.example/g03221/impl"
)

// couple is a man, a woman, and their son.
const couple = "man a - - 0 -\nwoman b - - 0 -\nman c a b 20 -\nunion a b 18 -\n"

// siblings is a couple without a union, whose children are united.
const siblings = "man a - - 0 -\nwoman b - - 0 -\nman c a b 20 -\nwoman d a b 20 -\nunion c d 40 -\n"

// exchange is two men who marry each other's sisters.
const exchange = "man a - - 0 -\nman b - - 0 -\nman c a - 20 -\nwoman d a - 20 -\nman e b - 20 -\nwoman f b - 20 -\nunion c f 40 -\nunion e d 40 -\n"

func TestP13MoietiesOf(t *testing.T) {
	cases := []struct {
		label      string
		f          impl.Family
		men, women string
	}{
		{"nobody", impl.Family{}, "", ""},
		{"one", parse(t, "woman a - - 0 -\n"), "0", "0"},
		{"two who are not united", parse(t, "woman a - - 0 -\nman b - - 0 -\n"), "00", "00"},
		{"two who are united", parse(t, "woman a - - 0 -\nman b - - 0 -\nunion b a 0 -\n"), "01", "01"},
		{"a couple", parse(t, couple), "010", "011"},
		{"siblings who are united", parse(t, siblings), "-", "-"},
		{"an exchange", parse(t, exchange), "010011", "000011"},
		{"the house", parse(t, house), "-", "-"},
		{"the house without cain and ada", without(t, "cain ada"), "01100000000", "01111110110"},
		{"a man and his father's wife", parse(t, couple+"union c b 40 -\n"), "010", "-"},
		{"a man and his wife's daughter", parse(t, "man a - - 0 -\nwoman b - - 0 -\nwoman c - b 20 -\nunion a b 18 -\nunion a c 40 -\n"), "011", "011"},
		{"a man and his daughter", parse(t, "man a - - 0 -\nwoman c a - 20 -\nunion a c 40 -\n"), "-", "01"},
		{"a late bond", parse(t, "man a - - 0 -\nman b - - 0 -\nwoman c - - 0 -\nman d - - 0 -\nwoman e - - 0 -\nunion a c 9 -\nunion d c 9 -\nunion d e 9 -\nunion b e 9 -\n"), "00101", "00101"},
	}
	for _, c := range cases {
		for sex, want := range map[int]string{impl.Man: c.men, impl.Woman: c.women} {
			list, ok := impl.MoietiesOf(c.f, sex)
			if want == "-" {
				notNumber(t, list, ok, "MoietiesOf for %d: %s", sex, c.label)
				continue
			}
			expect(t, permutationText(list), want, "MoietiesOf for %d: %s", sex, c.label)
			expect(t, ok, true, "MoietiesOf for %d succeeds: %s", sex, c.label)
		}
	}
}

func TestP13MoietiesByChance(t *testing.T) {
	r := newChance(132)
	count := map[bool]int{}
	for i := range 400 {
		f := kinFamily(r, 4+r.IntN(6))
		if i%4 == 0 {
			f, _ = classedFamily(r, impl.SampleClasses("moieties"), r.IntN(impl.MaxPeople+1))
		}
		for _, sex := range []int{impl.Man, impl.Woman} {
			list, ok := impl.MoietiesOf(f, sex)
			want, wantOk := wantNumbers(followersByMoieties(f, sex), allOpen(len(f.People)), 2)
			expect(t, ok, wantOk, "MoietiesOf %v for %d succeeds", f, sex)
			expect(t, list, want, "MoietiesOf %v for %d", f, sex)
			count[ok]++
			if len(f.People) < 10 {
				want, wantOk = firstOfAll(len(f.People), 2, func(list []int) bool { return areMoieties(f, sex, list) })
				expect(t, ok == wantOk && permutationText(list) == permutationText(want), true, "MoietiesOf %v for %d, of all lists", f, sex)
			}
		}
	}
	if count[true] < 100 || count[false] < 100 {
		t.Errorf("with moieties or without: %v", count)
	}
}

func TestP13ClassErrors(t *testing.T) {
	cases := []struct {
		family, system, given, want string
	}{
		{couple, "1032 3210", "013", ""},
		{couple, "1032 3210", "102", ""},
		{couple, "1032 3210", "023", "12"},
		{couple, "1032 3210", "010", "2"},
		{couple, "1032 3210", "113", "12"},
		{couple, "1032 3210", "333", "12"},
		{couple, "10 01", "010", ""},
		{couple, "10 01", "110", "12"},
		{couple, "10 01", "011", "2"},
		{couple, "10 01", "001", "12"},
		{couple, "120 012", "010", ""},
		{couple, "120 012", "202", ""},
		{couple, "120 012", "020", "12"},
		{couple, "0 0", "000", ""},
		{"woman b - - 0 -\nman a - - 0 -\nunion a b 0 -\n", "120 012", "21", ""},
		{"woman b - - 0 -\nman a - - 0 -\nunion a b 0 -\n", "120 012", "12", "0"},
		{"man a - - 0 -\nman c a - 20 -\n", "1230 2013", "02", ""},
		{"man a - - 0 -\nman c a - 20 -\n", "1230 2013", "01", "1"},
		{"woman b - - 0 -\nman c - b 20 -\n", "1230 2013", "03", ""},
		{"woman b - - 0 -\nman c - b 20 -\n", "1230 2013", "20", ""},
		{"woman b - - 0 -\nman c - b 20 -\n", "1230 2013", "02", "1"},
		{siblings, "0213 3021", "0033", ""},
		{siblings, "0213 3021", "2122", "3"},
		{siblings, "0213 3021", "2121", "3"},
		{siblings, "0213 3021", "2112", "2"},
		{exchange, "1230 0123", "010011", "3"},
		{"man a - - 0 -\nwoman b - - 0 -\nman c - - 0 -\nunion a b 9 -\nunion c b 9 -\n", "10 01", "010", ""},
		{"man a - - 0 -\nwoman b - - 0 -\nman c - - 0 -\nunion a b 9 -\nunion c b 9 -\n", "10 01", "011", "1"},
		{"man a - - 0 -\nwoman b - - 0 -\nman c - - 0 -\nunion a b 9 -\nunion c b 9 -\n", "10 01", "000", "1"},
		{"", "10 01", "", ""},
	}
	for _, c := range cases {
		f, s, given := parse(t, c.family), system(t, c.system), digits(c.given)
		wrong, ok := impl.ClassErrors(f, s, given)
		expect(t, permutationText(wrong), c.want, "ClassErrors %s %s of %q", c.system, c.given, c.family)
		expect(t, ok, true, "ClassErrors %s %s of %q succeeds", c.system, c.given, c.family)
		expect(t, permutationText(wantErrors(f, s, given)), c.want, "the test's own rules: %s %s of %q", c.system, c.given, c.family)
	}
}

func TestP13AssignClasses(t *testing.T) {
	cases := []struct {
		family, system, given, want string
	}{
		{couple, "1032 3210", "...", "013"},
		{couple, "1032 3210", "..0", "320"},
		{couple, "1032 3210", ".0.", "102"},
		{couple, "1032 3210", "2..", "231"},
		{couple, "1032 3210", "231", "231"},
		{couple, "1032 3210", "23.", "231"},
		{couple, "1032 3210", "22.", "-"},
		{couple, "1032 3210", ".11", "-"},
		{couple, "1032 3210", "3.3", "-"},
		{couple, "0 0", "...", "000"},
		{couple, "0 0", "000", "000"},
		{couple, "12345670 01234567", ".0.", "707"},
		{siblings, "0213 3021", "....", "0033"},
		{siblings, "0213 3021", "1...", "1200"},
		{siblings, "0213 3021", "...0", "1200"},
		{siblings, "0213 3021", "2...", "-"},
		{siblings, "0213 3021", "..21", "-"},
		{siblings, "1032 3210", "....", "-"},
		{exchange, "1230 0123", "......", "-"},
		{exchange, "1032 3210", "......", "013322"},
		{exchange, "1032 3210", "....0.", "231100"},
		{exchange, "1032 3210", "....01", "-"},
		{"man a - - 0 -\nman b - - 0 -\nman c - - 0 -\n", "120 012", "...", "000"},
		{"man a - - 0 -\nman b - - 0 -\nman c - - 0 -\n", "120 012", ".2.", "020"},
		{"man a - - 0 -\nman b - - 0 -\nman c - - 0 -\n", "120 012", "210", "210"},
		{"man a - - 0 -\nman b - - 0 -\nwoman c - - 0 -\nwoman d - - 0 -\nunion a d 9 -\nunion b c 9 -\n", "120 012", "..0.", "0201"},
		{"man a - - 0 -\nwoman b - - 0 -\nman c - - 0 -\nunion a b 9 -\nunion c b 9 -\n", "120 012", "..2", "202"},
		{"man a - - 0 -\nwoman b - - 0 -\nman c - - 0 -\nunion a b 9 -\nunion c b 9 -\n", "120 012", "1.2", "-"},
		{"woman b - - 0 -\nman c - b 20 -\n", "1230 2013", "..", "03"},
		{"woman b - - 0 -\nman c - b 20 -\n", "1230 2013", ".0", "20"},
		{"", "10 01", "", ""},
	}
	for _, c := range cases {
		given := digits(c.given)
		for i := range given {
			if c.given[i] == '.' {
				given[i] = -1
			}
		}
		list, ok := impl.AssignClasses(parse(t, c.family), system(t, c.system), given)
		if c.want == "-" {
			notNumber(t, list, ok, "AssignClasses %s %s of %q", c.system, c.given, c.family)
			continue
		}
		expect(t, permutationText(list), c.want, "AssignClasses %s %s of %q", c.system, c.given, c.family)
		expect(t, ok, true, "AssignClasses %s %s of %q succeeds", c.system, c.given, c.family)
	}
}

func TestP13ClassErrorsByChance(t *testing.T) {
	r := newChance(133)
	count := map[bool]int{}
	for range 500 {
		c := chanceSystem(r, 1+r.IntN(8))
		f, classes := classedFamily(r, c, r.IntN(impl.MaxPeople+1))
		for range r.IntN(4) * len(classes) / 4 {
			classes[r.IntN(len(classes))] = r.IntN(len(c.Wife))
		}
		wrong, ok := impl.ClassErrors(f, c, classes)
		want := wantErrors(f, c, classes)
		count[len(want) > 0]++
		expect(t, wrong, want, "ClassErrors %s %v of %v", systemText(c), classes, f)
		expect(t, ok, true, "ClassErrors %s %v of %v succeeds", systemText(c), classes, f)
	}
	if count[true] < 100 || count[false] < 100 {
		t.Errorf("with errors or without: %v", count)
	}
}

func TestP13AssignClassesByChance(t *testing.T) {
	r := newChance(134)
	count := map[bool]int{}
	for i := range 1000 {
		c := chanceSystem(r, 1+r.IntN(8))
		f, classes := classedFamily(r, c, r.IntN(impl.MaxPeople+1))
		given := opened(r, classes)
		if i%2 == 0 && len(given) > 0 {
			given[r.IntN(len(given))] = r.IntN(len(c.Wife))
		}
		if i%5 == 0 {
			addChanceUnion(r, &f)
		}
		want, wantOk := wantNumbers(followersByClasses(f, c), given, len(c.Wife))
		count[wantOk]++
		list, ok := impl.AssignClasses(f, c, given)
		expect(t, list, want, "AssignClasses %s %v of %v", systemText(c), given, f)
		expect(t, ok, wantOk, "AssignClasses %s %v of %v succeeds", systemText(c), given, f)
	}
	if count[true] < 200 || count[false] < 100 {
		t.Errorf("with classes or without: %v", count)
	}
}

// TestP13AssignClassesOfAllLists goes through all lists of classes, for small families.
func TestP13AssignClassesOfAllLists(t *testing.T) {
	r := newChance(135)
	count := map[bool]int{}
	for range 1500 {
		n := 1 + r.IntN(4)
		c := chanceSystem(r, n)
		f := kinFamily(r, 3+r.IntN(4))
		given := opened(r, numbersBelow(r, len(f.People), n))
		want, wantOk := firstOfAll(len(f.People), n, func(list []int) bool {
			return agrees(list, given) && len(wantErrors(f, c, list)) == 0
		})
		count[wantOk]++
		list, ok := impl.AssignClasses(f, c, given)
		expect(t, list, want, "AssignClasses %s %v of %v", systemText(c), given, f)
		expect(t, ok, wantOk, "AssignClasses %s %v of %v succeeds", systemText(c), given, f)
	}
	if count[true] < 100 || count[false] < 100 {
		t.Errorf("with classes or without: %v", count)
	}
}
