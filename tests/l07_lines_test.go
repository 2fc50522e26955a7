package tests

import (
	"strings"
	"testing"

	"loop.example/g03221/impl"
)

func TestP13FounderOf(t *testing.T) {
	f := parse(t, house)
	byMen := []int{adam, eva, lilith, adam, adam, adam, adam, adam, enos, adam, stranger}
	byWomen := []int{adam, eva, lilith, eva, eva, eva, lilith, zilla, lilith, eva, stranger}
	for p := range f.People {
		founder, ok := impl.FounderOf(f, p, impl.Man)
		expect(t, founder, byMen[p], "the founder of %d for Man", p)
		expect(t, ok, true, "FounderOf %d for Man", p)
		founder, ok = impl.FounderOf(f, p, impl.Woman)
		expect(t, founder, byWomen[p], "the founder of %d for Woman", p)
		expect(t, ok, true, "FounderOf %d for Woman", p)
	}
}

// chain has a person of each depth up to the greatest one, of one line of men and another one of women by turns.
func chain(t *testing.T) impl.Family {
	t.Helper()
	return parse(t, strings.Join([]string{
		"man a - - 0 -", "man b a - 1 -", "man c b - 2 -", "man d c - 3 -", "man e d - 4 -", "woman f e - 5 -",
		"woman g - f 6 -", "woman h - g 7 -", "woman i - h 8 -", "woman j - i 9 -", "man k - j 10 -", "",
	}, "\n"))
}

func TestP13LongLines(t *testing.T) {
	f := chain(t)
	expect(t, impl.DepthOf(f, 10), impl.MaxDepth, "the depth of the last person")
	expect(t, impl.LinesOf(f, impl.Man), [][]int{{0, 1, 2, 3, 4, 5}, {6}, {7}, {8}, {9}, {10}}, "LinesOf for Man")
	expect(t, impl.LinesOf(f, impl.Woman), [][]int{{0}, {1}, {2}, {3}, {4}, {5, 6, 7, 8, 9, 10}}, "LinesOf for Woman")
	expect(t, len(impl.DoubleLines(f)), 11, "DoubleLines")
	expect(t, impl.SameLine(f, 5, 0, impl.Man) && impl.SameLine(f, 5, 10, impl.Woman), true, "SameLine of the ends")
	expect(t, impl.SameLine(f, 0, 10, impl.Man) || impl.SameLine(f, 0, 10, impl.Woman), false, "SameLine of the two ends")
}

func TestP13LinesOf(t *testing.T) {
	f := parse(t, house)
	expect(t, impl.LinesOf(f, impl.Man), [][]int{{adam, ada, cain, abel, seth, zilla, tubal}, {eva}, {lilith}, {enos}, {stranger}}, "LinesOf for Man")
	expect(t, impl.LinesOf(f, impl.Woman), [][]int{{adam}, {eva, ada, cain, abel, tubal}, {lilith, seth, enos}, {zilla}, {stranger}}, "LinesOf for Woman")
	for _, sex := range []int{impl.Man, impl.Woman} {
		expect(t, len(impl.LinesOf(impl.Family{}, sex)), 0, "LinesOf nobody")
	}
	mixed := parse(t, "woman a - - 0 -\nwoman b - - 0 -\nwoman c - b 9 -\nwoman d - a 9 -\nman e - c 20 -\nman f - d 20 -\nman g e c 30 -\n")
	expect(t, impl.LinesOf(mixed, impl.Woman), [][]int{{0, 3, 5}, {1, 2, 4, 6}}, "LinesOf for Woman, lines by turns")
	expect(t, impl.LinesOf(mixed, impl.Man), [][]int{{0}, {1}, {2}, {3}, {4, 6}, {5}}, "LinesOf for Man, lines by turns")
}

func TestP13SameLine(t *testing.T) {
	f := parse(t, house)
	cases := []struct {
		a, b       int
		men, women bool
	}{
		{cain, ada, true, true}, {adam, adam, true, true}, {seth, cain, true, false}, {tubal, zilla, true, false}, {seth, enos, false, true},
		{adam, eva, false, false}, {eva, cain, false, true}, {adam, cain, true, false}, {adam, tubal, true, false}, {eva, tubal, false, true},
		{enos, tubal, false, false}, {stranger, lilith, false, false}, {stranger, stranger, true, true},
	}
	for _, c := range cases {
		for _, pair := range [][2]int{{c.a, c.b}, {c.b, c.a}} {
			expect(t, impl.SameLine(f, pair[0], pair[1], impl.Man), c.men, "SameLine %v for Man", pair)
			expect(t, impl.SameLine(f, pair[0], pair[1], impl.Woman), c.women, "SameLine %v for Woman", pair)
		}
	}
}

func TestP13DoubleLines(t *testing.T) {
	f := parse(t, house)
	expect(t, impl.DoubleLines(f), [][]int{{adam}, {eva}, {lilith}, {ada, cain, abel, tubal}, {seth}, {zilla}, {enos}, {stranger}}, "DoubleLines")
	expect(t, len(impl.DoubleLines(impl.Family{})), 0, "DoubleLines of nobody")
	// Brothers' children of two sisters, so that the groups are in the order of their first persons alone.
	g := parse(t, "woman a - - 0 -\nman b - - 0 -\nwoman c - - 0 -\nman d - - 0 -\n"+
		"man e d c 9 -\nwoman f b a 9 -\nwoman g b a 9 -\nman h d c 9 -\nwoman i h g 20 -\nman j e f 20 -\nman k e f 20 -\n")
	expect(t, impl.DoubleLines(g), [][]int{{0}, {1}, {2}, {3}, {4, 7}, {5, 6}, {8, 9, 10}}, "DoubleLines, the order")
}

func TestP13LinesByChance(t *testing.T) {
	r := newChance(130)
	for i := range 200 {
		f := chanceFamily(r)
		if i%2 == 0 {
			f = kinFamily(r, 1+r.IntN(impl.MaxPeople))
		}
		for _, sex := range []int{impl.Man, impl.Woman} {
			expect(t, impl.LinesOf(f, sex), wantLines(f, sex), "LinesOf %v for %d", f, sex)
			for a := range f.People {
				founder, ok := impl.FounderOf(f, a, sex)
				expect(t, ok && founder == wantFounder(f, a, sex), true, "FounderOf %v: %d for %d", f, a, sex)
				b := r.IntN(len(f.People))
				expect(t, impl.SameLine(f, a, b, sex), founder == wantFounder(f, b, sex), "SameLine %v: %d %d for %d", f, a, b, sex)
			}
		}
		expect(t, impl.DoubleLines(f), wantDouble(f), "DoubleLines %v", f)
	}
}

func TestP13IsExogamous(t *testing.T) {
	f := parse(t, house)
	cases := []struct {
		groups []int
		want   bool
	}{
		{[]int{0, 1, 2, 3, 4, 5, 6, 7, 8, 9, 10}, true},
		{[]int{0, 1, 1, 1, 0, 0, 0, 0, 0, 0, 0}, true},
		{[]int{highest, lowest, -1, 7, -7, 0, 0, 0, 0, 0, highest}, true},
		{[]int{3, 3, 1, 1, 0, 0, 0, 0, 0, 0, 0}, false},
		{[]int{-9, 1, -9, 1, 0, 0, 0, 0, 0, 0, 0}, false},
		{[]int{0, 1, 1, highest, highest, 0, 0, 0, 0, 0, 0}, false},
		{[]int{0, 1, 1, 1, 0, 0, 0, 0, 0, 0, 1}, false},
		{[]int{0, 1, 2, 3, 4, 5, 6, 7, 8, 9}, false},
		{[]int{0, 1, 2, 3, 4, 5, 6, 7, 8, 9, 10, 11}, false},
		{nil, false},
	}
	for _, c := range cases {
		expect(t, impl.IsExogamous(f, c.groups), c.want, "IsExogamous %v", c.groups)
		expect(t, wantExogamous(f, c.groups), c.want, "the test's own rules: %v", c.groups)
	}
	expect(t, impl.IsExogamous(impl.Family{}, nil), true, "IsExogamous of nobody")
	expect(t, impl.IsExogamous(impl.Family{}, []int{0}), false, "IsExogamous of nobody, with a number")
	single := parse(t, "man a - - 0 -\nwoman b a - 9 -\n")
	expect(t, impl.IsExogamous(single, []int{5, 5}), true, "IsExogamous without unions")
	expect(t, impl.IsExogamous(single, []int{5}), false, "IsExogamous without unions, a number too few")
}

func TestP13IsExogamousByChance(t *testing.T) {
	r := newChance(131)
	count := map[bool]int{}
	for range 600 {
		f := kinFamily(r, 1+r.IntN(8))
		groups := numbersBelow(r, len(f.People)+r.IntN(12)/11, 2+r.IntN(20))
		want := wantExogamous(f, groups)
		count[want]++
		expect(t, impl.IsExogamous(f, groups), want, "IsExogamous %v of %v", groups, f)
	}
	if count[true] < 60 || count[false] < 60 {
		t.Errorf("exogamous or not: %v", count)
	}
}
