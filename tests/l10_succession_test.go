package tests

import (
	"fmt"
	"testing"

	"loop.example/g03221/impl"
)

// dynasty is a family with children who died before their parents' brothers and sisters, and grandchildren who live.
const dynasty = "man karl - - 0 30\n" +
	"woman anna - - 2 70\n" +
	"man ludwig karl anna 20 45\n" +
	"woman maria karl anna 22 -\n" +
	"man otto karl anna 25 90\n" +
	"woman berta - - 21 -\n" +
	"man franz ludwig berta 40 60\n" +
	"woman greta ludwig berta 42 -\n" +
	"man hans franz - 58 -\n" +
	"woman ida - maria 44 -\n" +
	"man jakob - maria 46 -\n" +
	"man fremd - - 5 50\n" +
	"union karl anna 19 -\n" +
	"union ludwig berta 39 -\n"

// The persons of dynasty.
const (
	karl = iota
	anna
	ludwig
	maria
	otto
	berta
	franz
	greta
	hans
	ida
	jakob
	fremd
)

func TestP13OrderChildren(t *testing.T) {
	f := parse(t, dynasty)
	cases := map[string][]int{
		"any":                  {ludwig, maria, otto},
		"men":                  {ludwig, otto, maria},
		"women":                {maria, ludwig, otto},
		"only men":             {ludwig, otto},
		"only women":           {maria},
		"any youngest":         {otto, maria, ludwig},
		"men youngest":         {otto, ludwig, maria},
		"women youngest":       {maria, otto, ludwig},
		"only men youngest":    {otto, ludwig},
		"only women youngest":  {maria},
		"only men represent":   {ludwig, otto},
		"men represent":        {ludwig, otto, maria},
		"only women represent": {maria},
	}
	for text, want := range cases {
		for _, parent := range []int{karl, anna} {
			expect(t, impl.OrderChildren(f, custom(t, text), parent), want, "OrderChildren %s %d", text, parent)
		}
		expect(t, len(impl.OrderChildren(f, custom(t, text), fremd)), 0, "OrderChildren %s without children", text)
	}
	expect(t, impl.OrderChildren(f, custom(t, "women"), maria), []int{ida, jakob}, "the children of a mother alone")
	expect(t, len(impl.OrderChildren(f, custom(t, "only women"), franz)), 0, "no daughters")
}

// TestP13OrderOfOneYear: of children who are born in one year, the elder one is listed first in the family, whatever half-siblings come between.
func TestP13OrderOfOneYear(t *testing.T) {
	f := parse(t, "man a - - 0 -\nwoman b a - 20 -\nman c a - 20 -\nwoman d a - 19 -\nman e a - 20 -\nwoman g a - 20 -\n")
	cases := map[string][]int{
		"any":            {3, 1, 2, 4, 5},
		"any youngest":   {5, 4, 2, 1, 3},
		"men":            {2, 4, 3, 1, 5},
		"men youngest":   {4, 2, 5, 1, 3},
		"women":          {3, 1, 5, 2, 4},
		"women youngest": {5, 1, 3, 4, 2},
	}
	for text, want := range cases {
		expect(t, impl.OrderChildren(f, custom(t, text), 0), want, "OrderChildren %s", text)
		expect(t, impl.HeirsBelow(f, custom(t, text), 0, 20), want, "HeirsBelow %s", text)
	}
	expect(t, impl.HeirsBelow(f, custom(t, "any"), 0, 19), []int{3}, "HeirsBelow before the others are born")
}

// A claim asks who follows a person in a year by the custom with this text.
type claim struct {
	text    string
	p, year int
	want    []int
}

func TestP13HeirsBelow(t *testing.T) {
	f := parse(t, dynasty)
	for _, c := range []claim{
		{"men represent", karl, 65, []int{hans, greta, otto, maria, jakob, ida}},
		{"men", karl, 65, []int{otto, maria, jakob, ida}},
		{"any represent", karl, 65, []int{hans, greta, maria, ida, jakob, otto}},
		{"any youngest represent", karl, 65, []int{otto, maria, jakob, ida, greta, hans}},
		{"women represent", karl, 65, []int{maria, ida, jakob, greta, hans, otto}},
		{"only men represent", karl, 65, []int{hans, otto}},
		{"only men", karl, 65, []int{otto}},
		{"only women", anna, 65, []int{maria, ida}},
		{"only women represent", ludwig, 65, []int{greta}},
		// One who is alive is listed before the children, and one who dies in the year is not alive.
		{"men", karl, 59, []int{otto, maria, jakob, ida}},
		{"men represent", karl, 59, []int{franz, hans, greta, otto, maria, jakob, ida}},
		{"men represent", karl, 60, []int{hans, greta, otto, maria, jakob, ida}},
		{"men represent", karl, 57, []int{franz, greta, otto, maria, jakob, ida}},
		{"men", karl, 44, []int{ludwig, franz, greta, otto, maria, ida}},
		{"men", karl, 45, []int{otto, maria, ida}},
		{"men", ludwig, 65, []int{greta}},
		{"men represent", ludwig, 65, []int{hans, greta}},
		// Whether the person is alive does not matter.
		{"men", karl, 25, []int{ludwig, otto, maria}},
		{"men", karl, 21, []int{ludwig}},
		{"men", karl, 20, []int{ludwig}},
		{"men represent", karl, 19, nil},
		{"men represent", karl, lowest, nil},
		{"men represent", karl, -1, nil},
		{"men represent", karl, 10000, []int{hans, greta, maria, jakob, ida}},
		{"men represent", karl, highest, []int{hans, greta, maria, jakob, ida}},
		{"any represent", fremd, 65, nil},
		{"any represent", otto, 65, nil},
	} {
		expect(t, impl.HeirsBelow(f, custom(t, c.text), c.p, c.year), c.want, "HeirsBelow %s %d %d", c.text, c.p, c.year)
	}
}

func TestP13SuccessionOrder(t *testing.T) {
	f := parse(t, dynasty)
	for _, c := range []claim{
		{"men represent", karl, 65, []int{hans, greta, otto, maria, jakob, ida}},
		{"men represent", hans, 65, []int{greta, otto, maria, jakob, ida}},
		{"only men", hans, 65, []int{otto}},
		{"only men represent", hans, 59, []int{franz, otto}},
		// The way up leads on from the dead, also without representation.
		{"men", hans, 65, []int{greta, otto, maria, jakob, ida}},
		// No mother is known, and for women alone there is no other way up.
		{"only women", hans, 65, nil},
		{"only women", ida, 65, []int{maria}},
		{"only women represent", jakob, 65, []int{ida, maria}},
		// No father is known, and for men alone there is no other way up.
		{"only men represent", jakob, 65, nil},
		// To the mother, as no father is known, and then to the father alone.
		{"any represent", jakob, 65, []int{ida, hans, greta, maria, otto}},
		{"women represent", greta, 65, []int{hans, maria, ida, jakob, otto}},
		{"men represent", maria, 65, []int{jakob, ida, hans, greta, otto}},
		{"men", otto, 95, []int{maria, jakob, ida}},
		// Parents are not listed themselves, unless they are below others.
		{"any", berta, 65, []int{greta}},
		{"any represent", franz, 50, []int{greta, maria, ida, jakob, otto}},
		{"any", franz, 44, []int{greta, ludwig, maria, ida, otto}},
		{"any", fremd, 65, nil},
		{"any represent", karl, lowest, nil},
		{"any represent", hans, highest, []int{greta, maria, ida, jakob}},
		// A person who was not born yet, too.
		{"any represent", hans, 46, []int{franz, greta, maria, ida, jakob, otto}},
		{"any", hans, 21, []int{ludwig}},
	} {
		x := custom(t, c.text)
		expect(t, impl.SuccessionOrder(f, x, c.p, c.year), c.want, "SuccessionOrder %s %d %d", c.text, c.p, c.year)
		heir, ok := impl.HeirOf(f, x, c.p, c.year)
		want, has := 0, len(c.want) > 0
		if has {
			want = c.want[0]
		}
		expect(t, []any{heir, ok}, []any{want, has}, "HeirOf %s %d %d", c.text, c.p, c.year)
	}
}

// TestP13HeirsByTwoLines: those to whom several lines lead are listed in the first of the places.
func TestP13HeirsByTwoLines(t *testing.T) {
	// The younger daughter's daughter married the elder son, and their child is below both.
	const cousins = "man a - - 0 -\nman b a - 20 70\nwoman c a - 19 80\nwoman d - c 40 90\nman e b d 60 -\nwoman g - d 61 -\n"
	f := parse(t, cousins)
	for _, c := range []claim{
		{"any", 0, 65, []int{2, 3, 4, 5, 1}},
		{"men", 0, 65, []int{1, 4, 2, 3, 5}},
		{"any youngest", 0, 65, []int{1, 4, 2, 3, 5}},
		// In the year 75, b is dead, and in 85, c too.
		{"men represent", 0, 75, []int{4, 2, 3, 5}},
		{"men", 0, 75, []int{2, 3, 4, 5}},
		{"men", 0, 85, nil},
		{"men represent", 0, 85, []int{4, 3, 5}},
		{"any youngest represent", 0, 95, []int{4, 5}},
		{"any represent", 0, 95, []int{4, 5}},
	} {
		expect(t, impl.HeirsBelow(f, custom(t, c.text), c.p, c.year), c.want, "HeirsBelow %s %d %d", c.text, c.p, c.year)
	}
	expect(t, impl.SuccessionOrder(f, custom(t, "men"), 4, 75), []int{2, 3, 5}, "SuccessionOrder of one who is below two")
	expect(t, impl.SuccessionOrder(f, custom(t, "any represent"), 5, 75), []int{4, 3, 2}, "SuccessionOrder by the mother")
}

func TestP13HoldersOf(t *testing.T) {
	f := parse(t, dynasty)
	type holder = impl.Holder
	cases := []struct {
		text string
		p    int
		want []holder
	}{
		{"men represent", karl, []holder{{Person: karl}, {Person: ludwig, From: 30}, {Person: franz, From: 45}, {Person: hans, From: 60}}},
		{"only men", karl, []holder{{Person: karl}, {Person: ludwig, From: 30}, {Person: franz, From: 45}, {Person: hans, From: 60}}},
		{"women", karl, []holder{{Person: karl}, {Person: maria, From: 30}}},
		{"any youngest", karl, []holder{{Person: karl}, {Person: otto, From: 30}, {Person: maria, From: 90}}},
		{"any youngest represent", otto, []holder{{Person: otto, From: 25}, {Person: maria, From: 90}}},
		{"men represent", otto, []holder{{Person: otto, From: 25}, {Person: hans, From: 90}}},
		{"men", otto, []holder{{Person: otto, From: 25}, {Person: maria, From: 90}}},
		// Nobody follows by men alone without representation: all of Karl's sons are dead.
		{"only men", otto, []holder{{Person: otto, From: 25}}},
		{"only women", anna, []holder{{Person: anna, From: 2}, {Person: maria, From: 70}}},
		{"men", fremd, []holder{{Person: fremd, From: 5}}},
		{"men", hans, []holder{{Person: hans, From: 58}}},
		{"any represent", anna, []holder{{Person: anna, From: 2}, {Person: hans, From: 70}}},
	}
	for _, c := range cases {
		expect(t, impl.HoldersOf(f, custom(t, c.text), c.p), c.want, "HoldersOf %s %d", c.text, c.p)
	}
}

// TestP13HoldersWithinAYear: one who dies in the year of the death does not follow, but one who is born in it does.
func TestP13HoldersWithinAYear(t *testing.T) {
	f := parse(t, "man a - - 0 50\nman b a - 20 50\nman c a - 21 51\nman d b - 51 52\nman e c - 52 -\n")
	want := []impl.Holder{{Person: 0}, {Person: 2, From: 50}, {Person: 3, From: 51}, {Person: 4, From: 52}}
	expect(t, impl.HoldersOf(f, custom(t, "men represent"), 0), want, "HoldersOf")
	expect(t, impl.HoldersOf(f, custom(t, "men"), 0), want[:2], "HoldersOf without representation")
	f = parse(t, "man a - - 0 0\nwoman b - - 9998 9999\nman c - b 9999 9999\n")
	expect(t, impl.HoldersOf(f, custom(t, "men"), 0), []impl.Holder{{}}, "HoldersOf one who died in the first year")
	expect(t, impl.HoldersOf(f, custom(t, "men"), 1), []impl.Holder{{Person: 1, From: 9998}}, "HoldersOf one who died in the last year")
}

// TestP13ManyHolders: all forty hold, one after the other.
func TestP13ManyHolders(t *testing.T) {
	f := impl.Family{People: []impl.Person{{Name: "first", Sex: 1, Father: -1, Mother: -1, Died: 100}}}
	want := []impl.Holder{{}}
	for i := 1; i < impl.MaxPeople; i++ {
		f.People = append(f.People, impl.Person{Name: chanceName(newChance(194), i), Sex: 2, Father: 0, Mother: -1, Born: i, Died: 100 + i})
		want = append(want, impl.Holder{Person: i, From: 99 + i})
	}
	expect(t, impl.IsFamily(f), true, "the family is valid")
	expect(t, impl.HoldersOf(f, custom(t, "any"), 0), want, "HoldersOf")
	expect(t, impl.HoldersOf(f, custom(t, "only women youngest"), 0), []impl.Holder{{}, {Person: 39, From: 100}}, "HoldersOf the youngest")
}

// TestP13HeirsByManyLines: very many lines lead to persons of whom there are few.
func TestP13HeirsByManyLines(t *testing.T) {
	f := ladder(10)
	for _, x := range allCustoms() {
		list := impl.HeirsBelow(f, x, 0, 300)
		expect(t, list, wantBelow(f, x, 0, 300), "HeirsBelow %v", x)
		only := x.Prefer >= impl.OnlyMen
		expect(t, len(list), map[bool]int{true: 10, false: 20}[only], "HeirsBelow %v", x)
	}
}

func TestP13SuccessionByChance(t *testing.T) {
	r := newChance(195)
	count := map[string]int{}
	for _, f := range successionFamilies(t, r, 20) {
		for range 12 * min(1, len(f.People)) {
			x, p, year := chanceCustom(r), r.IntN(len(f.People)), chanceYear(r, f)
			label := fmt.Sprintf("%v %v %d %d", f, x, p, year)
			expect(t, impl.OrderChildren(f, x, p), wantOrdered(f, x, p), "OrderChildren %s", label)
			expect(t, impl.HeirsBelow(f, x, p, year), wantBelow(f, x, p, year), "HeirsBelow %s", label)
			want := wantSuccession(f, x, p, year)
			expect(t, impl.SuccessionOrder(f, x, p, year), want, "SuccessionOrder %s", label)
			heir, ok := wantHeir(f, x, p, year)
			got, alsoOk := impl.HeirOf(f, x, p, year)
			expect(t, []any{got, alsoOk}, []any{heir, ok}, "HeirOf %s", label)
			holders := wantHolders(f, x, p)
			expect(t, impl.HoldersOf(f, x, p), holders, "HoldersOf %s", label)
			count["heirs"] += min(1, len(want)/4)
			count["nobody"] += 1 - min(1, len(want))
			count["holders"] += min(1, len(holders)/3)
		}
	}
	if count["heirs"] < 300 || count["nobody"] < 300 || count["holders"] < 200 {
		t.Errorf("successions of all kinds: %v", count)
	}
}
