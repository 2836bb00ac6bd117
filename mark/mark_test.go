package mark_test

import (
	"slices"
	"strings"
	"testing"

	"scarf/api"
	"scarf/mark"
	"scarf/samples"
)

// text is a part that is one, hunk one that has sides.
func text(s string) api.Part { return api.Part{Text: s} }

func hunk(base, left, right string) api.Part {
	return api.Part{Hunk: true, Sides: [3]string{base, left, right}}
}

// many are so many parts, texts and hunks by turns.
func many(n int) []api.Part {
	var l []api.Part
	for i := range n {
		l = append(l, text("a"))
		if i%2 == 1 {
			l[i] = hunk("1", "2", "3")
		}
	}
	return l
}

// wrong are parts that are not right.
func wrong() [][]api.Part {
	return [][]api.Part{{{}}, {text("a"), {}}, {text("a"), text("b")}, {hunk("1", "2", "3"), text("a"), text("b")}, {{Text: "a", Sides: [3]string{"", "", "x"}}}, {{Text: "a", Sides: [3]string{"x"}}}, {{Hunk: true, Text: "a"}}, {{Hunk: true, Text: "a", Sides: [3]string{"1", "2", "3"}}}, many(api.MaxParts + 1), {{Sides: [3]string{"1", "2", "3"}}}}
}

func TestRight(t *testing.T) { // P25.1
	for _, l := range [][]api.Part{nil, {}, {text("a")}, {hunk("", "", "")}, {hunk("1", "2", "3"), hunk("1", "2", "3")}, {text("a"), hunk("", "", ""), text("\n")}, {text("\xff")}, many(api.MaxParts)} {
		if !mark.Right(l) {
			t.Errorf("%.100v", l)
		}
	}
	for _, l := range wrong() {
		s, err := mark.Encode(l)
		p, e := mark.Pick(l, slices.Repeat([]int{0}, api.MaxParts/2))
		if mark.Right(l) || s != "" || err != api.ErrArg || p != "" || e != api.ErrArg {
			t.Errorf("%.100v: %.20q, %d", l, s, err)
		}
	}
}

func TestWidth(t *testing.T) { // P25.1
	for _, c := range []struct {
		l []api.Part
		n int
	}{
		{nil, 7}, {[]api.Part{text("a")}, 7}, {[]api.Part{text("<<<<<<")}, 7}, {[]api.Part{text("<<<<<<<")}, 8}, {[]api.Part{text("a\n>>>>>>>>\nb")}, 9}, {[]api.Part{text("a<<<<<<<<")}, 7}, {[]api.Part{text(" =======")}, 7}, {[]api.Part{text("<<<<====>>>>")}, 7}, {[]api.Part{text("=======<<<<<<<<<<")}, 8}, {[]api.Part{hunk("", "\n|||||||||x", "=======")}, 10}, {[]api.Part{hunk("=======", "", "")}, 8}, {[]api.Part{hunk("", "", "a\n>>>>>>>>")}, 9}, {[]api.Part{text("--------\n########")}, 7}, {[]api.Part{text("\n\n<<<<<<<\r")}, 8},
		{[]api.Part{{Text: "<<<<<<<<", Sides: [3]string{"", "<<<<<<<<<<"}}}, 11}, {[]api.Part{{Hunk: true, Text: "<<<<<<<<"}}, 9}, {[]api.Part{text("\xff<<<<<<<<")}, 7},
	} {
		if n := mark.Width(c.l); n != c.n {
			t.Errorf("%v: %d, not %d", c.l, n, c.n)
		}
	}
}

func TestEncode(t *testing.T) { // P25.1
	for _, c := range []struct {
		l    []api.Part
		want string
	}{
		{nil, ""}, {[]api.Part{text("a\n<<<<<<<\n")}, "a\n<<<<<<<\n"}, {[]api.Part{text("a"), hunk("1", "2", "3"), text("b")}, "#marks 7\na\n<<<<<<<\n2\n|||||||\n1\n=======\n3\n>>>>>>>\nb"}, {[]api.Part{hunk("", "", "")}, "#marks 7\n\n<<<<<<<\n\n|||||||\n\n=======\n\n>>>>>>>\n"},
		{[]api.Part{hunk("x\n", "\n", "y"), hunk("", "", "<<<<<<<<<")}, "#marks 10\n\n<<<<<<<<<<\n\n\n||||||||||\nx\n\n==========\ny\n>>>>>>>>>>\n\n<<<<<<<<<<\n\n||||||||||\n\n==========\n<<<<<<<<<\n>>>>>>>>>>\n"},
	} {
		s, err := mark.Encode(c.l)
		if s != c.want || err != api.OK {
			t.Errorf("%v: %q, %d", c.l, s, err)
		}
		l, ok := mark.Decode(c.want)
		if is := slices.ContainsFunc(c.l, func(p api.Part) bool { return p.Hunk }); ok != is || is && !slices.Equal(l, c.l) || !is && l != nil {
			t.Errorf("%q: %v, %v", c.want, l, ok)
		}
	}
}

func TestDecodeWrong(t *testing.T) { // P25.2
	good := "#marks 7\na\n<<<<<<<\n2\n|||||||\n1\n=======\n3\n>>>>>>>\nb"
	all := []string{"", "a", "#marks 7", "#marks 7\n", "#marks 7\na", "#marks  7\na", "#marks 7\n\n<<<<<<<\n2\n|||||||\n1\n=======\n3\n>>>>>>>", "#marks 7\n<<<<<<<\n2\n|||||||\n1\n=======\n3\n>>>>>>>\n", "#marks 999999999999\n" + good[9:], "#marks 99999999999999999999\n" + good[9:], "#marks -7\n" + good[9:], "#marks 0\n" + good[9:], " " + good, "\n" + good}
	for _, turn := range [][2]string{{"7", "8"}, {"7", "07"}, {"7", "+7"}, {"7", "6"}, {"#marks", "#Marks"}, {"\n<<<<<<<\n", "\n<<<<<<\n"}, {"\n|||||||\n", "\n||||||||\n"}, {"=======", "======"}, {">>>>>>>\n", ""}, {"|||||||\n1\n", ""}, {"7\n", "7\r\n"}, {"\nb", "\n<<<<<<<\nb"}, {"2\n", "2\n=======\n"}, {"3", ">>>>>>>"}, {"3", "|||||||"}, {"b", "b\n=======\nx"}} {
		all = append(all, strings.Replace(good, turn[0], turn[1], 1))
	}
	eight := strings.NewReplacer("7", "8", "<<<<<<<", "<<<<<<<<", "|||||||", "||||||||", "=======", "========", ">>>>>>>", ">>>>>>>>").Replace(good)
	for _, s := range append(all, eight) {
		if l, ok := mark.Decode(s); l != nil || ok {
			t.Errorf("%q: %v", s, l)
		}
	}
	for _, s := range []string{good, strings.Replace(eight, "\nb", "\n<<<<<<<", 1), strings.Replace(good, "\nb", "\n\n", 1), strings.Replace(good, "2", "\n2\n", 1)} {
		if l, ok := mark.Decode(s); len(l) != 3 || !ok {
			t.Errorf("%q: %v", s, l)
		}
	}
	if s, err := mark.Encode(many(api.MaxParts)); err != api.OK {
		t.Error("as many parts as may be")
	} else if l, ok := mark.Decode(s); !slices.Equal(l, many(api.MaxParts)) || !ok {
		t.Error("as many parts as may be")
	} else if l, ok := mark.Decode(s + "a"); l != nil || ok {
		t.Error("too many parts")
	}
}

func TestPick(t *testing.T) { // P25.3
	l := []api.Part{text("a"), hunk("1", "2", "3"), hunk("", "x\n", "y"), text("b")}
	for _, c := range []struct {
		pick []int
		want string
	}{{[]int{0, 0}, "a1b"}, {[]int{1, 1}, "a2x\nb"}, {[]int{2, 0}, "a3b"}, {[]int{0, 2}, "a1yb"}} {
		if s, err := mark.Pick(l, c.pick); s != c.want || err != api.OK {
			t.Errorf("%v: %q, %d", c.pick, s, err)
		}
	}
	for _, pick := range [][]int{nil, {0}, {0, 0, 0}, {0, 3}, {-1, 0}, {0, api.MaxInt}, {api.MinInt, 0}} {
		if s, err := mark.Pick(l, pick); s != "" || err != api.ErrArg {
			t.Errorf("%v: %q, %d", pick, s, err)
		}
	}
	if s, err := mark.Pick(nil, nil); s != "" || err != api.OK {
		t.Errorf("%q, %d", s, err)
	}
	if s, err := mark.Pick([]api.Part{text("a")}, []int{0}); s != "" || err != api.ErrArg {
		t.Errorf("%q, %d", s, err)
	}
}

func TestThereAndBack(t *testing.T) { // P25.4, P25.5, P25.6
	x := samples.New(47)
	pieces := []string{"", "\n", "a", "<<<<<<<", "|||||||", "=======", ">>>>>>>", "<", "=", "\n<<<<<<<\n", "\n========\n", "#marks 7\n", "\xff", "\n>>>>>>>\n", "\r\n", "\n|||||||\n"}
	word := func() string {
		s := ""
		for range x.Under(5) {
			s += pieces[x.Under(len(pieces))]
		}
		return s
	}
	for range 4000 {
		var l []api.Part
		for range 1 + x.Under(4) {
			if s := word(); s != "" && x.Under(2) == 0 && (len(l) == 0 || l[len(l)-1].Hunk) {
				l = append(l, text(s))
			} else {
				l = append(l, hunk(word(), word(), word()))
			}
		}
		old := slices.Clone(l)
		s, err := mark.Encode(l)
		back, ok := mark.Decode(s)
		has := slices.ContainsFunc(l, func(p api.Part) bool { return p.Hunk })
		if err != api.OK || ok != has || has && !slices.Equal(back, l) {
			t.Fatalf("%v: %v, %v", l, back, ok)
		}
		width := mark.Width(l)
		for _, p := range l {
			for _, s := range append(p.Sides[:], p.Text) {
				for line := range strings.SplitSeq(s, "\n") {
					for _, sign := range "<|=>" {
						if strings.HasPrefix(line, strings.Repeat(string(sign), width)) {
							t.Errorf("%v: %q is a mark of %d", l, line, width)
						}
					}
				}
			}
		}
		for i := range back {
			back[i] = api.Part{}
		}
		if again, _ := mark.Decode(s); has && !slices.Equal(again, l) || !slices.Equal(l, old) {
			t.Error("an answer is no new memory")
		}
		// Whatever text is decoded, it is encoded so.
		other := "#marks 7\n" + word() + "\n<<<<<<<\n" + word() + "\n|||||||\n" + word() + "\n=======\n" + word() + "\n>>>>>>>\n" + word()
		if l, ok := mark.Decode(other); ok {
			if s, err := mark.Encode(l); s != other || err != api.OK || !mark.Right(l) {
				t.Errorf("%q: %v, %q", other, l, s)
			}
		}
	}
}
