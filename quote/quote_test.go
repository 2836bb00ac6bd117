package quote_test

import (
	stdjson "encoding/json"
	"math/rand"
	"strconv"
	"strings"
	"testing"

	"scarf/api"
	"scarf/quote"
)

func TestQuote(t *testing.T) { // P3.1
	for s, want := range map[string]string{
		"": `""`, "a\n\"": `"a\n\""`, "\b\f\n\r\t": `"\b\f\n\r\t"`, "\x00\x01\x0b\x0e\x1f": `"\u0000\u0001\u000b\u000e\u001f"`,
		`\/`: `"\\/"`, "\u007f": "\"\u007f\"", "é€\U0001f600\ufffd\u2028<>&'": "\"é€\U0001f600\ufffd\u2028<>&'\"", " ": `" "`,
	} {
		if got, err := quote.Quote(s); got != want || err != api.OK {
			t.Errorf("%q: %s, %d, not %s", s, got, err, want)
		}
	}
	for _, s := range []string{"\xff", "a\xc3", "\xed\xa0\x80", "\xc0\x80b"} {
		if got, err := quote.Quote(s); got != "" || err != api.ErrForm {
			t.Errorf("%q: %s, %d", s, got, err)
		}
	}
}

func TestUnquote(t *testing.T) { // P3.2
	for s, want := range map[string]string{
		`""`: "", `"a"`: "a", `"\ud83d\ude00"`: "\U0001f600", `"\uD83D\uDE00"`: "\U0001f600", `"\"\\\/\b\f\n\r\t"`: "\"\\/\b\f\n\r\t", `"\u0061\u00E9\u00e9\u20aC"`: "aéé€",
		"\"\u007f\ufffd\U0010ffff\"": "\u007f\ufffd\U0010ffff", `"\ud800\udc00\udbff\udfff"`: "\U00010000\U0010ffff", `"\ud7ff\ue000\uffff\u0000"`: "\ud7ff\ue000\uffff\x00",
		`"'/"`: "'/", `"\\u0061"`: `\u0061`, `"\u00AF\u00FA\u0afF"`: "\u00af\u00fa\u0aff",
	} {
		if got, n, err := quote.Unquote(s); got != want || n != len(s) || err != api.OK {
			t.Errorf("%s: %q, %d, %d", s, got, n, err)
		}
	}
}

// wrong are texts that are no string in quotes, and where.
var wrong = map[string]int{
	"": 0, "a": 0, "'a'": 0, ` "a"`: 0, `"`: 1, `"a`: 2, `"a\x"`: 2, `"\ud83d"`: 1, `"\`: 1, `"ab\`: 3, `"a"b`: 3, `""""`: 2, `"a" `: 3,
	`"\u"`: 1, `"\u12`: 1, `"a\u12g4"`: 2, `"\u123"`: 1, `"\U0061"`: 1, `"\ud83dx"`: 1, `"\ud83d\n"`: 1, `"\ud83d\u0061"`: 1, `"\ud83d\ud83d\ude00"`: 1, `"\ud83d\ude0"`: 1, `"\ud83d\ude0g"`: 1,
	`"a\ude00"`: 2, `"\ude00\ud83d"`: 1, `"\udfff"`: 1, `"\udc00\udc00"`: 1, `"\udfff\udfff"`: 1, `"\udc00\udfff"`: 1, `"a\udbff\udbff"`: 2, `"\ud800\ue000"`: 1, `"\ud83d\`: 1, `"\ud83d\ude00`: 13, "\"a\nb\"": 2, "\"\x1f\"": 1, "\"a\xff\"": 2, "\"é\xed\xa0\x80\"": 3, "\"\xc3": 1,
	"\"\\\xff\"": 1, "\"a\t\"": 2, `"\a"`: 1, `"\'"`: 1, `"\0"`: 1, "\"\x00\"": 1, `"a\"`: 4, `"\u00:0"`: 1, `"\u00/0"`: 1, `"\u00G0"`: 1, `"\u00` + "`0\"": 1, `"\u00@0"`: 1, "\"a\xf4\x90\x80\x80\"": 2,
}

func TestUnquoteWrong(t *testing.T) { // P3.2
	for s, want := range wrong {
		if got, at, err := quote.Unquote(s); got != "" || at != want || err != api.ErrForm {
			t.Errorf("%q: %q, %d, %d, not %d", s, got, at, err, want)
		}
	}
}

func TestEnd(t *testing.T) { // P3.3
	for _, c := range []struct {
		s      string
		at, to int
		err    api.Errno
	}{
		{`x"a"y`, 1, 4, api.OK}, {`""`, 0, 2, api.OK}, {`"\""x`, 0, 4, api.OK}, {`"a""b"`, 3, 6, api.OK}, {`"a""b"`, 2, 4, api.OK},
		{`x"a`, 1, 3, api.ErrForm}, {`x"a\x"`, 1, 3, api.ErrForm}, {`xy`, 1, 1, api.ErrForm}, {`x`, 1, 1, api.ErrForm}, {``, 0, 0, api.ErrForm},
		{`"a"`, -1, 0, api.ErrForm}, {`"a"`, 4, 0, api.ErrForm}, {`"a"`, 3, 3, api.ErrForm}, {`"a"`, api.MinInt, 0, api.ErrForm}, {`"a"`, api.MaxInt, 0, api.ErrForm},
		{`ab"\ud83d\u0041"`, 2, 3, api.ErrForm},
	} {
		if to, err := quote.End(c.s, c.at); to != c.to || err != c.err {
			t.Errorf("%s at %d: %d, %d", c.s, c.at, to, err)
		}
	}
	for s, want := range wrong {
		to, err := quote.End("é"+s, 2)
		if _, end := quote.End(s, 0); end == api.OK {
			// What stands behind the second quote is none of its own.
			if !strings.HasPrefix(s, `"`) || err != api.OK || to != want+2 {
				t.Errorf("%q: %d, %d", s, to, err)
			}
		} else if to != want+2 || err != api.ErrForm {
			t.Errorf("%q: %d, %d", s, to, err)
		}
	}
}

// random is a text of runes of all sizes.
func random(r *rand.Rand) string {
	var b strings.Builder
	for range r.Intn(8) {
		b.WriteRune([]rune{rune(r.Intn(0x20)), rune(0x20 + r.Intn(0x60)), 'é', 0xfffd, 0x10000 + rune(r.Intn(0x100000)), '"', '\\', 0x7f}[r.Intn(8)])
	}
	return b.String()
}

func TestThereAndBack(t *testing.T) { // P3.4, P3.5
	r := rand.New(rand.NewSource(3))
	had := map[string]string{}
	for range 2000 {
		s := random(r)
		q, err := quote.Quote(s)
		if back, n, e := quote.Unquote(q); back != s || n != len(q) || err != api.OK || e != api.OK {
			t.Errorf("%q: %s, %q", s, q, back)
		}
		for i := range len(q) {
			if q[i] < 32 {
				t.Errorf("%q: %q", s, q)
			}
		}
		var std string
		if e := stdjson.Unmarshal([]byte(q), &std); e != nil || std != s {
			t.Errorf("%q: %s, %v", s, q, e)
		}
		if old, ok := had[q]; ok && old != s {
			t.Errorf("%q and %q: %s", s, old, q)
		}
		had[q] = s
	}
	for n := range 0x10000 {
		s := `"\u` + strings.Repeat("0", 4-len(strconv.FormatInt(int64(n), 16))) + strconv.FormatInt(int64(n), 16) + `"`
		got, _, err := quote.Unquote(s)
		if n >= 0xd800 && n < 0xe000 {
			if err != api.ErrForm {
				t.Errorf("%s: %q", s, got)
			}
			continue
		}
		if got != string(rune(n)) || err != api.OK {
			t.Errorf("%s: %q, %d", s, got, err)
		}
		q, err := quote.Quote(got)
		if back, _, e := quote.Unquote(q); back != got || err != api.OK || e != api.OK {
			t.Errorf("%s: %s", s, q)
		}
	}
}
