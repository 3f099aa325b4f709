package wire

import "testing"

func TestJoin(t *testing.T) {
	for _, c := range []struct {
		parts []string
		want  string
	}{
		{nil, ""},
		{[]string{""}, ""},
		{[]string{"ab"}, "ab"},
		{[]string{"", "a", "", "\x00\xff", "b", ""}, "a\x00\xffb"},
	} {
		if got := Join(c.parts...); got != c.want {
			t.Errorf("Join(%q) = %q, want %q", c.parts, got, c.want)
		}
	}
}

func TestTwo(t *testing.T) {
	for _, c := range []struct {
		n    int
		want string
	}{
		{0, "\x00\x00"}, {1, "\x01\x00"}, {255, "\xff\x00"}, {256, "\x00\x01"},
		{4999, "\x87\x13"}, {65520, "\xf0\xff"}, {65535, "\xff\xff"},
	} {
		if got := Two(c.n); got != c.want {
			t.Errorf("Two(%d) = %q, want %q", c.n, got, c.want)
		}
	}
}
