package wire

import "testing"

func TestJoin(t *testing.T) {
	for _, c := range []struct {
		parts []string
		want  string
	}{
		{nil, ""},
		{[]string{""}, ""},
		{[]string{"ab"}, "ab"},
		{[]string{"", "a", "", "\x00\xff", "b", ""}, "a\x00\xffb"},
	} {
		if got := Join(c.parts...); got != c.want {
			t.Errorf("Join(%q) = %q, want %q", c.parts, got, c.want)
		}
	}
}

func TestByte(t *testing.T) {
	for b := range 256 {
		if got := Byte(byte(b)); len(got) != 1 || got[0] != byte(b) {
			t.Errorf("Byte(%d) = %q", b, got)
		}
	}
}

func TestTwo(t *testing.T) {
	for _, c := range []struct {
		n    int
		want string
	}{
		{0, "\x00\x00"}, {1, "\x01\x00"}, {255, "\xff\x00"}, {256, "\x00\x01"},
		{4999, "\x87\x13"}, {65520, "\xf0\xff"}, {65535, "\xff\xff"},
	} {
		if got := Two(c.n); got != c.want {
			t.Errorf("Two(%d) = %q, want %q", c.n, got, c.want)
		}
	}
}

var numbers = []struct {
	n    uint64
	want string
}{
	{0, "\x00"}, {1, "\x01"}, {127, "\x7f"}, {128, "\x80\x01"}, {300, "\xac\x02"},
	{1<<14 - 1, "\xff\x7f"}, {1 << 14, "\x80\x80\x01"},
	{1<<56 - 1, "\xff\xff\xff\xff\xff\xff\xff\x7f"},
	{1<<63 - 1, "\xff\xff\xff\xff\xff\xff\xff\xff\x7f"},
	{1 << 63, "\x80\x80\x80\x80\x80\x80\x80\x80\x80\x01"},
	{1<<64 - 1, "\xff\xff\xff\xff\xff\xff\xff\xff\xff\x01"},
}

func TestNumber(t *testing.T) {
	for _, c := range numbers {
		if got := Number(c.n); got != c.want {
			t.Errorf("Number(%d) = %x, want %x", c.n, got, c.want)
		}
		if c.n < 1<<63 && Count(int(c.n)) != c.want {
			t.Errorf("Count(%d) = %x, want %x", c.n, Count(int(c.n)), c.want)
		}
	}
}

var signed = []struct {
	n    int
	want string
}{
	{0, "\x00"}, {-1, "\x01"}, {1, "\x02"}, {63, "\x7e"}, {-64, "\x7f"}, {64, "\x80\x01"}, {-65, "\x81\x01"},
	{1<<62 - 1, "\xfe\xff\xff\xff\xff\xff\xff\xff\x7f"},
	{1 << 62, "\x80\x80\x80\x80\x80\x80\x80\x80\x80\x01"},
	{-1 << 62, "\xff\xff\xff\xff\xff\xff\xff\xff\x7f"},
	{1<<63 - 1, "\xfe\xff\xff\xff\xff\xff\xff\xff\xff\x01"},
	{-1 << 63, "\xff\xff\xff\xff\xff\xff\xff\xff\xff\x01"},
}

func TestSigned(t *testing.T) {
	for _, c := range signed {
		if got := Signed(c.n); got != c.want {
			t.Errorf("Signed(%d) = %x, want %x", c.n, got, c.want)
		}
	}
}

var eights = []struct {
	n    int
	want string
}{
	{0, "\x00\x00\x00\x00\x00\x00\x00\x00"}, {-1, "\xff\xff\xff\xff\xff\xff\xff\xff"},
	{0x0102030405060708, "\x08\x07\x06\x05\x04\x03\x02\x01"}, {255, "\xff\x00\x00\x00\x00\x00\x00\x00"},
	{1<<63 - 1, "\xff\xff\xff\xff\xff\xff\xff\x7f"}, {-1 << 63, "\x00\x00\x00\x00\x00\x00\x00\x80"},
}

func TestEight(t *testing.T) {
	for _, c := range eights {
		if got := Eight(c.n); got != c.want {
			t.Errorf("Eight(%d) = %x, want %x", c.n, got, c.want)
		}
	}
}

func TestText(t *testing.T) {
	for text, want := range map[string]string{
		"": "\x00", "a": "\x01a", "\x00\xff": "\x02\x00\xff",
		string(make([]byte, 200)): "\xc8\x01" + string(make([]byte, 200)),
	} {
		if got := Text(text); got != want {
			t.Errorf("Text(%q) = %q, want %q", text, got, want)
		}
	}
}
