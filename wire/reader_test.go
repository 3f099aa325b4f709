package wire

import "testing"

// wantRead: the text is read to its end, and nothing behind it.
func wantRead[T comparable](t *testing.T, text string, read func(*Reader) T, want T) {
	t.Helper()
	in := NewReader("..." + text + "!")
	in.Take(3)
	if got := read(in); got != want {
		t.Errorf("%x is read as %v, want %v", text, got, want)
	}
	if in.at != 3+len(text) {
		t.Errorf("of %x %d bytes are read", text, in.at-3)
	}
	for n := range len(text) {
		wantGaveUp(t, text[:n], read)
	}
}

func wantGaveUp[T any](t *testing.T, text string, read func(*Reader) T) {
	t.Helper()
	defer func() {
		t.Helper()
		if why := recover(); why != GaveUp {
			t.Errorf("%x: recovered %v, want %q", text, why, GaveUp)
		}
	}()
	t.Errorf("%x is read as %v", text, read(NewReader(text)))
}

func TestReaderReadsWhatIsWritten(t *testing.T) {
	for _, c := range numbers {
		wantRead(t, c.want, (*Reader).Number, c.n)
	}
	for _, c := range signed {
		wantRead(t, c.want, (*Reader).Signed, c.n)
	}
	for _, c := range eights {
		wantRead(t, c.want, (*Reader).Eight, c.n)
	}
	for b := range 256 {
		wantRead(t, string([]byte{byte(b)}), (*Reader).Byte, byte(b))
	}
	for _, n := range []int{0, 1, 255, 256, 258, 32768, 65534, 65535} {
		wantRead(t, Two(n), (*Reader).Two, n)
	}
	for _, text := range []string{"", "a", "\x00\xff\x80"} {
		wantRead(t, text, func(in *Reader) string { return in.Take(len(text)) }, text)
		wantRead(t, Text(text), func(in *Reader) string { return in.Text(3) }, text)
	}
}

func TestReaderGivesUpAtNumbersThatAreNone(t *testing.T) {
	for _, text := range []string{
		"\x80\x00", "\x81\x00", "\xff\x00", "\x80\x80\x00",
		"\xff\xff\xff\xff\xff\xff\xff\xff\xff\x00",
		"\xff\xff\xff\xff\xff\xff\xff\xff\xff\x02", "\x80\x80\x80\x80\x80\x80\x80\x80\x80\x03",
		"\xff\xff\xff\xff\xff\xff\xff\xff\xff\x7f", "\xff\xff\xff\xff\xff\xff\xff\xff\xff\x80\x00",
		"\x80\x80\x80\x80\x80\x80\x80\x80\x80\x80\x01", "\xff\xff\xff\xff\xff\xff\xff\xff\xff\x81\x01",
	} {
		wantGaveUp(t, text, (*Reader).Number)
		wantGaveUp(t, text, (*Reader).Signed)
		wantGaveUp(t, text, func(in *Reader) int { return in.Count(1<<63 - 1) })
	}
}

func TestReaderHoldsBounds(t *testing.T) {
	for _, most := range []int{0, 1, 60, 127, 128, 1<<63 - 1} {
		count := func(in *Reader) int { return in.Count(most) }
		wantRead(t, Count(most), count, most)
		wantRead(t, Count(0), count, 0)
		wantGaveUp(t, Number(uint64(most)+1), count)
		wantGaveUp(t, Number(1<<63), count)
		wantGaveUp(t, Number(1<<64-1), count)
	}
	wantGaveUp(t, "\x03abc", func(in *Reader) string { return in.Text(2) })
	wantGaveUp(t, Number(1<<63-1)+"abc", func(in *Reader) string { return in.Text(1<<63 - 1) })
}

func TestReaderTellsWhereItIs(t *testing.T) {
	end := func(in *Reader) bool {
		in.End()
		return true
	}
	wantRead(t, "", func(in *Reader) int { return in.At() }, 3)
	if in := NewReader("some text"); in.Take(4) != "some" || in.At() != 4 || in.Byte() != ' ' || in.At() != 5 {
		t.Errorf("the reader is at %d", in.At())
	}
	wantGaveUp(t, "x", end)
	wantGaveUp(t, "xyz", func(in *Reader) bool { return in.Take(2) == "xy" && end(in) })
	for _, text := range []string{"", "xyz"} {
		in := NewReader(text)
		in.Take(len(text))
		if !end(in) || in.At() != len(text) {
			t.Errorf("at the end of %q the reader is at %d", text, in.At())
		}
	}
}
