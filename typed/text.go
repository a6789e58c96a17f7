package typed

// Text: the codec of strings of at most Most bytes.
type Text struct{ Most int }

// mostText: the longest text that leaves room, in a key or an elem, for the byte that tells its length.
const mostText = 127

func (c Text) inRange() bool { return c.Most >= 0 && c.Most <= mostText }

// Width: the text's bytes, and its length's.
func (c Text) Width() int {
	if !c.inRange() {
		return 0
	}
	return c.Most + 1
}

// Align: as a byte.
func (c Text) Align() int { return 1 }

// Pack: the text, zeros, its length. The length comes last: ahead of the text it would tell the order.
func (c Text) Pack(v string) (string, bool) {
	if !c.inRange() || len(v) > c.Most {
		return "", false
	}
	b := make([]byte, c.Most+1)
	copy(b, v)
	b[c.Most] = byte(len(v))
	return string(b), true
}

// Unpack: as many of the first bytes as the last one tells.
func (c Text) Unpack(s string) string {
	if !c.inRange() || len(s) != c.Most+1 {
		return ""
	}
	n := int(s[c.Most])
	if n > c.Most {
		return ""
	}
	return s[:n]
}
