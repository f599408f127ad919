package record

import (
	"strconv"
	"strings"

	"kaudit/api"
	"kaudit/value"
)

// reader takes texts from the beginning of rest.
type reader struct {
	rest   string
	failed bool
}

// skip takes a text that must stand there.
func (r *reader) skip(text string) {
	rest, found := strings.CutPrefix(r.rest, text)
	r.rest = rest
	r.failed = r.failed || !found
}

// until takes the text before end, and end.
func (r *reader) until(end string) string {
	text, rest, found := strings.Cut(r.rest, end)
	r.rest = rest
	r.failed = r.failed || !found
	return text
}

// headReader reads the parts of a line that stand before the pairs.
type headReader struct {
	reader
}

// number takes a number that stands before end, and end.
func (h *headReader) number(end string) int {
	n, err := strconv.Atoi(h.until(end))
	h.failed = h.failed || err != nil
	return n
}

// read returns a record that line may stand for: the only one that Format may write as line.
func read(line string) (api.Record, bool) {
	h := headReader{reader{rest: line}}
	h.skip(beforeType)
	t := Number(h.until(beforeSeconds))
	seconds := h.number(beforeMillis)
	millis := h.number(beforeSerial)
	serial := h.number(afterSerial)
	if h.failed {
		return api.Record{}, false
	}
	pairs, ok := readPairs(h.rest)
	return api.Record{Type: t, Time: seconds*millisPerSecond + millis, Serial: serial, Pairs: pairs}, ok
}

// readPairs reads the pairs at the end of a line, each after a space.
func readPairs(s string) ([]api.Pair, bool) {
	if s == "" {
		return nil, true
	}
	texts, found := strings.CutPrefix(s, beforePair)
	if !found {
		return nil, false
	}
	var pairs []api.Pair
	for text := range strings.SplitSeq(texts, beforePair) {
		p, e := value.Parse(text)
		if e != api.OK {
			return nil, false
		}
		pairs = append(pairs, p)
	}
	return pairs, true
}
