package wire

import (
	"strings"

	"comitia/api"
)

// lastEnd is the greatest number that one who sends or gets a message has.
const lastEnd = 20

// A cut takes a thing off the beginning of b, and answers what is behind it;
// false, if what stands there isn't right.
type cut func(b string) (rest string, ok bool)

// ReadRequest is the right request that has just these bytes.
func ReadRequest(b string) (api.Request, api.Errno) {
	return whole(b, cutRequest)
}

// ReadCert is the right certificate that has just these bytes.
func ReadCert(b string) (api.Cert, api.Errno) {
	return whole(b, cutCert)
}

// ReadBlock is the right block that has just these bytes.
func ReadBlock(b string) (api.Block, api.Errno) {
	return whole(b, cutBlock)
}

// ReadMsg is the right message that has just these bytes.
func ReadMsg(b string) (api.Msg, api.Errno) {
	return whole(b, cutMsg)
}

// whole reads what has all of b.
func whole[T any](b string, read func(*T) cut) (T, api.Errno) {
	var x, none T
	if rest, ok := read(&x)(b); !ok || rest != "" {
		return none, api.ErrForm
	}
	return x, api.OK
}

func cutRequest(r *api.Request) cut {
	return inOrder(
		cutNumber(&r.Client, 0, api.MaxClients-1),
		cutNumber(&r.Seq, 1, maxNumber),
		cutText(&r.Body, atMost(api.MaxBody)),
	)
}

func cutSig(s *api.Sig) cut {
	return inOrder(
		cutNumber(&s.From, 0, api.MaxNodes-1),
		cutList(&s.Tags, api.MaxNodes, cutTag),
	)
}

func cutTag(t *string) cut {
	return cutBytes(t, api.TagSize)
}

func cutCert(c *api.Cert) cut {
	return inOrder(
		cutNumber(&c.View, 0, api.MaxView),
		cutBytes(&c.Block, api.HashSize),
		cutList(&c.Sigs, api.MaxNodes, cutSig),
		provided(func() bool { return rising(c.Sigs) }),
	)
}

func cutBlock(x *api.Block) cut {
	return inOrder(
		cutNumber(&x.View, 1, api.MaxView),
		cutNumber(&x.Proposer, 0, api.MaxNodes-1),
		cutCert(&x.Justify),
		provided(func() bool { return x.Justify.View < x.View }),
		cutList(&x.Batch, api.MaxBatch, cutRequest),
	)
}

func cutMsg(m *api.Msg) cut {
	return inOrder(
		cutNumber(&m.Kind, api.Propose, api.Found),
		cutNumber(&m.From, 0, lastEnd),
		cutNumber(&m.To, 0, lastEnd),
		cutNumber(&m.View, 0, api.MaxView),
		cutText(&m.Hash, noneOr(api.HashSize)),
		cutPart(&m.Block, zeroBlock, cutBlock),
		cutPart(&m.Cert, zeroCert, cutCert),
		cutPart(&m.Sig, zeroSig, cutSig),
		cutPart(&m.Request, zeroRequest, cutRequest),
		cutNumber(&m.Index, 0, maxNumber),
		cutText(&m.Tag, noneOr(api.TagSize)),
	)
}

// inOrder cuts off one behind the other, up to the first one that is wrong.
func inOrder(cuts ...cut) cut {
	return func(b string) (string, bool) {
		for _, c := range cuts {
			rest, ok := c(b)
			if !ok {
				return "", false
			}
			b = rest
		}
		return b, true
	}
}

// provided cuts off nothing, and is wrong if what was read doesn't hold.
func provided(holds func() bool) cut {
	return func(b string) (string, bool) {
		return b, holds()
	}
}

func cutNumber(to *int, least, most int) cut {
	return func(b string) (string, bool) {
		if len(b) < 4 {
			return "", false
		}
		n := int(uint32(b[0])<<24 | uint32(b[1])<<16 | uint32(b[2])<<8 | uint32(b[3]))
		if n < least || n > most {
			return "", false
		}
		*to = n
		return b[4:], true
	}
}

func cutBytes(to *string, n int) cut {
	return func(b string) (string, bool) {
		if len(b) < n {
			return "", false
		}
		// A piece of b would hold all of b for as long as it is kept.
		*to = strings.Clone(b[:n])
		return b[n:], true
	}
}

// cutText cuts off a text whose length fits.
func cutText(to *string, fits func(n int) bool) cut {
	return func(b string) (string, bool) {
		n := 0
		rest, ok := cutNumber(&n, 0, maxNumber)(b)
		if !ok || !fits(n) {
			return "", false
		}
		return cutBytes(to, n)(rest)
	}
}

func atMost(most int) func(int) bool {
	return func(n int) bool { return n <= most }
}

func noneOr(size int) func(int) bool {
	return func(n int) bool { return n == 0 || n == size }
}

// cutList cuts off how many there are, and each of them.
func cutList[T any](to *[]T, most int, each func(*T) cut) cut {
	return func(b string) (string, bool) {
		n := 0
		b, ok := cutNumber(&n, 0, most)(b)
		if !ok {
			return "", false
		}
		for range n {
			var x T
			if b, ok = each(&x)(b); !ok {
				return "", false
			}
			*to = append(*to, x)
		}
		return b, true
	}
}

// cutPart cuts off a message's part.
func cutPart[T any](to *T, zero func(T) bool, read func(*T) cut) cut {
	return func(b string) (string, bool) {
		if b == "" {
			return "", false
		}
		switch b[0] {
		case 0:
			return b[1:], true
		case 1:
			rest, ok := read(to)(b[1:])
			// What is zero has another mark: these bytes are nothing's.
			return rest, ok && !zero(*to)
		}
		return "", false
	}
}

// rising tells whether each signature is of a greater node than the one ahead.
func rising(l []api.Sig) bool {
	for i := 1; i < len(l); i++ {
		if l[i-1].From >= l[i].From {
			return false
		}
	}
	return true
}
