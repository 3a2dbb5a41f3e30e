package wire

import (
	"witan/api"
	"witan/council"
	"witan/deeds"
	"witan/pack"
)

// unreadable is what a part gives up with. It is a type of its own, so that Read takes no other panic for bytes that say nothing.
type unreadable struct{}

// parts reads the parts of a message. Each one gives up by a panic where nothing can be made of what stands next, so that no number of things that aren't there is gone through.
type parts struct {
	bytes *pack.Reader
}

// readWhole reads the message whose bytes the text is, to its last byte.
func readWhole(text string) api.Msg {
	p := parts{bytes: pack.Read(text)}
	m := p.msg()
	need(p.bytes.End() == api.OK && fits(m))
	return m
}

// need gives up, unless it is so.
func need(ok bool) {
	if !ok {
		panic(unreadable{})
	}
}

func (p parts) needRead() { need(p.bytes.End() != api.ErrShort) }

func (p parts) byte() int {
	n := p.bytes.Byte()
	p.needRead()
	return n
}

func (p parts) word() int {
	n := p.bytes.Word()
	p.needRead()
	return n
}

func (p parts) text() string {
	s := p.bytes.Text()
	p.needRead()
	return s
}

func (p parts) msg() api.Msg {
	var m api.Msg
	m.Kind = p.byte()
	m.Epoch = p.word()
	m.View = p.byte()
	m.Slot = p.word()
	m.Req = p.request()
	m.Result = p.result()
	m.Text = p.text()
	m.Next = p.members()
	m.Sigs = p.sigs()
	m.Changes = p.changes()
	m.Links = p.links()
	return m
}

func (p parts) request() api.Request {
	r, e := deeds.Read(p.text())
	need(e == api.OK)
	return r
}

func (p parts) result() api.Result {
	x, e := deeds.ReadResult(p.text())
	need(e == api.OK)
	return x
}

func (p parts) conf() api.Conf {
	c, e := council.Read(p.text())
	need(e == api.OK)
	return c
}

func (p parts) members() []int {
	var members []int
	for range p.byte() {
		members = append(members, p.byte())
	}
	return members
}

func (p parts) sig() api.Sig {
	by := p.byte()
	return api.Sig{By: by, Text: p.text()}
}

func (p parts) sigs() []api.Sig {
	var sigs []api.Sig
	for range p.byte() {
		sigs = append(sigs, p.sig())
	}
	return sigs
}

func (p parts) changes() []api.Change {
	var changes []api.Change
	for range p.byte() {
		changes = append(changes, p.change())
	}
	return changes
}

func (p parts) change() api.Change {
	var c api.Change
	c.From = p.byte()
	c.View = p.byte()
	for range p.byte() {
		c.Certs = append(c.Certs, p.cert())
	}
	c.Sig = p.sig()
	return c
}

func (p parts) cert() api.Cert {
	var c api.Cert
	c.View = p.byte()
	c.Slot = p.word()
	c.Req = p.request()
	c.Sigs = p.sigs()
	return c
}

func (p parts) links() []api.Link {
	var links []api.Link
	for range p.byte() {
		conf := p.conf()
		links = append(links, api.Link{Conf: conf, Sigs: p.sigs()})
	}
	return links
}
